import PyProof.Rows.All
import Wide.All
import OpenK.AllK
import Wide.FinOn
import Lean
import PyProof.EqAt
import PyProof.EqKinds
import PyProof.TupleCall
import PyProof.NeKinds
import PyProof.ExcBaseAll.ValueError
import PyProof.ExcClass3
import OpenK.KOwn
import PyProof.Rows.FStr
import KE.KTryMore
import PyProof.ExcAttrAll.ValueError
import KE.KDictList
import PyProof.CompMap
import PyProof.Draws
import PyProof.ListRange
import PyProof.ZipIter
import PyProof.EnumMake
import PyProof.CollectIter
import PyProof.SetRoads
import PyProof.Rows.SortShell
import PyProof.Rows.SortWalk
import PySem.Challenge.RW_figuretell_k33_raised
set_option Elab.async false
set_option linter.all false
set_option maxRecDepth 100000
namespace L2
open PySem PySem.Spec PyProof.Rows
abbrev Key:=Sum Int Str
def sV : Key -> Value -> Bool
 | .inl k,v => Value.isInt k v
 | .inr x,v => Value.isStrOf x v
def Km (w : World) : Key -> Int
 | .inl k => hashInt k
 | .inr x => hashStr w x
theorem bQ : ∀ {k : Key} {v : Value},sV k v = true -> (∃ i t,k = Sum.inl i /\ v = Value.int i t) \/ (∃ x t,k = Sum.inr x /\ v = Value.str x t)
 | .inl i,v,h => by
  obtain ⟨t,e⟩:=Value.isInt_shape (k:=i) (v:=v) h
  exact .inl ⟨i,t,rfl,e⟩
 | .inr x,v,h => by
  obtain ⟨t,e⟩:=Value.isStrOf_shape (x:=x) (v:=v) h
  exact .inr ⟨x,t,rfl,e⟩
theorem Ef (i : Int) (t : Tok) : sV (.inl i) (.int i t) = true:=by simp [sV,Value.isInt]
theorem Eg (x : Str) (t : Tok) : sV (.inr x) (.str x t) = true:=by simp [sV,Value.isStrOf]
theorem Iy (a b : Int) : decide ((Sum.inl a : Key) = Sum.inl b) = (a == b):=by
 by_cases e : a = b
 ·subst e; simp
 ·have h : ¬ (Sum.inl a : Key) = Sum.inl b:=fun q => e (Sum.inl.inj q)
  rw [decide_eq_false h]
  exact (beq_eq_false_iff_ne.mpr e).symm
theorem IB (a b : Str) : decide ((Sum.inr a : Key) = Sum.inr b) = decide (a = b):=by
 by_cases e : a = b
 ·subst e; simp
 ·have h : ¬ (Sum.inr a : Key) = Sum.inr b:=fun q => e (Sum.inr.inj q)
  rw [decide_eq_false h,decide_eq_false e]
theorem Iz (a : Int) (b : Str) : decide ((Sum.inl a : Key) = Sum.inr b) = false:=decide_eq_false (fun q => nomatch q)
theorem IA (a : Str) (b : Int) : decide ((Sum.inr a : Key) = Sum.inl b) = false:=decide_eq_false (fun q => nomatch q)
def bb (prog : Program) (w : World) : PySem.KeyKind prog w Key where
 is:=sV
 hash:=Km w
 inj:=fun v a b ha hb => by
  rcases bQ ha with ⟨i,t,rfl,rfl⟩ | ⟨x,t,rfl,rfl⟩
  ·rcases bQ hb with ⟨j,u,rfl,e⟩ | ⟨y,u,rfl,e⟩
   ·injection e with e1 _; rw [e1]
   ·exact nomatch e
  ·rcases bQ hb with ⟨j,u,rfl,e⟩ | ⟨y,u,rfl,e⟩
   ·exact nomatch e
   ·injection e with e1 _; rw [e1]
 byValue:=fun k v h => by
  rcases bQ h with ⟨i,t,rfl,rfl⟩ | ⟨x,t,rfl,rfl⟩ <;> rfl
 pyHash:=fun hv h => by
  rcases bQ hv with ⟨i,t,rfl,rfl⟩ | ⟨x,t,rfl,rfl⟩
  ·exact wpAny_pyHash_int h
  ·exact wpAny_pyHash_str h
 eqBool:=fun hu hv h => by
  rcases bQ hu with ⟨i,t,rfl,rfl⟩ | ⟨x,t,rfl,rfl⟩
  ·rcases bQ hv with ⟨j,u,rfl,rfl⟩ | ⟨y,u,rfl,rfl⟩
   ·rw [Iy] at h; exact wpAny_eqBool_int h
   ·rw [Iz] at h; exact SeqAt.EqAt.int_str i t y u _ _ _ _ h
  ·rcases bQ hv with ⟨j,u,rfl,rfl⟩ | ⟨y,u,rfl,rfl⟩
   ·rw [IA] at h; exact SeqAt.EqAt.str_int x t j u _ _ _ _ h
   ·rw [IB] at h; exact wpAny_eqBool_str h
 «strs» := fun k x t v h => by
  rcases bQ h with ⟨i,u,rfl,e⟩ | ⟨y,u,rfl,e⟩
  ·exact nomatch e
  ·injection e with e1 _
   subst e1
   cases v <;> rfl
theorem Ad (prog : Program) (w : World) (i : Int) (t : Tok) : (bb prog w).is (.inl i) (.int i t) = true:=Ef i t
theorem Ae (prog : Program) (w : World) (x : Str) (t : Tok) : (bb prog w).is (.inr x) (.str x t) = true:=Eg x t
end L2
namespace L2
open PySem PySem.Spec PyProof.Rows
inductive V where
 | non | bl (b : Bool) | int (i : Int) | str (x : Str) | byt (b : Array UInt8) | flt (b : UInt64) | ref (a : Addr) | ty (n : String)
 deriving DecidableEq
def RelV : V -> Value -> Prop
 | .non,u => u = Value.none
 | .bl b,u => u = Value.bool b
 | .int i,u => ∃ t,u = Value.int i t
 | .str x,u => ∃ t,u = Value.str x t
 | .byt b,u => ∃ t,u = Value.bytes b t
 | .flt b,u => ∃ t,u = Value.float b t
 | .ref a,u => u = Value.ref a
 | .ty n,u => u = Value.type n
abbrev Vals : List V -> List Value -> Prop:=Paired RelV
theorem Vals.length {xs : List V} {us : List Value} (r : Vals xs us) : xs.length = us.length:=Paired.length r
theorem Vals.get : ∀ {xs : List V} {us : List Value} {i : Nat} {x : V},Vals xs us -> xs[i]? = some x -> ∃ u,us[i]? = some u /\ RelV x u
 | _,_,_,_,.nil,e => by simp at e
 | _,_,0,_,.cons r _,e => by simp at e; subst e; exact ⟨_,rfl,r⟩
 | _,_,i + 1,x,.cons _ t,e => by
  obtain ⟨u,h1,h2⟩:=Vals.get (i:=i) (x:=x) t (by simpa using e)
  exact ⟨u,by simpa using h1,h2⟩
theorem Vals.set {x : V} {u : Value} (r : RelV x u) : ∀ {xs : List V} {us : List Value} (i : Nat),Vals xs us -> Vals (xs.set i x) (us.set i u)
 | _,_,_,.nil => .nil
 | _,_,0,.cons _ t => .cons r t
 | _,_,i + 1,.cons q t => .cons q (Vals.set r i t)
theorem Vals.append : ∀ {xs ys : List V} {us ws : List Value},Vals xs us -> Vals ys ws -> Vals (xs ++ ys) (us ++ ws)
 | _,_,_,_,.nil,s => s
 | _,_,_,_,.cons r t,s => .cons r (Vals.append t s)
theorem Vals.take : ∀ {xs : List V} {us : List Value} (n : Nat),Vals xs us -> Vals (xs.take n) (us.take n)
 | _,_,0,_ => .nil
 | _,_,_ + 1,.nil => .nil
 | _,_,n + 1,.cons r t => .cons r (Vals.take n t)
theorem Vals.drop : ∀ {xs : List V} {us : List Value} (n : Nat),Vals xs us -> Vals (xs.drop n) (us.drop n)
 | _,_,0,r => r
 | _,_,_ + 1,.nil => .nil
 | _,_,n + 1,.cons _ t => Vals.drop n t
def RelO : Option V -> Option Value -> Prop
 | some v,some u => RelV v u
 | none,none => True
 | _,_ => False
def KV {κ : Type} : List (κ × V) -> List (κ × Value) -> Prop:=Paired fun (p : κ × V) (q : κ × Value) => p.1 = q.1 /\ RelV p.2 q.2
def kV : Key -> V
 | .inl i => .int i
 | .inr x => .str x
inductive HO where
  | lst (xs : List V)
  | tup (xs : List V)
  | dK (kvs : List (Key × V)) | dT (kvs : List (List Key × V))
  | set (S : Int -> Bool) (n : Nat)
  | ins (C dx : Addr) (fs : List (Str × V))
  | own (x : Addr)
  | xd (fs : List (Str × V))
  | met (f x : Addr)
  | rng (lo hi : Int)
  | frz (o : Obj) (u : HO)
  | tbl (ps : Array Value)
  | ext (φ : Heap -> Prop)
abbrev Hp:=Addr -> Option HO
def upd (H : Hp) (a : Addr) (o : HO) : Hp:=fun b => if b = a then some o else H b
theorem af {H : Hp} {a : Addr} {o : HO} : upd H a o a = some o:=by unfold upd; rw [if_pos rfl]
theorem aj {H : Hp} {a b : Addr} {o : HO} (h : b ≠ a) : upd H a o b = H b:=by unfold upd; rw [if_neg h]
theorem DD {H : Hp} {a : Addr} {o u : HO} : upd (upd H a o) a u = upd H a u:=by
 funext b; unfold upd; split <;> rfl
theorem aJ {H : Hp} {a b : Addr} {o u : HO} (h : H a = some o) (h' : H b = some u) (d : o ≠ u) : a ≠ b:=by
 intro e; subst e; rw [h] at h'; exact d (Option.some.inj h')
theorem av {H : Hp} {a b : Addr} {o : HO} (h : H a = some o) (h' : H b = none) : a ≠ b:=by
 intro e; subst e; rw [h] at h'; cases h'
section
variable (P : Program) (w : World)
def ObjOk (H : Hp) (h : Heap) (a : Addr) : HO -> Prop
 | .lst xs => xs.length <= sizeLine /\ ∃ (its : List Value) (n : Nat),Vals xs its /\ h.get? a = some { cls:=.type "list",data:=.seq its.toArray n }
 | .tup xs => xs.length <= sizeLine /\ ∃ its : List Value,Vals xs its /\ IsTup h a its.toArray
 | .dK kvs => kvs.length <= sizeLine /\ (a == sysModules) = false /\ ∃ vs,KV kvs vs /\ h.DictOf (bb P w) a vs
 | .dT kvs => kvs.length <= sizeLine /\ (a == sysModules) = false /\ ∃ xs : List (List Key × Addr × Value),
   Paired (fun (p : List Key × V) (q : List Key × Addr × Value) => p.1 = q.1 /\ H q.2.1 = some (.tup (p.1.map kV)) /\ RelV p.2 q.2.2) kvs xs /\
   ∃ o es ep,h.get? a = some o /\ o.ExactDict /\ o.data = .dict es ep /\ es.toList = xs.map (entryOfKey (tupleKind (bb P w))) /\ (xs.map (·.1)).Nodup
 | .set S n => h.SetOf (intKind P w) a S n
 | .ins C dx fs => H dx = some (.own a) /\ fs.length <= 1000 /\ dx ≠ a /\ h.get? a = some (PySem.W.instObj C dx) /\
   ∃ mA,h.Ns1 dx mA /\ (∀ f,RelO (fs.lookup f) (mA f)) /\ PySem.Within mA (fs.map (·.1))
 | .own _ => ∃ o,h.get? a = some o
 | .xd fs => ∃ mA,h.Ns1 a mA /\ ∀ f,RelO (fs.lookup f) (mA f)
 | .rng lo hi => ∃ t u v,h.get? a = some { cls:=.type "range",data:=.fields #[.int lo t,.int hi u,.int 1 v] }
 | .frz o u => h.get? a = some o /\ ObjOk H h a u
 | .tbl ps => h.get? a = some { cls:=.none,data:=.fields ps }
 | .met f x => h.get? a = some (PySem.W.methodObj (.ref f) (.ref x))
 | .ext φ => φ h /\ (∃ o,h.get? a = some o) /\ ∀ h1 h2 : Heap,φ h1 -> (∀ o,h1.get? a = some o -> h2.get? a = some o) -> φ h2
def HOk (H : Hp) (h : Heap) : Prop := ∀ a o,H a = some o -> ObjOk P w H h a o
end
section
variable {P : Program} {w : World} {H H' : Hp} {h h' : Heap} {a : Addr} {o : HO}
theorem ObjOk.lt (x : ObjOk P w H h a o) : a < h.objs.size:=by
 cases o with
 | lst xs => obtain ⟨_,_,_,_,e⟩:=x; exact Heap.lt_size e
 | tup xs => obtain ⟨_,_,_,p⟩:=x; exact p.lt
 | dK kvs => obtain ⟨_,_,_,_,o,_,_,e,_⟩:=x; exact Heap.lt_size e
 | dT kvs => obtain ⟨_,_,_,_,o,_,_,e,_⟩:=x; exact Heap.lt_size e
 | set S n => obtain ⟨o,_,_,_,e,_⟩:=x; exact Heap.lt_size e
 | ins C dx fs => obtain ⟨_,_,_,e,_⟩:=x; exact Heap.lt_size e
 | own y => obtain ⟨_,e⟩:=x; exact Heap.lt_size e
 | xd fs => obtain ⟨_,⟨_,_,_,e,_⟩,_⟩:=x; exact Heap.lt_size e
 | rng lo hi => obtain ⟨_,_,_,e⟩:=x; exact Heap.lt_size e
 | frz ob u => obtain ⟨e,_⟩:=x; exact Heap.lt_size e
 | tbl ps => exact Heap.lt_size (show h.get? a = some _ from x)
 | met f y => exact Heap.lt_size (show h.get? a = some _ from x)
 | ext φ => obtain ⟨_,⟨_,e⟩,_⟩:=x; exact Heap.lt_size e
theorem Paired.mapP {α β : Type} {F G : α -> β -> Prop} : ∀ {l₁ : List α} {l₂ : List β},Paired F l₁ l₂ -> (∀ a b,F a b -> G a b) -> Paired G l₁ l₂
 | _,_,.nil,_ => .nil
 | _,_,.cons r t,f => .cons (f _ _ r) (Paired.mapP t f)
theorem ObjOk.stay (x : ObjOk P w H h a o) (k : ∀ b u,(b = a \/ H b = some (.own a)) -> h.get? b = some u -> h'.get? b = some u)
  (ho : ∀ b,H b = some (.own a) -> H' b = some (.own a)) (ht : ∀ b xs,H b = some (.tup xs) -> H' b = some (.tup xs)) : ObjOk P w H' h' a o:=by
 induction o with
 | lst xs => obtain ⟨z,its,n,r,e⟩:=x; exact ⟨z,its,n,r,k _ _ (.inl rfl) e⟩
 | tup xs => obtain ⟨z,its,r,ob,e,c⟩:=x; exact ⟨z,its,r,ob,k _ _ (.inl rfl) e,c⟩
 | dK kvs => obtain ⟨z,y,vs,r,ob,es,ep,e,c⟩:=x; exact ⟨z,y,vs,r,ob,es,ep,k _ _ (.inl rfl) e,c⟩
 | dT kvs =>
  obtain ⟨z,y,xs,r,ob,es,ep,e,c⟩:=x
  exact ⟨z,y,xs,Paired.mapP r fun p q z => ⟨z.1,ht _ _ z.2.1,z.2.2⟩,ob,es,ep,k _ _ (.inl rfl) e,c⟩
 | set S n => obtain ⟨ob,es,ep,t,e,c⟩:=x; exact ⟨ob,es,ep,t,k _ _ (.inl rfl) e,c⟩
 | ins C dx fs =>
  obtain ⟨d,z,ne,e,mA,⟨od,es,ep,e2,c⟩,r⟩:=x
  exact ⟨ho _ d,z,ne,k _ _ (.inl rfl) e,mA,⟨od,es,ep,k _ _ (.inr d) e2,c⟩,r⟩
 | own y => obtain ⟨ob,e⟩:=x; exact ⟨ob,k _ _ (.inl rfl) e⟩
 | xd fs => obtain ⟨mA,⟨od,es,ep,e,c⟩,r⟩:=x; exact ⟨mA,⟨od,es,ep,k _ _ (.inl rfl) e,c⟩,r⟩
 | rng lo hi => obtain ⟨t,u,v,e⟩:=x; exact ⟨t,u,v,k _ _ (.inl rfl) e⟩
 | frz ob u ih => obtain ⟨e,q⟩:=x; exact ⟨k _ _ (.inl rfl) e,ih q⟩
 | tbl ps =>
  have e : h.get? a = some { cls:=.none,data:=.fields ps }:=x
  show h'.get? a = some { cls:=.none,data:=.fields ps }
  exact k a _ (.inl rfl) e
 | met f y =>
  have e : h.get? a = some (PySem.W.methodObj (.ref f) (.ref y)):=x
  show h'.get? a = some (PySem.W.methodObj (.ref f) (.ref y))
  exact k a _ (.inl rfl) e
 | ext φ => obtain ⟨p,⟨o,e⟩,st⟩:=x; exact ⟨st _ _ p fun o q => k _ _ (.inl rfl) q,⟨o,k _ _ (.inl rfl) e⟩,st⟩
theorem HOk.lt (x : HOk P w H h) (e : H a = some o) : a < h.objs.size:=(x a o e).lt
theorem HOk.fresh (x : HOk P w H h) (e : h.objs.size <= a) : H a = none:=by
 cases q : H a with
 | none => rfl
 | some u => exact absurd (Nat.lt_of_lt_of_le (x.lt q) e) (Nat.lt_irrefl _)
theorem HOk.kept (x : HOk P w H h) (k : ∀ b u,h.get? b = some u -> h'.get? b = some u) : HOk P w H h' := fun a o e =>
 (x a o e).stay (fun b u _ q => k b u q) (fun _ q => q) fun _ _ q => q
theorem HOk.laid (x : HOk P w H h) (k : ∀ b u,h.get? b = some u -> h'.get? b = some u) (hp : h.objs.size <= a) (new : ObjOk P w (upd H a o) h' a o) : HOk P w (upd H a o) h' := fun b u e => by
 have hn:=x.fresh hp
 by_cases hb : b = a
 ·subst hb; rw [af] at e; cases e; exact new
 ·rw [aj hb] at e
  exact (x b u e).stay (fun c v _ q => k c v q) (fun c q => by rw [aj (av q hn)]; exact q) fun c xs q => by rw [aj (av q hn)]; exact q
end
def Rd (H : Hp) (a : Addr) (u : HO) : Prop:=H a = some u \/ ∃ o,H a = some (.frz o u)
theorem Rd.ok {P : Program} {w : World} {H : Hp} {h : Heap} {a : Addr} {u : HO} (r : Rd H a u) (x : HOk P w H h) : ObjOk P w H h a u:=by
 rcases r with r | ⟨o,r⟩
 ·exact x a u r
 ·obtain ⟨_,q⟩:=x a _ r
  exact q
def Mut : Option HO -> Prop
 | some (.lst _) => True
 | some (.dK _) => True
 | some (.dT _) => True
 | some (.set _ _) => True
 | some (.ins _ _ _) => True
 | some (.ext _) => True
 | _ => False
section
variable {P : Program} {w : World} {H : Hp} {h h' : Heap} {x e : Addr} {o' : HO}
theorem HOk.write (ok : HOk P w H h) (mu : Mut (H x)) (he : e = x \/ H e = some (.own x)) (k : ∀ b u,b ≠ e -> h.get? b = some u -> h'.get? b = some u) (heo : ∃ u,h'.get? e = some u)
  (new : ObjOk P w (upd H x o') h' x o') : HOk P w (upd H x o') h' := fun b u q => by
 have nown : ∀ c y,H c = some (.own y) -> c ≠ x:=fun c y r z => by subst z; rw [r] at mu; exact mu
 have ntup : ∀ c xs,H c = some (.tup xs) -> c ≠ x:=fun c xs r z => by subst z; rw [r] at mu; exact mu
 by_cases hb : b = x
 ·subst hb; rw [af] at q; cases q; exact new
 ·rw [aj hb] at q
  by_cases hbe : b = e
  ·have q' : H b = some (.own x):=by
    rcases he with z | z
    ·exact absurd (hbe.trans z) hb
    ·rw [hbe]; exact z
   rw [q] at q'; cases q'
   obtain ⟨v,hv⟩:=heo
   exact ⟨v,by rw [hbe]; exact hv⟩
  ·refine (ok b u q).stay (fun c v hc r => k c v ?_ r) (fun c r => by rw [aj (nown c b r)]; exact r) fun c xs r => by rw [aj (ntup c xs r)]; exact r
   rcases hc with rfl | hc
   ·exact hbe
   ·rintro rfl
    rcases he with z | z
    ·exact nown c b hc z
    ·rw [hc] at z; cases z; exact hb rfl
end
structure Un (fs ex : List Addr) (H H' : Hp) (h h' : Heap) : Prop where
 keep : ∀ b o,h.get? b = some o -> H b = none -> b ∉ fs -> b ∉ ex -> h'.get? b = some o
 slot : ∀ b o,h.get? b = some o -> H b = none -> b ∈ fs -> b ∉ ex -> ∃ sl,h'.get? b = some { o with slots:=sl }
 free : ∀ b o,h.get? b = some o -> H b = none -> b ∉ ex -> H' b = none
 there : ∀ b o,h.get? b = some o -> b ∉ ex -> ∃ o',h'.get? b = some o'
 tups : ∀ b xs,H b = some (.tup xs) -> H' b = some (.tup xs)
 frzs : ∀ b o u,H b = some (.frz o u) -> H' b = some (.frz o u)
 tbls : ∀ b ps,H b = some (.tbl ps) -> ∃ more,H' b = some (.tbl (ps ++ more))
section
variable {fs fs' ex ex' : List Addr} {H H1 H2 : Hp} {h h1 h2 h' : Heap} {a x e : Addr} {o : HO}
theorem Un.any (u : Un fs ex H H1 h h1) {b : Addr} {ob : Obj} (q : h.get? b = some ob) (n : H b = none) (hx : b ∉ ex) : ∃ sl,h1.get? b = some { ob with slots:=sl }:=by
 by_cases hb : b ∈ fs
 ·exact u.slot b ob q n hb hx
 ·exact ⟨ob.slots,u.keep b ob q n hb hx⟩
theorem Un.kept (k : ∀ b u,h.get? b = some u -> h'.get? b = some u) : Un fs ex H H h h' :=
 ⟨fun b ob q _ _ _ => k b ob q,fun b ob q _ _ _ => ⟨ob.slots,k b ob q⟩,fun _ _ _ n _ => n,fun b ob q _ => ⟨ob,k b ob q⟩,fun _ _ q => q,fun _ _ _ q => q,fun _ ps q => ⟨#[],by rw [q]; simp⟩⟩
theorem Un.refl : Un fs ex H H h h:=Un.kept fun _ _ q => q
theorem Un.laid (k : ∀ b u,h.get? b = some u -> h'.get? b = some u) (hp : h.objs.size <= a) (hn : H a = none) : Un fs ex H (upd H a o) h h' where
 keep:=fun b u q _ _ _ => k b u q
 slot:=fun b u q _ _ _ => ⟨u.slots,k b u q⟩
 free:=fun b u q n _ => by rw [aj (Nat.ne_of_lt (Nat.lt_of_lt_of_le (Heap.lt_size q) hp))]; exact n
 there:=fun b u q _ => ⟨u,k b u q⟩
 tups:=fun b xs q => by rw [aj (av q hn)]; exact q
 frzs:=fun b u xs q => by rw [aj (av q hn)]; exact q
 tbls:=fun b ps q => ⟨#[],by rw [aj (av q hn),q]; simp⟩
theorem Un.write (mu : Mut (H x)) (he : e = x \/ H e = some (.own x)) (k : ∀ b u,b ≠ e -> h.get? b = some u -> h'.get? b = some u) (heo : ∃ u,h'.get? e = some u) : Un fs ex H (upd H x o) h h' := by
 have hx : ∀ b,H b = none -> b ≠ x:=fun b n z => by subst z; rw [n] at mu; exact mu
 have hb : ∀ b,H b = none -> b ≠ e:=fun b n z => by
  subst z
  rcases he with r | r
  ·exact hx b n r
  ·rw [n] at r; cases r
 have hm : ∀ b u,H b = some u -> ¬ Mut (some u) -> b ≠ x:=fun b u q nm z => by subst z; rw [q] at mu; exact nm mu
 refine ⟨fun b u q n _ _ => k b u (hb b n) q,fun b u q n _ _ => ⟨u.slots,k b u (hb b n) q⟩,fun b u q n _ => by rw [aj (hx b n)]; exact n,fun b u q _ => ?_,
  fun b xs q => by rw [aj (hm b _ q fun z => z)]; exact q,fun b u xs q => by rw [aj (hm b _ q fun z => z)]; exact q,fun b ps q => ⟨#[],by rw [aj (hm b _ q fun z => z),q]; simp⟩⟩
 by_cases hbe : b = e
 ·subst hbe; exact heo
 ·exact ⟨u,k b u hbe q⟩
end
def trk (h : Heap) (H : Hp) : List Addr:=(List.range h.objs.size).filter fun a => (H a).isSome
def yH (h : Heap) (H : Hp) : Heap:=PySem.W.hideAll h (trk h H)
theorem Ea (h : Heap) (H : Hp) : (yH h H).objs.size = h.objs.size:=PySem.W.hideAll_size _ _
theorem Fm {h : Heap} {H : Hp} {b : Addr} {o : Obj} (e : h.get? b = some o) (n : H b = none) : (yH h H).get? b = some o:=
 PySem.W.hideAll_get _ e fun hm => by
  have q : (H b).isSome = true:=(List.mem_filter.mp hm).2
  rw [n] at q; simp at q
theorem Hn {h : Heap} {H : Hp} {b : Addr} {o : Obj} (e : (yH h H).get? b = some o) : h.get? b = some o /\ H b = none:=by
 have e' : h.get? b = some o:=PySem.W.of_hideAll (trk h H) e
 refine ⟨e',?_⟩
 cases q : H b with
 | none => rfl
 | some x =>
  have hm : b ∈ trk h H:=List.mem_filter.mpr ⟨List.mem_range.mpr (Heap.lt_size e'),by simp [q]⟩
  have z : (yH h H).get? b = none:=PySem.W.hideAll_none (trk h H) hm
  rw [z] at e; cases e
def GV (g h : Heap) (L : Addr) : List (Addr × Obj):=(List.range h.objs.size).filterMap fun a => if a = L \/ (g.get? a).isSome = true then none else (h.get? a).map fun o => (a,o)
def rest (g h : Heap) (L d : Addr) : List (Addr × Obj):=(GV g h L).filter fun p => decide (p.1 ≠ d)
end L2
namespace L2
open PySem PySem.Spec PyProof.Rows
structure Mod (K : PySem.W.Frag) (mg : Str -> Option Value) (base : Heap) : Prop where
 kin : K.In base
 glob : base.Ns mainGlobals mg
 blt : ∃ mb,base.Ns builtinsNs mb /\ ∀ x : Str,x ≠ "__name__" -> mb x = bootBuiltins x
 nolimit : base.NoLimit
structure Cx where
 prog : Program
 w : World
 K : PySem.W.Frag
 mg : Str -> Option Value
 base : Heap
 A : Around
 N : List Str
 s₀ : Shared
 H₀ : Hp
 env : Env
 outer : List Env
 stack : List Env
 ex : List Addr
 fn : Str -> Bool
 calm : Bool
 pn : List (Addr × Obj)
 xe : Value -> Shared -> Prop
def frs (l : List Env) : List Addr:=l.filterMap (·.frame)
abbrev Cx.fs (X : Cx) : List Addr:=frs X.outer
def Vis (sc : Scope) (x : Str) : Prop:=sc.names.lookup x = some .local \/ sc.names.lookup x = some .cell \/ sc.names.lookup x = some .free
def Loc (sc : Scope) (x : Str) : Prop:=sc.names.lookup x = some .local \/ sc.names.lookup x = some .cell
def Look (env : Env) (h : Heap) (m : Str -> Option Value) (x : Str) (u : Value) : Prop:=
 (env.kindOf x = some .local /\ m x = some u) \/ ((env.kindOf x = some .cell \/ env.kindOf x = some .free) /\ ∃ c,env.cells.lookup x = some c /\ h.IsCell c (some u))
structure Cx.Ok (X : Cx) : Prop where
 mod : Mod X.K X.mg X.base
 kind : X.env.scope.kind = .function
 glob : X.env.globals = mainGlobals
 blt : X.env.builtins = builtinsNs
 above : X.s₀.heap.objs.size <= X.env.locals
 inj : ∀ x y c,X.env.cells.lookup x = some c -> X.env.cells.lookup y = some c -> x = y
 has : ∀ x,(X.env.kindOf x = some .cell \/ X.env.kindOf x = some .free) -> ∃ c,X.env.cells.lookup x = some c
 cab : ∀ x c,X.fn x = true -> X.env.cells.lookup x = some c -> X.s₀.heap.objs.size <= c
 hd : X.calm = true -> X.A.handled = none
 frames : X.A.frames = some X.stack
 stk : X.stack = X.outer \/ (X.stack = X.env :: X.outer /\ X.env.frame = some X.env.locals)
 exf : ∀ b ∈ X.ex,b ≠ X.env.locals /\ ∀ x c,X.env.cells.lookup x = some c -> c ≠ b
 bs : ∀ b o,X.base.get? b = some o -> X.s₀.heap.get? b = some o /\ X.H₀ b = none
 bsz : X.base.objs.size <= X.s₀.heap.objs.size
 noex : ∀ b o,X.base.get? b = some o -> b ∉ X.ex
 exfs : ∀ b ∈ X.ex,b ∉ X.fs
 funs : X.s₀.heap.FunFrames X.base X.outer
 frf : ∀ b ∈ X.fs,X.H₀ b = none
structure Inv (X : Cx) (pins : List (Addr × Obj)) (σ : List (Option V)) (H : Hp) (s : Shared) : Prop where
 ok : X.Ok
 os : s.os = X.s₀.os
 bare : AllBare s.gens
 base : Un X.fs X.ex X.H₀ H X.s₀.heap s.heap
 loc : ∃ m,s.heap.Ns X.env.locals m /\ ∀ (i : Nat) (x : Str) (v : V),X.N[i]? = some x -> σ[i]? = some (some v) -> Vis X.env.scope x -> ∃ u,RelV v u /\ Look X.env s.heap m x u
 cell : ∀ x c,X.env.cells.lookup x = some c -> ∃ v,s.heap.IsCell c v
 free : H X.env.locals = none
 freeC : ∀ x c,X.env.cells.lookup x = some c -> H c = none
 pin : ∀ p ∈ X.pn ++ pins,s.heap.get? p.1 = some p.2 /\ H p.1 = none /\ p.1 ≠ X.env.locals /\ p.1 ∉ X.fs /\ ∀ v,p.2.data ≠ .cell v
 hok : HOk X.prog X.w H s.heap
 len : σ.length = X.N.length
section
variable {X : Cx} {pins : List (Addr × Obj)} {σ : List (Option V)} {H H' : Hp} {s : Shared} {h' : Heap}
theorem Cx.Ok.nofr (ok : X.Ok) {b : Addr} {o : Obj} (e : X.base.get? b = some o) : b ∉ X.fs:=fun hb => by
 have:=(ok.funs.mem hb).1
 rw [e] at this; cases this
theorem Inv.bs (I : Inv X pins σ H s) : ∀ b o,X.base.get? b = some o -> s.heap.get? b = some o /\ H b = none:=fun b o e =>
 ⟨I.base.keep b o (I.ok.bs b o e).1 (I.ok.bs b o e).2 (I.ok.nofr e) (I.ok.noex b o e),I.base.free b o (I.ok.bs b o e).1 (I.ok.bs b o e).2 (I.ok.noex b o e)⟩
theorem Inv.bk (I : Inv X pins σ H s) : ∀ b o,X.base.get? b = some o -> s.heap.get? b = some o:=fun b o e => (I.bs b o e).1
theorem Inv.mod (I : Inv X pins σ H s) : Mod X.K X.mg X.base:=I.ok.mod
theorem Inv.kIn (I : Inv X pins σ H s) : X.K.In s.heap:=I.ok.mod.kin.keeps I.bk
theorem Inv.lt (I : Inv X pins σ H s) : X.env.locals < s.heap.objs.size:=let ⟨_,hn,_⟩:=I.loc; hn.lt
theorem Inv.sz (I : Inv X pins σ H s) : X.s₀.heap.objs.size <= s.heap.objs.size:=Nat.le_trans I.ok.above (Nat.le_of_lt I.lt)
theorem Inv.nofs (I : Inv X pins σ H s) {a : Addr} (h : s.heap.objs.size <= a) : a ∉ X.fs:=fun hb => by
 obtain ⟨_,o,ho,_⟩:=I.ok.funs.mem hb
 exact absurd (Nat.lt_of_lt_of_le (Heap.lt_size ho) (Nat.le_trans I.sz h)) (Nat.lt_irrefl _)
theorem Inv.cne (I : Inv X pins σ H s) : ∀ x c,X.env.cells.lookup x = some c -> c ≠ X.env.locals:=fun x c e z => by
 obtain ⟨v,o,ho,hd⟩:=I.cell x c e
 obtain ⟨m,⟨o',es,ep,ho',hd',_⟩,_⟩:=I.loc
 rw [z,ho'] at ho; cases ho; rw [hd'] at hd; cases hd
theorem Inv.funs (I : Inv X pins σ H s) : s.heap.FunFrames X.base X.outer:=by
 have all : ∀ (l : List Env),(∀ b ∈ frs l,b ∈ X.fs) -> X.s₀.heap.FunFrames X.base l -> s.heap.FunFrames X.base l:=by
  intro l
  induction l with
  | nil => intro _ _; trivial
  | cons env r ih =>
   intro hs hl
   obtain ⟨hk,⟨L,o,hf,hn,ho,hd⟩,hr⟩:=hl
   have hL : L ∈ X.fs:=hs L (by unfold frs; rw [List.filterMap_cons,hf]; exact List.mem_cons_self)
   obtain ⟨sl,e⟩:=I.base.slot L o ho (I.ok.frf L hL) hL fun z => I.ok.exfs L z hL
   exact ⟨hk,⟨L,_,hf,hn,e,hd⟩,ih (fun b hb => hs b (by unfold frs; rw [List.filterMap_cons,hf]; exact List.mem_cons_of_mem _ hb)) hr⟩
 exact all X.outer (fun _ hb => hb) I.ok.funs
theorem Inv.stack (I : Inv X pins σ H s) : s.heap.FunFrames X.base X.stack:=by
 rcases I.ok.stk with e | ⟨e,hf⟩
 ·rw [e]; exact I.funs
 ·rw [e]
  obtain ⟨m,hn,_⟩:=I.loc
  refine .cons (by rw [I.ok.kind]; decide) hf hn ?_ I.funs
  exact Heap.get?_none_of_le (Nat.le_trans I.ok.bsz I.ok.above)
theorem Inv.stkSub (I : Inv X pins σ H s) : ∀ b ∈ frs X.stack,b ∈ X.env.locals :: X.fs:=fun b hb => by
 rcases I.ok.stk with e | ⟨e,hf⟩
 ·rw [e] at hb; exact List.mem_cons_of_mem _ hb
 ·rw [e] at hb
  unfold frs at hb
  rw [List.filterMap_cons,hf] at hb
  exact hb
theorem Inv.stkFree (I : Inv X pins σ H s) : ∀ b ∈ frs X.stack,H b = none:=fun b hb => by
 rcases List.mem_cons.mp (I.stkSub b hb) with e | hb
 ·rw [e]; exact I.free
 ·obtain ⟨_,o,ho,_⟩:=I.ok.funs.mem hb
  exact I.base.free b o ho (I.ok.frf b hb) fun z => I.ok.exfs b z hb
theorem Inv.step {g' : Array GenState} {t' : Nat} {d' : Drawn} {ch : List Addr} (I : Inv X pins σ H s)
  (hch : ∀ b ∈ ch,(b ∈ X.ex \/ X.s₀.heap.objs.size <= b) /\ b ≠ X.env.locals /\ (∀ x c,X.env.cells.lookup x = some c -> c ≠ b) /\ ∀ p ∈ X.pn ++ pins,p.1 ≠ b)
  (keep : ∀ b o,b ≠ X.env.locals -> b ∉ X.fs -> b ∉ ch -> s.heap.get? b = some o -> H b = none -> h'.get? b = some o)
  (slot : ∀ b o,b ≠ X.env.locals -> b ∈ X.fs -> b ∉ ch -> s.heap.get? b = some o -> H b = none -> ∃ sl,h'.get? b = some { o with slots:=sl }) (free : ∀ b o,b ∉ ch -> s.heap.get? b = some o -> H b = none -> H' b = none)
  (there : ∀ b o,b ∉ ch -> s.heap.get? b = some o -> ∃ o',h'.get? b = some o')
  (tups : ∀ b xs,H b = some (.tup xs) -> H' b = some (.tup xs)) (frzs : ∀ b o u,H b = some (.frz o u) -> H' b = some (.frz o u)) (tbls : ∀ b ps,H b = some (.tbl ps) -> ∃ more,H' b = some (.tbl (ps ++ more)))
  (ns : ∀ m,s.heap.Ns X.env.locals m -> h'.Ns X.env.locals m) (hok : HOk X.prog X.w H' h') (hg : AllBare g') :
  Inv X pins σ H' { s with heap:=h',gens:=g',drawn:=d',toks:=t' }:=by
 have neL : ∀ b o,X.s₀.heap.get? b = some o -> b ≠ X.env.locals:=fun b o e => Nat.ne_of_lt (Nat.lt_of_lt_of_le (Heap.lt_size e) I.ok.above)
 have neC : ∀ b o,X.s₀.heap.get? b = some o -> b ∉ X.ex -> b ∉ ch:=fun b o e hx hb => by
  rcases (hch b hb).1 with z | z
  ·exact hx z
  ·exact absurd (Nat.lt_of_lt_of_le (Heap.lt_size e) z) (Nat.lt_irrefl _)
 have cellK : ∀ x c,X.env.cells.lookup x = some c -> ∀ v,s.heap.IsCell c v -> h'.IsCell c v:=fun x c e v ⟨o,ho,hd⟩ => by
  have nch : c ∉ ch:=fun z => (hch c z).2.2.1 x c e rfl
  by_cases hc : c ∈ X.fs
  ·obtain ⟨sl,q⟩:=slot c o (I.cne x c e) hc nch ho (I.freeC x c e)
   exact ⟨_,q,hd⟩
  ·exact ⟨o,keep c o (I.cne x c e) hc nch ho (I.freeC x c e),hd⟩
 refine ⟨I.ok,I.os,hg,⟨fun b o e n hb hx => ?_,fun b o e n hb hx => ?_,fun b o e n hx => ?_,fun b o e hx => ?_,fun b xs e => tups b xs (I.base.tups b xs e),fun b o xs e => frzs b o xs (I.base.frzs b o xs e),fun b ps e => ?_⟩,?_,fun x c e => ?_,?_,fun x c e => ?_,fun p hp => ?_,hok,I.len⟩
 ·exact keep b o (neL b o e) hb (neC b o e hx) (I.base.keep b o e n hb hx) (I.base.free b o e n hx)
 ·obtain ⟨sl,e1⟩:=I.base.slot b o e n hb hx
  obtain ⟨sl',e2⟩:=slot b _ (neL b o e) hb (neC b o e hx) e1 (I.base.free b o e n hx)
  exact ⟨sl',e2⟩
 ·obtain ⟨o',e1⟩:=I.base.there b o e hx
  exact free b o' (neC b o e hx) e1 (I.base.free b o e n hx)
 ·obtain ⟨o',e1⟩:=I.base.there b o e hx
  exact there b o' (neC b o e hx) e1
 ·obtain ⟨m1,e1⟩:=I.base.tbls b ps e
  obtain ⟨m2,e2⟩:=tbls b _ e1
  exact ⟨m1 ++ m2,by rw [e2,Array.append_assoc]⟩
 ·obtain ⟨m,hn,hl⟩:=I.loc
  refine ⟨m,ns m hn,fun i x v e1 e2 e3 => ?_⟩
  obtain ⟨u,r,l⟩:=hl i x v e1 e2 e3
  refine ⟨u,r,?_⟩
  rcases l with l | ⟨k,c,e,z⟩
  ·exact .inl l
  ·exact .inr ⟨k,c,e,cellK x c e _ z⟩
 ·obtain ⟨v,z⟩:=I.cell x c e
  exact ⟨v,cellK x c e v z⟩
 ·obtain ⟨m,⟨o,_,_,ho,_⟩,_⟩:=I.loc
  exact free _ o (fun z => (hch _ z).2.1 rfl) ho I.free
 ·obtain ⟨v,o,ho,hd⟩:=I.cell x c e
  exact free c o (fun z => (hch c z).2.2.1 x c e rfl) ho (I.freeC x c e)
 ·obtain ⟨e,n,ne,nf,d⟩:=I.pin p hp
  have nch : p.1 ∉ ch:=fun z => (hch p.1 z).2.2.2 p hp rfl
  exact ⟨keep p.1 p.2 ne nf nch e n,free p.1 p.2 nch e n,ne,nf,d⟩
theorem Inv.un {t' : Nat} (I : Inv X pins σ H s) (u : Un X.fs [] H H' s.heap h') (hok : HOk X.prog X.w H' h') : Inv X pins σ H' { s with heap:=h',toks:=t' }:=by
 obtain ⟨m,⟨o,es,ep,ho,r⟩,_⟩:=id I.loc
 obtain ⟨sl,hL⟩:=u.any ho I.free (by simp)
 exact I.step (g' := s.gens) (d' := s.drawn) (ch:=[]) (fun _ z => nomatch z) (fun b o _ hb _ e n => u.keep b o e n hb (by simp)) (fun b o _ hb _ e n => u.slot b o e n hb (by simp)) (fun b o _ e n => u.free b o e n (by simp)) (fun b o _ e => u.there b o e (by simp)) u.tups u.frzs u.tbls (fun m' hm => by
  obtain ⟨o',es',ep',ho',r'⟩:=hm
  rw [ho] at ho'; cases ho'
  exact ⟨_,es',ep',hL,r'⟩) hok I.bare
theorem Inv.call {g' : Array GenState} {t' : Nat} {d' : Drawn} {ch : List Addr} (I : Inv X pins σ H s) (u : Un (frs X.stack) ch H H' s.heap h') (hok : HOk X.prog X.w H' h') (hg : AllBare g')
  (hch : ∀ b ∈ ch,(b ∈ X.ex \/ X.s₀.heap.objs.size <= b) /\ b ≠ X.env.locals /\ (∀ x c,X.env.cells.lookup x = some c -> c ≠ b) /\ ∀ p ∈ X.pn ++ pins,p.1 ≠ b) :
  Inv X pins σ H' { s with heap:=h',gens:=g',drawn:=d',toks:=t' }:=by
 obtain ⟨m,⟨o,es,ep,ho,r⟩,_⟩:=id I.loc
 obtain ⟨sl,hL⟩:=u.any ho I.free fun z => (hch _ z).2.1 rfl
 exact I.step (ch:=ch) hch (fun b o hL hb hc e n => u.keep b o e n (fun z => (List.mem_cons.mp (I.stkSub b z)).elim hL hb) hc) (fun b o _ _ hc e n => u.any e n hc) (fun b o hc e n => u.free b o e n hc) (fun b o hc e => u.there b o e hc) u.tups u.frzs u.tbls (fun m' hm => by
  obtain ⟨o',es',ep',ho',r'⟩:=hm
  rw [ho] at ho'; cases ho'
  exact ⟨_,es',ep',hL,r'⟩) hok hg
theorem Inv.turned {t' : Nat} {it : Addr} (I : Inv X pins σ H s) (k : ∀ b o,b ≠ it -> s.heap.get? b = some o -> h'.get? b = some o) (hn : H it = none) (hL : it ≠ X.env.locals)
  (h1 : it ∈ X.ex \/ X.s₀.heap.objs.size <= it) (h2 : ∀ x c,X.env.cells.lookup x = some c -> c ≠ it) (h3 : ∀ p ∈ X.pn ++ pins,p.1 ≠ it) : Inv X pins σ H { s with heap:=h',toks:=t' }:=by
 have nit : ∀ b u,H b = some u -> b ≠ it:=fun b u e z => by rw [z,hn] at e; cases e
 refine I.step (g' := s.gens) (d' := s.drawn) (ch:=[it]) (fun b hb => ?_) (fun b o _ _ hc e _ => k b o (fun z => hc (by simp [z])) e) (fun b o _ _ hc e _ => ⟨o.slots,k b o (fun z => hc (by simp [z])) e⟩) (fun _ _ _ _ n => n)
  (fun b o hc e => ⟨o,k b o (fun z => hc (by simp [z])) e⟩) (fun _ _ e => e) (fun _ _ _ e => e) (fun b ps e => ⟨#[],by rw [e]; simp⟩) (fun m hm => ?_) (fun b u e => ?_) I.bare
 ·have e : b = it:=by simpa using hb
  subst e
  exact ⟨h1,hL,h2,h3⟩
 ·obtain ⟨o,es,ep,ho,r⟩:=hm
  exact ⟨o,es,ep,k _ o (Ne.symm hL) ho,r⟩
 ·refine (I.hok b u e).stay (fun c v hc q => k c v ?_ q) (fun _ q => q) fun _ _ q => q
  rcases hc with z | z
  ·rw [z]; exact nit b u e
  ·exact nit c _ z
theorem Inv.tok (I : Inv X pins σ H s) (t : Nat) : Inv X pins σ H { s with toks:=t }:=I.un (h' := s.heap) (t' := t) Un.refl I.hok
theorem Inv.kept {t' : Nat} (I : Inv X pins σ H s) (k : ∀ b u,s.heap.get? b = some u -> h'.get? b = some u) : Inv X pins σ H { s with heap:=h',toks:=t' }:=I.un (Un.kept k) (I.hok.kept k)
theorem Inv.laid {a : Addr} {o : HO} {t' : Nat} (I : Inv X pins σ H s) (k : ∀ b u,s.heap.get? b = some u -> h'.get? b = some u) (hp : s.heap.objs.size <= a) (new : ObjOk X.prog X.w (upd H a o) h' a o) :
  Inv X pins σ (upd H a o) { s with heap:=h',toks:=t' }:=I.un (Un.laid k hp (I.hok.fresh hp)) (I.hok.laid k hp new)
theorem Inv.write {x e : Addr} {o : HO} {t' : Nat} (I : Inv X pins σ H s) (mu : Mut (H x)) (he : e = x \/ H e = some (.own x)) (k : ∀ b u,b ≠ e -> s.heap.get? b = some u -> h'.get? b = some u) (heo : ∃ u,h'.get? e = some u)
  (new : ObjOk X.prog X.w (upd H x o) h' x o) : Inv X pins σ (upd H x o) { s with heap:=h',toks:=t' }:=I.un (Un.write mu he k heo) (I.hok.write mu he k heo new)
theorem Inv.pins_of {pins' : List (Addr × Obj)} (I : Inv X pins σ H s) (h : ∀ p ∈ pins',s.heap.get? p.1 = some p.2 /\ H p.1 = none /\ p.1 ≠ X.env.locals /\ p.1 ∉ X.fs /\ ∀ v,p.2.data ≠ .cell v) : Inv X pins' σ H s:=
 ⟨I.ok,I.os,I.bare,I.base,I.loc,I.cell,I.free,I.freeC,fun p hp => (List.mem_append.mp hp).elim (fun z => I.pin p (List.mem_append_left _ z)) (h p),I.hok,I.len⟩
theorem vz {N : List Str} (hN : N.Nodup) {i j : Nat} {x : Str} (a : N[i]? = some x) (b : N[j]? = some x) : i = j:=by
 obtain ⟨h1,e1⟩:=List.getElem?_eq_some_iff.mp a
 obtain ⟨h2,e2⟩:=List.getElem?_eq_some_iff.mp b
 exact (List.getElem_inj hN).mp (e1.trans e2.symm)
theorem yn {M : Model} {A : Around} {E : Value -> Shared -> Prop} {i : Nat} {x : Str} {v : V} {u : Value} {Q : Unit -> Shared -> Prop} (I : Inv X pins σ H s) (hN : X.N.Nodup) (hi : X.N[i]? = some x) (hx : Loc X.env.scope x) (r : RelV v u)
  (h : ∀ s',Inv X pins (σ.set i (some v)) H s' -> (∃ a,Heap.SameBut a s.heap s'.heap /\ (a = X.env.locals \/ X.env.cells.lookup x = some a)) -> Q () s') (hf : X.fn x = true \/ X.env.scope.names.lookup x = some .local:=by first | exact .inl rfl | exact .inr rfl | assumption) : wpAny M A (storeName X.env x u) Q E s:=by
 obtain ⟨m,hn,hl⟩:=id I.loc
 have hcls : (X.env.scope.kind == .class || (X.env.scope.kind == .module && X.env.locals != X.env.globals)) = false:=by rw [I.ok.kind]; rfl
 have hiσ : i < σ.length:=by rw [I.len]; exact (List.getElem?_eq_some_iff.mp hi).1
 have cne:=I.cne
 have tracked : ∀ {a : Addr} {h' : Heap},(∃ o,s.heap.get? a = some o /\ H a = none) -> Heap.SameBut a s.heap h' -> HOk X.prog X.w H h' := fun {a h'} ha hs b ob e => by
  obtain ⟨_,_,hfree⟩:=ha
  refine (I.hok b ob e).stay (fun c w' hc q => (hs.2 c ?_).trans q) (fun _ q => q) fun _ _ q => q
  rintro rfl
  rcases hc with rfl | hc
  ·rw [hfree] at e; cases e
  ·rw [hfree] at hc; cases hc
 rcases hx with hk | hk
 ·refine wpAny_storeName_local hk hn (fun h' hn' hs => ?_) hcls
  obtain ⟨oL,_,_,hoL,_⟩:=id hn
  refine h _ ⟨I.ok,I.os,I.bare,⟨fun b o e n hb hx => ?_,fun b o e n hb hx => ?_,I.base.free,fun b o e hx => ?_,I.base.tups,I.base.frzs,I.base.tbls⟩,⟨_,hn',fun j y v' e1 e2 e3 => ?_⟩,fun y c e => ?_,I.free,I.freeC,fun p hp => ?_,tracked ⟨oL,hoL,I.free⟩ hs,by simpa using I.len⟩ ⟨_,hs,.inl rfl⟩
  ·exact (hs.2 b (Nat.ne_of_lt (Nat.lt_of_lt_of_le (Heap.lt_size e) I.ok.above))).trans (I.base.keep b o e n hb hx)
  ·obtain ⟨sl,e1⟩:=I.base.slot b o e n hb hx
   exact ⟨sl,(hs.2 b (Nat.ne_of_lt (Nat.lt_of_lt_of_le (Heap.lt_size e) I.ok.above))).trans e1⟩
  ·obtain ⟨o',e1⟩:=I.base.there b o e hx
   exact ⟨o',(hs.2 b (Nat.ne_of_lt (Nat.lt_of_lt_of_le (Heap.lt_size e) I.ok.above))).trans e1⟩
  ·by_cases hj : j = i
   ·subst hj
    rw [hi] at e1; cases e1
    rw [List.getElem?_set_self hiσ] at e2
    cases e2
    exact ⟨u,r,.inl ⟨hk,by simp⟩⟩
   ·rw [List.getElem?_set_ne (Ne.symm hj)] at e2
    obtain ⟨u',r',q⟩:=hl j y v' e1 e2 e3
    refine ⟨u',r',?_⟩
    rcases q with ⟨k,e⟩ | ⟨k,c,e,z⟩
    ·refine .inl ⟨k,?_⟩
     have : y ≠ x:=fun e => hj (vz hN e1 (e ▸ hi))
     simp [this,e]
    ·exact .inr ⟨k,c,e,z.sameBut hs (cne y c e)⟩
  ·obtain ⟨w',z⟩:=I.cell y c e
   exact ⟨w',z.sameBut hs (cne y c e)⟩
  ·obtain ⟨e,n,ne,nf,d⟩:=I.pin p hp
   exact ⟨(hs.2 p.1 ne).trans e,n,ne,nf,d⟩
 ·have hfn : X.fn x = true:=by
   rcases hf with z | z
   ·exact z
   ·rw [z] at hk; cases hk
  obtain ⟨c,hc⟩:=I.ok.has x (.inl hk)
  obtain ⟨w',z⟩:=I.cell x c hc
  refine wpAny_storeName_cell I.ok.kind hk hc z (fun h' hc' hs => ?_)
  obtain ⟨oc,hoc,hocd⟩:=id z
  refine h { s with heap:=h' } ⟨I.ok,I.os,I.bare,⟨fun b o e n hb hx => ?_,fun b o e n hb hx => ?_,I.base.free,fun b o e hx => ?_,I.base.tups,I.base.frzs,I.base.tbls⟩,⟨m,hn.sameBut hs (Ne.symm (cne x c hc)),fun j y v' e1 e2 e3 => ?_⟩,fun y c' e => ?_,I.free,I.freeC,fun p hp => ?_,tracked ⟨oc,hoc,I.freeC x c hc⟩ hs,by simpa using I.len⟩ ⟨c,hs,.inr hc⟩
  ·exact (hs.2 b (Nat.ne_of_lt (Nat.lt_of_lt_of_le (Heap.lt_size e) (I.ok.cab x c hfn hc)))).trans (I.base.keep b o e n hb hx)
  ·obtain ⟨sl,e1⟩:=I.base.slot b o e n hb hx
   exact ⟨sl,(hs.2 b (Nat.ne_of_lt (Nat.lt_of_lt_of_le (Heap.lt_size e) (I.ok.cab x c hfn hc)))).trans e1⟩
  ·obtain ⟨o',e1⟩:=I.base.there b o e hx
   exact ⟨o',(hs.2 b (Nat.ne_of_lt (Nat.lt_of_lt_of_le (Heap.lt_size e) (I.ok.cab x c hfn hc)))).trans e1⟩
  ·by_cases hj : j = i
   ·subst hj
    rw [hi] at e1; cases e1
    rw [List.getElem?_set_self hiσ] at e2
    cases e2
    exact ⟨u,r,.inr ⟨.inl hk,c,hc,hc'⟩⟩
   ·rw [List.getElem?_set_ne (Ne.symm hj)] at e2
    obtain ⟨u',r',q⟩:=hl j y v' e1 e2 e3
    refine ⟨u',r',?_⟩
    rcases q with q | ⟨k,c',e,z'⟩
    ·exact .inl q
    ·refine .inr ⟨k,c',e,z'.sameBut hs ?_⟩
     rintro rfl
     exact hj (vz hN e1 (I.ok.inj _ _ _ e hc ▸ hi))
  ·by_cases hcc : c' = c
   ·subst hcc; exact ⟨_,hc'⟩
   ·obtain ⟨w2,z2⟩:=I.cell y c' e
    exact ⟨w2,z2.sameBut hs hcc⟩
  ·obtain ⟨e,n,ne,nf,d⟩:=I.pin p hp
   refine ⟨(hs.2 p.1 ?_).trans e,n,ne,nf,d⟩
   intro q
   rw [q,hoc] at e
   have q' : oc = p.2:=Option.some.inj e
   exact d w' (by rw [<- q']; exact hocd)
theorem qk {M : Model} {A : Around} {E : Value -> Shared -> Prop} {i : Nat} {x : Str} {v : V} {u : Value} {Q : Unit -> Shared -> Prop} (I : Inv X pins σ H s) (hN : X.N.Nodup) (hi : X.N[i]? = some x) (hx : Loc X.env.scope x) (r : RelV v u)
  (h : ∀ s',Inv X pins (σ.set i (some v)) H s' -> Q () s') (hf : X.fn x = true \/ X.env.scope.names.lookup x = some .local:=by first | exact .inl rfl | exact .inr rfl | assumption) : wpAny M A (storeName X.env x u) Q E s:=
 yn I hN hi hx r (fun s' I' _ => h s' I') hf
theorem Inv.call' {s' : Shared} {ch : List Addr} (I : Inv X pins σ H s) (ho : s'.os = s.os) (u : Un (frs X.stack) ch H H' s.heap s'.heap) (hok : HOk X.prog X.w H' s'.heap) (hg : AllBare s'.gens)
  (hch : ∀ b ∈ ch,(b ∈ X.ex \/ X.s₀.heap.objs.size <= b) /\ b ≠ X.env.locals /\ (∀ x c,X.env.cells.lookup x = some c -> c ≠ b) /\ ∀ p ∈ X.pn ++ pins,p.1 ≠ b) : Inv X pins σ H' s' := by
 obtain ⟨h',g',d',t',o'⟩:=s'
 have e : o' = s.os:=ho
 subst e
 exact I.call (g' := g') (t' := t') (d' := d') u hok hg hch
end
abbrev XK:=Value -> Option Addr -> Hp -> Prop
abbrev St:=List (Option V)
abbrev VK:=V -> Hp -> Prop
abbrev TE:=St -> Hp -> VK -> Prop
abbrev TT:=St -> Hp -> (Bool -> Hp -> Prop) -> Prop
abbrev TA:=St -> Hp -> (List V -> Hp -> Prop) -> Prop
structure Ends where
 nx : St -> Hp -> Prop
 rt : VK
 bk : St -> Hp -> Prop:=fun _ _ => False
 ct : St -> Hp -> Prop:=fun _ _ => False
abbrev TS:=Ends -> St -> Hp -> Prop
def EP (X : Cx) (pins : List (Addr × Obj)) (σ : St) (Q : VK) (u : Value) (s' : Shared) : Prop := ∃ v H',Inv X pins σ H' s' /\ RelV v u /\ Q v H'
def TP (X : Cx) (pins : List (Addr × Obj)) (σ : St) (Q : Bool -> Hp -> Prop) (b : Bool) (s' : Shared) : Prop := ∃ H',Inv X pins σ H' s' /\ Q b H'
def AP (X : Cx) (pins : List (Addr × Obj)) (σ : St) (Q : List V -> Hp -> Prop) (us : List Value) (s' : Shared) : Prop := ∃ vs H',Inv X pins σ H' s' /\ Vals vs us /\ Q vs H'
def SP (X : Cx) (pins : List (Addr × Obj)) (D : Ends) (f : Flow) (s' : Shared) : Prop:=
 match f with
 | .next => ∃ σ' H',Inv X pins σ' H' s' /\ D.nx σ' H'
 | .brk => ∃ σ' H',Inv X pins σ' H' s' /\ D.bk σ' H'
 | .cont => ∃ σ' H',Inv X pins σ' H' s' /\ D.ct σ' H'
 | .ret u => ∃ v σ' H',Inv X pins σ' H' s' /\ RelV v u /\ D.rt v H'
def PE (X : Cx) (e : Expr) (t : TE) : Prop:=
 ∀ (pins : List (Addr × Obj)) (s : Shared) (σ : St) (H : Hp) (Q : VK),Inv X pins σ H s -> t σ H Q -> wpAny (model X.prog X.w) X.A (eval e X.env) (EP X pins σ Q) X.xe s
def PT (X : Cx) (e : Expr) (t : TT) : Prop:=
 ∀ (pins : List (Addr × Obj)) (s : Shared) (σ : St) (H : Hp) (Q : Bool -> Hp -> Prop),Inv X pins σ H s -> t σ H Q -> wpAny (model X.prog X.w) X.A (isTrue e X.env (eval e X.env)) (TP X pins σ Q) X.xe s
def PW (X : Cx) (e : Expr) (t : TT) : Prop:=
 ∀ (whole : Sem Value) (pins : List (Addr × Obj)) (s : Shared) (σ : St) (H : Hp) (Q : Bool -> Hp -> Prop),Inv X pins σ H s -> t σ H Q -> wpAny (model X.prog X.w) X.A (isTrue e X.env whole) (TP X pins σ Q) X.xe s
theorem PW.pt {X : Cx} {e : Expr} {t : TT} (h : PW X e t) : PT X e t:=h _
def PA (X : Cx) (es : List Expr) (t : TA) : Prop:=
 ∀ (pos : Pos) (pins : List (Addr × Obj)) (s : Shared) (σ : St) (H : Hp) (Q : List V -> Hp -> Prop),Inv X pins σ H s -> t σ H Q -> wpAny (model X.prog X.w) X.A (spliced (backTo pos (starEach es X.env))) (AP X pins σ Q) X.xe s
def PS (X : Cx) (st : Stmt) (t : TS) : Prop:=
 ∀ (pins : List (Addr × Obj)) (s : Shared) (σ : St) (H : Hp) (D : Ends),Inv X pins σ H s -> t D σ H -> wpAny (model X.prog X.w) X.A (exec st X.env) (SP X pins D) X.xe s
def PSs (X : Cx) (st : List Stmt) (t : TS) : Prop:=
 ∀ (pins : List (Addr × Obj)) (s : Shared) (σ : St) (H : Hp) (D : Ends),Inv X pins σ H s -> t D σ H -> wpAny (model X.prog X.w) X.A (execs st X.env) (SP X pins D) X.xe s
theorem thn {α : Type} {t : Sem α} {Q Q' : α -> Shared -> Prop} {M : Model} {A : Around} {E : Value -> Shared -> Prop} {s : Shared} (h : wpAny M A t Q E s) (hQ : ∀ a s,Q a s -> Q' a s) : wpAny M A t Q' E s:=wpAny_mono h hQ fun _ _ x => x
end L2
namespace L2
open PySem PySem.Spec PyProof.Rows
section
variable {X : Cx}
def J6 (i : Nat) : TE:=fun σ H Q => ∃ v,σ[i]? = some (some v) /\ Q v H
def tC (v : V) : TE:=fun _ H Q => Q v H
theorem IY {i : Nat} {x : Str} {pos : Pos} (hN : X.N[i]? = some x) (hv : Vis X.env.scope x) (hd : (x == ("__debug__" : Str)) = false:=by decide) (hcd : (x == ("__classdict__" : Str)) = false:=by decide) : PE X (.Name x pos) (J6 i):=by
 intro pins s σ H Q I h
 obtain ⟨v,e,h⟩:=h
 obtain ⟨m,hn,hl⟩:=I.loc
 obtain ⟨u,r,l⟩:=hl i x v hN e hv
 have fin : EP X pins σ Q u s:=⟨v,H,I,r,h⟩
 rcases l with ⟨hk,hm⟩ | ⟨hk,c,hc,hcell⟩
 ·exact wpAny_Name (wpAny_loadName_local I.ok.kind hk hn hm fin) hd
 ·rcases hk with hk | hk
  ·exact wpAny_Name (wpAny_loadName_cell I.ok.kind hk hc hcell fin) hd
  ·exact wpAny_Name (wpAny_loadName_free I.ok.kind hk hc hcell fin hcd) hd
theorem ak {i j pos} : PE X (.Constant (.int i) j pos) (tC (.int i)):=fun _ _ _ H _ I h => wpAny_Constant_int ⟨.int i,H,I.tok _,⟨_,rfl⟩,h⟩
theorem cC {b j pos} : PE X (.Constant (.bool b) j pos) (tC (.bl b)):=fun _ _ _ H _ I h => Constant_bool ⟨.bl b,H,I,rfl,h⟩
theorem Co {x j pos} : PE X (.Constant (.str x) j pos) (tC (.str x)):=fun _ _ _ H _ I h => Calls.Constant_str ⟨.str x,H,I.tok _,⟨_,rfl⟩,h⟩
def Gl (X : Cx) (x : Str) : Prop:=X.env.kindOf x = some .globalImplicit
theorem kJ {E : Value -> Shared -> Prop} {pins : List (Addr × Obj)} {s : Shared} {σ : St} {H : Hp} {x : Str} {u : Value} {pos : Pos} {Q : Value -> Shared -> Prop} (I : Inv X pins σ H s) (hg : Gl X x) (hm : X.mg x = some u) (h : Q u s)
  (hd : (x == ("__debug__" : Str)) = false:=by decide) : wpAny (model X.prog X.w) X.A (eval (.Name x pos) X.env) Q E s:=
 Calls.Name_function_global I.ok.kind hg (Calls.loadGlobal_global (by rw [I.ok.glob]; exact I.mod.glob.keeps I.bk) hm h) hd
theorem kI {E : Value -> Shared -> Prop} {pins : List (Addr × Obj)} {s : Shared} {σ : St} {H : Hp} {x : Str} {u : Value} {pos : Pos} {Q : Value -> Shared -> Prop} (I : Inv X pins σ H s) (hg : Gl X x) (hm : X.mg x = none) (hv : bootBuiltins x = some u) (h : Q u s)
  (hn : x ≠ "__name__" := by decide) (hd : (x == ("__debug__" : Str)) = false:=by decide) : wpAny (model X.prog X.w) X.A (eval (.Name x pos) X.env) Q E s:=by
 obtain ⟨mb,h1,h2⟩:=I.mod.blt
 exact Calls.Name_function_global I.ok.kind hg (Calls.loadGlobal_builtin (by rw [I.ok.glob]; exact I.mod.glob.keeps I.bk) hm (by rw [I.ok.blt]; exact h1.keeps I.bk) ((h2 x hn).trans hv) h) hd
theorem eZ {x : Str} {v : V} {u : Value} {pos : Pos} (hg : Gl X x) (hm : X.mg x = some u) (r : RelV v u) (hd : (x == ("__debug__" : Str)) = false:=by decide) : PE X (.Name x pos) (tC v):=
 fun _ _ _ H _ I h => kJ I hg hm ⟨v,H,I,r,h⟩ hd
theorem iX {x : Str} {v : V} {u : Value} {pos : Pos} (hg : Gl X x) (hm : X.mg x = none) (hv : bootBuiltins x = some u) (r : RelV v u) (hn : x ≠ "__name__" := by decide) (hd : (x == ("__debug__" : Str)) = false:=by decide) : PE X (.Name x pos) (tC v):=
 fun _ _ _ H _ I h => kI I hg hm hv ⟨v,H,I,r,h⟩ hn hd
variable {a b : Expr} {ta tb : TE} {pos : Pos}
def PC (X : Cx) (op : CmpOp) (a b : Expr) (t : TE) : Prop:=
 ∀ (pins : List (Addr × Obj)) (s : Shared) (σ : St) (H : Hp) (Q : VK),Inv X pins σ H s -> t σ H Q ->
  wpAny (model X.prog X.w) X.A (eval a X.env) (fun v s₁ => wpAny (model X.prog X.w) X.A (eval b X.env) (fun u s₂ => wpAny (model X.prog X.w) X.A (compareOp op v u) (EP X pins σ Q) X.xe s₂) X.xe s₁) X.xe s
theorem FJ (b : Expr) {op : CmpOp} (h : op ≠ .In) (h2 : op ≠ .NotIn) : behindInMarks op b = false:=by
 have e1 : (op == CmpOp.In) = false:=by cases op <;> first | rfl | exact absurd rfl h
 have e2 : (op == CmpOp.NotIn) = false:=by cases op <;> first | rfl | exact absurd rfl h2
 cases b <;> simp [behindInMarks,e1,e2]
def tB (t : TE) : TT:=fun σ H Q => t σ H fun x H1 => ∃ c,x = .bl c /\ Q c H1
theorem Cu {op : CmpOp} {t : TE} (h : PC X op a b t) (h1 : behindInMarks op b = false:=by first | exact FJ _ (by decide) (by decide) | rfl) : PT X (.Compare a [op] [b] pos) (tB t):=by
 intro pins s σ H Q I hw
 refine wpAny_isTrue_Compare1 (thn (h pins s σ H _ I hw) fun v s1 h1 => thn h1 fun u s2 h2 => thn h2 fun c s3 ⟨x,H1,I1,r1,q1⟩ => ?_) h1
 obtain ⟨d,rfl,q⟩:=q1
 cases r1
 exact wpAny_truthy_bool ⟨H1,I1,q⟩
theorem fc {e : Expr} {t : TE} (h : PE X e t) (he : ∀ whole,isTrue e X.env whole = (do let v <- whole; standAt e.pos; holding [v] (truthy v)):=by intro _; rfl) : PT X e (tB t):=by
 intro pins s σ H Q I hw
 refine isTrue_plain (thn (h pins s σ H _ I hw) fun v s1 ⟨x,H1,I1,r1,q1⟩ => ?_) (he _)
 obtain ⟨d,rfl,q⟩:=q1
 cases r1
 exact wpAny_truthy_bool ⟨H1,I1,q⟩
variable {tA tB' : TT} {rest : List Expr}
def Kv (t u : TT) : TT:=fun σ H Q => t σ H fun c H1 => if c = true then u σ H1 Q else Q false H1
def tOr (t u : TT) : TT:=fun σ H Q => t σ H fun c H1 => if c = true then Q true H1 else u σ H1 Q
def KA (t : TT) : TT:=fun σ H Q => t σ H fun c H1 => Q (!c) H1
theorem mi (ha : PT X a tA) : PW X (.BoolOp .And [a] pos) tA:=by
 intro wh pins s σ H Q I h
 refine isTrue_and (thn (ha pins s σ H Q I h) fun c s1 e => ?_)
 cases c with
 | true => exact isTrue_and_nil e
 | false => exact e
theorem lP (ha : PT X a tA) : PW X (.BoolOp .Or [a] pos) tA:=by
 intro wh pins s σ H Q I h
 refine isTrue_or (thn (ha pins s σ H Q I h) fun c s1 e => ?_)
 cases c with
 | false => exact isTrue_or_nil e
 | true => exact e
theorem se (ha : PT X a tA) (hb : PW X (.BoolOp .And (b :: rest) pos) tB') : PW X (.BoolOp .And (a :: b :: rest) pos) (Kv tA tB'):=by
 intro wh pins s σ H Q I h
 refine isTrue_and (thn (ha pins s σ H _ I h) fun c s1 ⟨H1,I1,q1⟩ => ?_)
 cases c with
 | true => exact hb wh pins s1 σ H1 Q I1 q1
 | false => exact ⟨H1,I1,q1⟩
theorem kW (ha : PT X a tA) (hb : PW X (.BoolOp .Or (b :: rest) pos) tB') : PW X (.BoolOp .Or (a :: b :: rest) pos) (tOr tA tB'):=by
 intro wh pins s σ H Q I h
 refine isTrue_or (thn (ha pins s σ H _ I h) fun c s1 ⟨H1,I1,q1⟩ => ?_)
 cases c with
 | true => exact ⟨H1,I1,q1⟩
 | false => exact hb wh pins s1 σ H1 Q I1 q1
theorem fS (ha : PT X a tA) : PT X (.UnaryOp .Not a pos) (KA tA):=by
 intro pins s σ H Q I h
 exact isTrue_not (ha pins s σ H (fun c H1 => Q (!c) H1) I h)
def JV (ta tb : TE) : TE:=fun σ H Q => ta σ H fun x H1 => ∃ c,x = .bl c /\ if c = true then tb σ H1 Q else Q (.bl false) H1
def J0 (ta : TE) : TE:=fun σ H Q => ta σ H fun x H1 => ∃ c,x = .bl c /\ Q (.bl (!c)) H1
theorem Cn {op} {t : TE} (h : PE X a t) : PE X (.BoolOp op [a] pos) t:=fun pins s σ H Q I hw => BoolOp_one (h pins s σ H Q I hw)
theorem Cj (ha : PE X a ta) (hb : PE X (.BoolOp .And (b :: rest) pos) tb) : PE X (.BoolOp .And (a :: b :: rest) pos) (JV ta tb):=by
 intro pins s σ H Q I h
 refine BoolOp_and (thn (ha pins s σ H _ I h) fun v s1 ⟨x,H1,I1,r1,q1⟩ => ?_)
 obtain ⟨c,rfl,q1⟩:=q1
 cases r1
 refine wpAny_truthy_bool ?_
 cases c with
 | true => exact hb pins s1 σ H1 Q I1 q1
 | false => exact ⟨.bl false,H1,I1,rfl,q1⟩
theorem IX (ha : PE X a ta) : PE X (.UnaryOp .Not a pos) (J0 ta):=by
 intro pins s σ H Q I h
 refine UnaryOp_ (thn (ha pins s σ H _ I h) fun v s1 ⟨x,H1,I1,r1,q1⟩ => ?_)
 obtain ⟨c,rfl,q1⟩:=q1
 cases r1
 exact not_of (wpAny_truthy_bool ⟨.bl (!c),H1,I1,rfl,q1⟩)
end
end L2
namespace L2
open PySem PySem.Spec PyProof.Rows
def SqL (K : PySem.W.Frag) (H : Hp) (a : Addr) (xs : List V) : Prop:=
 Rd H a (.lst xs) \/
  ∃ (o : Obj) (its : Array Value) (n : Nat),K.lookup a = some o /\ o.cls = .type "list" /\ o.dict = none /\ o.data = .seq its n /\ its.size <= sizeLine /\ Vals xs its.toList
def SqT (K : PySem.W.Frag) (H : Hp) (a : Addr) (xs : List V) : Prop:=
 Rd H a (.tup xs) \/
  ∃ (o : Obj) (its : Array Value) (n : Nat),K.lookup a = some o /\ o.cls = .type "tuple" /\ o.data = .seq its n /\ its.size <= sizeLine /\ Vals xs its.toList
def Kf : Value -> Option V
 | .none => some .non
 | .bool b => some (.bl b)
 | .int i _ => some (.int i)
 | .str x _ => some (.str x)
 | .bytes b _ => some (.byt b)
 | .float b _ => some (.flt b)
 | .ref a => some (.ref a)
 | .type n => some (.ty n)
 | _ => none
theorem RelV.abs {x : V} {u : Value} (r : RelV x u) : Kf u = some x:=by
 cases x with
 | non => cases r; rfl
 | bl _ => cases r; rfl
 | int _ => obtain ⟨t,rfl⟩:=r; rfl
 | str _ => obtain ⟨t,rfl⟩:=r; rfl
 | byt _ => obtain ⟨t,rfl⟩:=r; rfl
 | flt _ => obtain ⟨t,rfl⟩:=r; rfl
 | ref _ => cases r; rfl
 | ty _ => cases r; rfl
theorem RelV.inj {x y : V} {u : Value} (r : RelV x u) (q : RelV y u) : x = y:=Option.some.inj (r.abs.symm.trans q.abs)
theorem Vals.inj : ∀ {xs ys : List V} {us : List Value},Vals xs us -> Vals ys us -> xs = ys
 | _,_,_,.nil,.nil => rfl
 | _,_,_,.cons r t,.cons r' t' => by rw [r.inj r',Vals.inj t t']
section
variable {X : Cx} {pins : List (Addr × Obj)} {σ : St} {H : Hp} {s : Shared} {a : Addr} {xs ys : List V}
theorem SqL.of {K : PySem.W.Frag} (h : H a = some (.lst xs)) : SqL K H a xs:=.inl (.inl h)
theorem SqT.of {K : PySem.W.Frag} (h : H a = some (.tup xs)) : SqT K H a xs:=.inl (.inl h)
theorem Inv.list (I : Inv X pins σ H s) (h : SqL X.K H a xs) : ∃ its : List Value,Vals xs its /\ PlainL s.heap a its.toArray /\ xs.length <= sizeLine:=by
 rcases h with h | ⟨o,its,n,hk,hc,hd,hs,hz,r⟩
 ·obtain ⟨z,its,n,r,e⟩:=h.ok I.hok
  exact ⟨its,r,⟨_,n,e,rfl,rfl,rfl⟩,z⟩
 ·refine ⟨its.toList,r,⟨o,n,I.kIn a o hk,hc,hd,by simpa using hs⟩,?_⟩
  have e:=r.length
  simp only [Array.length_toList] at e
  omega
theorem Inv.tuple (I : Inv X pins σ H s) (h : SqT X.K H a xs) : ∃ its : List Value,Vals xs its /\ IsTup s.heap a its.toArray /\ xs.length <= sizeLine:=by
 rcases h with h | ⟨o,its,n,hk,hc,hs,hz,r⟩
 ·obtain ⟨z,its,r,p⟩:=h.ok I.hok
  exact ⟨its,r,p,z⟩
 ·refine ⟨its.toList,r,⟨o,I.kIn a o hk,hc,n,by simpa using hs⟩,?_⟩
  have e:=r.length
  simp only [Array.length_toList] at e
  omega
theorem Inv.list_inj (I : Inv X pins σ H s) (h : SqL X.K H a xs) (h' : SqL X.K H a ys) : xs = ys:=by
 obtain ⟨its,r,⟨o,n,e,_,_,d⟩,_⟩:=I.list h
 obtain ⟨its',r',⟨o',n',e',_,_,d'⟩,_⟩:=I.list h'
 rw [e] at e'; cases e'
 rw [d] at d'
 injection d' with d1 _
 have : its = its' := by simpa using congrArg Array.toList d1
 subst this
 exact r.inj r'
theorem Inv.tuple_inj (I : Inv X pins σ H s) (h : SqT X.K H a xs) (h' : SqT X.K H a ys) : xs = ys:=by
 obtain ⟨its,r,⟨o,e,_,n,d⟩,_⟩:=I.tuple h
 obtain ⟨its',r',⟨o',e',_,n',d'⟩,_⟩:=I.tuple h'
 rw [e] at e'; cases e'
 rw [d] at d'
 injection d' with d1 _
 have : its = its' := by simpa using congrArg Array.toList d1
 subst this
 exact r.inj r'
end
abbrev Cx.wish (X : Cx) (E : Value -> Shared -> Prop) : Cx:={ X with xe:=E }
abbrev Cx.nox (X : Cx) : Cx:=X.wish fun _ _ => False
theorem Cx.Ok.wish {X : Cx} (ok : X.Ok) (E : Value -> Shared -> Prop) : (X.wish E).Ok:=
 ⟨ok.mod,ok.kind,ok.glob,ok.blt,ok.above,ok.inj,ok.has,ok.cab,ok.hd,ok.frames,ok.stk,ok.exf,ok.bs,ok.bsz,ok.noex,ok.exfs,ok.funs,ok.frf⟩
theorem Cx.Ok.unwish {X : Cx} {E : Value -> Shared -> Prop} (ok : (X.wish E).Ok) : X.Ok:=
 ⟨ok.mod,ok.kind,ok.glob,ok.blt,ok.above,ok.inj,ok.has,ok.cab,ok.hd,ok.frames,ok.stk,ok.exf,ok.bs,ok.bsz,ok.noex,ok.exfs,ok.funs,ok.frf⟩
section
variable {X : Cx} {pins : List (Addr × Obj)} {σ : St} {H : Hp} {s : Shared} {E : Value -> Shared -> Prop}
theorem Inv.wish (I : Inv X pins σ H s) (E : Value -> Shared -> Prop) : Inv (X.wish E) pins σ H s:=⟨I.ok.wish E,I.os,I.bare,I.base,I.loc,I.cell,I.free,I.freeC,I.pin,I.hok,I.len⟩
theorem Inv.unwish (I : Inv (X.wish E) pins σ H s) : Inv X pins σ H s:=⟨I.ok.unwish,I.os,I.bare,I.base,I.loc,I.cell,I.free,I.freeC,I.pin,I.hok,I.len⟩
theorem SP.unwish {D : Ends} {f : Flow} {s' : Shared} (h : SP (X.wish E) pins D f s') : SP X pins D f s' := by
 cases f with
 | next => obtain ⟨σ',H',I,q⟩:=h; exact ⟨σ',H',I.unwish,q⟩
 | brk => obtain ⟨σ',H',I,q⟩:=h; exact ⟨σ',H',I.unwish,q⟩
 | cont => obtain ⟨σ',H',I,q⟩:=h; exact ⟨σ',H',I.unwish,q⟩
 | ret u => obtain ⟨v,σ',H',I,r,q⟩:=h; exact ⟨v,σ',H',I.unwish,r,q⟩
theorem PSs.nox {st : List Stmt} {t : TS} (h : PSs X.nox st t) : PSs X st t:=fun pins s σ H D I hw =>
 wpAny_mono (h pins s σ H D (I.wish _) hw) (fun _ _ q => q.unwish) fun _ _ z => False.elim z
end
section
variable {X : Cx} {st : Stmt} {rest : List Stmt} {t u : TS} {e : Expr} {te : TE} {pos : Pos}
def dm : TS:=fun D σ H => D.nx σ H
def EU (t u : TS) : TS:=fun D σ H => t { D with nx:=u D } σ H
theorem aX : PSs X [] dm:=fun _ _ σ H _ I h => wpAny_execs_nil ⟨σ,H,I,h⟩
theorem ag (h1 : PS X st t) (h2 : PSs X rest u) : PSs X (st :: rest) (EU t u):=by
 intro pins s σ H D I h
 refine wpAny_execs_cons (thn (h1 pins s σ H { D with nx:=u D } I h) fun f s1 q => ?_)
 cases f with
 | next =>
  obtain ⟨σ',H',I',q⟩:=q
  exact h2 pins s1 σ' H' D I' q
 | ret v => exact q
 | brk => exact q
 | cont => exact q
theorem ao (h1 : PS X st t) : PSs X [st] t:=by
 intro pins s σ H D I h
 refine wpAny_execs_cons (thn (h1 pins s σ H D I h) fun f s1 q => ?_)
 cases f with
 | next => exact wpAny_execs_nil q
 | ret v => exact q
 | brk => exact q
 | cont => exact q
theorem Inv.quiet {pins : List (Addr × Obj)} {σ : St} {H : Hp} {s : Shared} (I : Inv X pins σ H s) : interactive X.env = false:=by simp [interactive,I.ok.kind]
def JZ (te : TE) : TS:=fun D σ H => te σ H fun _ H1 => D.nx σ H1
theorem bq (he : PE X e te) (hs : swapsWith e none pos.line X.env = pure false:=by rfl) : PS X (.Expr e pos) (JZ te):=by
 intro pins s σ H D I h
 exact wpAny_Expr_any (thn (he pins s σ H _ I h) fun v s1 ⟨x,H1,I1,r1,q1⟩ => ⟨σ,H1,I1,q1⟩) I.quiet hs
def J2 (te : TE) : TS:=fun D σ H => te σ H D.rt
theorem aI (he : PE X e te) : PS X (.Return (some e) pos) (J2 te):=by
 intro pins s σ H D I h
 exact wpAny_Return_some (thn (he pins s σ H _ I h) fun v s1 ⟨x,H1,I1,r1,q1⟩ => ⟨x,σ,H1,I1,r1,q1⟩)
def CN (c : TT) (t u : TS) : TS:=fun D σ H => c σ H fun b H1 => if b = true then t D σ H1 else u D σ H1
theorem bS {c : Expr} {a b : List Stmt} {tc : TT} (hc : PT X c tc) (ha : PSs X a t) (hb : PSs X b u) : PS X (.If c a b pos) (CN tc t u):=by
 intro pins s σ H D I h
 refine wpAny_If (thn (hc pins s σ H _ I h) fun d s1 ⟨H1,I1,q1⟩ => ?_)
 cases d with
 | true => exact ha pins s1 σ H1 D I1 q1
 | false => exact hb pins s1 σ H1 D I1 q1
def Jn : TS:=fun _ _ _ => False
theorem AD : PS X st Jn:=fun _ _ _ _ _ _ h => h.elim
end
abbrev TG:=V -> St -> Hp -> (St -> Hp -> Prop) -> Prop
abbrev TGs:=List V -> St -> Hp -> (St -> Hp -> Prop) -> Prop
def PG (X : Cx) (target : Expr) (t : TG) : Prop:=
 ∀ (pins : List (Addr × Obj)) (s : Shared) (σ : St) (H : Hp) (v : V) (u : Value) (Q : St -> Hp -> Prop),Inv X pins σ H s -> RelV v u -> t v σ H Q ->
  wpAny (model X.prog X.w) X.A (assign target X.env u) (fun _ s' => ∃ σ' H',Inv X pins σ' H' s' /\ Q σ' H') X.xe s
def PGs (X : Cx) (ts : List Expr) (t : TGs) : Prop:=
 ∀ (pins : List (Addr × Obj)) (s : Shared) (σ : St) (H : Hp) (vs : List V) (us : List Value) (Q : St -> Hp -> Prop),Inv X pins σ H s -> Vals vs us -> t vs σ H Q ->
  wpAny (model X.prog X.w) X.A (assignInOrder ((assignEach ts X.env).map (·.2)) us) (fun _ s' => ∃ σ' H',Inv X pins σ' H' s' /\ Q σ' H') X.xe s
abbrev Ij:=V -> V -> V -> Hp -> (Hp -> Prop) -> Prop
def Jx (X : Cx) (t : Ij) : Prop:=
 ∀ (pins : List (Addr × Obj)) (s : Shared) (σ : St) (H : Hp) (o i v : V) (ov iv u : Value) (Q : Hp -> Prop),Inv X pins σ H s -> RelV o ov -> RelV i iv -> RelV v u -> t o i v H Q ->
  wpAny (model X.prog X.w) X.A (setItem ov iv u) (fun _ s' => ∃ H',Inv X pins σ H' s' /\ Q H') X.xe s
section
variable {X : Cx} {pos : Pos}
def bB (i : Nat) : TG:=fun v σ H Q => Q (σ.set i (some v)) H
theorem ax {i : Nat} {x : Str} (hN : X.N.Nodup) (hi : X.N[i]? = some x) (hx : Loc X.env.scope x) (hf : X.fn x = true \/ X.env.scope.names.lookup x = some .local:=by first | exact .inl rfl | exact .inr rfl | assumption) : PG X (.Name x pos) (bB i):=by
 intro pins s σ H v u Q I r h
 exact wpAny_assign_Name (qk I hN hi hx r (fun s' I' => ⟨_,H,I',h⟩) hf)
def Ki : TGs:=fun vs σ H Q => vs = [] /\ Q σ H
def JD (t : TG) (u : TGs) : TGs:=fun vs σ H Q => ∃ v r,vs = v :: r /\ t v σ H fun σ' H' => u r σ' H' Q
theorem iY : PGs X [] Ki:=by
 intro pins s σ H vs us Q I r h
 obtain ⟨e,h⟩:=h
 subst e
 cases r
 exact assignInOrder_nil ⟨σ,H,I,h⟩
theorem bE {e : Expr} {es : List Expr} {t : TG} {u : TGs} (h1 : PG X e t) (h2 : PGs X es u)
  (hs : (assignEach (e :: es) X.env).map (·.2) = assign e X.env :: (assignEach es X.env).map (·.2):=by rfl) : PGs X (e :: es) (JD t u):=by
 intro pins s σ H vs us Q I r h
 obtain ⟨v,vr,e1,h⟩:=h
 subst e1
 cases r with
 | cons r rr =>
  rw [hs]
  refine assignInOrder_cons (thn (h1 pins s σ H _ _ _ I r h) fun _ s1 ⟨σ1,H1,I1,q1⟩ => ?_)
  exact h2 pins s1 σ1 H1 _ _ Q I1 rr q1
def JE (K : PySem.W.Frag) (n : Nat) (t : TGs) : TG:=fun v σ H Q => ∃ a xs,v = .ref a /\ SqT K H a xs /\ xs.length = n /\ t xs σ H Q
theorem oE {es : List Expr} {k : Nat} {t : TGs} {n : Nat} (hc : X.calm = true) (h : PGs X es t)
  (hn : (assignEach es X.env).length = n:=by rfl) (hst : (assignEach es X.env).findIdx? (·.1) = none:=by rfl) : PG X (.Tuple es k pos) (JE X.K n t):=by
 intro pins s σ H v u Q I r hw
 obtain ⟨a,xs,e1,hq,hl,hw⟩:=hw
 subst e1
 cases r
 obtain ⟨its,rv,ht,hz⟩:=I.tuple hq
 refine assign_Tuple_tuple (I.ok.hd hc) ht (by simp [hn,<- hl,rv.length]) hst fun h' hx => ?_
 have I1 : Inv X pins σ H { s with heap:=h' }:=I.kept (t' := s.toks) fun b o e => hx b o (Nat.ne_of_lt (Heap.lt_size e)) e
 exact h pins _ σ H xs _ Q I1 (by simpa using rv) hw
def Kj (to ti : TE) (t : Ij) : TG:=fun v σ H Q => to σ H fun o H1 => ti σ H1 fun i H2 => t o i v H2 fun H3 => Q σ H3
theorem I9 {o i : Expr} {to ti : TE} {t : Ij} (ho : PE X o to) (hi : PE X i ti) (hs : Jx X t)
  (ha : ∀ v,assign (.Subscript o i pos) X.env v = (do
   let ov <- holding [v] (eval o X.env)
   let iv <- holding [v,ov] (eval i X.env)
   standAt pos
   holding [v,ov,iv] (setItem ov iv v)
   release [v,ov,iv] []):=by intro _; rfl) : PG X (.Subscript o i pos) (Kj to ti t):=by
 intro pins s σ H v u Q I r h
 rw [ha]
 refine wpAny_bind (wpAny_holding (thn (ho pins s σ H _ I h) fun ov s1 ⟨x,H1,I1,r1,q1⟩ => ?_))
 refine wpAny_bind (wpAny_holding (thn (hi pins s1 σ H1 _ I1 q1) fun iv s2 ⟨y,H2,I2,r2,q2⟩ => ?_))
 refine wpAny_bind (wpAny_standAt (wpAny_bind (wpAny_holding (thn (hs pins s2 σ H2 x y v ov iv u _ I2 r1 r2 r q2) fun _ s3 ⟨H3,I3,q3⟩ => ?_))))
 exact wpAny_release ⟨σ,H3,I3,q3⟩
def ue (te : TE) (g : TG) : TS:=fun D σ H => te σ H fun x H1 => g x σ H1 D.nx
theorem y1 {tg e : Expr} {te : TE} {g : TG} (he : PE X e te) (hg : PG X tg g) (hs : swapsWithSole [tg] e pos.line X.env = pure false:=by rfl) (hw : swappedStores [tg] e X.env = pure none:=by rfl)
  (h1 : (assignEach [tg] X.env).map (·.2) = [assign tg X.env]:=by rfl) : PS X (.Assign [tg] e pos) (ue te g):=by
 intro pins s σ H D I h
 refine wpAny_Assign_stores (thn (he pins s σ H _ I h) fun v s1 ⟨x,H1,I1,r1,q1⟩ => ?_) hs hw
 rw [h1]
 exact thn (hg pins s1 σ H1 x v _ I1 r1 q1) fun _ s2 q => q
theorem au {i : Nat} {x : Str} {e : Expr} {te : TE} {pos' : Pos} (hN : X.N.Nodup) (hi : X.N[i]? = some x) (hx : Loc X.env.scope x) (he : PE X e te) (hs : swapsWith e (some (.Name x pos')) pos.line X.env = pure false:=by rfl) (hf : X.fn x = true \/ X.env.scope.names.lookup x = some .local:=by first | exact .inl rfl | exact .inr rfl | assumption) :
  PS X (.Assign [.Name x pos'] e pos) (ue te (bB i)):=by
 intro pins s σ H D I h
 refine wpAny_Assign_Name (thn (he pins s σ H _ I h) fun v s1 ⟨y,H1,I1,r1,q1⟩ => ?_) hs
 exact qk I1 hN hi hx r1 (fun s2 I2 => ⟨_,H1,I2,q1⟩) hf
end
section
variable {X : Cx} {pos : Pos}
def lU (c : TT) (tb : TS) : TS:=fun D σ H => ∃ W : Nat -> St -> Hp -> Prop,(∃ m,W m σ H) /\ ∀ m σ H,W m σ H ->
 c σ H fun b H1 => if b = true then ∃ N : St -> Hp -> Prop,(∀ σ' H',N σ' H' -> ∃ m',m' < m /\ W m' σ' H') /\ tb { D with nx:=N,ct:=N,bk:=D.nx } σ H1 else D.nx σ H1
theorem jB {c : Expr} {body : List Stmt} {tc : TT} {tb : TS} (hp : PassesOwn (model X.prog X.w) X.A X.env X.xe) (hc : PT X c tc) (hb : PSs X body tb) : PS X (.While c body [] pos) (lU tc tb):=by
 intro pins s σ H D I h
 obtain ⟨W,⟨m0,w0⟩,turn⟩:=h
 refine wpAny_While (codeAny_whileLoop (fun n s' => ∃ σ' H',Inv X pins σ' H' s' /\ W n σ' H') ?_ m0 ⟨σ,H,I,w0⟩)
 rintro n s1 ⟨σ1,H1,I1,w1⟩
 refine wpAny_passesOwn hp (thn (hc pins s1 σ1 H1 _ I1 (turn n σ1 H1 w1)) fun b s2 ⟨H2,I2,q2⟩ => ?_)
 cases b with
 | true =>
  obtain ⟨N,hN,q2⟩:=q2
  rw [if_pos rfl]
  refine wpAny_passesOwn hp (thn (hb pins s2 σ1 H2 _ I2 q2) fun f s3 q3 => ?_)
  cases f with
  | next =>
   obtain ⟨σ3,H3,I3,n3⟩:=q3
   obtain ⟨m',hm,w3⟩:=hN σ3 H3 n3
   exact ⟨m',hm,σ3,H3,I3,w3⟩
  | cont =>
   obtain ⟨σ3,H3,I3,n3⟩:=q3
   obtain ⟨m',hm,w3⟩:=hN σ3 H3 n3
   exact ⟨m',hm,σ3,H3,I3,w3⟩
  | brk => exact q3
  | ret v => exact q3
 | false =>
  rw [if_neg Bool.false_ne_true]
  exact wpAny_execs_nil ⟨σ1,H2,I2,q2⟩
end
structure It where
 go : Nat -> Hp -> Prop
 yld : Nat -> Hp -> V -> Hp -> Prop
 stop : Nat -> Hp -> Prop
def mR (X : Cx) (pins : List (Addr × Obj)) (H : Hp) (b : Addr) : Prop:=
 H b = none /\ b ≠ X.env.locals /\ b ∉ X.fs /\ (b ∈ X.ex \/ X.s₀.heap.objs.size <= b) /\ (∀ x c,X.env.cells.lookup x = some c -> c ≠ b) /\ ∀ p ∈ X.pn ++ pins,p.1 ≠ b
theorem Inv.fpOk {X : Cx} {pins : List (Addr × Obj)} {σ : St} {H H' : Hp} {s : Shared} {b : Addr} (I : Inv X pins σ H s) (hb : s.heap.objs.size <= b) (hn : H' b = none) : mR X pins H' b:=by
 refine ⟨hn,Nat.ne_of_gt (Nat.lt_of_lt_of_le I.lt hb),I.nofs hb,.inr (Nat.le_trans I.sz hb),fun x c e z => ?_,fun p hp z => ?_⟩
 ·obtain ⟨v,q⟩:=I.cell x c e
  exact absurd (Nat.lt_of_lt_of_le q.lt (by rw [z]; exact hb)) (Nat.lt_irrefl _)
 ·exact absurd (Nat.lt_of_lt_of_le (Heap.lt_size (I.pin p hp).1) (by rw [z]; exact hb)) (Nat.lt_irrefl _)
structure Turn (P : Program) (w : World) (K : PySem.W.Frag) (tg : Expr) (J : It) (fp : List Addr) (it : Addr) (tn : Nat -> Heap -> Prop) : Prop where
 mem : it ∈ fp
 obj : ∀ i h,tn i h -> ∀ b ∈ fp,∃ o,h.get? b = some o /\ ∀ v,o.data ≠ .cell v
 keep : ∀ i h h',tn i h -> (∀ b ∈ fp,∀ o,h.get? b = some o -> h'.get? b = some o) -> tn i h'
 item : ∀ (X : Cx),X.prog = P -> X.w = w -> X.K = K -> X.calm = true -> ∀ (i : Nat) (pins : List (Addr × Obj)) (s : Shared) (σ : St) (H : Hp) (E : Value -> Shared -> Prop),Inv X pins σ H s -> (∀ b ∈ fp,mR X pins H b) -> tn i s.heap -> J.go i H ->
  wpAny (model P w) X.A (pyNext (.ref it)) (fun r s1 => ∃ u,r = some u /\
   wpAny (model P w) X.A (letOwnedTupleGo tg (.ref it) u) (fun _ s2 => ∃ x H',Inv X pins σ H' s2 /\ RelV x u /\ J.yld i H x H' /\ tn (i + 1) s2.heap /\ ∀ b ∈ fp,H' b = none) E s1) E s
 done : ∀ (X : Cx),X.prog = P -> X.w = w -> X.K = K -> X.calm = true -> ∀ (i : Nat) (pins : List (Addr × Obj)) (s : Shared) (σ : St) (H : Hp) (E : Value -> Shared -> Prop),Inv X pins σ H s -> (∀ b ∈ fp,mR X pins H b) -> tn i s.heap -> J.stop i H ->
  wpAny (model P w) X.A (pyNext (.ref it)) (fun r s1 => r = none /\ Inv X pins σ H s1) E s
 self : ∀ (A : Around) (i : Nat) (s : Shared) (Q : Value -> Shared -> Prop) (E : Value -> Shared -> Prop),tn i s.heap -> Q (.ref it) s -> wpAny (model P w) A (pyIter (.ref it)) Q E s
abbrev TI:=St -> Hp -> (It -> Hp -> Prop) -> Prop
def PIE (X : Cx) (pins : List (Addr × Obj)) (σ : St) (tg : Expr) (R : It -> Hp -> Prop) (itv : Value) (s2 : Shared) : Prop:=
 ∃ (it : Addr) (fp : List Addr) (tn : Nat -> Heap -> Prop) (J : It) (H' : Hp),itv = .ref it /\ Inv X pins σ H' s2 /\ Turn X.prog X.w X.K tg J fp it tn /\ tn 0 s2.heap /\ (∀ b ∈ fp,mR X pins H' b) /\ R J H'
def PI (X : Cx) (tg iter : Expr) (wi : TI) : Prop:=
 ∀ (pins : List (Addr × Obj)) (s : Shared) (σ : St) (H : Hp) (R : It -> Hp -> Prop),Inv X pins σ H s -> wi σ H R ->
  wpAny (model X.prog X.w) X.A (eval iter X.env) (fun v s1 => wpAny (model X.prog X.w) X.A (pyIter v) (PIE X pins σ tg R) X.xe s1) X.xe s
theorem zX {M : Model} {A : Around} {E : Value -> Shared -> Prop} {s : Shared} {tg : Expr} {it : Addr} {u : Value} {o : Obj} {n : String} {vs : Array Value} {Q : Unit -> Shared -> Prop} (ho : s.heap.get? it = some o) (hc : o.cls = .type n) (hd : o.data = .fields vs)
  (hn : ["enumerate","zip","dict_itemiterator","dict_reverseitemiterator","odict_iterator","itertools.zip_longest","itertools.pairwise"].contains n = false) (hQ : Q () s) : wpAny M A (letOwnedTupleGo tg (.ref it) u) Q E s:=by
 unfold letOwnedTupleGo
 cases tg <;> first
  | exact wpAny_pure hQ
  | (cases u <;> first
    | exact wpAny_pure hQ
    | (refine wpAny_bind (wpAny_load ho ?_)
       rw [hc,hd]
       show wpAny M A (if (["enumerate","zip","dict_itemiterator","dict_reverseitemiterator","odict_iterator","itertools.zip_longest","itertools.pairwise"].contains n && vs[0]? == some (rawInt _)) = true then _ else _) Q E s
       rw [if_neg (by intro h; rw [hn,Bool.false_and] at h; cases h)]
       exact wpAny_pure hQ))
def Itl (K : PySem.W.Frag) (a : Addr) : It:=
 ⟨fun i H => ∃ xs x,SqL K H a xs /\ xs[i]? = some x,fun i H x H' => H' = H /\ ∀ xs,SqL K H a xs -> xs[i]? = some x,fun i H => ∃ xs,SqL K H a xs /\ xs.length <= i⟩
def Itt (K : PySem.W.Frag) (a : Addr) : It:=
 ⟨fun i H => ∃ xs x,SqT K H a xs /\ xs[i]? = some x,fun i H x H' => H' = H /\ ∀ xs,SqT K H a xs -> xs[i]? = some x,fun i H => ∃ xs,SqT K H a xs /\ xs.length <= i⟩
def Itr (lo : Int) (n : Nat) : It:=⟨fun i _ => i < n,fun i H x H' => H' = H /\ x = .int (lo + i),fun i _ => n <= i⟩
theorem EW {P : Program} {w : World} {K : PySem.W.Frag} {tg : Expr} (a it : Addr) : Turn P w K tg (Itl K a) [it] it (fun i h => h.IsListIter it a i) where
 mem:=by simp
 obj:=fun i h st b hb => by
  have e : b = it:=by simpa using hb
  subst e
  obtain ⟨o,e,c,d⟩:=st
  exact ⟨o,e,fun v z => by rw [d] at z; cases z⟩
 keep:=fun i h h' st k => st.at fun o e => k it (by simp) o e
 item:=by
  intro X hP hw hK hc i pins s σ H E I hf st hg
  subst hP hw hK
  obtain ⟨xs,x,hq,hx⟩:=hg
  obtain ⟨its,rv,p,hz⟩:=I.list hq
  obtain ⟨u,hu,ru⟩:=rv.get hx
  obtain ⟨f0,f1,f2,f3,f4,f5⟩:=hf it (by simp)
  refine wpAny_pyNext_list_item st p.isList (x:=u) (by simpa using hu) fun h' st' sb => ?_
  have I1 : Inv X pins σ H { s with heap:=h' }:=I.turned (t' := s.toks) (fun b o hb e => (sb.2 b hb).trans e) f0 f1 f3 f4 f5
  obtain ⟨o,e,c,d⟩:=id st'
  exact ⟨u,rfl,zX (s:={ s with heap:=h' }) e c d (by decide) ⟨x,H,I1,ru,⟨rfl,fun ys hy => by rw [I.list_inj hy hq]; exact hx⟩,st',fun b hb => (hf b hb).1⟩⟩
 done:=by
  intro X hP hw hK hc i pins s σ H E I hf st hg
  subst hP hw hK
  obtain ⟨xs,hq,hx⟩:=hg
  obtain ⟨its,rv,p,hz⟩:=I.list hq
  obtain ⟨f0,f1,f2,f3,f4,f5⟩:=hf it (by simp)
  have hl:=rv.length
  exact wpAny_pyNext_list_end (I.ok.hd hc) st p.isList (by simp; omega) fun h' eb => ⟨rfl,I.turned (t' := s.toks) (fun b o hb e => eb b o hb e) f0 f1 f3 f4 f5⟩
 self:=fun _ _ _ _ _ st h => wpAny_pyIter_listiter st h
theorem CV {P : Program} {w : World} {K : PySem.W.Frag} {tg : Expr} (a it : Addr) : Turn P w K tg (Itt K a) [it] it (fun i h => h.IsTupleIter it a i) where
 mem:=by simp
 obj:=fun i h st b hb => by
  have e : b = it:=by simpa using hb
  subst e
  obtain ⟨o,e,c,d⟩:=st
  exact ⟨o,e,fun v z => by rw [d] at z; cases z⟩
 keep:=fun i h h' st k => st.at fun o e => k it (by simp) o e
 item:=by
  intro X hP hw hK hc i pins s σ H E I hf st hg
  subst hP hw hK
  obtain ⟨xs,x,hq,hx⟩:=hg
  obtain ⟨its,rv,p,hz⟩:=I.tuple hq
  obtain ⟨u,hu,ru⟩:=rv.get hx
  obtain ⟨f0,f1,f2,f3,f4,f5⟩:=hf it (by simp)
  refine wpAny_pyNext_tuple_item st (show s.heap.IsTuple a its.toArray from p) (x:=u) (by simpa using hu) fun h' st' sb => ?_
  have I1 : Inv X pins σ H { s with heap:=h' }:=I.turned (t' := s.toks) (fun b o hb e => (sb.2 b hb).trans e) f0 f1 f3 f4 f5
  obtain ⟨o,e,c,d⟩:=id st'
  exact ⟨u,rfl,zX (s:={ s with heap:=h' }) e c d (by decide) ⟨x,H,I1,ru,⟨rfl,fun ys hy => by rw [I.tuple_inj hy hq]; exact hx⟩,st',fun b hb => (hf b hb).1⟩⟩
 done:=by
  intro X hP hw hK hc i pins s σ H E I hf st hg
  subst hP hw hK
  obtain ⟨xs,hq,hx⟩:=hg
  obtain ⟨its,rv,p,hz⟩:=I.tuple hq
  obtain ⟨f0,f1,f2,f3,f4,f5⟩:=hf it (by simp)
  have hl:=rv.length
  exact wpAny_pyNext_tuple_end (I.ok.hd hc) st (show s.heap.IsTuple a its.toArray from p) (by simp; omega) fun h' eb => ⟨rfl,I.turned (t' := s.toks) (fun b o hb e => eb b o hb e) f0 f1 f3 f4 f5⟩
 self:=fun _ _ _ _ _ st h => wpAny_pyIter_tupleiter st h
theorem CU {P : Program} {w : World} {K : PySem.W.Frag} {tg : Expr} (it : Addr) (lo : Int) (n : Nat) : Turn P w K tg (Itr lo n) [it] it (fun i h => IsRangeIter h it (lo + (i : Nat) * 1) ((n : Int) - (i : Nat)) 1) where
 mem:=by simp
 obj:=fun i h st b hb => by
  have e : b = it:=by simpa using hb
  subst e
  exact ⟨_,st,fun v z => by
   have z' : Data.fields _ = Data.cell v:=z
   cases z'⟩
 keep:=fun i h h' st k => k it (by simp) _ st
 item:=by
  intro X hP hw hK hc i pins s σ H E I hf st hg
  subst hP hw hK
  obtain ⟨f0,f1,f2,f3,f4,f5⟩:=hf it (by simp)
  have W:=Walks.range (prog:=X.prog) (w:=X.w) (I.ok.hd hc) it lo 1 n
  refine W.item i s _ _ hg st fun v h' tk hv st' kk => ?_
  obtain ⟨t,rfl⟩:=hv
  have I1 : Inv X pins σ H { s with heap:=h',toks:=tk }:=I.turned (fun b o hb e => kk b o (by simpa using hb) e) f0 f1 f3 f4 f5
  refine ⟨_,rfl,zX (s:={ s with heap:=h',toks:=tk }) (n := "range_iterator") st' rfl rfl (by decide) ⟨.int (lo + i),H,I1,⟨t,?_⟩,⟨rfl,rfl⟩,st',fun b hb => (hf b hb).1⟩⟩
  rw [Int.mul_one]
 done:=by
  intro X hP hw hK hc i pins s σ H E I hf st hg
  subst hP hw hK
  obtain ⟨f0,f1,f2,f3,f4,f5⟩:=hf it (by simp)
  exact wpAny_pyNext_range_end (I.ok.hd hc) st (by have : n <= i:=hg; omega) fun h' eb => ⟨rfl,I.turned (t' := s.toks) (fun b o hb e => eb b o hb e) f0 f1 f3 f4 f5⟩
 self:=fun _ _ _ _ _ st h => wpAny_pyIter_rangeiter st h
end L2
namespace L2
open PySem PySem.Spec PyProof.Rows
section
variable {X : Cx} {tg : Expr}
def JG (K : PySem.W.Frag) (tl : TE) : TI:=fun σ H R => tl σ H fun x H1 => ∃ a,x = .ref a /\ (∃ xs,SqL K H1 a xs) /\ R (Itl K a) H1
def Kl (K : PySem.W.Frag) (tl : TE) : TI:=fun σ H R => tl σ H fun x H1 => ∃ a,x = .ref a /\ (∃ xs,SqT K H1 a xs) /\ R (Itt K a) H1
theorem ck {l : Expr} {tl : TE} (hl : PE X l tl) : PI X tg l (JG X.K tl):=by
 intro pins s σ H R I h
 refine thn (hl pins s σ H _ I h) fun v s1 ⟨x,H1,I1,r1,q1⟩ => ?_
 obtain ⟨a,e,⟨xs,hq⟩,q⟩:=q1
 subst e
 cases r1
 obtain ⟨its,rv,p,hz⟩:=I1.list hq
 refine wpAny_pyIter_list p.isList ?_
 refine ⟨s1.heap.objs.size,[s1.heap.objs.size],_,_,H1,rfl,I1.kept (t' := s1.toks) fun b o e => Heap.get?_push_of_some _ e,EW a _,⟨_,Heap.get?_push_size _ rfl,rfl,rfl⟩,fun b hb => ?_,q⟩
 have e : b = s1.heap.objs.size:=by simpa using hb
 subst e
 exact I1.fpOk (Nat.le_refl _) (I1.hok.fresh (Nat.le_refl _))
theorem kM {l : Expr} {tl : TE} (hl : PE X l tl) : PI X tg l (Kl X.K tl):=by
 intro pins s σ H R I h
 refine thn (hl pins s σ H _ I h) fun v s1 ⟨x,H1,I1,r1,q1⟩ => ?_
 obtain ⟨a,e,⟨xs,hq⟩,q⟩:=q1
 subst e
 cases r1
 obtain ⟨its,rv,p,hz⟩:=I1.tuple hq
 refine wpAny_pyIter_tuple (show s1.heap.IsTuple a its.toArray from p) ?_
 refine ⟨s1.heap.objs.size,[s1.heap.objs.size],_,_,H1,rfl,I1.kept (t' := s1.toks) fun b o e => Heap.get?_push_of_some _ e,CV a _,⟨_,Heap.get?_push_size _ rfl,rfl,rfl⟩,fun b hb => ?_,q⟩
 have e : b = s1.heap.objs.size:=by simpa using hb
 subst e
 exact I1.fpOk (Nat.le_refl _) (I1.hok.fresh (Nat.le_refl _))
theorem GB {pins : List (Addr × Obj)} {σ : St} {H : Hp} {s : Shared} {R : It -> Hp -> Prop} {E : Value -> Shared -> Prop} {lo hi : Int} {t u v : Tok} {tk : Nat} (I : Inv X pins σ H s) (h1 : -(2 ^ 62) <= lo) (h2 : lo < 2 ^ 62) (h3 : -(2 ^ 62) <= hi) (h4 : hi < 2 ^ 62)
  (q : R (Itr lo (hi - lo).toNat) H) : wpAny (model X.prog X.w) X.A (pyIter (.ref s.heap.objs.size)) (PIE X pins σ tg R) E { s with heap:=s.heap.push { cls:=.type "range",data:=.fields #[.int lo t,.int hi u,.int 1 v] },toks:=tk }:=by
 refine wpAny_pyIter_range (IsRange.new ..) (small_one h1 h2 h3 h4) ?_
 have I1 : Inv X pins σ H { s with heap:=s.heap.push { cls:=.type "range",data:=.fields #[.int lo t,.int hi u,.int 1 v] },toks:=tk }:=I.kept fun b o e => Heap.get?_push_of_some _ e
 refine ⟨(s.heap.push { cls:=.type "range",data:=.fields #[.int lo t,.int hi u,.int 1 v] }).objs.size,[(s.heap.push { cls:=.type "range",data:=.fields #[.int lo t,.int hi u,.int 1 v] }).objs.size],_,_,H,rfl,
  I1.kept (t' := tk) fun b o e => Heap.get?_push_of_some _ e,CU _ lo (hi - lo).toNat,?_,fun b hb => ?_,q⟩
 ·have e1 : lo + ((0 : Nat) : Int) * 1 = lo:=by simp
  have e2 : (((hi - lo).toNat : Nat) : Int) - ((0 : Nat) : Int) = Builtin.Range.rangeSize lo hi 1:=by rw [rangeSize_one]; split <;> omega
  show IsRangeIter _ _ (lo + ((0 : Nat) : Int) * 1) ((((hi - lo).toNat : Nat) : Int) - ((0 : Nat) : Int)) 1
  rw [e1,e2]
  exact Heap.get?_push_size _ rfl
 ·have e : b = (s.heap.push { cls:=.type "range",data:=.fields #[.int lo t,.int hi u,.int 1 v] }).objs.size:=by simpa using hb
  subst e
  exact I1.fpOk (Nat.le_refl _) (I1.hok.fresh (Nat.le_refl _))
def JH (ta : TA) : TI:=fun σ H R => ta σ H fun vs H1 => ∃ j : Int,vs = [.int j] /\ -(2 ^ 62) <= j /\ j < 2 ^ 62 /\ R (Itr 0 j.toNat) H1
theorem bA {a : Expr} {ta : TA} {p pos : Pos} (hg : Gl X "range") (hm : X.mg "range" = none) (ha : PA X [a] ta) (hs : starEach [a] X.env = [(false,eval a X.env)]:=by rfl) : PI X tg (.Call (.Name "range" p) [a] [] pos) (JH ta):=by
 intro pins s σ H R I h
 refine Call_ (kI I hg hm boot_range (PyProof.Rows.callWith_type1 (thn (ha pos pins s σ H _ I h) fun us s1 ⟨vs,H1,I1,r1,q1⟩ => ?_) hs rfl))
 obtain ⟨j,e,q1,q2,q⟩:=q1
 subst e
 cases r1 with
 | cons r rr =>
  cases rr
  obtain ⟨t,rfl⟩:=r
  exact call_range_1 (GB I1 (by omega) (by omega) q1 q2 (by simpa using q))
def oX (wi : TI) (g : TG) (tb : TS) : TS:=fun D σ H => wi σ H fun J H1 => ∃ W : Nat -> Nat -> St -> Hp -> Prop,(∃ m,W 0 m σ H1) /\ ∀ i m σ H,W i m σ H ->
 (J.stop i H /\ D.nx σ H) \/ (J.go i H /\ ∃ N : St -> Hp -> Prop,(∀ σ' H',N σ' H' -> ∃ m',m' < m /\ W (i + 1) m' σ' H') /\ ∀ x H',J.yld i H x H' -> g x σ H' fun σ2 H2 => tb { D with nx:=N,ct:=N,bk:=D.nx } σ2 H2)
def yZ (fp : List Addr) (h : Heap) : List (Addr × Obj):=fp.filterMap fun b => (h.get? b).map fun o => (b,o)
theorem kL {fp : List Addr} {h : Heap} {b : Addr} {o : Obj} (hb : b ∈ fp) (e : h.get? b = some o) : (b,o) ∈ yZ fp h:=List.mem_filterMap.mpr ⟨b,hb,by rw [e]; rfl⟩
theorem Es {fp : List Addr} {h : Heap} {p : Addr × Obj} (hp : p ∈ yZ fp h) : p.1 ∈ fp /\ h.get? p.1 = some p.2:=by
 obtain ⟨b,hb,e⟩:=List.mem_filterMap.mp hp
 cases q : h.get? b with
 | none => rw [q] at e; cases e
 | some o =>
  rw [q] at e
  have e' : (b,o) = p:=Option.some.inj e
  subst e'
  exact ⟨hb,q⟩
theorem Inv.pinned {pins : List (Addr × Obj)} {σ : St} {H : Hp} {s : Shared} {fp : List Addr} (I : Inv X pins σ H s) (hf : ∀ b ∈ fp,mR X pins H b) (ho : ∀ b ∈ fp,∃ o,s.heap.get? b = some o /\ ∀ v,o.data ≠ .cell v) : Inv X (pins ++ yZ fp s.heap) σ H s:=
 I.pins_of fun p hp => (List.mem_append.mp hp).elim (fun z => I.pin p (List.mem_append_right _ z)) fun z => by
  obtain ⟨hb,e⟩:=Es z
  obtain ⟨f0,f1,f2,_⟩:=hf p.1 hb
  obtain ⟨o,e',d⟩:=ho p.1 hb
  rw [e] at e'; cases e'
  exact ⟨e,f0,f1,f2,d⟩
theorem Inv.unpinned {pins pl : List (Addr × Obj)} {σ : St} {H : Hp} {s : Shared} (I : Inv X (pins ++ pl) σ H s) : Inv X pins σ H s:=I.pins_of fun p hp => I.pin p (List.mem_append_right _ (List.mem_append_left _ hp))
theorem bu {iter : Expr} {body : List Stmt} {wi : TI} {g : TG} {tb : TS} {pos : Pos} (hp : PassesOwn (model X.prog X.w) X.A X.env X.xe) (hc : X.calm = true) (hi : PI X tg iter wi) (hg : PG X tg g) (hb : PSs X body tb)
  (hs : ∀ x,foldedSetIterable iter X.env x = pure x:=by intro _; rfl) : PS X (.For tg iter body [] pos) (oX wi g tb):=by
 intro pins s σ H D I h
 refine wpAny_For (thn (hi pins s σ H _ I h) fun v s1 h1 => thn h1 fun itv s2 h2 => ?_) hs
 obtain ⟨it,fp,tn,J,H2,e,I2,T,st2,f2,W,⟨m0,w0⟩,turn⟩:=h2
 subst e
 have stat : ∀ {H' : Hp},(∀ b ∈ fp,H' b = none) -> ∀ b ∈ fp,mR X pins H' b:=fun hn b hb => ⟨hn b hb,(f2 b hb).2⟩
 refine codeAny_forLoop_any (fun n s' => ∃ i σ' H',Inv X pins σ' H' s' /\ tn i s'.heap /\ (∀ b ∈ fp,H' b = none) /\ W i n σ' H') ?_ m0 ⟨0,σ,H2,I2,st2,fun b hb => (f2 b hb).1,w0⟩
 rintro n s3 ⟨i,σ3,H3,I3,st3,fr3,w3⟩
 rcases turn i n σ3 H3 w3 with ⟨stop,qn⟩ | ⟨go,N,hN,step⟩
 ·refine wpAny_passesOwn hp (thn (T.done X rfl rfl rfl hc i pins s3 σ3 H3 X.xe I3 (stat fr3) st3 stop) fun r s4 ⟨hr,I4⟩ => ?_)
  subst hr
  exact wpAny_execs_nil ⟨σ3,H3,I4,qn⟩
 ·refine wpAny_passesOwn hp (thn (T.item X rfl rfl rfl hc i pins s3 σ3 H3 X.xe I3 (stat fr3) st3 go) fun r s4 ⟨u,hr,h4⟩ => ?_)
  subst hr
  refine wpAny_passesOwn hp (thn h4 fun _ s5 ⟨x,H5,I5,r5,y5,st5,fr5⟩ => ?_)
  have I5' := I5.pinned (stat fr5) (T.obj _ _ st5)
  refine wpAny_passesOwn hp (thn (hg _ s5 σ3 H5 x u _ I5' r5 (step x H5 y5)) fun _ s6 ⟨σ6,H6,I6,q6⟩ => ?_)
  refine wpAny_passesOwn hp (thn (hb _ s6 σ6 H6 _ I6 q6) fun f s7 q7 => ?_)
  have again : ∀ {σ7 : St} {H7 : Hp},Inv X (pins ++ yZ fp s5.heap) σ7 H7 s7 -> N σ7 H7 -> ∃ m,m < n /\ ∃ i σ' H',Inv X pins σ' H' s7 /\ tn i s7.heap /\ (∀ b ∈ fp,H' b = none) /\ W i m σ' H' := fun {σ7 H7} I7 n7 => by
   obtain ⟨m',hm,w7⟩:=hN σ7 H7 n7
   refine ⟨m',hm,i + 1,σ7,H7,I7.unpinned,T.keep _ _ _ st5 fun b hb o e => (I7.pin (b,o) (List.mem_append_right _ (List.mem_append_right _ (kL hb e)))).1,fun b hb => ?_,w7⟩
   obtain ⟨o,e,d⟩:=T.obj _ _ st5 b hb
   exact (I7.pin (b,o) (List.mem_append_right _ (List.mem_append_right _ (kL hb e)))).2.1
  cases f with
  | next => obtain ⟨σ7,H7,I7,n7⟩:=q7; exact again I7 n7
  | cont => obtain ⟨σ7,H7,I7,n7⟩:=q7; exact again I7 n7
  | brk => obtain ⟨σ7,H7,I7,q7⟩:=q7; exact ⟨σ7,H7,I7.unpinned,q7⟩
  | ret v => obtain ⟨x7,σ7,H7,I7,r7,q7⟩:=q7; exact ⟨x7,σ7,H7,I7.unpinned,r7,q7⟩
end
theorem dz {K : PySem.W.Frag} {a : Addr} {xs : List V} {g : TG} {tb : TS} {D : Ends} {σ : St} {H : Hp} (Pv : Nat -> St -> Hp -> Prop) (h0 : Pv 0 σ H) (hl : ∀ i σ H,i <= xs.length -> Pv i σ H -> SqL K H a xs)
  (hs : ∀ i x σ H,xs[i]? = some x -> Pv i σ H -> g x σ H fun σ2 H2 => tb { D with nx:=Pv (i + 1),ct:=Pv (i + 1),bk:=D.nx } σ2 H2) (hd : ∀ σ H,Pv xs.length σ H -> D.nx σ H) :
  ∃ W : Nat -> Nat -> St -> Hp -> Prop,(∃ m,W 0 m σ H) /\ ∀ i m σ H,W i m σ H ->
   ((Itl K a).stop i H /\ D.nx σ H) \/ ((Itl K a).go i H /\ ∃ N : St -> Hp -> Prop,(∀ σ' H',N σ' H' -> ∃ m',m' < m /\ W (i + 1) m' σ' H') /\ ∀ x H',(Itl K a).yld i H x H' -> g x σ H' fun σ2 H2 => tb { D with nx:=N,ct:=N,bk:=D.nx } σ2 H2):=by
 refine ⟨fun i m σ H => m = xs.length - i /\ i <= xs.length /\ Pv i σ H,⟨xs.length,by simp,Nat.zero_le _,h0⟩,?_⟩
 rintro i m σ H ⟨rfl,hi,p⟩
 have q:=hl i σ H hi p
 by_cases hlt : i < xs.length
 ·refine .inr ⟨⟨xs,xs[i],q,by simp [hlt]⟩,Pv (i + 1),fun σ' H' p' => ⟨xs.length - (i + 1),by omega,rfl,hlt,p'⟩,fun x H' y => ?_⟩
  obtain ⟨e,y⟩:=y
  subst e
  exact hs i x σ _ (y xs q) p
 ·have e : i = xs.length:=by omega
  subst e
  exact .inl ⟨⟨xs,q,Nat.le_refl _⟩,hd σ H p⟩
theorem pK {K : PySem.W.Frag} {a : Addr} {xs : List V} {g : TG} {tb : TS} {D : Ends} {σ : St} {H : Hp} (Pv : Nat -> St -> Hp -> Prop) (h0 : Pv 0 σ H) (hl : ∀ i σ H,i <= xs.length -> Pv i σ H -> SqT K H a xs)
  (hs : ∀ i x σ H,xs[i]? = some x -> Pv i σ H -> g x σ H fun σ2 H2 => tb { D with nx:=Pv (i + 1),ct:=Pv (i + 1),bk:=D.nx } σ2 H2) (hd : ∀ σ H,Pv xs.length σ H -> D.nx σ H) :
  ∃ W : Nat -> Nat -> St -> Hp -> Prop,(∃ m,W 0 m σ H) /\ ∀ i m σ H,W i m σ H ->
   ((Itt K a).stop i H /\ D.nx σ H) \/ ((Itt K a).go i H /\ ∃ N : St -> Hp -> Prop,(∀ σ' H',N σ' H' -> ∃ m',m' < m /\ W (i + 1) m' σ' H') /\ ∀ x H',(Itt K a).yld i H x H' -> g x σ H' fun σ2 H2 => tb { D with nx:=N,ct:=N,bk:=D.nx } σ2 H2):=by
 refine ⟨fun i m σ H => m = xs.length - i /\ i <= xs.length /\ Pv i σ H,⟨xs.length,by simp,Nat.zero_le _,h0⟩,?_⟩
 rintro i m σ H ⟨rfl,hi,p⟩
 have q:=hl i σ H hi p
 by_cases hlt : i < xs.length
 ·refine .inr ⟨⟨xs,xs[i],q,by simp [hlt]⟩,Pv (i + 1),fun σ' H' p' => ⟨xs.length - (i + 1),by omega,rfl,hlt,p'⟩,fun x H' y => ?_⟩
  obtain ⟨e,y⟩:=y
  subst e
  exact hs i x σ _ (y xs q) p
 ·have e : i = xs.length:=by omega
  subst e
  exact .inl ⟨⟨xs,q,Nat.le_refl _⟩,hd σ H p⟩
theorem b4 {lo : Int} {n : Nat} {g : TG} {tb : TS} {D : Ends} {σ : St} {H : Hp} (Pv : Nat -> St -> Hp -> Prop) (h0 : Pv 0 σ H)
  (hs : ∀ i σ H,i < n -> Pv i σ H -> g (.int (lo + i)) σ H fun σ2 H2 => tb { D with nx:=Pv (i + 1),ct:=Pv (i + 1),bk:=D.nx } σ2 H2) (hd : ∀ σ H,Pv n σ H -> D.nx σ H) :
  ∃ W : Nat -> Nat -> St -> Hp -> Prop,(∃ m,W 0 m σ H) /\ ∀ i m σ H,W i m σ H ->
   ((Itr lo n).stop i H /\ D.nx σ H) \/ ((Itr lo n).go i H /\ ∃ N : St -> Hp -> Prop,(∀ σ' H',N σ' H' -> ∃ m',m' < m /\ W (i + 1) m' σ' H') /\ ∀ x H',(Itr lo n).yld i H x H' -> g x σ H' fun σ2 H2 => tb { D with nx:=N,ct:=N,bk:=D.nx } σ2 H2):=by
 refine ⟨fun i m σ H => m = n - i /\ i <= n /\ Pv i σ H,⟨n,by simp,Nat.zero_le _,h0⟩,?_⟩
 rintro i m σ H ⟨rfl,hi,p⟩
 by_cases hlt : i < n
 ·refine .inr ⟨hlt,Pv (i + 1),fun σ' H' p' => ⟨n - (i + 1),by omega,rfl,hlt,p'⟩,fun x H' y => ?_⟩
  obtain ⟨e,y⟩:=y
  subst e y
  exact hs i σ _ hlt p
 ·have e : i = n:=by omega
  subst e
  exact .inl ⟨Nat.le_refl _,hd σ H p⟩
end L2
namespace L2
open PySem PySem.Spec PyProof.Rows
abbrev R2:=V -> V -> Hp -> VK -> Prop
def OpR (X : Cx) (f : Value -> Value -> Sem Value) (r : R2) : Prop:=
 ∀ (pins : List (Addr × Obj)) (s : Shared) (σ : St) (H : Hp) (x y : V) (v u : Value) (Q : VK),Inv X pins σ H s -> RelV x v -> RelV y u -> r x y H Q ->
  wpAny (model X.prog X.w) X.A (f v u) (EP X pins σ Q) X.xe s
def UnR (X : Cx) (f : Value -> Sem Value) (r : V -> Hp -> VK -> Prop) : Prop:=
 ∀ (pins : List (Addr × Obj)) (s : Shared) (σ : St) (H : Hp) (x : V) (v : Value) (Q : VK),Inv X pins σ H s -> RelV x v -> r x H Q ->
  wpAny (model X.prog X.w) X.A (f v) (EP X pins σ Q) X.xe s
def iR (X : Cx) (f : Value) (r : List V -> Hp -> VK -> Prop) : Prop:=
 ∀ (pins : List (Addr × Obj)) (s : Shared) (σ : St) (H : Hp) (xs : List V) (us : List Value) (Q : VK),Inv X pins σ H s -> Vals xs us -> r xs H Q ->
  wpAny (model X.prog X.w) X.A (call f us) (EP X pins σ Q) X.xe s
def Ke (X : Cx) (r : V -> Hp -> (Bool -> Hp -> Prop) -> Prop) : Prop:=
 ∀ (pins : List (Addr × Obj)) (s : Shared) (σ : St) (H : Hp) (x : V) (v : Value) (Q : Bool -> Hp -> Prop),Inv X pins σ H s -> RelV x v -> r x H Q ->
  wpAny (model X.prog X.w) X.A (truthy v) (TP X pins σ Q) X.xe s
def tOp (r : R2) (ta tb : TE) : TE:=fun σ H Q => ta σ H fun x H1 => tb σ H1 fun y H2 => r x y H2 Q
def tUn (r : V -> Hp -> VK -> Prop) (ta : TE) : TE:=fun σ H Q => ta σ H fun x H1 => r x H1 Q
def rI (C : Int -> Int -> Prop) (g : Int -> Int -> V) : R2:=fun x y H Q => ∃ i j,x = .int i /\ y = .int j /\ C i j /\ Q (g i j) H
def rI0 (g : Int -> Int -> V) : R2:=fun x y H Q => ∃ i j,x = .int i /\ y = .int j /\ Q (g i j) H
def rU (g : Int -> V) : V -> Hp -> VK -> Prop:=fun x H Q => ∃ i,x = .int i /\ Q (g i) H
section
variable {X : Cx} {a b c : Expr} {ta tb tc : TE} {pos : Pos}
theorem Il (ha : PE X a ta) (hb : PE X b tb) {pins : List (Addr × Obj)} {s : Shared} {σ : St} {H : Hp} {R : V -> V -> Hp -> Prop} (I : Inv X pins σ H s)
  (h : ta σ H fun x H1 => tb σ H1 fun y H2 => R x y H2) {Q : Value -> Shared -> Prop} {f : Value -> Value -> Sem Value}
  (hf : ∀ v u s2 x y H2,Inv X pins σ H2 s2 -> RelV x v -> RelV y u -> R x y H2 -> wpAny (model X.prog X.w) X.A (f v u) Q X.xe s2) :
  wpAny (model X.prog X.w) X.A (eval a X.env) (fun v s₁ => wpAny (model X.prog X.w) X.A (eval b X.env) (fun u s₂ => wpAny (model X.prog X.w) X.A (f v u) Q X.xe s₂) X.xe s₁) X.xe s:=by
 refine thn (ha pins s σ H _ I h) fun v s1 ⟨x,H1,I1,r1,q1⟩ => ?_
 refine thn (hb pins s1 σ H1 _ I1 q1) fun u s2 ⟨y,H2,I2,r2,q2⟩ => ?_
 exact hf v u s2 x y H2 I2 r1 r2 q2
theorem ay {op : Operator} {r : R2} (ho : OpR X (binaryOp op) r) (ha : PE X a ta) (hb : PE X b tb) : PE X (.BinOp a op b pos) (tOp r ta tb):=by
 intro pins s σ H Q I h
 exact wpAny_BinOp (Il ha hb I h fun v u s2 x y H2 I2 rx ry q => ho pins s2 σ H2 x y v u Q I2 rx ry q)
theorem JN {op : UnaryOp} {r : V -> Hp -> VK -> Prop} (ho : UnR X (unaryOp op) r) (ha : PE X a ta) : PE X (.UnaryOp op a pos) (tUn r ta):=by
 intro pins s σ H Q I h
 exact UnaryOp_ (thn (ha pins s σ H _ I h) fun v s1 ⟨x,H1,I1,r1,q1⟩ => ho pins s1 σ H1 x v Q I1 r1 q1)
theorem opI {f : Value -> Value -> Sem Value} {C : Int -> Int -> Prop} {g : Int -> Int -> Int}
  (rule : ∀ (i j : Int) (t u : Tok) (s : Shared) (Q : Value -> Shared -> Prop) (E : Value -> Shared -> Prop),C i j -> Q (.int (g i j) s.toks) { s with toks:=s.toks + 1 } -> wpAny (model X.prog X.w) X.A (f (.int i t) (.int j u)) Q E s) :
  OpR X f (rI C fun i j => .int (g i j)):=by
 intro pins s σ H x y v u Q I rx ry h
 obtain ⟨i,j,rfl,rfl,hc,q⟩:=h
 obtain ⟨t,rfl⟩:=rx
 obtain ⟨t',rfl⟩:=ry
 exact rule i j t t' s _ _ hc ⟨.int (g i j),H,I.tok _,⟨_,rfl⟩,q⟩
theorem JK {f : Value -> Value -> Sem Value} {g : Int -> Int -> Int}
  (rule : ∀ (i j : Int) (t u : Tok) (s : Shared) (Q : Value -> Shared -> Prop) (E : Value -> Shared -> Prop),Q (.int (g i j) s.toks) { s with toks:=s.toks + 1 } -> wpAny (model X.prog X.w) X.A (f (.int i t) (.int j u)) Q E s) :
  OpR X f (rI0 fun i j => .int (g i j)):=by
 intro pins s σ H x y v u Q I rx ry h
 obtain ⟨i,j,rfl,rfl,q⟩:=h
 obtain ⟨t,rfl⟩:=rx
 obtain ⟨t',rfl⟩:=ry
 exact rule i j t t' s _ _ ⟨.int (g i j),H,I.tok _,⟨_,rfl⟩,q⟩
theorem Hw {f : Value -> Value -> Sem Value} {g : Int -> Int -> Bool}
  (rule : ∀ (i j : Int) (t u : Tok) (s : Shared) (Q : Value -> Shared -> Prop) (E : Value -> Shared -> Prop),Q (.bool (g i j)) s -> wpAny (model X.prog X.w) X.A (f (.int i t) (.int j u)) Q E s) :
  OpR X f (rI0 fun i j => .bl (g i j)):=by
 intro pins s σ H x y v u Q I rx ry h
 obtain ⟨i,j,rfl,rfl,q⟩:=h
 obtain ⟨t,rfl⟩:=rx
 obtain ⟨t',rfl⟩:=ry
 exact rule i j t t' s _ _ ⟨.bl (g i j),H,I,rfl,q⟩
def Kb (i j : Int) : Prop:=0 < j /\ j < 1073741824
def Kc (i j : Int) : Prop:=0 <= j /\ j <= 1000000 /\ i.natAbs < 2 ^ 64
def CMul (i j : Int) : Prop:=(-(2 ^ 64) < i /\ i < 2 ^ 64) \/ (-(2 ^ 64) < j /\ j < 2 ^ 64)
theorem CMul.ok {i j : Int} (h : CMul i j) : IntMulOk i j:=by
 rcases h with ⟨h1,h2⟩ | ⟨h1,h2⟩
 ·exact .of_left (intBits_le_64 h1 h2)
 ·exact .of_right (intBits_le_64 h1 h2)
theorem aY : OpR X (binaryOp .Add) (rI0 fun i j => .int (i + j)):=JK fun _ _ _ _ _ _ _ q => add_int q
theorem F6 : OpR X (binaryOp .Sub) (rI0 fun i j => .int (i - j)):=JK fun _ _ _ _ _ _ _ q => sub_int q
theorem cX : OpR X (binaryOp .Mult) (rI CMul fun i j => .int (i * j)):=opI fun _ _ _ _ _ _ _ hc q => mul_int q hc.ok
theorem mf : OpR X (binaryOp .FloorDiv) (rI Kb fun i j => .int (i / j)):=opI fun i j _ _ _ _ _ hc q => by
 have h1 : (0 : Int) < j:=hc.1
 have h2 : j < 1073741824:=hc.2
 exact floordiv_int (by omega) (by rw [Int.fdiv_eq_ediv_of_nonneg i (by omega)]; exact q) (.inl (PyProof.noPylong_small (by omega)))
theorem bc : OpR X (binaryOp .Mod) (rI (fun _ j => 0 < j) fun i j => .int (i % j)):=opI fun i j _ _ _ _ _ hc q => by
 have h1 : (0 : Int) < j:=hc
 exact mod_int' (by omega) (by rw [Int.fmod_eq_emod_of_nonneg i (by omega)]; exact q)
theorem F5 : OpR X (binaryOp .Pow) (rI Kc fun i j => .int (i ^ j.toNat)):=opI fun _ _ _ _ _ _ _ hc q => pow_int_small hc.1 hc.2.1 hc.2.2 q
theorem unI {f : Value -> Sem Value} {g : Int -> Int}
  (rule : ∀ (i : Int) (t : Tok) (s : Shared) (Q : Value -> Shared -> Prop) (E : Value -> Shared -> Prop),Q (.int (g i) s.toks) { s with toks:=s.toks + 1 } -> wpAny (model X.prog X.w) X.A (f (.int i t)) Q E s) :
  UnR X f (rU fun i => .int (g i)):=by
 intro pins s σ H x v Q I rx h
 obtain ⟨i,rfl,q⟩:=h
 obtain ⟨t,rfl⟩:=rx
 exact rule i t s _ _ ⟨.int (g i),H,I.tok _,⟨_,rfl⟩,q⟩
theorem Js : UnR X (unaryOp .USub) (rU fun i => .int (-i)):=unI fun _ _ _ _ _ q => neg_int q
end
def JU : V -> V -> Bool
 | .non,.non => true | .non,.int _ => true | .int _,.non => true | .non,.bl _ => true | .bl _,.non => true | .non,.str _ => true | .str _,.non => true
 | .int _,.int _ => true | .bl _,.bl _ => true | .str _,.str _ => true | .byt _,.byt _ => true
 | .int _,.str _ => true | .str _,.int _ => true | .bl _,.str _ => true | .str _,.bl _ => true
 | _,_ => false
def rEq : R2:=fun x y H Q => JU x y = true /\ Q (.bl (decide (x = y))) H
def rNe : R2:=fun x y H Q => JU x y = true /\ Q (.bl (!decide (x = y))) H
theorem Dd {i j : Int} : decide (V.int i = V.int j) = (i == j):=by
 rw [Bool.eq_iff_iff]
 simp
theorem Fd {i j : Bool} : decide (V.bl i = V.bl j) = (i == j):=by
 rw [Bool.eq_iff_iff]
 simp
theorem De {i j : Str} : decide (V.str i = V.str j) = (i == j):=by
 rw [Bool.eq_iff_iff]
 simp
theorem Dc {i j : Array UInt8} : decide (V.byt i = V.byt j) = (i.toList == j.toList):=by
 rw [Bool.eq_iff_iff]
 cases i
 cases j
 simp
section
variable {X : Cx} {a b c : Expr} {ta tb tc : TE} {pos : Pos}
theorem bH {pins : List (Addr × Obj)} {σ : St} {H : Hp} {s : Shared} {Q : VK} {k k' : Bool} (I : Inv X pins σ H s) (q : Q (.bl k) H) (e : k = k') : EP X pins σ Q (.bool k') s:=by
 subst e
 exact ⟨.bl k,H,I,rfl,q⟩
theorem eY : OpR X (compareOp .Eq) rEq:=by
 intro pins s σ H x y v u Q I rx ry h
 obtain ⟨hs,q⟩:=h
 cases x with
 | non =>
  cases rx
  cases y with
  | non => cases ry; exact PySem.EqNone.eq_none_none (bH I q (by simp))
  | bl j => cases ry; exact PySem.EqNone.eq_none_bool (bH I q (by simp))
  | int j => obtain ⟨t',rfl⟩:=ry; exact PySem.EqNone.eq_none_int (bH I q (by simp))
  | str j => obtain ⟨t',rfl⟩:=ry; exact PySem.EqNone.eq_none_str (bH I q (by simp))
  | _ => exact absurd (show false = true from hs) Bool.false_ne_true
 | bl i =>
  cases rx
  cases y with
  | non => cases ry; exact PySem.EqNone.eq_bool_none (bH I q (by simp))
  | bl j => cases ry; exact eq_bool (bH I q Fd)
  | str j => obtain ⟨t',rfl⟩:=ry; exact PySem.EqMixed.eq_bool_str (bH I q (by simp))
  | _ => exact absurd (show false = true from hs) Bool.false_ne_true
 | int i =>
  obtain ⟨t,rfl⟩:=rx
  cases y with
  | non => cases ry; exact PySem.EqNone.eq_int_none (bH I q (by simp))
  | int j => obtain ⟨t',rfl⟩:=ry; exact eq_int (bH I q Dd)
  | str j => obtain ⟨t',rfl⟩:=ry; exact PySem.EqMixed.eq_int_str (bH I q (by simp))
  | _ => exact absurd (show false = true from hs) Bool.false_ne_true
 | str i =>
  obtain ⟨t,rfl⟩:=rx
  cases y with
  | non => cases ry; exact PySem.EqNone.eq_str_none (bH I q (by simp))
  | bl j => cases ry; exact PySem.EqMixed.eq_str_bool (bH I q (by simp))
  | int j => obtain ⟨t',rfl⟩:=ry; exact PySem.EqMixed.eq_str_int (bH I q (by simp))
  | str j => obtain ⟨t',rfl⟩:=ry; exact eq_str (bH I q De)
  | _ => exact absurd (show false = true from hs) Bool.false_ne_true
 | byt i =>
  obtain ⟨t,rfl⟩:=rx
  cases y with
  | byt j => obtain ⟨t',rfl⟩:=ry; exact PySem.W.eq_bytes (bH I q Dc)
  | _ => exact absurd (show false = true from hs) Bool.false_ne_true
 | _ => cases y <;> exact absurd (show false = true from hs) Bool.false_ne_true
theorem As : OpR X (compareOp .NotEq) rNe:=by
 intro pins s σ H x y v u Q I rx ry h
 obtain ⟨hs,q⟩:=h
 cases x with
 | non =>
  cases rx
  cases y with
  | non => cases ry; exact PySem.EqNone.ne_none_none (bH I q (by simp))
  | bl j => cases ry; exact PySem.EqNone.ne_none_bool (bH I q (by simp))
  | int j => obtain ⟨t',rfl⟩:=ry; exact PySem.EqNone.ne_none_int (bH I q (by simp))
  | str j => obtain ⟨t',rfl⟩:=ry; exact PySem.EqNone.ne_none_str (bH I q (by simp))
  | _ => exact absurd (show false = true from hs) Bool.false_ne_true
 | bl i =>
  cases rx
  cases y with
  | non => cases ry; exact PySem.EqNone.ne_bool_none (bH I q (by simp))
  | bl j => cases ry; exact ne_bool (bH I q (congrArg not Fd))
  | str j => obtain ⟨t',rfl⟩:=ry; exact PySem.EqMixed.ne_bool_str (bH I q (by simp))
  | _ => exact absurd (show false = true from hs) Bool.false_ne_true
 | int i =>
  obtain ⟨t,rfl⟩:=rx
  cases y with
  | non => cases ry; exact PySem.EqNone.ne_int_none (bH I q (by simp))
  | int j => obtain ⟨t',rfl⟩:=ry; exact ne_int (bH I q (congrArg not Dd))
  | str j => obtain ⟨t',rfl⟩:=ry; exact PySem.EqMixed.ne_int_str (bH I q (by simp))
  | _ => exact absurd (show false = true from hs) Bool.false_ne_true
 | str i =>
  obtain ⟨t,rfl⟩:=rx
  cases y with
  | non => cases ry; exact PySem.EqNone.ne_str_none (bH I q (by simp))
  | bl j => cases ry; exact PySem.EqMixed.ne_str_bool (bH I q (by simp))
  | int j => obtain ⟨t',rfl⟩:=ry; exact PySem.EqMixed.ne_str_int (bH I q (by simp))
  | str j => obtain ⟨t',rfl⟩:=ry; exact ne_str (bH I q (congrArg not De))
  | _ => exact absurd (show false = true from hs) Bool.false_ne_true
 | byt i =>
  obtain ⟨t,rfl⟩:=rx
  cases y with
  | byt j => obtain ⟨t',rfl⟩:=ry; exact PySem.W.ne_bytes (bH I q (congrArg not Dc))
  | _ => exact absurd (show false = true from hs) Bool.false_ne_true
 | _ => cases y <;> exact absurd (show false = true from hs) Bool.false_ne_true
theorem Ar : OpR X (compareOp .Lt) (rI0 fun i j => .bl (decide (i < j))):=Hw fun _ _ _ _ _ _ _ q => lt_int q
theorem F1 : OpR X (compareOp .LtE) (rI0 fun i j => .bl (decide (i <= j))):=Hw fun _ _ _ _ _ _ _ q => le_int q
theorem Aq : OpR X (compareOp .Gt) (rI0 fun i j => .bl (decide (j < i))):=Hw fun _ _ _ _ _ _ _ q => gt_int q
theorem FZ : OpR X (compareOp .GtE) (rI0 fun i j => .bl (decide (j <= i))):=Hw fun _ _ _ _ _ _ _ q => ge_int q
theorem aW (b : Expr) {op : CmpOp} (h : op ≠ .In:=by decide) (h2 : op ≠ .NotIn:=by decide) : behindInMarks op b = false:=by
 have e1 : (op == CmpOp.In) = false:=by cases op <;> first | rfl | exact absurd rfl h
 have e2 : (op == CmpOp.NotIn) = false:=by cases op <;> first | rfl | exact absurd rfl h2
 cases b <;> simp [behindInMarks,e1,e2]
theorem hV {op : CmpOp} {r : R2} (ho : OpR X (compareOp op) r) (ha : PE X a ta) (hb : PE X b tb) (hm : behindInMarks op b = false) : PE X (.Compare a [op] [b] pos) (tOp r ta tb):=by
 intro pins s σ H Q I h
 exact wpAny_Compare1 (Il ha hb I h fun v u s2 x y H2 I2 rx ry q => ho pins s2 σ H2 x y v u Q I2 rx ry q) hm
def J4 (t : TE) : TT:=fun σ H Q => t σ H fun x H' => ∃ k,x = .bl k /\ Q k H'
theorem aS {op : CmpOp} {r : R2} (ho : OpR X (compareOp op) r) (ha : PE X a ta) (hb : PE X b tb) (hm : behindInMarks op b = false) : PT X (.Compare a [op] [b] pos) (J4 (tOp r ta tb)):=by
 intro pins s σ H Q I h
 refine wpAny_isTrue_Compare1 (thn (ha pins s σ H _ I h) fun v s1 ⟨x,H1,I1,r1,q1⟩ => thn (hb pins s1 σ H1 _ I1 q1) fun u s2 ⟨y,H2,I2,r2,q2⟩ =>
  thn (ho pins s2 σ H2 x y v u _ I2 r1 r2 q2) fun c s3 ⟨z,H3,I3,r3,k,e,q3⟩ => ?_) hm
 subst e
 cases r3
 exact wpAny_truthy_bool ⟨H3,I3,q3⟩
def Jy (K : PySem.W.Frag) (x : V) (H : Hp) (k : Bool) : Prop:=
 match x with
 | .non => k = false
 | .bl b => k = b
 | .int i => k = (i != 0)
 | .str y => y.length <= sizeLine /\ k = ((y.length : Int) != 0)
 | .byt y => y.size <= sizeLine /\ k = ((y.size : Int) != 0)
 | .ref p => (∃ xs,SqL K H p xs /\ k = !xs.isEmpty) \/ (∃ xs,SqT K H p xs /\ k = !xs.isEmpty) \/ ∃ kvs,H p = some (.dK kvs) /\ k = !kvs.isEmpty
 | _ => False
theorem BF {κ : Type} {kvs : List (κ × V)} {vs : List (κ × Value)} (r : KV kvs vs) : (!vs.isEmpty) = !kvs.isEmpty:=by
 cases r <;> rfl
theorem vd {xs : List V} {its : List Value} (r : Vals xs its) : (!its.toArray.isEmpty) = !xs.isEmpty:=by
 cases r <;> simp
theorem vo : (sizeLine : Nat) < 2 ^ 63:=by rw [sizeLine_eq]; decide
theorem Jq : Ke X (fun x H Q => ∃ k,Jy X.K x H k /\ Q k H):=by
 intro pins s σ H x v Q I rx h
 obtain ⟨k,e,q⟩:=h
 have hl:=vo
 have hs : sizeLine = 16777216:=sizeLine_eq
 cases x with
 | non =>
  cases rx
  have e' : k = false:=e
  subst e'
  exact truthy_none ⟨H,I,q⟩
 | bl b =>
  cases rx
  have e' : k = b:=e
  subst e'
  exact wpAny_truthy_bool ⟨H,I,q⟩
 | int i =>
  obtain ⟨t,rfl⟩:=rx
  have e' : k = (i != 0):=e
  subst e'
  exact PySem.P.truthy_int ⟨H,I,q⟩
 | str y =>
  obtain ⟨t,rfl⟩:=rx
  obtain ⟨hy,e'⟩ : y.length <= sizeLine /\ k = ((y.length : Int) != 0):=e
  subst e'
  exact PySem.P.truthy_str (by omega) ⟨H,I.tok _,q⟩
 | byt y =>
  obtain ⟨t,rfl⟩:=rx
  obtain ⟨hy,e'⟩ : y.size <= sizeLine /\ k = ((y.size : Int) != 0):=e
  subst e'
  exact PySem.W.truthy_bytes (by omega) ⟨H,I.tok _,q⟩
 | ref p =>
  cases rx
  have e' : (∃ xs,SqL X.K H p xs /\ k = !xs.isEmpty) \/ (∃ xs,SqT X.K H p xs /\ k = !xs.isEmpty) \/ ∃ kvs,H p = some (.dK kvs) /\ k = !kvs.isEmpty:=e
  rcases e' with ⟨xs,hx,e'⟩ | ⟨xs,hx,e'⟩ | ⟨kvs,hx,e'⟩
  ·subst e'
   obtain ⟨its,r,pl,hz⟩:=I.list hx
   have hlen:=r.length
   exact wpAny_truthy_list pl.isList (by simp only [List.size_toArray]; omega) ⟨H,I.tok _,by rw [vd r]; exact q⟩
  ·subst e'
   obtain ⟨its,r,pl,hz⟩:=I.tuple hx
   have hlen:=r.length
   exact truthy_tuple pl (by simp only [List.size_toArray]; omega) ⟨H,I.tok _,by rw [vd r]; exact q⟩
  ·subst e'
   obtain ⟨hz,hS,vs,r,m⟩ : kvs.length <= sizeLine /\ (p == sysModules) = false /\ ∃ vs,KV kvs vs /\ s.heap.DictOf (bb X.prog X.w) p vs:=I.hok p _ hx
   have hlen : kvs.length = vs.length:=Paired.length r
   exact wpAny_truthy_dict hS m (by omega) ⟨H,I.tok _,by rw [BF r]; exact q⟩
 | _ => exact (show False from e).elim
theorem jC (ha : PE X a ta) (he : ∀ whole,isTrue a X.env whole = (do let v <- whole; standAt a.pos; holding [v] (truthy v))) :
  PT X a (fun σ H Q => ta σ H fun x H' => ∃ k,Jy X.K x H' k /\ Q k H'):=by
 intro pins s σ H Q I h
 exact isTrue_plain (thn (ha pins s σ H _ I h) fun v s1 ⟨x,H1,I1,r1,q1⟩ => Jq pins s1 σ H1 x v Q I1 r1 q1) (he _)
theorem vals1 {x : V} {us : List Value} (r : Vals [x] us) : ∃ u,us = [u] /\ RelV x u:=by
 cases r with
 | cons r1 r2 => cases r2; exact ⟨_,rfl,r1⟩
theorem vals2 {x y : V} {us : List Value} (r : Vals [x,y] us) : ∃ u w',us = [u,w'] /\ RelV x u /\ RelV y w' := by
 cases r with
 | cons r1 r2 =>
  cases r2 with
  | cons r3 r4 => cases r4; exact ⟨_,_,rfl,r1,r3⟩
theorem xS (hc : X.calm = true) : iR X (.builtin "min") (fun xs H Q => ∃ i j,xs = [.int i,.int j] /\ Q (.int (if j < i then j else i)) H):=by
 intro pins s σ H xs us Q I r h
 obtain ⟨i,j,rfl,q⟩:=h
 obtain ⟨u,w',rfl,⟨t,rfl⟩,⟨t',rfl⟩⟩:=vals2 r
 refine min_two_ints (I.ok.hd hc) fun h' tk k => ⟨_,H,I.kept k,?_,q⟩
 by_cases hj : j < i
 ·rw [if_pos hj,if_pos hj]; exact ⟨_,rfl⟩
 ·rw [if_neg hj,if_neg hj]; exact ⟨_,rfl⟩
theorem DJ : iR X (.type "int") (fun xs H Q => (∃ i,xs = [.int i] /\ Q (.int i) H) \/ ∃ k,xs = [.bl k] /\ Q (.int (if k then 1 else 0)) H):=by
 intro pins s σ H xs us Q I r h
 rcases h with ⟨i,rfl,q⟩ | ⟨k,rfl,q⟩
 ·obtain ⟨u,rfl,t,rfl⟩:=vals1 r
  exact call_int_int ⟨.int i,H,I,⟨_,rfl⟩,q⟩
 ·obtain ⟨u,rfl,r1⟩:=vals1 r
  cases r1
  exact call_int_bool ⟨.int (if k then 1 else 0),H,I.tok _,⟨_,rfl⟩,q⟩
end
end L2
namespace L2
open PySem PySem.Spec PyProof.Rows
structure ObjM (h : Heap) (x dx C : Addr) (mA : Str -> Option Value) : Prop where
 obj : h.get? x = some (PySem.W.instObj C dx)
 ns : h.Ns1 dx mA
 ne : dx ≠ x
theorem Eh {h : Heap} {dx : Addr} {mA : Str -> Option Value} (n : h.Ns1 dx mA) : ∃ od,h.get? dx = some od /\ ∀ name,PySem.W.lookIn name od = some (mA name):=by
 obtain ⟨o,es,ep,ho,hd,hk,_,hm⟩:=n
 refine ⟨o,ho,fun name => ?_⟩
 have e:=hm name
 unfold nsFind findBy at e
 rw [<- Array.find?_toList] at e
 unfold PySem.W.lookIn
 rw [hd]
 dsimp only
 split
 ·rename_i y q
  rw [q] at e
  exact congrArg some e
 ·rename_i q
  rw [q] at e
  have a : es.toList.any (·.refKey) = false:=by
   rw [List.any_eq_false]
   intro y hy
   obtain ⟨z,t,hkey⟩:=hk y (Array.mem_toList_iff.mp hy)
   simp [DictEntry.refKey,hkey]
  have a' : ¬ es.toList.any (·.refKey) = true:=by rw [a]; exact Bool.false_ne_true
  rw [if_neg a']
  exact congrArg some e
theorem ObjM.look {h : Heap} {x dx C : Addr} {mA : Str -> Option Value} (I : ObjM h x dx C mA) : ∃ od,PySem.W.InstAt h x (PySem.W.instObj C dx) C (some od) /\ ∀ name,PySem.W.lookIn name od = some (mA name):=
 let ⟨od,ho,hl⟩:=Eh I.ns
 ⟨od,⟨I.obj,rfl,rfl,ho⟩,hl⟩
section
variable {prog : Program} {w : World} {A : Around} {E : Value -> Shared -> Prop} {s : Shared} {K : PySem.W.Frag} {x dx C f : Addr} {mA : Str -> Option Value} {name : Str} {v : Value}
theorem get_map {expr : Bool} {Q : Value -> Shared -> Prop} (X : K.In s.heap) (I : ObjM s.heap x dx C mA) (hg : PySem.W.plainGet K C name = true) (hh : PySem.W.hasDictIn K C = true)
  (ha : PySem.W.findIn K (.ref C) name = some none) (hv : mA name = some v) (hv' : PySem.W.handedIn v = true) (h : Q v { s with toks:=s.toks + 1 }) :
  wpAny (model prog w) A (getAttr (.ref x) name expr) Q E s:=by
 obtain ⟨od,J,hl⟩:=I.look
 exact PySem.W.get_value X J (PySem.W.plainGet_of hg).1 (PySem.W.findObj_own hh ha rfl (by rw [hl,hv])) hv' h
theorem Fl {pl : Sem Bool} {Q : Value × List Value -> Shared -> Prop} (X : K.In s.heap) (I : ObjM s.heap x dx C mA) (hg : PySem.W.plainGet K C name = true)
  (hf : PySem.W.findIn K (.ref C) name = some (some (.ref f))) (ht : PySem.W.isFn K (.ref f) = true) (hv : mA name = none) (h : Q (.ref f,[.ref x]) s) :
  wpAny (model prog w) A (getMethod (.ref x) name pl) Q E s:=by
 obtain ⟨od,J,hl⟩:=I.look
 exact PySem.W.method_fn X J (PySem.W.plainGet_of hg).1 (PySem.W.plainGet_of hg).2 hf (beq_iff_eq.mp ht) (by show (PySem.W.lookIn name od).map (·.isSome) = some false; rw [hl,hv]; rfl) h
theorem HK {ns : List Str} {Q : Unit -> Shared -> Prop} (X : K.In s.heap) (I : ObjM s.heap x dx C mA)
  (hs : PySem.W.findIn K (.ref C) "__setattr__" = some (some (.builtin "object.__setattr__"))) (hp : PySem.W.plainOver K C = true) (ht : PySem.W.takerIn K C name = some none) (hh : PySem.W.hasDictIn K C = true)
  (hw : PySem.Within mA ns) (hsz : ns.length <= sizeLine)
  (h : ∀ h',ObjM h' x dx C (fun y => if y = name then some v else mA y) -> Heap.SameBut dx s.heap h' -> Q () { s with heap:=h',toks:=s.toks + 2 }) :
  wpAny (model prog w) A (setAttr (.ref x) name v) Q E s:=by
 obtain ⟨od,J,hl⟩:=I.look
 refine PySem.W.set_plain X J hs (PySem.W.osa_open (s:={ s with toks:=s.toks + 1 }) (r:=none) X J hp ht fun b => ?_)
 obtain ⟨cd,hc,hd'⟩:=PySem.W.any_some hh
 have hx : s.heap.get? x = some ⟨.ref C,some dx,.plain,#[]⟩:=I.obj
 refine wpAny_bind (wpAny_pure (wpAny_bind (wpAny_bind (wpAny_loadPart hx (wpAny_bind (PySem.W.Looks.here (s:={ s with toks:=s.toks + 1 }) (PySem.W.looks_clsIn X hc) ?_))))))
 rw [hd']
 refine wpAny_pure (a:=some dx) (wpAny_bind (wpAny_pure (wpAny_bind ?_)))
 refine wpAny_nsSet1 (s:={ s with toks:=s.toks + 1 }) I.ns fun h' hn2 hs2 => ?_
 obtain ⟨oD,esD,epD,hoD,hdD,hcD⟩:=hn2.count (PySem.Within.cons name v hw)
 refine wpAny_bind (wpAny_lookBehind hoD (by rw [hdD]; exact pastItsLine_dict (Nat.le_trans hcD (by rw [List.length_cons]; omega))) ?_)
 exact wpAny_pure (h _ ⟨(hs2.2 _ (Ne.symm I.ne)).trans I.obj,hn2,I.ne⟩ hs2)
theorem FC {R : Result -> Shared -> Prop} {vs : List Value} {kw : List (Str × Value)} (X : K.In s.heap) (hm : PySem.W.makesIn K C = true)
  (hi : PySem.W.findIn K (.ref C) "__init__" = some (some (.ref f))) (hf : PySem.W.typeIn K (.ref f) = some (.type "function"))
  (h : codeAny (model prog w) (A.under (.builtin "type.__call__" ⟨.ref C :: vs,kw⟩)) (.call (.ref f) ⟨.ref (s.heap.objs.size + 1) :: vs,kw⟩) (PySem.W.InitBack (s.heap.objs.size + 1) R)
   { s with heap:=(s.heap.push PySem.W.emptyDict).push (PySem.W.instObj C s.heap.objs.size) }) :
  codeAny (model prog w) A (.call (.ref C) ⟨vs,kw⟩) R s:=by
 obtain ⟨hh,g,d,t,os⟩:=s
 exact PySem.W.make_core (PySem.W.makes_of X hm) (PySem.W.looks_findIn X hi) (fun self => PySem.W.bind_fn X self hf) (.inl rfl) h
end
def jD (f : Str) (v : V) : List (Str × V) -> List (Str × V)
 | [] => [(f,v)]
 | (g,x) :: r => if g = f then (g,v) :: r else (g,x) :: jD f v r
theorem sX (f g : Str) (v : V) : ∀ fs : List (Str × V),(jD f v fs).lookup g = if g = f then some v else fs.lookup g
 | [] => by
  show List.lookup g [(f,v)] = _
  by_cases h : g = f
  ·have hb : (g == f) = true:=beq_iff_eq.mpr h
   simp only [List.lookup,hb,if_pos h]
  ·have hb : (g == f) = false:=beq_eq_false_iff_ne.mpr h
   simp only [List.lookup,hb,if_neg h]
 | (k,x) :: r => by
  have ih:=sX f g v r
  rw [show jD f v ((k,x) :: r) = (if k = f then (k,v) :: r else (k,x) :: jD f v r) from rfl]
  by_cases hk : k = f
  ·rw [if_pos hk]
   by_cases h : g = k
   ·have hb : (g == k) = true:=beq_iff_eq.mpr h
    simp only [List.lookup,hb,if_pos (h.trans hk)]
   ·have hb : (g == k) = false:=beq_eq_false_iff_ne.mpr h
    simp only [List.lookup,hb,if_neg (fun e : g = f => h (e.trans hk.symm))]
  ·rw [if_neg hk]
   by_cases h : g = k
   ·have hb : (g == k) = true:=beq_iff_eq.mpr h
    simp only [List.lookup,hb,if_neg (fun e : g = f => hk (h.symm.trans e))]
   ·have hb : (g == k) = false:=beq_eq_false_iff_ne.mpr h
    simp only [List.lookup,hb]
    exact ih
theorem rF (f : Str) (v : V) : ∀ fs : List (Str × V),f ∈ (jD f v fs).map (·.1) /\ ∀ g,g ∈ fs.map (·.1) -> g ∈ (jD f v fs).map (·.1)
 | [] => ⟨by simp [jD],fun g h => by simp at h⟩
 | (k,x) :: r => by
  obtain ⟨i1,i2⟩:=rF f v r
  rw [show jD f v ((k,x) :: r) = (if k = f then (k,v) :: r else (k,x) :: jD f v r) from rfl]
  by_cases hk : k = f
  ·rw [if_pos hk]
   subst hk
   exact ⟨by simp,fun g h => by simpa using h⟩
  ·rw [if_neg hk]
   refine ⟨?_,fun g h => ?_⟩
   ·rw [List.map_cons]
    exact List.mem_cons_of_mem _ i1
   ·rw [List.map_cons] at h ⊢
    rcases List.mem_cons.mp h with e | e
    ·exact List.mem_cons.mpr (.inl e)
    ·exact List.mem_cons_of_mem _ (i2 g e)
theorem sW (f : Str) (v : V) : ∀ fs : List (Str × V),(jD f v fs).length <= fs.length + 1
 | [] => by simp [jD]
 | (k,x) :: r => by
  have ih:=sW f v r
  rw [show jD f v ((k,x) :: r) = (if k = f then (k,v) :: r else (k,x) :: jD f v r) from rfl]
  by_cases hk : k = f
  ·rw [if_pos hk,List.length_cons,List.length_cons]; omega
  ·rw [if_neg hk,List.length_cons,List.length_cons]; omega
theorem RelO.some_of {v : V} {o : Option Value} (r : RelO (some v) o) : ∃ u,o = some u /\ RelV v u:=by
 cases o with
 | none => exact (show False from r).elim
 | some u => exact ⟨u,rfl,r⟩
theorem RelO.none_of {o : Option Value} (r : RelO none o) : o = none:=by
 cases o with
 | none => rfl
 | some u => exact (show False from r).elim
theorem D9 {v : V} {u : Value} (r : RelV v u) : PySem.W.handedIn u = true:=by
 cases v with
 | non => cases (show u = Value.none from r); rfl
 | bl b => cases (show u = Value.bool b from r); rfl
 | int i => obtain ⟨t,e⟩:=(show ∃ t,u = Value.int i t from r); cases e; rfl
 | str x => obtain ⟨t,e⟩:=(show ∃ t,u = Value.str x t from r); cases e; rfl
 | byt b => obtain ⟨t,e⟩:=(show ∃ t,u = Value.bytes b t from r); cases e; rfl
 | flt b => obtain ⟨t,e⟩:=(show ∃ t,u = Value.float b t from r); cases e; rfl
 | ref a => cases (show u = Value.ref a from r); rfl
 | ty n => cases (show u = Value.type n from r); rfl
section
variable {P : Program} {w : World} {H H' : Hp} {h h' : Heap} {a C dx : Addr} {fs fs' : List (Str × V)}
theorem ui (hok : HOk P w H h) (e : H a = some (.ins C dx fs)) : ∃ mA,ObjM h a dx C mA /\ (∀ f,RelO (fs.lookup f) (mA f)) /\ PySem.Within mA (fs.map (·.1)) /\ fs.length <= 1000 /\ H dx = some (.own a):=by
 obtain ⟨d,z,ne,ob,mA,n,r,q⟩:=(show ObjOk P w H h a (.ins C dx fs) from hok a _ e)
 exact ⟨mA,⟨ob,n,ne⟩,r,q,z,d⟩
end
structure Cls (K : PySem.W.Frag) (C : Addr) : Prop where
 pg : PySem.W.plainGet K C Str.empty = true
 hd : PySem.W.hasDictIn K C = true
 po : PySem.W.plainOver K C = true
 sa : PySem.W.findIn K (.ref C) "__setattr__" = some (some (.builtin "object.__setattr__"))
theorem Cls.get {K : PySem.W.Frag} {C : Addr} (c : Cls K C) (f : Str) : PySem.W.plainGet K C f = true:=c.pg
def NoAttr (K : PySem.W.Frag) (C : Addr) (f : Str) : Prop:=PySem.W.findIn K (.ref C) f = some none
theorem NoAttr.taker {K : PySem.W.Frag} {C : Addr} {f : Str} (n : NoAttr K C f) : PySem.W.takerIn K C f = some none:=by
 unfold PySem.W.takerIn
 rw [show PySem.W.findIn K (.ref C) f = some none from n]
 rfl
structure Con (K : PySem.W.Frag) (C : Addr) (f : Str) (v : V) (u : Value) : Prop where
 at_ : PySem.W.findIn K (.ref C) f = some (some u)
 rel : RelV v u
 get : PySem.W.specialIn K u "__get__" = some none
 cp : PySem.W.copiedNames.contains f = false
structure Meth (K : PySem.W.Frag) (C : Addr) (m : Str) (f : Addr) : Prop where
 at_ : PySem.W.findIn K (.ref C) m = some (some (.ref f))
 fn : PySem.W.isFn K (.ref f) = true
 kp : PySem.W.keepIn K (.ref f) = true
section
variable {X : Cx} {pins : List (Addr × Obj)} {σ : St} {H : Hp} {s : Shared} {a C dx : Addr} {fs : List (Str × V)} {f : Str} {v : V} {A : Around} {E : Value -> Shared -> Prop}
theorem BC {b : Bool} {Q : Value -> Shared -> Prop} (I : Inv X pins σ H s) (e : H a = some (.ins C dx fs)) (c : Cls X.K C) (n : NoAttr X.K C f) (l : fs.lookup f = some v)
  (h : ∀ u s',Inv X pins σ H s' -> RelV v u -> Q u s') : wpAny (model X.prog X.w) A (getAttr (.ref a) f b) Q E s:=by
 obtain ⟨mA,O,r,_,_,_⟩:=ui I.hok e
 obtain ⟨u,hu,ru⟩:=RelO.some_of (v:=v) (o:=mA f) (by rw [<- l]; exact r f)
 exact get_map I.kIn O (c.get f) c.hd n hu (D9 ru) (h u _ (I.tok _) ru)
theorem vc {m : Str} {g : Addr} {pl : Sem Bool} {Q : Value × List Value -> Shared -> Prop} (I : Inv X pins σ H s) (e : H a = some (.ins C dx fs)) (c : Cls X.K C) (k : Meth X.K C m g) (l : fs.lookup m = none)
  (h : Q (.ref g,[.ref a]) s) : wpAny (model X.prog X.w) A (getMethod (.ref a) m pl) Q E s:=by
 obtain ⟨mA,O,r,_,_,_⟩:=ui I.hok e
 have hn : mA m = none:=RelO.none_of (by rw [<- l]; exact r m)
 exact Fl I.kIn O (c.get m) k.at_ k.fn hn h
theorem Cz {y : V} {u : Value} {Q : Unit -> Shared -> Prop} (I : Inv X pins σ H s) (e : H a = some (.ins C dx fs)) (c : Cls X.K C) (n : NoAttr X.K C f) (hl : fs.length < 1000) (ry : RelV y u)
  (h : ∀ s',Inv X pins σ (upd H a (.ins C dx (jD f y fs))) s' -> Q () s') : wpAny (model X.prog X.w) A (setAttr (.ref a) f u) Q E s:=by
 obtain ⟨mA,O,r,wi,_,ho⟩:=ui I.hok e
 have hz : (fs.map (·.1)).length <= sizeLine:=by rw [List.length_map,sizeLine_eq]; omega
 refine HK I.kIn O c.sa c.po n.taker c.hd wi hz fun h' O' sb => h _ ?_
 have hd : ∃ o,h'.get? dx = some o:=let ⟨o,_,_,e',_⟩:=O'.ns; ⟨o,e'⟩
 refine I.write (x:=a) (e:=dx) (by rw [e]; exact True.intro) (.inr ho) (fun b q hb z => (sb.2 b hb).trans z) hd ?_
 refine ⟨by rw [aj O.ne]; exact ho,?_,O.ne,O'.obj,_,O'.ns,fun g => ?_,fun g hg => ?_⟩
 ·have:=sW f y fs; omega
 ·show RelO ((jD f y fs).lookup g) (if g = f then some u else mA g)
  rw [sX]
  by_cases q : g = f
  ·rw [if_pos q,if_pos q]; exact ry
  ·rw [if_neg q,if_neg q]; exact r g
 ·by_cases q : g = f
  ·rw [q]; exact (rF f y fs).1
  ·refine (rF f y fs).2 g (wi g fun z => hg ?_)
   show (if g = f then some u else mA g) = none
   rw [if_neg q]; exact z
theorem Inv.made (I : Inv X pins σ H s) : Inv X pins σ (upd (upd H s.heap.objs.size (.own (s.heap.objs.size + 1))) (s.heap.objs.size + 1) (.ins C s.heap.objs.size []))
  { s with heap:=(s.heap.push PySem.W.emptyDict).push (PySem.W.instObj C s.heap.objs.size) }:=by
 have e1 : (s.heap.push PySem.W.emptyDict).get? s.heap.objs.size = some PySem.W.emptyDict:=Heap.get?_push_size s.heap rfl
 have e2 : ((s.heap.push PySem.W.emptyDict).push (PySem.W.instObj C s.heap.objs.size)).get? (s.heap.objs.size + 1) = some (PySem.W.instObj C s.heap.objs.size):=by
  have:=Heap.get?_push_size (s.heap.push PySem.W.emptyDict) (o:=PySem.W.instObj C s.heap.objs.size) rfl
  rwa [Heap.size_push] at this
 have e3 : (s.heap.push PySem.W.emptyDict).Ns s.heap.objs.size (fun _ => none):=⟨PySem.W.emptyDict,#[],_,e1,rfl,(fun e he => absurd he (by simp)),fun _ => rfl⟩
 have I1:=I.laid (a:=s.heap.objs.size) (o:=.own (s.heap.objs.size + 1)) (h' := s.heap.push PySem.W.emptyDict) (t' := s.toks) (fun b u q => Heap.get?_push_of_some _ q) (Nat.le_refl _) ⟨_,e1⟩
 refine I1.laid (a:=s.heap.objs.size + 1) (o:=.ins C s.heap.objs.size []) (t' := s.toks) (fun b u q => Heap.get?_push_of_some _ q) (Nat.le_of_eq (Heap.size_push _ _)) ?_
 have ne : s.heap.objs.size ≠ s.heap.objs.size + 1:=Nat.ne_of_lt (Nat.lt_succ_self _)
 refine ⟨by rw [aj ne,af],Nat.zero_le _,ne,e2,fun _ => none,(Heap.Ns1.of_empty e3).at fun o q => Heap.get?_push_of_some _ q,fun _ => True.intro,fun y hy => absurd rfl hy⟩
theorem GY {prog : Program} {w : World} {env : Env} {e : Expr} {f : Str} {pos : Pos} {s : Shared} {Q : Value -> Shared -> Prop} (hb : attributeBase e f env (eval e env) = eval e env)
  (h : wpAny (model prog w) A (eval e env) (fun o s₁ => wpAny (model prog w) A (getAttr o f true) Q E s₁) E s) : wpAny (model prog w) A (eval (.Attribute e f pos) env) Q E s:=
 Attribute_any_ h (by rw [arm_eval_Attribute,hb])
end
def Ky (K : PySem.W.Frag) (ta : TE) (f : Str) : TE:=fun σ H Q => ta σ H fun x H1 => ∃ a C dx fs v,x = .ref a /\ H1 a = some (.ins C dx fs) /\ Cls K C /\ NoAttr K C f /\ fs.lookup f = some v /\ Q v H1
def Ku (K : PySem.W.Frag) (ta tv : TE) (f : Str) : TS:=fun D σ H => tv σ H fun y H1 => ta σ H1 fun x H2 => ∃ a C dx fs,x = .ref a /\ H2 a = some (.ins C dx fs) /\ Cls K C /\ NoAttr K C f /\ fs.length < 1000 /\
 D.nx σ (upd H2 a (.ins C dx (jD f y fs)))
section
variable {X : Cx} {o e value : Expr} {f : Str} {pos pos' tpos : Pos} {ta tv : TE}
theorem du (he : PE X e ta) (hb : attributeBase e f X.env (eval e X.env) = eval e X.env) : PE X (.Attribute e f pos) (Ky X.K ta f):=by
 intro pins s σ H Q I h
 refine GY hb (thn (he pins s σ H _ I h) fun u s1 ⟨x,H1,I1,rx,a,C,dx,fs,v,ex,ea,c,n,l,q⟩ => ?_)
 subst ex
 obtain rfl : u = Value.ref a:=rx
 exact BC I1 ea c n l fun u' s2 I2 ru => ⟨v,H1,I2,ru,q⟩
theorem y3 (ha : PE X o ta) (hv : PE X value tv) (hs : swapsWith value (some (.Attribute o f pos')) pos.line X.env = pure false) : PS X (.Assign [.Attribute o f pos'] value pos) (Ku X.K ta tv f):=by
 intro pins s σ H D I h
 refine plainObj_wpAny_Assign_Attribute (thn (hv pins s σ H _ I h) fun u s1 ⟨y,H1,I1,ry,q⟩ => thn (ha pins s1 σ H1 _ I1 q) fun ov s2 ⟨x,H2,I2,rx,a,C,dx,fs,ex,ea,c,n,l,q2⟩ => ?_) hs
 subst ex
 obtain rfl : ov = Value.ref a:=rx
 exact Cz I2 ea c n l ry fun s3 I3 => ⟨σ,_,I3,q2⟩
end
section
variable {X : Cx} {pins : List (Addr × Obj)} {σ : St} {H : Hp} {s : Shared} {A : Around} {E : Value -> Shared -> Prop} {Q : Value -> Shared -> Prop} {c : Value} {b : Bool}
inductive TyOf (K : PySem.W.Frag) (H : Hp) : V -> Value -> Prop where
 | non : TyOf K H .non (.type "NoneType")
 | bl (x : Bool) : TyOf K H (.bl x) (.type "bool")
 | int (i : Int) : TyOf K H (.int i) (.type "int")
 | str (x : Str) : TyOf K H (.str x) (.type "str")
 | flt (x : UInt64) : TyOf K H (.flt x) (.type "float")
 | lst {a : Addr} {xs : List V} (e : H a = some (.lst xs)) : TyOf K H (.ref a) (.type "list")
 | frz {a : Addr} {o : Obj} {xs : List V} (e : H a = some (.frz o (.lst xs))) : TyOf K H (.ref a) (.type "list")
 | tup {a : Addr} {xs : List V} (e : H a = some (.tup xs)) : TyOf K H (.ref a) (.type "tuple")
 | dK {a : Addr} {kvs : List (Key × V)} (e : H a = some (.dK kvs)) : TyOf K H (.ref a) (.type "dict")
 | dT {a : Addr} {kvs : List (List Key × V)} (e : H a = some (.dT kvs)) : TyOf K H (.ref a) (.type "dict")
 | ins {a C dx : Addr} {fs : List (Str × V)} (e : H a = some (.ins C dx fs)) (cl : Cls K C) (ha : PySem.W.findIn K (.ref C) "__class__" = some (some (.builtin "object.__class__")))
   (hn : PySem.W.specialIn K (.builtin "object.__class__") "__get__" = some (some (.builtin "getset_descriptor.__get__"))) (htk : PySem.W.takesIn K (.builtin "object.__class__") = some true)
   (hm : PySem.W.mroIn K C (.type "object") = some true) : TyOf K H (.ref a) (.ref C)
theorem Ec {x : V} {u t : Value} (I : Inv X pins σ H s) (rx : RelV x u) (ty : TyOf X.K H x t) (e : PySem.W.kitOne X.K t c = some b) (h : ∀ tk,Q (.bool b) { s with toks:=tk }) :
  wpAny (model X.prog X.w) A (call (.builtin "isinstance") [u,c]) Q E s:=by
 cases ty with
 | non => cases (show u = Value.none from rx); exact PySem.W.kia_one PySem.W.kitx_none I.kIn True.intro e (fun z => nomatch z) h
 | bl y => cases (show u = Value.bool y from rx); exact PySem.W.kia_one PySem.W.kitx_bool I.kIn True.intro e (fun z => nomatch z) h
 | int i => obtain ⟨t,q⟩:=(show ∃ t,u = Value.int i t from rx); cases q; exact PySem.W.kia_one PySem.W.kitx_int I.kIn True.intro e (fun z => nomatch z) h
 | str y => obtain ⟨t,q⟩:=(show ∃ t,u = Value.str y t from rx); cases q; exact PySem.W.kia_one PySem.W.kitx_str I.kIn True.intro e (fun z => nomatch z) h
 | flt y => obtain ⟨t,q⟩:=(show ∃ t,u = Value.float y t from rx); cases q; exact PySem.W.kia_one PySem.W.kitx_float I.kIn True.intro e (fun z => nomatch z) h
 | @lst a xs ea =>
  cases (show u = Value.ref a from rx)
  obtain ⟨_,_,n,_,h1⟩:=(show ObjOk X.prog X.w H s.heap a (.lst xs) from I.hok a _ ea)
  exact PySem.W.kia_one PySem.W.kitx_list I.kIn ⟨_,h1,rfl⟩ e (fun z => nomatch z) h
 | @frz a ob xs ea =>
  cases (show u = Value.ref a from rx)
  obtain ⟨_,_,_,n,_,h1⟩:=(show ObjOk X.prog X.w H s.heap a (.frz ob (.lst xs)) from I.hok a _ ea)
  exact PySem.W.kia_one PySem.W.kitx_list I.kIn ⟨_,h1,rfl⟩ e (fun z => nomatch z) h
 | @tup a xs ea =>
  cases (show u = Value.ref a from rx)
  obtain ⟨_,_,_,p⟩:=(show ObjOk X.prog X.w H s.heap a (.tup xs) from I.hok a _ ea)
  obtain ⟨o,h1,h2,_⟩:=p
  exact PySem.W.kia_one PySem.W.kitx_tuple I.kIn ⟨o,h1,h2⟩ e (fun z => nomatch z) h
 | @dK a kvs ea =>
  cases (show u = Value.ref a from rx)
  obtain ⟨_,_,vs,_,p⟩:=(show ObjOk X.prog X.w H s.heap a (.dK kvs) from I.hok a _ ea)
  obtain ⟨o,es,ep,h1,h2,_⟩:=p
  exact PySem.W.kia_one PySem.W.kitx_dict I.kIn ⟨o,h1,h2.1⟩ e (fun z => nomatch z) h
 | @dT a kvs ea =>
  cases (show u = Value.ref a from rx)
  obtain ⟨_,_,xs,_,o,es,ep,h1,h2,_⟩:=(show ObjOk X.prog X.w H s.heap a (.dT kvs) from I.hok a _ ea)
  exact PySem.W.kia_one PySem.W.kitx_dict I.kIn ⟨o,h1,h2.1⟩ e (fun z => nomatch z) h
 | @ins a C dx fs ea cl ha hn htk hm =>
  cases (show u = Value.ref a from rx)
  obtain ⟨mA,O,_⟩:=ui I.hok ea
  obtain ⟨od,J,_⟩:=O.look
  exact PySem.W.kia_one (PySem.W.kitx_own (cl.get _) cl.hd ha hn htk hm) I.kIn J e (fun z => nomatch z) h
end
end L2
namespace L2
open PySem PySem.Spec PyProof.Rows
structure Room (k : Nat) (A : Around) : Prop where
 hd : A.handled = none
 dp : A.depth + 3 * k + 5 < recursionLimit
 un : A.units + 16 * k + 200 < cLine
theorem Room.mono {j k : Nat} {A : Around} (r : Room k A) (h : j <= k) : Room j A:=⟨r.hd,by have:=r.dp; omega,by have:=r.un; omega⟩
theorem Room.deeper {k : Nat} {A : Around} (r : Room (k + 1) A) (env : Env) : Room k (A.deeper env):=
 ⟨r.hd,by have:=r.dp; show A.depth + 1 + 3 * k + 5 < _; omega,by have:=r.un; show A.units + 3 + 16 * k + 200 < _; omega⟩
theorem BS {A : Around} {C : Addr} {us : List Value} {kw : List (Str × Value)} : (A.under (.builtin "type.__call__" ⟨.ref C :: us,kw⟩)).depth = A.depth + 1:=by
 first | rfl | simp [Around.under,Code.weight,Code.isCreation,Code.isGuard,Code.isCaller,Code.frames,Code.isFrame,guardIds]
theorem BU {A : Around} {C : Addr} {us : List Value} {kw : List (Str × Value)} : (A.under (.builtin "type.__call__" ⟨.ref C :: us,kw⟩)).units = A.units + 1:=by
 first | rfl | simp [Around.under,Code.cUnits,Code.frames,Code.isFrame]
theorem Room.make {k : Nat} {A : Around} (r : Room (k + 1) A) (C : Addr) (us : List Value) (kw : List (Str × Value)) : Room k (A.under (.builtin "type.__call__" ⟨.ref C :: us,kw⟩)):=
 ⟨r.hd,by have:=r.dp; rw [BS]; omega,by have:=r.un; rw [BU]; omega⟩
theorem Room.depth {k : Nat} {A : Around} (r : Room k A) : A.depth < recursionLimit:=by have:=r.dp; omega
theorem Room.units {k : Nat} {A : Around} (r : Room k A) : A.units + 64 < cLine:=by have:=r.un; omega
theorem Room.units0 {k : Nat} {A : Around} (r : Room k A) : A.units < cLine:=by have:=r.un; omega
def HS : TA:=fun _ H Q => Q [] H
def Ie (ta : TE) (tr : TA) : TA:=fun σ H Q => ta σ H fun x H1 => tr σ H1 fun xs H2 => Q (x :: xs) H2
section
variable {X : Cx} {e : Expr} {es : List Expr} {te : TE} {t : TA} {pos : Pos}
theorem ae : PA X [] HS:=fun _ _ _ _ H Q I h => Calls.spliced_nil ⟨[],H,I,.nil,h⟩
theorem aa (ha : PE X e te) (hr : PA X es t) (hs : starEach (e :: es) X.env = (false,eval e X.env) :: starEach es X.env:=by rfl) : PA X (e :: es) (Ie te t):=by
 intro pos pins s σ H Q I h
 rw [hs]
 show wpAny _ _ (spliced ((false,eval e X.env) :: backTo pos (starEach es X.env))) _ _ s
 refine Calls.spliced_cons (thn (ha pins s σ H _ I h) fun u s1 ⟨x,H1,I1,r1,q1⟩ => ?_)
 exact thn (hr pos pins s1 σ H1 _ I1 q1) fun us s2 ⟨xs,H2,I2,r2,q2⟩ => ⟨x :: xs,H2,I2,.cons r1 r2,q2⟩
def J5 (t : TA) : TE:=fun σ H Q => t σ H fun xs H1 => xs.length <= sizeLine /\ ∀ p,H1 p = none -> Q (.ref p) (upd H1 p (.tup xs))
def Kz (t : TA) : TE:=fun σ H Q => t σ H fun xs H1 => xs.length <= sizeLine /\ ∀ p,H1 p = none -> Q (.ref p) (upd H1 p (.lst xs))
theorem iM {x1} (h : PA X es t) : PE X (.Tuple es x1 pos) (J5 t):=by
 intro pins s σ H Q I hq
 refine wpAny_Tuple_spliced (thn (h pos pins s σ H _ I hq) fun us s1 ⟨xs,H1,I1,r,z,q⟩ => ⟨by rw [<- r.length]; exact z,?_⟩)
 have hf : H1 s1.heap.objs.size = none:=I1.hok.fresh (Nat.le_refl _)
 refine ⟨.ref s1.heap.objs.size,upd H1 s1.heap.objs.size (.tup xs),I1.laid (t' := s1.toks) (fun b u e => Heap.get?_push_of_some _ e) (Nat.le_refl _) ?_,rfl,q _ hf⟩
 exact ⟨z,us,r,⟨_,Heap.get?_push_size _ rfl,rfl,_,rfl⟩⟩
theorem bR (h : PA X es t) : PE X (.List es pos) (Kz t):=by
 intro pins s σ H Q I hq
 refine wpAny_List_spliced (thn (h pos pins s σ H _ I hq) fun us s1 ⟨xs,H1,I1,r,z,q⟩ => ⟨by rw [<- r.length]; exact z,?_⟩)
 have hf : H1 s1.heap.objs.size = none:=I1.hok.fresh (Nat.le_refl _)
 refine ⟨.ref s1.heap.objs.size,upd H1 s1.heap.objs.size (.lst xs),I1.laid (t' := s1.toks) (fun b u e => Heap.get?_push_of_some _ e) (Nat.le_refl _) ?_,rfl,q _ hf⟩
 exact ⟨z,us,0,r,Heap.get?_push_size _ rfl⟩
end
abbrev Sp:=List V -> Hp -> VK -> XK -> Prop
abbrev CXT:=List Env -> Hp -> Shared -> XK -> Value -> Shared -> Prop
structure Env0 (P : Program) (w : World) (K : PySem.W.Frag) (mg : Str -> Option Value) (base : Heap) (A : Around) (outer : List Env) (s : Shared) (H : Hp) : Prop where
 frames : A.frames = some outer
 mod : Mod K mg base
 bs : ∀ b o,base.get? b = some o -> s.heap.get? b = some o /\ H b = none
 bsz : base.objs.size <= s.heap.objs.size
 funs : s.heap.FunFrames base outer
 frf : ∀ b ∈ frs outer,H b = none
 hok : HOk P w H s.heap
 bare : AllBare s.gens
def CE (outer : List Env) (P : Program) (w : World) (H : Hp) (s : Shared) (Q : VK) (u : Value) (s' : Shared) : Prop:=
 ∃ v H',s'.os = s.os /\ AllBare s'.gens /\ Un (frs outer) [] H H' s.heap s'.heap /\ HOk P w H' s'.heap /\ RelV v u /\ Q v H'
def CR (CX : CXT) (outer : List Env) (P : Program) (w : World) (H : Hp) (s : Shared) (Q : VK) (E : XK) (r : Result) (s' : Shared) : Prop:=
 match r with
 | .ok (.ret u) => CE outer P w H s Q u s'
 | .ok _ => False
 | .error e => CX outer H s E e s'
structure FnOk (P : Program) (w : World) (K : PySem.W.Frag) (mg : Str -> Option Value) (base : Heap) (CX : CXT) (k : Nat) (f : Addr) (fd : FuncData) (ps : List Str) (sp : Sp) : Prop where
 len : ∀ vs H Q E,sp vs H Q E -> vs.length = ps.length
 run : ∀ (A : Around) (outer : List Env) (s : Shared) (H : Hp) (args : Args) (us : List Value) (vs : List V) (Q : VK) (E : XK),Room k A -> Env0 P w K mg base A outer s H -> BindsTo s fd args (ps.zip us) -> Vals vs us -> sp vs H Q E ->
  codeAny (model P w) A (.call (.ref f) args) (CR CX outer P w H s Q E) s
theorem Env0.make {P : Program} {w : World} {K : PySem.W.Frag} {mg : Str -> Option Value} {base : Heap} {A : Around} {outer : List Env} {s : Shared} {H : Hp} (e : Env0 P w K mg base A outer s H) (C : Addr) (us : List Value) (kw : List (Str × Value)) :
  Env0 P w K mg base (A.under (.builtin "type.__call__" ⟨.ref C :: us,kw⟩)) outer s H:=⟨by first | exact e.frames | (simpa [Around.under,Code.envs,Code.isFrame,pushEnvs] using e.frames),e.mod,e.bs,e.bsz,e.funs,e.frf,e.hok,e.bare⟩
section
variable {X : Cx} {pins : List (Addr × Obj)} {σ : St} {H : Hp} {s s' : Shared}
theorem Inv.env0 (I : Inv X pins σ H s) : Env0 X.prog X.w X.K X.mg X.base X.A X.stack s H:=
 ⟨I.ok.frames,I.ok.mod,I.bs,Nat.le_trans I.ok.bsz I.sz,I.stack,I.stkFree,I.hok,I.bare⟩
theorem Inv.after {Q : VK} {u : Value} (I : Inv X pins σ H s) (h : CE X.stack X.prog X.w H s Q u s') : EP X pins σ Q u s' := by
 obtain ⟨v,H',os,bare,un,hok,r,q⟩:=h
 obtain ⟨hh,g,d,t,os'⟩:=s'
 obtain rfl : os' = s.os:=os
 exact ⟨v,H',I.call (h' := hh) (g' := g) (d' := d) (t' := t) (ch:=[]) un hok bare (fun b z => absurd z (by simp)),r,q⟩
end
def AW (sp : Sp) (dvs : List V) (E : XK) (t : TA) : TE:=fun σ H Q => t σ H fun vs H1 => sp (vs ++ dvs) H1 Q E
def DC (C : Addr) (m : Str) (sp : Sp) (dvs : List V) (E : XK) (ta : TE) (t : TA) : TE:=fun σ H Q => ta σ H fun x H1 => ∃ a dx fs,x = .ref a /\ H1 a = some (.ins C dx fs) /\ fs.lookup m = none /\
 t σ H1 fun vs H2 => sp (x :: (vs ++ dvs)) H2 Q E
def Ig (C : Addr) (sp : Sp) (dvs : List V) (E : XK) (t : TA) : TE:=fun σ H Q => t σ H fun vs H1 => ∀ x dx,H1 x = none -> H1 dx = none -> dx ≠ x ->
 sp (.ref x :: (vs ++ dvs)) (upd (upd H1 dx (.own x)) x (.ins C dx [])) (fun v H2 => v = .non /\ Q (.ref x) H2) E
def Binds (K : PySem.W.Frag) (fd : FuncData) (ps : List Str) (ds : List Value) : Prop:=
 ∀ (s : Shared) (us : List Value),K.In s.heap -> (us ++ ds).length = ps.length -> BindsTo s fd ⟨us,[]⟩ (ps.zip (us ++ ds))
theorem Binds.all {K : PySem.W.Frag} {fd : FuncData} {ps : List Str} (h : ∀ us : List Value,us.length = ps.length -> bindArgs fd ⟨us,[]⟩ = pure (ps.zip us)) : Binds K fd ps []:=fun s us _ hl => by
 rw [List.append_nil] at hl ⊢
 exact .of_eq (h us hl)
def Passes (CX : CXT) (X : Cx) (E : XK) : Prop := ∀ (pins : List (Addr × Obj)) (σ : St) (H : Hp) (s : Shared) (e : Value) (s' : Shared),Inv X pins σ H s -> CX X.stack H s E e s' -> X.xe e s'
section
variable {X : Cx} {CX : CXT} {k : Nat} {f C : Addr} {fd : FuncData} {ps : List Str} {sp : Sp} {dvs : List V} {ds : List Value} {E : XK} {x m : Str} {p pos apos : Pos} {e o : Expr} {es : List Expr} {ta : TE} {t : TA}
theorem Cw {pins : List (Addr × Obj)} {σ : St} {H : Hp} {s : Shared} {Q : VK} {us : List Value} {vs : List V} (F : FnOk X.prog X.w X.K X.mg X.base CX k f fd ps sp) (hr : Room k X.A) (hb : Binds X.K fd ps ds) (hd : Vals dvs ds) (hx : Passes CX X E)
  (I : Inv X pins σ H s) (r : Vals vs us) (h : sp (vs ++ dvs) H Q E) : wpAny (model X.prog X.w) X.A (call (.ref f) us) (EP X pins σ Q) X.xe s:=by
 have r2 : Vals (vs ++ dvs) (us ++ ds):=r.append hd
 have hl : (us ++ ds).length = ps.length:=by rw [<- r2.length]; exact F.len _ _ _ _ h
 refine wpAny_call (codeAny_mono (F.run X.A X.stack s H ⟨us,[]⟩ (us ++ ds) (vs ++ dvs) Q E hr I.env0 (hb s us I.kIn hl) r2 h) fun r s' hq => ?_)
 cases r with
 | error e => exact hx pins σ H s e s' I hq
 | ok fl =>
  cases fl with
  | ret u => exact I.after hq
  | next => exact False.elim hq
  | brk => exact False.elim hq
  | cont => exact False.elim hq
theorem Dt (F : FnOk X.prog X.w X.K X.mg X.base CX k f fd ps sp) (hr : Room k X.A) (hg : Gl X x) (hm : X.mg x = some (.ref f)) (hk : PySem.W.keepIn X.K (.ref f) = true) (hb : Binds X.K fd ps ds) (hd : Vals dvs ds) (hx : Passes CX X E)
  (ha : PA X (e :: es) t) (hdb : (x == ("__debug__" : Str)) = false:=by decide) (he : starEach (e :: es) X.env = (false,eval e X.env) :: starEach es X.env:=by rfl) (hpl : (backTo pos (starEach es X.env)).any (·.1) = false:=by rfl) :
  PE X (.Call (.Name x p) (e :: es) [] pos) (AW sp dvs E t):=by
 intro pins s σ H Q I h
 refine wpAny_Call_Name_kw (kJ I hg hm ?_ hdb)
 refine PySem.W.callWith_K (h₀:=X.base) I.ok.mod.kin hk (thn (ha pos pins s σ H _ I h) fun us s1 ⟨vs,H1,I1,r,q⟩ => ⟨I1.kIn,?_⟩) he hpl
 exact Cw F hr hb hd hx I1 r q
theorem Hz {pl : Sem Bool} (he : PE X o ta) (c : Cls X.K C) (hm : Meth X.K C m f) (F : FnOk X.prog X.w X.K X.mg X.base CX k f fd ps sp) (hr : Room k X.A) (hb : Binds X.K fd ps ds) (hd : Vals dvs ds) (hx : Passes CX X E) (ha : PA X (e :: es) t)
  (hst : starEach (e :: es) X.env = (false,eval e X.env) :: starEach es X.env:=by rfl) (hpl : (backTo pos (starEach es X.env)).any (·.1) = false:=by rfl)
  (ht : eval (.Call (.Attribute o m apos) (e :: es) [] pos) X.env = (do
   let ov <- eval o X.env
   standAt apos.atName
   let (f,first) <- holding [ov] (getMethod ov m pl)
   callWith pos f first (backTo pos (starEach (e :: es) X.env)) (backToKw pos (keywordEach [] X.env))):=by rfl) :
  PE X (.Call (.Attribute o m apos) (e :: es) [] pos) (DC C m sp dvs E ta t):=by
 intro pins s σ H Q I h
 refine PySem.W.methodCall_KW (pl:=pl) (thn (he pins s σ H _ I h) fun u s1 ⟨x,H1,I1,rx,a,dx,fs,ex,ea,l,q⟩ => ?_) ht
 subst ex
 obtain rfl : u = Value.ref a:=rx
 refine vc I1 ea c hm l ?_
 refine PySem.W.callWith_K (first:=[.ref a]) (h₀:=X.base) I.ok.mod.kin hm.kp (thn (ha pos pins s1 σ H1 _ I1 q) fun us s2 ⟨vs,H2,I2,r,q2⟩ => ⟨I2.kIn,?_⟩) hst hpl
 exact Cw (us:=.ref a :: us) (vs:=.ref a :: vs) F hr hb hd hx I2 (.cons rfl r) q2
theorem Ga {pl : Sem Bool} (he : PE X o ta) (c : Cls X.K C) (hm : Meth X.K C m f) (F : FnOk X.prog X.w X.K X.mg X.base CX k f fd ps sp) (hr : Room k X.A) (hb : Binds X.K fd ps ds) (hd : Vals dvs ds) (hx : Passes CX X E)
  (ht : eval (.Call (.Attribute o m apos) [] [] pos) X.env = (do
   let ov <- eval o X.env
   standAt apos.atName
   let (f,first) <- holding [ov] (getMethod ov m pl)
   callWith pos f first (backTo pos (starEach [] X.env)) (backToKw pos (keywordEach [] X.env))):=by rfl) :
  PE X (.Call (.Attribute o m apos) [] [] pos) (DC C m sp dvs E ta HS):=by
 intro pins s σ H Q I h
 refine PySem.W.methodCall_KW (pl:=pl) (thn (he pins s σ H _ I h) fun u s1 ⟨x,H1,I1,rx,a,dx,fs,ex,ea,l,q⟩ => ?_) ht
 subst ex
 obtain rfl : u = Value.ref a:=rx
 refine vc I1 ea c hm l ?_
 exact PySem.W.callWith_K0 (first:=[.ref a]) I1.kIn hm.kp (Cw (us:=[.ref a]) (vs:=[.ref a]) F hr hb hd hx I1 (.cons rfl .nil) q)
structure Mk (K : PySem.W.Frag) (C f : Addr) : Prop where
 makes : PySem.W.makesIn K C = true
 init : PySem.W.findIn K (.ref C) "__init__" = some (some (.ref f))
 fn : PySem.W.isFn K (.ref f) = true
 kp : PySem.W.keepIn K (.ref C) = true
theorem GD {pins : List (Addr × Obj)} {σ : St} {H : Hp} {s : Shared} {Q : VK} {us : List Value} {vs : List V} (M : Mk X.K C f) (F : FnOk X.prog X.w X.K X.mg X.base CX k f fd ps sp) (hr : Room (k + 1) X.A) (hb : Binds X.K fd ps ds) (hd : Vals dvs ds)
  (hx : Passes CX X E) (I : Inv X pins σ H s) (r : Vals vs us)
  (h : ∀ x dx,H x = none -> H dx = none -> dx ≠ x -> sp (.ref x :: (vs ++ dvs)) (upd (upd H dx (.own x)) x (.ins C dx [])) (fun v H2 => v = .non /\ Q (.ref x) H2) E) :
  wpAny (model X.prog X.w) X.A (call (.ref C) us) (EP X pins σ Q) X.xe s:=by
 have hq:=h (s.heap.objs.size + 1) s.heap.objs.size (I.hok.fresh (Nat.le_succ _)) (I.hok.fresh (Nat.le_refl _)) (Nat.ne_of_lt (Nat.lt_succ_self _))
 have I2:=Inv.made (C:=C) I
 have r2 : Vals (V.ref (s.heap.objs.size + 1) :: (vs ++ dvs)) (Value.ref (s.heap.objs.size + 1) :: (us ++ ds)):=.cons rfl (r.append hd)
 have hl : (Value.ref (s.heap.objs.size + 1) :: us ++ ds).length = ps.length:=by
  have e:=r2.length
  rw [F.len _ _ _ _ hq] at e
  exact e.symm
 refine wpAny_call (FC (f:=f) I.kIn M.makes M.init (beq_iff_eq.mp M.fn) (codeAny_mono (F.run _ X.stack _ _ ⟨Value.ref (s.heap.objs.size + 1) :: us,[]⟩ (Value.ref (s.heap.objs.size + 1) :: (us ++ ds)) _ _ E (hr.make C us [])
  (I2.env0.make C us []) (hb _ (Value.ref (s.heap.objs.size + 1) :: us) I2.kIn hl) r2 hq) fun r s' hq' => ?_))
 cases r with
 | error e => exact hx pins σ _ _ e s' I2 hq'
 | ok fl =>
  cases fl with
  | ret u =>
   obtain ⟨v,H',I3,rv,ev,q3⟩:=I2.after hq'
   subst ev
   exact ⟨rv,⟨V.ref (s.heap.objs.size + 1),H',I3,rfl,q3⟩⟩
  | next => exact False.elim hq'
  | brk => exact False.elim hq'
  | cont => exact False.elim hq'
theorem Hy (M : Mk X.K C f) (F : FnOk X.prog X.w X.K X.mg X.base CX k f fd ps sp) (hr : Room (k + 1) X.A) (hg : Gl X x) (hm : X.mg x = some (.ref C)) (hb : Binds X.K fd ps ds) (hd : Vals dvs ds) (hx : Passes CX X E)
  (ha : PA X (e :: es) t) (hdb : (x == ("__debug__" : Str)) = false:=by decide) (he : starEach (e :: es) X.env = (false,eval e X.env) :: starEach es X.env:=by rfl) (hpl : (backTo pos (starEach es X.env)).any (·.1) = false:=by rfl) :
  PE X (.Call (.Name x p) (e :: es) [] pos) (Ig C sp dvs E t):=by
 intro pins s σ H Q I h
 refine wpAny_Call_Name_kw (kJ I hg hm ?_ hdb)
 refine PySem.W.callWith_K (h₀:=X.base) I.ok.mod.kin M.kp (thn (ha pos pins s σ H _ I h) fun us s1 ⟨vs,H1,I1,r,q⟩ => ⟨I1.kIn,?_⟩) he hpl
 exact GD M F hr hb hd hx I1 r q
end
section
variable {X : Cx} {CX : CXT} {k : Nat} {f C : Addr} {fd : FuncData} {ps ks : List Str} {sp : Sp} {E : XK} {x m : Str} {p pos apos kpos : Pos} {e o : Expr} {es : List Expr} {kws : List Keyword} {te ta : TE} {t tk : TA} {nm : Option Str}
structure KBinds (K : PySem.W.Frag) (fd : FuncData) (ps ks : List Str) (g : List Value -> List Value -> List Value) (gV : List V -> List V -> List V) : Prop where
 to : ∀ (s : Shared) (us ws : List Value),K.In s.heap -> (g us ws).length = ps.length -> BindsTo s fd ⟨us,ks.zip ws⟩ (ps.zip (g us ws))
 rel : ∀ {vs : List V} {us : List Value} {zs : List V} {ws : List Value},Vals vs us -> Vals zs ws -> Vals (gV vs zs) (g us ws)
variable {g : List Value -> List Value -> List Value} {gV : List V -> List V -> List V}
end
structure FnScope (N P : List Str) (sc : Scope) : Prop where
 kind : sc.kind = .function
 co : sc.isCoroutine = false
 gen : sc.isGenerator = false
 nd : N.Nodup
 pre : N.take P.length = P
 par : ∀ x ∈ P,sc.names.lookup x = some .local \/ sc.names.lookup x = some .cell
 nofree : ∀ y ∈ sc.names,y.2 ≠ .free
theorem xQ {kindOf : Str -> Option NameKind} {x : Str} : ∀ {binds : List (Str × Value)} {m : Str -> Option Value},(∀ v,(x,v) ∉ binds) -> bindL kindOf binds m x = m x
 | [],_,_ => rfl
 | (n,v) :: r,m,h => by
  unfold bindL
  rw [xQ fun w hw => h w (List.mem_cons_of_mem _ hw)]
  split
  ·have : x ≠ n:=by rintro rfl; exact h v List.mem_cons_self
   simp [this]
  ·rfl
theorem xO {kindOf : Str -> Option NameKind} {x : Str} : ∀ {binds : List (Str × Value)} {m : Str -> Option Value},(∀ v,(x,v) ∉ binds) -> bindC kindOf binds m x = m x
 | [],_,_ => rfl
 | (n,v) :: r,m,h => by
  unfold bindC
  rw [xO fun w hw => h w (List.mem_cons_of_mem _ hw)]
  split
  ·rfl
  ·have : x ≠ n:=by rintro rfl; exact h v List.mem_cons_self
   simp [this]
theorem xP {kindOf : Str -> Option NameKind} {x : Str} {v : Value} : ∀ {P : List Str} {vs : List Value} {i : Nat} {m : Str -> Option Value},P.Nodup -> P[i]? = some x -> vs[i]? = some v -> kindOf x = some .local ->
  bindL kindOf (P.zip vs) m x = some v
 | [],_,_,_,_,h,_,_ => by simp at h
 | _ :: _,[],_,_,_,_,h,_ => by simp at h
 | p :: P,w :: vs,0,m,nd,h1,h2,hk => by
  simp at h1 h2; subst h1; subst h2
  show bindL kindOf ((p,w) :: P.zip vs) m p = _
  unfold bindL
  rw [xQ fun v hv => (List.nodup_cons.mp nd).1 (List.of_mem_zip hv).1,if_pos hk]
  simp
 | p :: P,w :: vs,i + 1,m,nd,h1,h2,hk => by
  show bindL kindOf ((p,w) :: P.zip vs) m x = _
  unfold bindL
  exact xP (i:=i) (List.nodup_cons.mp nd).2 (by simpa using h1) (by simpa using h2) hk
theorem xN {kindOf : Str -> Option NameKind} {x : Str} {v : Value} : ∀ {P : List Str} {vs : List Value} {i : Nat} {m : Str -> Option Value},P.Nodup -> P[i]? = some x -> vs[i]? = some v -> kindOf x ≠ some .local ->
  bindC kindOf (P.zip vs) m x = some v
 | [],_,_,_,_,h,_,_ => by simp at h
 | _ :: _,[],_,_,_,_,h,_ => by simp at h
 | p :: P,w :: vs,0,m,nd,h1,h2,hk => by
  simp at h1 h2; subst h1; subst h2
  show bindC kindOf ((p,w) :: P.zip vs) m p = _
  unfold bindC
  rw [xO fun v hv => (List.nodup_cons.mp nd).1 (List.of_mem_zip hv).1,if_neg hk]
  simp
 | p :: P,w :: vs,i + 1,m,nd,h1,h2,hk => by
  show bindC kindOf ((p,w) :: P.zip vs) m x = _
  unfold bindC
  exact xN (i:=i) (List.nodup_cons.mp nd).2 (by simpa using h1) (by simpa using h2) hk
def start (N : List Str) (vs : List V) : St:=vs.map some ++ List.replicate (N.length - vs.length) none
def yB (CX : CXT) (P : Program) (w : World) (K : PySem.W.Frag) (mg : Str -> Option Value) (base : Heap) (N : List Str) (qual : Str) (scope : Scope) (f : Addr) (cd : Value) (A : Around) (outer : List Env) (s : Shared) (H : Hp) (E : XK) : Cx where
 prog:=P
 w:=w
 K:=K
 mg:=mg
 base:=base
 A:=A.deeper (envOfC qual scope s.heap.objs.size f cd)
 N:=N
 s₀:=s
 H₀:=H
 env:=envOfC qual scope s.heap.objs.size f cd
 outer:=outer
 stack:=envOfC qual scope s.heap.objs.size f cd :: outer
 ex:=[]
 calm:=true
 fn:=fun _ => true
 pn:=[]
 xe:=fun e s' => wpAny (model P w) (A.deeper (envOfC qual scope s.heap.objs.size f cd)) (leaving (envOfC qual scope s.heap.objs.size f cd) e) (fun _ s'' => CX outer H s E e s'') (fun e' s'' => CX outer H s E e' s'') s'
theorem zB {sc : Scope} {n : Nat} {x : Str} (h : sc.names.lookup x = some .cell) : ∃ c,(cellsFrom n sc.names []).lookup x = some c:=by
 have q:=PySem.W.cellsFrom_some sc.names n [] (.inl h)
 exact Option.isSome_iff_exists.mp q
theorem x9 {CX : CXT} {P : Program} {w : World} {K : PySem.W.Frag} {mg : Str -> Option Value} {base : Heap} {N ps : List Str} {qual : Str} {scope : Scope} {f : Addr} {cd : Value} {A : Around} {outer : List Env} {s s1 : Shared} {H : Hp} {E : XK} {us : List Value} {vs : List V}
  (S : FnScope N ps scope) (hd : A.handled = none) (e0 : Env0 P w K mg base A outer s H) (hl : vs.length = ps.length) (r : Vals vs us)
  (x : InCallC s s.heap.objs.size (bindL (envOfC qual scope s.heap.objs.size f cd).kindOf (ps.zip us) fun _ => none) (cellsFrom (s.heap.objs.size + 1) scope.names []) (bindC (envOfC qual scope s.heap.objs.size f cd).kindOf (ps.zip us) fun _ => none) s1) :
  Inv (yB CX P w K mg base N qual scope f cd A outer s H E) [] (start N vs) H s1:=by
 have hpl : ps.length <= N.length:=by have:=congrArg List.length S.pre; rw [List.length_take] at this; omega
 obtain ⟨h1,tk,rfl,hk⟩:=x.done
 have noA : ∀ b : Addr,b ∉ (yB CX P w K mg base N qual scope f cd A outer s H E).ex:=fun b z => absurd (show b ∈ ([] : List Addr) from z) (by simp)
 refine ⟨⟨e0.mod,S.kind,rfl,rfl,Nat.le_refl _,fun y z c h1 h2 => ?_,fun y hy => ?_,fun y c _ h => ?_,fun _ => hd,Around.frames_deeper e0.frames,.inr ⟨rfl,rfl⟩,fun b z => absurd z (noA b),e0.bs,e0.bsz,fun b _ _ => noA b,fun b z => absurd z (noA b),e0.funs,e0.frf⟩,
  rfl,e0.bare,Un.kept hk,⟨_,x.toInCall.ns,fun i y v h1 h2 h3 => ?_⟩,fun y c h => ⟨_,x.cell y c h⟩,e0.hok.fresh (Nat.le_refl _),fun y c h => ?_,fun p hp => absurd (show p ∈ ([] : List (Addr × Obj)) from hp) (by simp),e0.hok.kept hk,?_⟩
 ·exact name_of_addr x.apart (PySem.mem_of_lookup h1) (PySem.mem_of_lookup h2)
 ·have hy : scope.names.lookup y = some .cell \/ scope.names.lookup y = some .free:=hy
  rcases hy with hy | hy
  ·exact zB hy
  ·exact absurd rfl (S.nofree _ (PySem.mem_of_lookup hy))
 ·exact Nat.le_of_lt (x.above y c (PySem.mem_of_lookup h))
 ·have hi : i < vs.length:=by
   unfold start at h2
   by_cases hi : i < vs.length
   ·exact hi
   ·rw [List.getElem?_append_right (by simpa using hi)] at h2
    rw [List.getElem?_replicate] at h2
    split at h2 <;> cases h2
  have ha : vs[i]? = some v:=by
   unfold start at h2
   rw [List.getElem?_append_left (by simpa using hi),List.getElem?_map] at h2
   cases e : vs[i]? with
   | none => rw [e] at h2; cases h2
   | some a => rw [e] at h2; cases h2; rfl
  obtain ⟨u,hu,rv⟩:=r.get ha
  have hp : ps[i]? = some y:=by
   rw [<- S.pre,List.getElem?_take_of_lt (by omega)]; exact h1
  have ndP : ps.Nodup:=by rw [<- S.pre]; exact S.nd.sublist (List.take_sublist _ _)
  refine ⟨u,rv,?_⟩
  rcases S.par y (List.mem_of_getElem? hp) with k | k
  ·exact .inl ⟨k,xP ndP hp hu k⟩
  ·obtain ⟨c,e⟩:=zB (n:=s.heap.objs.size + 1) k
   refine .inr ⟨.inl k,c,e,?_⟩
   have q:=x.cell y c e
   rw [xN ndP hp hu (by show scope.names.lookup y ≠ _; rw [k]; decide)] at q
   exact q
 ·exact e0.hok.fresh (Nat.le_of_lt (x.above y c (PySem.mem_of_lookup h)))
 ·unfold start
  show _ = N.length
  rw [List.length_append,List.length_map,List.length_replicate]
  omega
theorem HY {CX : CXT} {P : Program} {w : World} {K : PySem.W.Frag} {mg : Str -> Option Value} {base : Heap} {k : Nat} {f : Addr} {name qual : Str} {params : Arguments} {body : List Stmt} {scope : Scope} {dV kV doc pm cdv ct oc : Value} {an od : Option Addr}
  {osl : Array (Option Value)} {N ps : List Str} {sp : Sp} (lk : K.lookup f = some ⟨oc,od,.func (PySem.W.fnOf name qual params body scope dV kV doc pm an cdv ct),osl⟩) (hcd : PySem.W.codeIn K cdv qual = true) (S : FnScope N ps scope)
  (len : ∀ vs H Q E,sp vs H Q E -> vs.length = ps.length)
  (hbody : ∀ (A : Around) (outer : List Env) (s : Shared) (H : Hp) (vs : List V) (Q : VK) (E : XK),Room k (A.deeper (envOfC qual scope s.heap.objs.size f cdv)) -> sp vs H Q E ->
   ∃ t,PSs (yB CX P w K mg base N qual scope f cdv A outer s H E) body t /\ t { nx:=fun _ H' => Q .non H',rt:=Q } (start N vs) H) :
  FnOk P w K mg base CX (k + 1) f (PySem.W.fnOf name qual params body scope dV kV doc pm an cdv ct) ps sp:=by
 refine ⟨len,fun A outer s H args us vs Q E hr e0 hb r hsp => ?_⟩
 have hl:=len _ _ _ _ hsp
 have KX : K.In s.heap:=e0.mod.kin.keeps fun b o e => (e0.bs b o e).1
 have lim : s.heap.NoLimit:=e0.mod.nolimit.keeps fun b o e => (e0.bs b o e).1
 have hkind : ∀ y ∈ ps.zip us,scope.names.lookup y.1 = some .local \/ (scope.names.lookup y.1 = some .cell /\ ((cellsFrom (s.heap.objs.size + 1) scope.names []).lookup y.1).isSome = true):=fun ⟨n,v⟩ hy => by
  rcases S.par n (List.of_mem_zip hy).1 with q | q
  ·exact .inl q
  ·exact .inr ⟨q,PySem.W.cellsFrom_some _ _ _ (.inl q)⟩
 refine codeAny_call_function hr.depth (KX _ _ lk) rfl S.co S.gen rfl (PySem.W.codeRec_of KX hcd) (hb _ _ _ _ ?_)
 refine wpAny_newFunctionEnv_cells S.kind hkind fun env he s1 x => ?_
 subst he
 refine ⟨lim.keeps x.toInCall.keep,codeAny_func ?_⟩
 obtain ⟨t,ht,hq⟩:=hbody A outer s H vs Q E (hr.deeper _) hsp
 have I : Inv (yB CX P w K mg base N qual scope f cdv A outer s H E) [] (start N vs) H s1:=x9 S hr.hd e0 hl r x
 refine wpAny_mono (ht [] s1 (start N vs) H _ I hq) (fun fl s' hs => ?_) fun e s' hs => hs
 have fin : ∀ {σ' : St} {H' : Hp} {v : V} {u : Value},Inv (yB CX P w K mg base N qual scope f cdv A outer s H E) [] σ' H' s' -> RelV v u -> Q v H' -> CE outer P w H s Q u s' :=
  fun {σ' H' v u} J rv q => ⟨v,H',J.os,J.bare,J.base,J.hok,rv,q⟩
 cases fl with
 | ret u =>
  obtain ⟨v,σ',H',J,rv,q⟩:=hs
  exact fin J rv q
 | next =>
  obtain ⟨σ',H',J,q⟩:=hs
  exact fin (v:=V.non) (u:=Value.none) J rfl q
 | brk =>
  obtain ⟨_,_,_,q⟩:=hs
  exact False.elim q
 | cont =>
  obtain ⟨_,_,_,q⟩:=hs
  exact False.elim q
end L2
namespace L2
open PySem PySem.Spec PyProof.Rows
section
variable {X : Cx} {x : Str} {p pos : Pos} {e : Expr} {es : List Expr} {t : TA} {id T : String} {r : List V -> Hp -> VK -> Prop}
def tCB (r : List V -> Hp -> VK -> Prop) (t : TA) : TE:=fun σ H Q => t σ H fun vs H1 => r vs H1 Q
theorem aA (hc : iR X (.builtin id) r) (hg : Gl X x) (hm : X.mg x = none) (hv : bootBuiltins x = some (.builtin id)) (ha : PA X (e :: es) t) (hn : x ≠ "__name__" := by decide) (hdb : (x == ("__debug__" : Str)) = false:=by decide)
  (he : starEach (e :: es) X.env = (false,eval e X.env) :: starEach es X.env:=by rfl) (hpl : (backTo pos (starEach es X.env)).any (·.1) = false:=by rfl) : PE X (.Call (.Name x p) (e :: es) [] pos) (tCB r t):=by
 intro pins s σ H Q I h
 refine wpAny_Call_Name_kw (kI I hg hm hv ?_ hn hdb)
 exact PyProof.Rows.callWith_builtin1 (thn (ha pos pins s σ H _ I h) fun us s1 ⟨vs,H1,I1,r1,q1⟩ => hc pins s1 σ H1 vs us Q I1 r1 q1) he hpl
theorem a9 (hc : iR X (.type T) r) (hg : Gl X x) (hm : X.mg x = none) (hv : bootBuiltins x = some (.type T)) (ha : PA X (e :: es) t) (hn : x ≠ "__name__" := by decide) (hdb : (x == ("__debug__" : Str)) = false:=by decide)
  (he : starEach (e :: es) X.env = (false,eval e X.env) :: starEach es X.env:=by rfl) (hpl : (backTo pos (starEach es X.env)).any (·.1) = false:=by rfl) : PE X (.Call (.Name x p) (e :: es) [] pos) (tCB r t):=by
 intro pins s σ H Q I h
 refine wpAny_Call_Name_kw (kI I hg hm hv ?_ hn hdb)
 exact PyProof.Rows.callWith_type1 (thn (ha pos pins s σ H _ I h) fun us s1 ⟨vs,H1,I1,r1,q1⟩ => hc pins s1 σ H1 vs us Q I1 r1 q1) he hpl
end
end L2
namespace HT
open PySem PyProof.Rows
section
open PySem.SeqAt
open PySem.AutoSeq1 (wpAny_loadPart')
open PySem.MeetsSeq PySem.MeetsSeq2 PySem.MeetsSeq3
end
section
variable {prog : Program} {w : World} {A : Around} {E : Value -> Shared -> Prop} {s : Shared}
def sIx (n d : Nat) : Option Int -> Nat
 | none => d
 | some v => if v < 0 then (v + (n : Int)).toNat else min v.toNat n
theorem Jg (n d : Nat) (hd : d <= n) (o : Option Int) : sIx n d o <= n:=by
 cases o with
 | none => exact hd
 | some v =>
  show (if v < 0 then (v + (n : Int)).toNat else min v.toNat n) <= n
  by_cases hv : v < 0
  ·rw [if_pos hv]; omega
  ·rw [if_neg hv]; exact Nat.min_le_right _ _
theorem C8 (v : Int) (n d : Nat) : (if v < 0 then max (v + (n : Int)) 0 else min v (n : Int)) = ((sIx n d (some v) : Nat) : Int):=by
 show (if v < 0 then max (v + (n : Int)) 0 else min v (n : Int)) = (((if v < 0 then (v + (n : Int)).toNat else min v.toNat n) : Nat) : Int)
 by_cases hv : v < 0
 ·simp only [if_pos hv]; omega
 ·simp only [if_neg hv]; omega
theorem A9 (lo hi : Option Int) (n : Nat) : Builtin.Slice.sliceAdjust lo hi 1 (n : Int) = (((sIx n 0 lo : Nat) : Int),((sIx n n hi : Nat) : Int)):=by
 have h1 : ¬ ((1 : Int) < 0):=by omega
 unfold Builtin.Slice.sliceAdjust
 simp only [h1,if_false]
 refine Prod.ext ?_ ?_
 ·cases lo with
  | none => rfl
  | some v => exact C8 v n 0
 ·cases hi with
  | none => rfl
  | some v => exact C8 v n n
theorem Cp (i j : Nat) : Builtin.Slice.slicePlaces (i : Int) (j : Int) 1 = j - i:=by
 unfold Builtin.Slice.slicePlaces
 have h1 : (1 : Int) > 0:=by omega
 simp only [h1,if_true,Int.ediv_one]
 split <;> omega
theorem vR {v : Value} {o : Option Int} {Q : Option Int -> Shared -> Prop} (p : IsPart v o) (h : Q o s) : wpAny (model prog w) A (Builtin.Slice.slicePartIndex v) Q E s:=by
 cases p with
 | none => exact slicePart_none h
 | int i t => exact slicePart_int h
theorem jG {sl : Addr} {vl vu : Value} {lo hi : Option Int} {n : Nat} {Q : Int × Int × Nat -> Shared -> Prop} (hs : s.heap.IsSliceOf sl vl vu .none) (pl : IsPart vl lo) (pu : IsPart vu hi)
  (h : Q (((sIx n 0 lo : Nat) : Int),1,sIx n n hi - sIx n 0 lo) s) : wpAny (model prog w) A (Builtin.Slice.sliceApplied (.ref sl) (pure (n : Int))) Q E s:=by
 obtain ⟨os,hos,hcs,hds⟩:=id hs
 unfold Builtin.Slice.sliceApplied Builtin.Slice.sliceFields
 refine wpAny_bind (wpAny_bind (wpAny_field hos hds (x:=vl) rfl (wpAny_bind (wpAny_field hos hds (x:=vu) rfl (wpAny_bind (wpAny_field hos hds (x:=.none) rfl (wpAny_pure ?_)))))))
 refine wpAny_bind (slicePart_none ?_)
 show wpAny _ _ (if ((1 : Int) == 0) = true then _ else _) _ _ s
 rw [if_neg (by decide)]
 refine wpAny_bind (vR pl (wpAny_bind (vR pu (wpAny_bind (wpAny_pure ?_)))))
 show wpAny _ _ (match Builtin.Slice.sliceAdjust lo hi 1 (n : Int) with | (lo,hi) => pure (lo,(1 : Int),Builtin.Slice.slicePlaces lo hi 1)) _ _ s
 rw [A9 lo hi n]
 show wpAny _ _ (pure (((sIx n 0 lo : Nat) : Int),(1 : Int),Builtin.Slice.slicePlaces ((sIx n 0 lo : Nat) : Int) ((sIx n n hi : Nat) : Int) 1)) _ _ s
 rw [Cp]
 exact wpAny_pure h
theorem Gh (xs : Array Value) (i k : Nat) : ((List.range k).filterMap fun (m : Nat) => xs[((i : Int) + (m : Int) * 1).toNat]?).toArray = ((xs.toList.drop i).take k).toArray:=by
 have e : (fun (m : Nat) => xs[((i : Int) + (m : Int) * 1).toNat]?) = fun m => xs[i + m]? := by
  funext m
  have : ((i : Int) + (m : Int) * 1).toNat = i + m:=by omega
  rw [this]
 rw [e]
 have:=pick_run xs i k
 rw [List.filterMap_map] at this
 have e2 : ((fun x => xs[x]?) ∘ fun x => i + x) = fun m => xs[i + m]? := rfl
 rw [e2] at this
 rw [this]
theorem getItem_tuple_cut {t sl : Addr} {items : Array Value} {vl vu : Value} {lo hi : Option Int} {Q : Value -> Shared -> Prop} (ht : IsTup s.heap t items) (hs : s.heap.IsSliceOf sl vl vu .none) (pl : IsPart vl lo) (pu : IsPart vu hi)
  (hw : ¬ (sIx items.size 0 lo = 0 /\ sIx items.size items.size hi = items.size))
  (h : Q (.ref s.heap.objs.size) { s with heap:=s.heap.push { cls:=.type "tuple",data:=.seq ((items.toList.drop (sIx items.size 0 lo)).take (sIx items.size items.size hi - sIx items.size 0 lo)).toArray } })
  (hsz : items.size <= sizeLine) : wpAny (model prog w) A (getItem (.ref t) (.ref sl)) Q E s:=by
 have htake : sizeOk (.seq ((items.toList.drop (sIx items.size 0 lo)).take (sIx items.size items.size hi - sIx items.size 0 lo)).toArray):=by
  show ((items.toList.drop (sIx items.size 0 lo)).take (sIx items.size items.size hi - sIx items.size 0 lo)).toArray.size <= sizeLine
  rw [List.size_toArray,List.length_take,List.length_drop,Array.length_toList]
  omega
 have hj : sIx items.size items.size hi <= items.size:=Jg _ _ (Nat.le_refl _) hi
 obtain ⟨os,hos,hcs,hds⟩:=id hs
 have hTs : s.TypeIs (.ref sl) "slice" := ⟨os,hos,hcs⟩
 unfold getItem
 try with_reducible refine wpAny_holding ?_
 first | refine wpAny_bind (wpAny_pure ?_) | skip
 refine wpAny_bind (wpAny_sequenceKey ht.typeIs (by decide) ?_)
 refine wpAny_bind (wpAny_callSpecial?_slot (name:=Str.ofString "__getitem__") ht.typeIs PyProof.Rows.slot_tuple_getitem
  (wpAny_call_entry PyProof.Rows.slot_tuple_getitem ht.typeIs entry_tuple_getitem ?_ (args_tuple_getitem _ _)))
 show wpAny _ _ (Builtin.Tuple.tupleItemsOf (.ref t) >>= _) _ _ s
 refine wpAny_bind (tupleItemsOf_ ht ?_)
 refine wpAny_bind (wpAny_typeOf hTs ?_)
 rw [if_pos (by decide)]
 refine wpAny_bind (jG hs pl pu ?_)
 have hno : ¬ ((((sIx items.size 0 lo : Nat) : Int) == 0 && (1 : Int) == 1 && (sIx items.size items.size hi - sIx items.size 0 lo) == items.size) = true):=by
  intro q
  rw [Bool.and_eq_true,Bool.and_eq_true] at q
  have q1 : ((sIx items.size 0 lo : Nat) : Int) = 0:=eq_of_beq q.1.1
  have q2 : sIx items.size items.size hi - sIx items.size 0 lo = items.size:=eq_of_beq q.2
  exact hw ⟨by omega,by omega⟩
 show wpAny _ _ (if (((sIx items.size 0 lo : Nat) : Int) == 0 && (1 : Int) == 1 && (sIx items.size items.size hi - sIx items.size 0 lo) == items.size) = true then _ else _) _ _ s
 rw [if_neg hno,Gh]
 first
  | exact wpAny_bind (m:=Builtin.Tuple.tupleExact _) (wpAny_newObj_type (wpAny_pure ⟨_,rfl,wpAny_pure h⟩) htake)
  | exact wpAny_bind (m:=Builtin.Tuple.tupleExact _) (wpAny_newObj_type (wpAny_bind (wpAny_pure (wpAny_pure ⟨_,rfl,wpAny_pure h⟩))) htake)
  | exact wpAny_bind (wpAny_bind (m:=Builtin.Tuple.tupleExact _) (wpAny_newObj_type (wpAny_pure (wpAny_pure ⟨_,rfl,wpAny_pure h⟩)) htake))
  | exact wpAny_bind (wpAny_bind (m:=Builtin.Tuple.tupleExact _) (wpAny_newObj_type (wpAny_pure ⟨_,rfl,wpAny_pure h⟩) htake))
end
end HT
namespace L2
open PySem PySem.Spec PyProof.Rows
abbrev TO:=St -> Hp -> (Option Int -> Hp -> Prop) -> Prop
def PO (X : Cx) (e : Option Expr) (t : TO) : Prop:=
 ∀ (pins : List (Addr × Obj)) (s : Shared) (σ : St) (H : Hp) (Q : Option Int -> Hp -> Prop),Inv X pins σ H s -> t σ H Q ->
  wpAny (model X.prog X.w) X.A (evalPart e X.env) (fun u s' => ∃ o H',Inv X pins σ H' s' /\ IsPart u o /\ Q o H') X.xe s
def HU : TO:=fun _ H Q => Q none H
def J1 (t : TE) : TO:=fun σ H Q => t σ H fun x H1 => ∃ i,x = .int i /\ Q (some i) H1
section
variable {X : Cx} {e : Expr} {te : TE} {lo hi : Option Expr} {tl th : TO} {pos p2 : Pos}
theorem Dw : PO X none HU:=by
 intro pins s σ H Q I h
 rw [evalPart_none]
 exact wpAny_pure ⟨none,H,I,.none,h⟩
theorem Dx (h : PE X e te) : PO X (some e) (J1 te):=by
 intro pins s σ H Q I hw
 rw [evalPart_some]
 refine thn (h pins s σ H _ I hw) fun u s1 ⟨x,H1,I1,r1,q1⟩ => ?_
 obtain ⟨i,rfl,q⟩:=q1
 obtain ⟨t,rfl⟩:=r1
 exact ⟨some i,H1,I1,.int i t,q⟩
def SlR (X : Cx) (r : V -> Option Int -> Option Int -> Hp -> VK -> Prop) : Prop:=
 ∀ (pins : List (Addr × Obj)) (s : Shared) (σ : St) (H : Hp) (x : V) (v vl vu : Value) (lo hi : Option Int) (sl : Addr) (Q : VK),Inv X pins σ H s -> RelV x v -> s.heap.IsSliceOf sl vl vu .none -> IsPart vl lo -> IsPart vu hi -> r x lo hi H Q ->
  ∃ T id,typeLookup (.type T) "__getitem__" = pure (some (.builtin id)) /\ s.TypeIs v T /\ wpAny (model X.prog X.w) X.A (getItem v (.ref sl)) (EP X pins σ Q) X.xe s
def tSl (r : V -> Option Int -> Option Int -> Hp -> VK -> Prop) (te : TE) (tl th : TO) : TE:=fun σ H Q => te σ H fun x H1 => tl σ H1 fun l H2 => th σ H2 fun u H3 => r x l u H3 Q
theorem Aw {r : V -> Option Int -> Option Int -> Hp -> VK -> Prop} (hr : SlR X r) (he : PE X e te) (hl : PO X lo tl) (hu : PO X hi th) : PE X (.Subscript e (.Slice lo hi none p2) pos) (tSl r te tl th):=by
 intro pins s σ H Q I h
 refine Subscript_ (thn (he pins s σ H _ I h) fun v s1 ⟨x,H1,I1,r1,q1⟩ => ?_)
 refine wpAny_Slice (thn (hl pins s1 σ H1 _ I1 q1) fun vl s2 ⟨l,H2,I2,pl,q2⟩ => thn (hu pins s2 σ H2 _ I2 q2) fun vu s3 ⟨u,H3,I3,pu,q3⟩ => ?_)
 rw [evalPart_none]
 refine wpAny_pure ?_
 have I4 : Inv X pins σ H3 { s3 with heap:=s3.heap.push { cls:=.type "slice",data:=.fields #[vl,vu,.none] } }:=I3.kept (t' := s3.toks) fun b ob q => Heap.get?_push_of_some _ q
 obtain ⟨T,id,hT,ht,hg⟩:=hr pins { s3 with heap:=s3.heap.push { cls:=.type "slice",data:=.fields #[vl,vu,.none] } } σ H3 x v vl vu l u s3.heap.objs.size Q I4 r1 (Heap.IsSliceOf.new ..) pl pu q3
 show wpAny (model X.prog X.w) X.A (subscriptTail e (.Slice lo hi none p2) v (.ref s3.heap.objs.size)) (EP X pins σ Q) X.xe { s3 with heap:=s3.heap.push { cls:=.type "slice",data:=.fields #[vl,vu,.none] } }
 exact tail_any (ops:=[.ref s3.heap.objs.size,v]) ht hT hg (by with_unfolding_all rfl)
def qU (xs : List V) (lo hi : Option Int) : List V:=(xs.drop (HT.sIx xs.length 0 lo)).take (HT.sIx xs.length xs.length hi - HT.sIx xs.length 0 lo)
theorem sO (xs : List V) (lo hi : Option Int) : (qU xs lo hi).length <= xs.length:=by
 unfold qU
 rw [List.length_take,List.length_drop]
 omega
def Kt (K : PySem.W.Frag) : V -> Option Int -> Option Int -> Hp -> VK -> Prop:=fun x lo hi H Q => ∃ a xs,x = .ref a /\ SqT K H a xs /\
 ¬ (HT.sIx xs.length 0 lo = 0 /\ HT.sIx xs.length xs.length hi = xs.length) /\ ∀ p,H p = none -> Q (.ref p) (upd H p (.tup (qU xs lo hi)))
theorem Jj : SlR X (Kt X.K):=by
 intro pins s σ H x v vl vu lo hi sl Q I rx hs pl pu h
 obtain ⟨a,xs,rfl,hx,hw,q⟩:=h
 cases rx
 obtain ⟨its,r,ht,hz⟩:=I.tuple hx
 have hlen : its.toArray.size = xs.length:=by rw [List.size_toArray]; exact r.length.symm
 refine ⟨"tuple",_,PyProof.Rows.slot_tuple_getitem.lookup,ht.typeIs,?_⟩
 refine HT.getItem_tuple_cut ht hs pl pu (by rw [hlen]; exact hw) ?_ (by rw [hlen]; exact hz)
 rw [hlen]
 refine ⟨.ref s.heap.objs.size,_,I.laid (t' := s.toks) (o:=.tup (qU xs lo hi)) (fun b ob q => Heap.get?_push_of_some _ q) (Nat.le_refl _) ?_,rfl,q _ (I.hok.fresh (Nat.le_refl _))⟩
 exact ⟨Nat.le_trans (sO xs lo hi) hz,_,(r.drop (HT.sIx xs.length 0 lo)).take (HT.sIx xs.length xs.length hi - HT.sIx xs.length 0 lo),IsTup.new _ _⟩
end
end L2
namespace L2
open PySem PySem.Spec PyProof.Rows
def ixN (n : Nat) (i : Int) : Option Nat:=if 0 <= i then (if i < n then some i.toNat else none) else if -(n : Int) <= i then some (i + n).toNat else none
def atI {α : Type} (xs : List α) (i : Int) : Option α:=(ixN xs.length i).bind fun j => xs[j]?
theorem Dq {n : Nat} {i : Int} {j : Nat} (h : ixN n i = some j) : seqIndex? i n = some j /\ j < n /\ -(n : Int) <= i /\ i < n:=by
 unfold ixN at h
 by_cases h0 : 0 <= i
 ·rw [if_pos h0] at h
  by_cases h1 : i < n
  ·rw [if_pos h1] at h
   have e : i.toNat = j:=Option.some.inj h
   exact ⟨by rw [seqIndex_of h0 h1,e],by omega,by omega,h1⟩
  ·rw [if_neg h1] at h; cases h
 ·rw [if_neg h0] at h
  by_cases h1 : -(n : Int) <= i
  ·rw [if_pos h1] at h
   have e : (i + n).toNat = j:=Option.some.inj h
   exact ⟨by rw [seqIndex_neg (by omega) h1,e],by omega,h1,by omega⟩
  ·rw [if_neg h1] at h; cases h
theorem C4 {α : Type} {xs : List α} {i : Int} {v : α} (h : atI xs i = some v) : ∃ j,seqIndex? i xs.length = some j /\ xs[j]? = some v /\ j < xs.length /\ -(xs.length : Int) <= i /\ i < xs.length:=by
 unfold atI at h
 cases e : ixN xs.length i with
 | none => rw [e] at h; cases h
 | some j =>
  rw [e] at h
  obtain ⟨h1,h2,h3,h4⟩:=Dq e
  exact ⟨j,h1,h,h2,h3,h4⟩
theorem px {α : Type} {xs : List α} {j : Nat} {v : α} (h : xs[j]? = some v) : atI xs (j : Int) = some v:=by
 have hj : j < xs.length:=(List.getElem?_eq_some_iff.mp h).1
 have e : ixN xs.length (j : Int) = some j:=by
  unfold ixN
  rw [if_pos (by omega),if_pos (by omega)]; simp
 unfold atI; rw [e]; exact h
theorem E2 {α : Type} (xs : List α) (v : α) : atI (xs ++ [v]) (-1) = some v:=by
 have hl : (xs ++ [v]).length = xs.length + 1:=by simp
 have e : ixN (xs ++ [v]).length (-1) = some xs.length:=by
  unfold ixN
  rw [hl,if_neg (by decide),if_pos (by omega)]
  congr 1
  omega
 unfold atI
 rw [e]
 show (xs ++ [v])[xs.length]? = some v
 simp
def GS (b : Expr) : Prop := ∀ o i,subscripted b false o i = operate [o,i] (getItem o i)
def IxR (X : Cx) (r : R2) : Prop:=
 ∀ (value slice : Expr) (pins : List (Addr × Obj)) (s : Shared) (σ : St) (H : Hp) (x y : V) (v u : Value) (Q : VK),Inv X pins σ H s -> RelV x v -> RelV y u -> r x y H Q ->
  subscripted slice false v u = operate [v,u] (getItem v u) -> wpAny (model X.prog X.w) X.A (subscriptTail value slice v u) (EP X pins σ Q) X.xe s
def MtR (X : Cx) (id : String) (r : V -> List V -> Hp -> VK -> Prop) : Prop:=
 ∀ (pins : List (Addr × Obj)) (s : Shared) (σ : St) (H : Hp) (x : V) (xs : List V) (v : Value) (us : List Value) (Q : VK),Inv X pins σ H s -> RelV x v -> Vals xs us -> r x xs H Q ->
  wpAny (model X.prog X.w) X.A (call (.builtin id) (v :: us)) (EP X pins σ Q) X.xe s
section
variable {X : Cx} {a b : Expr} {ta tb : TE} {pos : Pos}
theorem aL {r : R2} (hr : IxR X r) (ha : PE X a ta) (hb : PE X b tb) (hs : GS b) : PE X (.Subscript a b pos) (tOp r ta tb):=by
 intro pins s σ H Q I h
 exact Subscript_ (Il ha hb I h fun v u s2 x y H2 I2 rx ry q => hr a b pins s2 σ H2 x y v u Q I2 rx ry q (hs _ _))
def JP (K : PySem.W.Frag) : R2:=fun x y H Q => ∃ p xs i v,x = .ref p /\ y = .int i /\ SqL K H p xs /\ atI xs i = some v /\ Q v H
def JQ (K : PySem.W.Frag) : R2:=fun x y H Q => ∃ p xs i v,x = .ref p /\ y = .int i /\ SqT K H p xs /\ atI xs i = some v /\ Q v H
theorem eN : IxR X (JP X.K):=by
 intro value slice pins s σ H x y v u Q I rx ry h hs
 obtain ⟨p,xs,i,z,rfl,rfl,hq,he,q⟩:=h
 cases rx
 obtain ⟨t,rfl⟩:=ry
 obtain ⟨its,r,pl,hz⟩:=I.list hq
 obtain ⟨j,h1,h2,h3,h4,h5⟩:=C4 he
 obtain ⟨w,ew,rw'⟩:=r.get h2
 have hl:=r.length
 have hn:=vo
 have fin : EP X pins σ Q w s:=⟨z,H,I,rw',q⟩
 by_cases h0 : 0 <= i
 ·have hj : i.toNat = j:=by
   rw [seqIndex_of h0 h5] at h1
   exact Option.some.inj h1
  exact item_listR pl.isList h0 (by omega) (by rw [hj]; simpa using ew) fin hs
 ·have hj : (i + (its.toArray.size : Int)).toNat = j:=by
   rw [seqIndex_neg (by omega) h4] at h1
   rw [List.size_toArray,<- hl]
   exact Option.some.inj h1
  exact subscriptTail_builtinR (x:=w) pl.isList.typeIs slot_list_getitem.lookup
   (wpAny_getItem_list_neg (Q:=fun r s' => r = w /\ EP X pins σ Q r s') pl.isList (by omega) (by rw [List.size_toArray] <;> omega) (by omega) (by rw [hj]; simpa using ew) ⟨rfl,fin⟩) hs
theorem aK : IxR X (JQ X.K):=by
 intro value slice pins s σ H x y v u Q I rx ry h hs
 obtain ⟨p,xs,i,z,rfl,rfl,hq,he,q⟩:=h
 cases rx
 obtain ⟨t,rfl⟩:=ry
 obtain ⟨its,r,pl,hz⟩:=I.tuple hq
 obtain ⟨j,h1,h2,h3,h4,h5⟩:=C4 he
 obtain ⟨w,ew,rw'⟩:=r.get h2
 have hl:=r.length
 have hn:=vo
 have fin : EP X pins σ Q w s:=⟨z,H,I,rw',q⟩
 exact subscriptTail_builtinR (x:=w) pl.typeIs slot_tuple_getitem.lookup
  (getItem_tuple (j:=j) (Q:=fun r s' => r = w /\ EP X pins σ Q r s') pl (by omega) (by omega) (by rw [List.size_toArray,<- hl]; exact h1) (by simpa using ew) ⟨rfl,fin⟩) hs
theorem BV (its : List Value) (n j : Nat) (u : Value) : Obj.mapSeq (·.setIfInBounds j u) { cls:=.type "list",data:=.seq its.toArray n } = { cls:=.type "list",data:=.seq (its.set j u).toArray n }:=by
 simp [Obj.mapSeq]
theorem Inv.lst {pins : List (Addr × Obj)} {σ : St} {H : Hp} {s : Shared} {p : Addr} {xs : List V} (I : Inv X pins σ H s) (h : H p = some (.lst xs)) :
  ∃ (its : List Value) (n : Nat),Vals xs its /\ s.heap.get? p = some { cls:=.type "list",data:=.seq its.toArray n } /\ xs.length <= sizeLine:=by
 obtain ⟨z,its,n,r,e⟩:=I.hok p _ h
 exact ⟨its,n,r,e,z⟩
theorem Inv.lstUpd {pins : List (Addr × Obj)} {σ : St} {H : Hp} {s : Shared} {p : Addr} {xs ys : List V} {its its' : List Value} {n n' : Nat} {f : Obj -> Obj} (I : Inv X pins σ H s) (h : H p = some (.lst xs))
  (ho : s.heap.get? p = some { cls:=.type "list",data:=.seq its.toArray n }) (hf : f { cls:=.type "list",data:=.seq its.toArray n } = { cls:=.type "list",data:=.seq its'.toArray n' }) (r : Vals ys its') (hz : ys.length <= sizeLine) (t : Nat) :
  Inv X pins σ (upd H p (.lst ys)) { s with heap:=s.heap.update p f,toks:=t }:=by
 have e : (s.heap.update p f).get? p = some { cls:=.type "list",data:=.seq its'.toArray n' }:=by
  rw [Heap.get?_update_self f ho (by rw [hf] <;> rfl),hf]
 refine I.write (x:=p) (e:=p) (by rw [h]; trivial) (.inl rfl) (fun b u hb q => (Heap.get?_update_other _ _ (Ne.symm hb)).trans q) ⟨_,e⟩ ?_
 exact ⟨hz,its',n',r,e⟩
def JR : V -> V -> V -> Hp -> (Hp -> Prop) -> Prop:=fun o i v H Q => ∃ p xs k j,o = .ref p /\ i = .int k /\ H p = some (.lst xs) /\ ixN xs.length k = some j /\ Q (upd H p (.lst (xs.set j v)))
theorem set_list : Jx X JR:=by
 intro pins s σ H o i v ov iv u Q I ro ri rv h
 obtain ⟨p,xs,k,j,rfl,rfl,hp,hj,q⟩:=h
 cases ro
 obtain ⟨t,rfl⟩:=ri
 obtain ⟨its,n,r,ho,hz⟩:=I.lst hp
 obtain ⟨h1,h2,h3,h4⟩:=Dq hj
 have hl:=r.length
 have hn:=vo
 have I' : Inv X pins σ (upd H p (.lst (xs.set j v))) { s with heap:=s.heap.update p (Obj.mapSeq (·.setIfInBounds j u)) }:=
  I.lstUpd hp ho (BV its n j u) (r.set rv j) (by rw [List.length_set]; exact hz) s.toks
 by_cases h0 : 0 <= k
 ·have hk : k.toNat = j:=by
   rw [seqIndex_of h0 h4] at h1
   exact Option.some.inj h1
  exact PySem.W.ki_setAt ho h0 (by omega) (by rw [List.size_toArray,<- hl]; exact h4) (by rw [hk]; exact ⟨_,I',q⟩)
 ·have hk : (k + (its.toArray.size : Int)).toNat = j:=by
   rw [seqIndex_neg (by omega) h3] at h1
   rw [List.size_toArray,<- hl]
   exact Option.some.inj h1
  exact PySem.W.ki_setBack ho (by omega) (by rw [List.size_toArray,<- hl]; exact h3) (by omega) (by rw [hk]; exact ⟨_,I',q⟩)
theorem zb (lo hi : Option Int) (n : Nat) : (sliceBounds lo hi none n).1 = ((HT.sIx n 0 lo : Nat) : Int) /\ (sliceBounds lo hi none n).2.1 = ((HT.sIx n n hi : Nat) : Int) /\ (sliceBounds lo hi none n).2.2 = 1:=by
 refine ⟨?_,?_,rfl⟩
 ·cases lo with
  | none => simp [sliceBounds,HT.sIx]
  | some i =>
   simp only [sliceBounds,HT.sIx,Option.getD_none,show (1 : Int) > 0 by decide,if_true]
   by_cases h : i < 0
   ·simp only [h,if_true] <;> omega
   ·simp only [h,if_false] <;> omega
 ·cases hi with
  | none => simp [sliceBounds,HT.sIx]
  | some i =>
   simp only [sliceBounds,HT.sIx,Option.getD_none,show (1 : Int) > 0 by decide,if_true]
   by_cases h : i < 0
   ·simp only [h,if_true] <;> omega
   ·simp only [h,if_false] <;> omega
theorem xM (its : List Value) (lo hi : Option Int) : slicePick its.toArray lo hi none = ((its.drop (HT.sIx its.length 0 lo)).take (HT.sIx its.length its.length hi - HT.sIx its.length 0 lo)).toArray:=by
 obtain ⟨h1,h2,h3⟩:=zb lo hi its.toArray.size
 unfold slicePick
 rw [h1,h2,h3]
 simp only [sliceRange_one,pick_run,List.size_toArray] <;> rfl
def Ks (K : PySem.W.Frag) : V -> Option Int -> Option Int -> Hp -> VK -> Prop:=fun x lo hi H Q => ∃ a xs,x = .ref a /\ SqL K H a xs /\ ∀ p,H p = none -> Q (.ref p) (upd H p (.lst (qU xs lo hi)))
theorem DA : SlR X (Ks X.K):=by
 intro pins s σ H x v vl vu lo hi sl Q I rx hs pl pu h
 obtain ⟨a,xs,rfl,hx,q⟩:=h
 cases rx
 obtain ⟨its,r,ht,hz⟩:=I.list hx
 have hlen:=r.length
 refine ⟨"list",_,slot_list_getitem.lookup,ht.isList.typeIs,?_⟩
 refine wpAny_getItem_list_slice ht.isList hs pl pu .none (by simp) ?_ (by rw [List.size_toArray] <;> omega)
 rw [xM,<- hlen]
 refine ⟨.ref s.heap.objs.size,_,I.laid (t' := s.toks) (o:=.lst (qU xs lo hi)) (fun b ob q => Heap.get?_push_of_some _ q) (Nat.le_refl _) ?_,rfl,q _ (I.hok.fresh (Nat.le_refl _))⟩
 exact ⟨Nat.le_trans (sO xs lo hi) hz,_,0,(r.drop (HT.sIx xs.length 0 lo)).take (HT.sIx xs.length xs.length hi - HT.sIx xs.length 0 lo),Heap.get?_push_size _ rfl⟩
def kU : V -> Bool
 | .non => true
 | .bl _ => true
 | .int _ => true
 | .str _ => true
 | _ => false
def eqV : V -> V -> Bool
 | .non,.non => true
 | .bl a,.bl b => a == b
 | .bl a,.int b => (if a then 1 else 0) == b
 | .int a,.bl b => a == (if b then 1 else 0)
 | .int a,.int b => a == b
 | .str a,.str b => a == b
 | _,_ => false
theorem Ff {A : Around} {s : Shared} {y x : V} {u v : Value} (ry : RelV y u) (rx : RelV x v) (fy : kU y = true) (fx : kU x = true) : SeqAt.EqAt A s u v (eqV y x):=by
 cases y with
 | non =>
  cases ry
  cases x with
  | non => cases rx; exact SeqAt.EqAt.same _
  | bl b => cases rx; exact SeqAt.EqAt.none_bool b
  | int b => obtain ⟨t,rfl⟩:=rx; exact SeqAt.EqAt.none_int b t
  | str b => obtain ⟨t,rfl⟩:=rx; exact SeqAt.EqAt.none_str b t
  | _ => exact absurd (show false = true from fx) Bool.false_ne_true
 | bl a =>
  cases ry
  cases x with
  | non => cases rx; exact SeqAt.EqAt.bool_none a
  | bl b => cases rx; exact SeqAt.EqAt.bool_bool a b
  | int b => obtain ⟨t,rfl⟩:=rx; exact SeqAt.EqAt.bool_int a b t
  | str b => obtain ⟨t,rfl⟩:=rx; exact SeqAt.EqAt.bool_str a b t
  | _ => exact absurd (show false = true from fx) Bool.false_ne_true
 | int a =>
  obtain ⟨t',rfl⟩:=ry
  cases x with
  | non => cases rx; exact SeqAt.EqAt.int_none a t'
  | bl b => cases rx; exact SeqAt.EqAt.int_bool a t' b
  | int b => obtain ⟨t,rfl⟩:=rx; exact SeqAt.EqAt.int_int a t' b t
  | str b => obtain ⟨t,rfl⟩:=rx; exact SeqAt.EqAt.int_str a t' b t
  | _ => exact absurd (show false = true from fx) Bool.false_ne_true
 | str a =>
  obtain ⟨t',rfl⟩:=ry
  cases x with
  | non => cases rx; exact SeqAt.EqAt.str_none a t'
  | bl b => cases rx; exact SeqAt.EqAt.str_bool a t' b
  | int b => obtain ⟨t,rfl⟩:=rx; exact SeqAt.EqAt.str_int a t' b t
  | str b => obtain ⟨t,rfl⟩:=rx; exact SeqAt.EqAt.str_str a t' b t
  | _ => exact absurd (show false = true from fx) Bool.false_ne_true
 | _ => exact absurd (show false = true from fy) Bool.false_ne_true
def eqU (x : V) (u : Value) : Bool:=match u with
 | .none => eqV .non x
 | .bool b => eqV (.bl b) x
 | .int i _ => eqV (.int i) x
 | .str z _ => eqV (.str z) x
 | _ => false
theorem Fg {x y : V} {u : Value} (r : RelV y u) (f : kU y = true) : eqU x u = eqV y x:=by
 cases y with
 | non => cases r; rfl
 | bl b => cases r; rfl
 | int i => obtain ⟨t,rfl⟩:=r; rfl
 | str z => obtain ⟨t,rfl⟩:=r; rfl
 | _ => exact absurd (show false = true from f) Bool.false_ne_true
theorem yu {x : V} : ∀ {xs : List V} {us : List Value},Vals xs us -> xs.all kU = true -> us.any (eqU x) = xs.any fun y => eqV y x
 | _,_,.nil,_ => rfl
 | y :: xs,u :: us,.cons r t,f => by
  rw [List.all_cons,Bool.and_eq_true] at f
  rw [List.any_cons,List.any_cons,Fg r f.1,yu t f.2]
theorem vt {A : Around} {s : Shared} {x : V} {v : Value} (rx : RelV x v) (fx : kU x = true) : ∀ {xs : List V} {us : List Value},Vals xs us -> xs.all kU = true -> ∀ u ∈ us,SeqAt.EqAt A s u v (eqU x u)
 | _,_,.nil,_ => fun u hu => by cases hu
 | y :: xs,u :: us,.cons r t,f => fun u' hu => by
  rw [List.all_cons,Bool.and_eq_true] at f
  rcases List.mem_cons.mp hu with rfl | hu
  ·rw [Fg r f.1]; exact Ff r rx f.1 fx
  ·exact vt rx fx t f.2 u' hu
def inV (x : V) (xs : List V) : Bool:=xs.any fun y => eqV y x
def rIn (K : PySem.W.Frag) (neg : Bool) : R2:=fun x y H Q => ∃ p xs,y = .ref p /\ (SqL K H p xs \/ SqT K H p xs) /\ kU x = true /\ xs.all kU = true /\ Q (.bl (if neg then !inV x xs else inV x xs)) H
theorem EG : OpR X (compareOp .In) (rIn X.K false):=by
 intro pins s σ H x y v u Q I rx ry h
 obtain ⟨p,xs,rfl,hq,fx,fs,q⟩:=h
 cases ry
 rcases hq with hq | hq
 ·obtain ⟨its,r,pl,hz⟩:=I.list hq
  refine SeqAt.in_listAt (eqU x) pl.isList (fun w hw => vt rx fx r fs w (by simpa using hw)) ⟨.bl _,H,I,rfl,?_⟩
  rw [show its.toArray.any (eqU x) = its.any (eqU x) by simp,yu r fs]
  exact q
 ·obtain ⟨its,r,pl,hz⟩:=I.tuple hq
  refine SeqAt.in_tupleAt (eqU x) pl (fun w hw => vt rx fx r fs w (by simpa using hw)) ⟨.bl _,H,I,rfl,?_⟩
  rw [show its.toArray.any (eqU x) = its.any (eqU x) by simp,yu r fs]
  exact q
theorem aD : iR X (.builtin "len") (fun xs H Q => ∃ p ys,xs = [.ref p] /\ (SqL X.K H p ys \/ SqT X.K H p ys) /\ Q (.int ys.length) H):=by
 intro pins s σ H xs us Q I r h
 obtain ⟨p,ys,rfl,hq,q⟩:=h
 obtain ⟨u,rfl,rx⟩:=vals1 r
 cases rx
 have hn:=vo
 rcases hq with hq | hq
 ·obtain ⟨its,r',pl,hz⟩:=I.list hq
  have hlen:=r'.length
  exact Calls.call_len_list pl.isList (by simp only [List.size_toArray] <;> omega) ⟨.int ys.length,H,I.tok _,⟨s.toks + 1,by rw [List.size_toArray,hlen]⟩,q⟩
 ·obtain ⟨its,r',pl,hz⟩:=I.tuple hq
  have hlen:=r'.length
  exact len_tuple pl (by simp only [List.size_toArray] <;> omega) ⟨.int ys.length,H,I.tok _,⟨s.toks + 1,by rw [List.size_toArray,hlen]⟩,q⟩
theorem a7 : iR X (.type "tuple") (fun xs H Q => ∃ p ys,xs = [.ref p] /\ ((SqL X.K H p ys /\ ∀ l,H l = none -> Q (.ref l) (upd H l (.tup ys))) \/ (SqT X.K H p ys /\ Q (.ref p) H))):=by
 intro pins s σ H xs us Q I r h
 obtain ⟨p,ys,rfl,h⟩:=h
 obtain ⟨u,rfl,rx⟩:=vals1 r
 cases rx
 rcases h with ⟨hq,q⟩ | ⟨hq,q⟩
 ·obtain ⟨its,r',pl,hz⟩:=I.list hq
  have hlen:=r'.length
  refine call_tuple_list pl.isList (fun h' kp => ?_) (by simp only [List.size_toArray] <;> omega)
  have I1 : Inv X pins σ H { s with heap:=h' }:=I.kept (t' := s.toks) kp
  have I2 : Inv X pins σ (upd H h'.objs.size (.tup ys)) { s with heap:=h'.push { cls:=.type "tuple",data:=.seq its.toArray } }:=
   I1.laid (t' := s.toks) (fun b o e => Heap.get?_push_of_some _ e) (Nat.le_refl _) (show ObjOk X.prog X.w _ _ _ (.tup ys) from ⟨hz,its,r',IsTup.new _ _⟩)
  exact ⟨.ref h'.objs.size,_,I2,rfl,q _ (I1.hok.fresh (Nat.le_refl _))⟩
 ·obtain ⟨its,r',pl,hz⟩:=I.tuple hq
  exact call_tuple_same pl ⟨.ref p,H,I,rfl,q⟩
def tyV (K : PySem.W.Frag) (T : String) (x : V) (H : Hp) : Prop:=match x with
 | .str _ => T = "str"
 | .int _ => T = "int"
 | .ref p => (T = "list" /\ ∃ xs,SqL K H p xs) \/ (T = "tuple" /\ ∃ o,K.lookup p = some o /\ o.cls = .type "tuple" /\ o.dict = none) \/
   (T = "dict" /\ ((∃ kvs,H p = some (.dK kvs)) \/ ∃ kvs,H p = some (.dT kvs))) \/ (T = "set" /\ ∃ S n,H p = some (.set S n))
 | _ => False
theorem GN {pins : List (Addr × Obj)} {σ : St} {H : Hp} {s : Shared} {T : String} {x : V} {v : Value} (I : Inv X pins σ H s) (r : RelV x v) (ty : tyV X.K T x H) :
  s.TypeIs v T /\ ∀ a,v = .ref a -> ∃ ob,s.heap.get? a = some ob /\ ob.dict = none:=by
 cases x with
 | str z =>
  obtain ⟨t,rfl⟩:=r
  cases (show T = "str" from ty)
  exact ⟨typeIs_str s z t,fun _ e => nomatch e⟩
 | int i =>
  obtain ⟨t,rfl⟩:=r
  cases (show T = "int" from ty)
  exact ⟨typeIs_int s i t,fun _ e => nomatch e⟩
 | ref p =>
  cases r
  rcases ty with ⟨rfl,xs,hq⟩ | ⟨rfl,o,hk,hc,hd⟩ | ⟨rfl,hk⟩ | ⟨rfl,S,n,hk⟩
  ·obtain ⟨its,_,pl,_⟩:=I.list hq
   refine ⟨pl.isList.typeIs,fun a e => ?_⟩
   cases e
   obtain ⟨o,n,e,c,hd,_⟩:=pl
   exact ⟨o,e,hd⟩
  ·refine ⟨⟨o,I.kIn p o hk,hc⟩,fun a e => ?_⟩
   cases e
   exact ⟨o,I.kIn _ o hk,hd⟩
  ·have z : ∃ o,s.heap.get? p = some o /\ o.ExactDict:=by
    rcases hk with ⟨kvs,hk⟩ | ⟨kvs,hk⟩
    ·obtain ⟨_,_,_,_,o,_,_,e,ex,_⟩:=I.hok p _ hk
     exact ⟨o,e,ex⟩
    ·obtain ⟨_,_,_,_,o,_,_,e,ex,_⟩:=I.hok p _ hk
     exact ⟨o,e,ex⟩
   obtain ⟨o,e,ex⟩:=z
   refine ⟨⟨o,e,ex.1⟩,fun a e2 => ?_⟩
   cases e2
   exact ⟨o,e,ex.2.1⟩
  ·obtain ⟨o,_,_,_,e,ex,_⟩:=I.hok p _ hk
   refine ⟨⟨o,e,ex.1⟩,fun a e2 => ?_⟩
   cases e2
   exact ⟨o,e,ex.2.1⟩
 | _ => exact False.elim ty
def Kw (K : PySem.W.Frag) (T : String) (r : V -> List V -> Hp -> VK -> Prop) (to : TE) : TE:=fun σ H Q => to σ H fun x H1 => tyV K T x H1 /\ r x [] H1 Q
def tBM (K : PySem.W.Frag) (T : String) (r : V -> List V -> Hp -> VK -> Prop) (to : TE) (t : TA) : TE:=fun σ H Q => to σ H fun x H1 => tyV K T x H1 /\ t σ H1 fun xs H2 => r x xs H2 Q
variable {o e : Expr} {es : List Expr} {to : TE} {t : TA} {name : Str} {apos cpos : Pos} {T id : String} {r : V -> List V -> Hp -> VK -> Prop}
theorem Ck (pa : PlainAttrs T) (slot : Slot T name id) (hty : typeOf (.builtin id) = pure (.type "method_descriptor")) (hm : MtR X id r) (ho : PE X o to)
  (hbase : attributeBase o name X.env (eval o X.env) = eval o X.env:=by rfl) (hline : (apos.endLine == cpos.line) = true:=by rfl) : PE X (.Call (.Attribute o name apos) [] [] cpos) (Kw X.K T r to):=by
 intro pins s σ H Q I h
 refine wpAny_Call_method0_late hbase hline (thn (ho pins s σ H _ I h) fun v s1 ⟨x,H1,I1,r1,ty,q1⟩ => ?_)
 obtain ⟨h1,h2⟩:=GN I1 r1 ty
 exact ⟨T,id,pa,slot,hty,h1,h2,Calls.callWith_builtin rfl (PySem.evalArgs_none (hm pins s1 σ H1 x [] v [] Q I1 r1 .nil q1))⟩
theorem fj (pa : PlainAttrs T) (slot : Slot T name id) (hty : typeOf (.builtin id) = pure (.type "method_descriptor")) (hm : MtR X id r) (ho : PE X o to) (ha : PA X (e :: es) t)
  (hbase : attributeBase o name X.env (eval o X.env) = eval o X.env:=by rfl)
  (hfew : ((backTo cpos (starEach (e :: es) X.env)).all (fun x => !x.1) && (backToKw cpos (keywordEach [] X.env)).all (fun x => x.1.isSome)
   && decide ((e :: es).length + ([] : List Keyword).length + (if ([] : List Keyword).isEmpty then 0 else 1) < 30)) = true:=by rfl)
  (hline : (apos.endLine == cpos.line) = true:=by rfl) (hs : starEach (e :: es) X.env = (false,eval e X.env) :: starEach es X.env:=by rfl) (hplain : (backTo cpos (starEach es X.env)).any (·.1) = false:=by rfl) :
  PE X (.Call (.Attribute o name apos) (e :: es) [] cpos) (tBM X.K T r to t):=by
 intro pins s σ H Q I h
 refine wpAny_Call_method_late hbase hfew hline rfl (thn (ho pins s σ H _ I h) fun v s1 ⟨x,H1,I1,r1,ty,q1⟩ => ?_)
 obtain ⟨h1,h2⟩:=GN I1 r1 ty
 refine ⟨T,id,pa,slot,hty,h1,h2,?_⟩
 have hA:=ha cpos pins s1 σ H1 _ I1 q1
 rw [hs] at hA ⊢
 refine Calls.callWith_builtin (by show (false || (backTo cpos (starEach es X.env)).any (·.1)) = false; rw [hplain] <;> rfl) (Calls.evalArgs_plain ?_)
 exact thn hA fun us s2 ⟨vs,H2,I2,r2,q2⟩ => hm pins s2 σ H2 x vs v us Q I2 r1 r2 q2
/- xs.append(e),list.index on a module's tuple .. are MtR facts of 06m -/
end
end L2
namespace L2
open PySem PySem.Spec PyProof.Rows
def MtM (X : Cx) (id : String) (r : V -> List V -> Hp -> VK -> Prop) : Prop:=
 ∀ (pins : List (Addr × Obj)) (s : Shared) (σ : St) (H : Hp) (x : V) (xs : List V) (v : Value) (us : List Value) (Q : VK),Inv X pins σ H s -> RelV x v -> Vals xs us -> r x xs H Q ->
  wpAny (model X.prog X.w) X.A (call (.builtin id) (v :: us)) (EP X pins σ Q) X.xe s
theorem Vals.one : ∀ {x : V} {us : List Value},Vals [x] us -> ∃ u,us = [u] /\ RelV x u
 | _,_,.cons r .nil => ⟨_,rfl,r⟩
theorem Vals.two : ∀ {x y : V} {us : List Value},Vals [x,y] us -> ∃ u v,us = [u,v] /\ RelV x u /\ RelV y v
 | _,_,_,.cons r (.cons q .nil) => ⟨_,_,rfl,r,q⟩
theorem Vals.zero : ∀ {us : List Value},Vals [] us -> us = []
 | _,.nil => rfl
theorem Vals.dropLast {xs : List V} {us : List Value} (h : Vals xs us) : Vals xs.dropLast us.dropLast:=by
 induction h with
 | nil => exact .nil
 | cons r t ih =>
  cases t with
  | nil => exact .nil
  | cons q t' => exact .cons r ih
theorem Bx {α : Type} (l : List α) : l.eraseIdx (l.length - 1) = l.dropLast:=by
 induction l with
 | nil => rfl
 | cons a r ih =>
  cases r with
  | nil => rfl
  | cons b r =>
   have e : (a :: b :: r).length - 1 = ((b :: r).length - 1) + 1:=by
    have h1 : (a :: b :: r).length = r.length + 2:=rfl
    have h2 : (b :: r).length = r.length + 1:=rfl
    omega
   rw [e,List.eraseIdx_cons_succ,ih]
   all_goals rfl
section
variable {X : Cx} {pins : List (Addr × Obj)} {σ : St} {H : Hp} {s : Shared} {l b : Addr} {xs ys zs : List V}
theorem Inv.lset {its its' : List Value} {n : Nat} {f : Array Value -> Array Value} {t' : Nat} (I : Inv X pins σ H s) (hH : H l = some (.lst xs))
  (e : s.heap.get? l = some { cls:=.type "list",data:=.seq its.toArray n }) (hf : f its.toArray = its'.toArray) (hv : Vals ys its') (hz : ys.length <= sizeLine) :
  Inv X pins σ (upd H l (.lst ys)) { s with heap:=s.heap.update l (Obj.mapSeq f),toks:=t' }:=by
 have q:=PySem.IsL.update e f
 rw [hf] at q
 refine I.write (x:=l) (e:=l) (by rw [hH]; exact trivial) (.inl rfl) (fun b' u hb hu => (Heap.get?_update_other s.heap (Obj.mapSeq f) (Ne.symm hb)).trans hu) ⟨_,q⟩ ?_
 exact ⟨hz,its',_,hv,q⟩
theorem Inv.lnew {its : List Value} {t' : Nat} (I : Inv X pins σ H s) (hv : Vals ys its) (hz : ys.length <= sizeLine) :
  Inv X pins σ (upd H s.heap.objs.size (.lst ys)) { s with heap:=s.heap.push { cls:=.type "list",data:=.seq its.toArray },toks:=t' }:=
 I.laid (fun _ _ q => Heap.get?_push_of_some _ q) (Nat.le_refl _) ⟨hz,its,0,hv,Heap.get?_push_size _ rfl⟩
theorem Inv.fresh (I : Inv X pins σ H s) : H s.heap.objs.size = none:=I.hok.fresh (Nat.le_refl _)
theorem Inv.lstM (I : Inv X pins σ H s) (hH : H l = some (.lst xs)) : xs.length <= sizeLine /\ ∃ (its : List Value) (n : Nat),Vals xs its /\ xs.length = its.length /\ s.heap.get? l = some { cls:=.type "list",data:=.seq its.toArray n }:=by
 obtain ⟨z,its,n,r,e⟩:=I.hok l _ hH
 exact ⟨z,its,n,r,r.length,e⟩
theorem Af {n : Nat} (h : n <= sizeLine) : Builtin.List.listTooLong n = false:=by
 unfold Builtin.List.listTooLong
 exact decide_eq_false (by omega)
end
section
variable {X : Cx}
def HH : V -> List V -> Hp -> VK -> Prop:=fun x vs H Q => ∃ l xs y,x = .ref l /\ vs = [y] /\ H l = some (.lst xs) /\ xs.length < sizeLine /\ Q .non (upd H l (.lst (xs ++ [y])))
theorem bD : MtM X "list.append" HH:=by
 intro pins s σ H x vs v us Q I rx rv h
 obtain ⟨l,xs,y,rfl,rfl,hH,hz,q⟩:=h
 cases rx
 obtain ⟨u,rfl,ru⟩:=rv.one
 obtain ⟨z,its,n,r,hl,e⟩:=I.lstM hH
 refine call_meets F.slot_list_append ⟨_,e,rfl⟩ F.entry_list_append (F.args_list_append_2 _ _) (PySem.list_append l its.toArray n u (by rw [List.size_toArray]; omega)) ⟨e,?_⟩
 refine ⟨.non,_,I.lset (its' := its ++ [u]) hH e (by simp) (r.append (.cons ru .nil)) ?_,rfl,q⟩
 rw [List.length_append,List.length_singleton]
 omega
def Dz : V -> List V -> Hp -> VK -> Prop:=fun x vs H Q => ∃ l b xs zs,x = .ref l /\ vs = [.ref b] /\ H l = some (.lst xs) /\ H b = some (.lst zs) /\ xs.length + zs.length <= sizeLine /\ Q .non (upd H l (.lst (xs ++ zs)))
theorem yh : MtM X "list.extend" Dz:=by
 intro pins s σ H x vs v us Q I rx rv h
 obtain ⟨l,b,xs,zs,rfl,rfl,hH,hB,hz,q⟩:=h
 cases rx
 obtain ⟨u,rfl,ru⟩:=rv.one
 cases ru
 obtain ⟨z,its,n,r,hl,e⟩:=I.lstM hH
 obtain ⟨z2,its2,n2,r2,hl2,e2⟩:=I.lstM hB
 have hsz : its.toArray.size + its2.toArray.size <= sizeLine:=by rw [List.size_toArray,List.size_toArray]; omega
 have hlong : ¬ (!its.toArray.isEmpty && Builtin.List.listTooLong (its.toArray.size + its2.toArray.size)) = true:=by
  rw [Af hsz,Bool.and_false]
  exact Bool.false_ne_true
 refine call_meets F.slot_list_extend ⟨_,e,rfl⟩ F.entry_list_extend (F.args_list_extend_2 _ _)
  (AutoSeq1.list_extend_list_list_0 l its.toArray n b its2.toArray n2 hlong (by rw [List.size_toArray]; omega) (by omega)) ⟨e,e2,?_⟩
 refine ⟨.non,_,I.lset (its' := its ++ its2) hH e (by simp) (r.append r2) ?_,rfl,q⟩
 rw [List.length_append]
 omega
def Kr : V -> List V -> Hp -> VK -> Prop:=fun x vs H Q => ∃ l xs y,x = .ref l /\ vs = [] /\ H l = some (.lst xs) /\ xs[xs.length - 1]? = some y /\ Q y (upd H l (.lst xs.dropLast))
theorem FF : MtM X "list.pop" Kr:=by
 intro pins s σ H x vs v us Q I rx rv h
 obtain ⟨l,xs,y,rfl,rfl,hH,hy,q⟩:=h
 cases rx
 have hus:=rv.zero
 subst hus
 obtain ⟨z,its,n,r,hl,e⟩:=I.lstM hH
 obtain ⟨u,hu,ru⟩:=r.get hy
 have hy' : its.toArray[its.toArray.size - 1]? = some u:=by
  show its.toArray[its.length - 1]? = some u
  rw [<- Array.getElem?_toList,<- hl]
  exact hu
 refine call_meets F.slot_list_pop ⟨_,e,rfl⟩ F.entry_list_pop (F.args_list_pop_1 _) (MeetsSeq.list_pop_last l its.toArray n u hy' (by rw [List.size_toArray]; omega)) ⟨e,?_⟩
 refine ⟨y,_,I.lset (its' := its.dropLast) hH e ?_ r.dropLast ?_,ru,q⟩
 ·show its.toArray.eraseIdxIfInBounds (its.toArray.size - 1) = its.dropLast.toArray
  rw [List.size_toArray,List.eraseIdxIfInBounds_toArray,Bx]
 ·rw [List.length_dropLast]
  omega
def Ko : R2:=fun x y H Q => ∃ l b xs zs,x = .ref l /\ y = .ref b /\ H l = some (.lst xs) /\ H b = some (.lst zs) /\ xs.length + zs.length <= sizeLine /\ ∀ p,H p = none -> Q (.ref p) (upd H p (.lst (xs ++ zs)))
theorem IP : OpR X (binaryOp .Add) Ko:=by
 intro pins s σ H x y v u Q I rx ry h
 obtain ⟨l,b,xs,zs,rfl,rfl,hH,hB,hz,q⟩:=h
 cases rx
 cases ry
 obtain ⟨z,its,n,r,hl,e⟩:=I.lstM hH
 obtain ⟨z2,its2,n2,r2,hl2,e2⟩:=I.lstM hB
 refine PySem.P.add_list e e2 ?_ (by rw [List.size_toArray,List.size_toArray]; omega)
 have ea : its.toArray ++ its2.toArray = (its ++ its2).toArray:=by simp
 rw [ea]
 exact ⟨.ref _,_,I.lnew (t' := s.toks) (r.append r2) (by rw [List.length_append]; omega),rfl,q _ I.fresh⟩
end
section
variable {prog : Program} {w : World} {A : Around} {E : Value -> Shared -> Prop} {s : Shared}
end
section
variable {X : Cx}
end
end L2
namespace Att
open PySem PySem.W PySem.Calls PyProof.Rows
theorem tL {P : Params} {h : Heap} : ∀ (ns : List Int) (vs : List Value),WellAll P h vs (ns.map WData.int) -> IntsAre vs ns:=by
 intro ns
 induction ns with
 | nil =>
  intro vs w
  rw [List.map_nil] at w
  cases w
  exact .nil
 | cons n ns ih =>
  intro vs w
  rw [List.map_cons] at w
  cases w with
  | cons a b =>
   cases a
   exact .cons _ _ (ih _ b)
theorem EN {l : OpenLaw} {n : Nat} (hn : l.most = some n) {P : Params} {h : Heap} {args : List WData} {vals : List Value}
  (hpre : l.row.toRowW.claim.pre args = true) (hwl : WellAll P h vals args) :
  ∃ a vs ns,vals = [Value.ref a] /\ args = [WData.list (ns.map WData.int)] /\ h.get? a = some { cls:=.type "list",data:=.seq vs.toArray } /\ IntsAre vs ns /\ ns.length <= n:=by
 have hsh : WShape.hasAll [] args [.list .int] = true:=(pre_splitW hpre).1
 have hc : l.pre.holds [] { args:=args } = true:=(pre_splitW hpre).2
 obtain ⟨d,r,rfl,h1,h2⟩:=hasAllW_cons hsh
 obtain rfl:=hasAllW_nil h2
 obtain ⟨xs,rfl,h3⟩:=hasW_list h1
 obtain ⟨ns,rfl⟩:=items_int h3
 have hlen : ns.length <= n:=by
  unfold OpenLaw.pre at hc
  have h4 : (WTm.not (.lt (.lit (.int (n : Int))) (.len (.arg 0)))).holds [] { args:=[.list (ns.map .int)] } = true:=by
   have h4:=(holds_andW hc).1
   rw [hn] at h4
   exact h4
  have h5:=condW_of h4 (w_not (w_lt w_lit (w_len_list (w_arg rfl))))
  rw [List.length_map] at h5
  refine Nat.le_of_not_lt fun q => ?_
  have q' : (n : Int) < ((ns.length : Nat) : Int):=by omega
  first
   | (rw [decide_eq_true q'] at h5; exact absurd h5 (by decide))
   | (simp at h5; omega)
 cases hwl with
 | cons w1 w2 =>
  cases w2
  cases w1 with
  | list ho hall => exact ⟨_,_,ns,rfl,rfl,ho,tL ns _ hall,hlen⟩
theorem EL (l : OpenLaw) (args : List WData) : l.row.toRowW.claim.post args (.bool true) args = true:=
 postW_of (r:=l.row.toRowW) (X:=(true == true))
  (show WShape.has [] (.bool true) .bool = true by first | rfl | decide | simp [WShape.has,WShape.arms,WShape.armsAll])
  (show (WTm.eq .res (.lit (.bool true))).value [] { args:=args,res:=some (.bool true),after:=args } = some (.bool (true == true)) from w_eq_bool (w_res rfl) w_lit) rfl
theorem attach_call {l : OpenLaw} {n : Nat} {q : Program} {loose : List Str} {XP : (Str -> Option Value) -> Heap -> Prop} {YP : World -> Heap -> Prop} {d : DefRec}
  (hn : l.most = some n) (hdf : d.params.defaults = [])
  (call : ∀ (w : World) (s₀ s₁ : Shared) (mg mb : Str -> Option Value) (fa : Addr) (o : Obj) (pm cd doc : Value) (a : Addr) (vs : List Value) (ns : List Int),
   Ground q loose [] XP w s₀ mg mb s₁.heap -> YP w s₁.heap ->
   s₁.heap.get? fa = some o -> o.data = .func (docDef d.name d.params d.body d.scope pm cd doc) -> s₁.heap.CodeRec cd d.name -> mg d.name = some (.ref fa) ->
   s₁.heap.get? a = some { cls:=.type "list",data:=.seq vs.toArray } -> IntsAre vs ns -> ns.length <= n -> s₁.gens = #[] ->
   codeAny (model l.prog w) callerA (.call (.ref fa) ⟨[.ref a],[]⟩) (fun r s' => r = .ok (.ret (.bool true)) /\ OldK s₁.heap s'.heap /\ s'.os = s₁.os /\ AllBare s'.gens) s₁) :
  WalkO q loose XP YP l.row.toRowW d [] (fun f vs => PySem.call f vs):=by
 intro w s₀ s₁ mg mb G Y fa o pm cd doc dV kV ho hd hcd hD hmg hg args vals as hpre hlay hrd hwl hlo
 obtain rfl : dV = .none:=Dflts.none hD hdf
 obtain rfl : kV = .none:=Dflts.noKw hD
 obtain ⟨a,vs,ns,rfl,rfl,hobj,hints,hlen⟩:=EN hn hpre hwl
 refine enter_call (codeAny_mono (call w s₀ s₁ mg mb fa o pm cd doc a vs ns G Y ho (fd_plain hd) hcd hmg hobj hints hlen hg) fun r s' hq => ?_)
 obtain ⟨rfl,h2,h3,h4⟩:=hq
 exact ⟨.inl ⟨.bool true,.bool true,[],rfl,fun _ => rfl,.bool true,EL l _,fun _ => ⟨List.Pairwise.nil,fun _ hm => (nomatch hm)⟩⟩,h2,h3,h4⟩
section
variable {prog : Program} {w : World} {A : Around} {E : Value -> Shared -> Prop} {s : Shared} {K : Frag}
def ledger (h : Heap) (L d : Addr) : List (Addr × Obj):=(List.range h.objs.size).filterMap fun a => if a = L \/ a = d then none else (h.get? a).map fun o => (a,o)
end
end Att
namespace L2
open PySem PySem.Spec PyProof.Rows
theorem yp : ∀ {vs : List Value} {ns : List Int},IntsAre vs ns -> Vals (ns.map V.int) vs
 | _,_,.nil => .nil
 | _,_,.cons n t h => .cons ⟨t,rfl⟩ (yp h)
def Ii (H : Hp) : Prop := ∀ b,H b = none \/ ∃ o xs,H b = some (.frz o (.lst xs))
theorem Fy {P : Program} {w : World} {K : PySem.W.Frag} {mg mb : Str -> Option Value} {CX : CXT} {k : Nat} {fa a : Addr} {fd : FuncData} {x : Str} {sp : Sp} {s₁ : Shared} {vs : List Value} {ns : List Int}
  (KX : K.In s₁.heap) (hns : s₁.heap.Ns mainGlobals mg) (hb : s₁.heap.Ns builtinsNs mb) (hbb : ∀ x : Str,x ≠ "__name__" -> mb x = bootBuiltins x) (hlim : s₁.heap.NoLimit) (hg : s₁.gens = #[])
  (ha : s₁.heap.get? a = some { cls:=.type "list",data:=.seq vs.toArray }) (hi : IntsAre vs ns) (hl : ns.length <= sizeLine) (hr : Room k callerA)
  (F : ∀ base : Heap,K.In base -> base.Ns mainGlobals mg -> FnOk P w K mg base CX k fa fd [x] sp) (hbind : ∀ (s : Shared) (u : Value),BindsTo s fd ⟨[u],[]⟩ [(x,u)])
  (hsp : ∀ H : Hp,Ii H -> SqL K H a (ns.map V.int) -> sp [.ref a] H (fun v _ => v = .bl true) fun _ _ _ => False)
  (hCX : ∀ H e s',CX [] H s₁ (fun _ _ _ => False) e s' -> False) :
  codeAny (model P w) callerA (.call (.ref fa) ⟨[.ref a],[]⟩) (fun r s' => r = .ok (.ret (.bool true)) /\ OldK s₁.heap s'.heap /\ s'.os = s₁.os /\ AllBare s'.gens) s₁:=by
 have rv:=yp hi
 have lenV:=hi.length
 have core : ∀ H : Hp,Ii H -> SqL K H a (ns.map V.int) -> HOk P w H s₁.heap -> (∀ b,H b ≠ none -> b = a) -> (H a ≠ none -> K.lookup a = none) ->
   codeAny (model P w) callerA (.call (.ref fa) ⟨[.ref a],[]⟩) (fun r s' => r = .ok (.ret (.bool true)) /\ OldK s₁.heap s'.heap /\ s'.os = s₁.os /\ AllBare s'.gens) s₁:=by
  intro H hO hS hok hA hK
  have base_of : ∀ {b : Addr} {o : Obj},s₁.heap.get? b = some o -> H b = none -> (yH s₁.heap H).get? b = some o:=fun e n => Fm e n
  have noA : ∀ {b : Addr} {o : Obj} {es : Array DictEntry} {ep : Nat},s₁.heap.get? b = some o -> o.data = .dict es ep -> H b = none:=fun {b o es ep} e d => by
   cases q : H b with
   | none => rfl
   | some u =>
    have e' : b = a:=hA b (by rw [q]; simp)
    subst e'
    rw [ha] at e; cases e
    have d' : Data.seq vs.toArray _ = Data.dict es ep:=d
    cases d'
  have nsK : ∀ {b : Addr} {m : Str -> Option Value},s₁.heap.Ns b m -> (yH s₁.heap H).Ns b m:=fun {b m} ⟨o,es,ep,e,d,r⟩ => ⟨o,es,ep,base_of e (noA e d),d,r⟩
  have hKb : K.In (yH s₁.heap H):=fun b o e => base_of (KX b o e) (by
   cases q : H b with
   | none => rfl
   | some u =>
    have e' : b = a:=hA b (by rw [q]; simp)
    subst e'
    rw [hK (by rw [q]; simp)] at e; cases e)
  have hM : Mod K mg (yH s₁.heap H):=⟨hKb,nsK hns,⟨mb,nsK hb,hbb⟩,let ⟨mc,h1,h2⟩:=hlim; ⟨mc,nsK h1,h2⟩⟩
  have e0 : Env0 P w K mg (yH s₁.heap H) callerA [] s₁ H:=⟨rfl,hM,fun b o e => Hn e,Nat.le_of_eq (Ea _ _),trivial,fun b hb => absurd (show b ∈ ([] : List Addr) from hb) (by simp),hok,.of_eq hg⟩
  refine codeAny_mono ((F _ hKb (nsK hns)).run callerA [] s₁ H ⟨[.ref a],[]⟩ [.ref a] [.ref a] _ _ hr e0 (hbind s₁ (.ref a)) (.cons rfl .nil) (hsp H hO hS)) fun r s' h => ?_
  cases r with
  | error e => exact (hCX H e s' h).elim
  | ok fl =>
   cases fl with
   | next => exact False.elim h
   | brk => exact False.elim h
   | cont => exact False.elim h
   | ret u =>
    obtain ⟨v,H',os,bare,un,hok',r',q⟩:=h
    have q' : v = .bl true:=q
    subst q'
    obtain rfl : u = Value.bool true:=r'
    refine ⟨rfl,OldK.of_keep fun b o e => ?_,os,bare⟩
    cases q : H b with
    | none => exact un.keep b o e q (by intro z; exact absurd (show b ∈ ([] : List Addr) from z) (by simp)) (by simp)
    | some u =>
     rcases hO b with z | ⟨ob,xs,z⟩
     ·rw [q] at z; cases z
     ·have z2:=un.frzs b ob _ z
      obtain ⟨e1,_⟩:=hok b _ z
      obtain ⟨e2,_⟩:=hok' b _ z2
      rw [e] at e1; cases e1
      exact e2
 cases hk : K.lookup a with
 | some o =>
  have e:=KX a o hk
  rw [ha] at e
  cases e
  refine core (fun _ => none) (fun _ => .inl rfl) (.inr ⟨_,vs.toArray,_,hk,rfl,rfl,rfl,by rw [List.size_toArray,lenV]; exact hl,by simpa using rv⟩) (fun b u z => by have z' : (none : Option HO) = some u:=z; cases z') (fun b z => absurd rfl z) fun z => absurd rfl z
 | none =>
  refine core (fun b => if b = a then some (.frz { cls:=.type "list",data:=.seq vs.toArray } (.lst (ns.map V.int))) else none) (fun b => ?_) (.inl (.inr ⟨{ cls:=.type "list",data:=.seq vs.toArray },if_pos rfl⟩)) (fun b u z => ?_) (fun b z => ?_) fun _ => hk
  ·by_cases hb : b = a
   ·exact .inr ⟨_,_,if_pos hb⟩
   ·exact .inl (if_neg hb)
  ·by_cases hb : b = a
   ·have z' := (if_pos hb).symm.trans z
    cases z'
    subst hb
    exact ⟨ha,by rw [List.length_map]; exact hl,vs,_,rv,ha⟩
   ·have z' := (if_neg hb).symm.trans z
    cases z'
  ·by_cases hb : b = a
   ·exact hb
   ·exact absurd (if_neg hb) z
end L2
namespace L2
open PySem PySem.Spec PyProof.Rows
theorem walk_of {l : PySem.W.OpenLaw} {n k : Nat} {q : Program} {loose : List Str} {XP : (Str -> Option Value) -> Heap -> Prop} {YP : World -> Heap -> Prop} {d : DefRec} {K : Params -> PySem.W.Frag} {CX : World -> CXT} {sp : World -> Sp} {x : Str}
  (hn : l.most = some n) (hn2 : n <= sizeLine) (hdf : d.params.defaults = []) (hr : Room k callerA)
  (hY : ∀ (w : World) (h : Heap),YP w h -> (K w.params).In h)
  (F : ∀ (w : World) (mg : Str -> Option Value) (fa : Addr) (h : Heap),(K w.params).In h -> h.Ns mainGlobals mg -> mg d.name = some (.ref fa) ->
   ∃ fd : FuncData,(∀ (s : Shared) (u : Value),BindsTo s fd ⟨[u],[]⟩ [(x,u)]) /\
    ∀ base : Heap,(K w.params).In base -> base.Ns mainGlobals mg -> FnOk l.prog w (K w.params) mg base (CX w) k fa fd [x] (sp w))
  (hsp : ∀ (w : World) (H : Hp) (a : Addr) (ns : List Int),ns.length <= n -> Ii H -> SqL (K w.params) H a (ns.map V.int) -> sp w [.ref a] H (fun v _ => v = .bl true) fun _ _ _ => False)
  (hCX : ∀ (w : World) (H : Hp) (s : Shared) (e : Value) (s' : Shared),CX w [] H s (fun _ _ _ => False) e s' -> False) :
  PySem.W.WalkO q loose XP YP l.row.toRowW d [] (fun f vs => PySem.call f vs):=by
 refine Att.attach_call hn hdf fun w s₀ s₁ mg mb fa o pm cd doc a vs ns G Y ho hd hcd hmg hobj hints hlen hg => ?_
 have KX:=hY w _ Y
 obtain ⟨fd,hb,hF⟩:=F w mg fa _ KX G.T.g hmg
 exact Fy KX G.T.g G.T.b G.T.builtins G.T.nolimit hg hobj hints (Nat.le_trans hlen hn2) hr hF hb (fun H hO hS => hsp w H a ns hlen hO hS) fun H e s' => hCX w H s₁ e s'
end L2
namespace L2
open PySem PySem.Spec PyProof.Rows
def inClass (s : Stmt) (j : Nat) : Stmt:=match s with
 | .ClassDef _ _ _ body _ _ _ _ _ _ _ => body.getD j (.Pass ⟨0,0,0,0⟩)
 | _ => .Pass ⟨0,0,0,0⟩
def aF (s : Stmt) : Arguments:=match s with
 | .FunctionDef _ a _ _ _ _ _ _ _ _ => a
 | _ => { posonlyargs:=[],args:=[],vararg:=none,kwonlyargs:=[],kw_defaults:=[],kwarg:=none,defaults:=[] }
def aE (s : Stmt) : List Stmt:=match s with
 | .FunctionDef _ _ b _ _ _ _ _ _ _ => b
 | _ => []
def ah (s : Stmt) : Scope:=match s with
 | .FunctionDef _ _ _ _ _ _ sc _ _ _ => sc
 | _ => { kind:=.function,names:=[],isGenerator:=false,isCoroutine:=false }
abbrev CX0 : CXT:=fun _ _ _ _ _ _ => False
abbrev E0 : XK:=fun _ _ _ => False
theorem F7 {X : Cx} : Passes CX0 X E0:=fun _ _ _ _ _ _ _ h => h.elim
structure Fun (K : PySem.W.Frag) (x qual : Str) (st : Stmt) (f : Addr) (fd : FuncData) : Prop where
 ex : ∃ (oc : Value) (od : Option Addr) (kV doc pm : Value) (an : Option Addr) (cdv ct : Value) (osl : Array (Option Value)),
  fd = PySem.W.fnOf x qual (aF st) (aE st) (ah st) .none kV doc pm an cdv ct /\ K.lookup f = some ⟨oc,od,.func fd,osl⟩ /\ PySem.W.codeIn K cdv qual = true
 kp : PySem.W.keepIn K (.ref f) = true
section
variable {P : Program} {w : World} {K : PySem.W.Frag} {mg : Str -> Option Value} {base : Heap}
end
theorem lI {A : Around} {k : Nat} (hr : Room k A) : A.units + 1 < cLine:=Nat.lt_of_le_of_lt (Nat.add_le_add_left (by decide : 1 <= 64) _) hr.units
theorem aB {n : Nat} (h : n <= 1000) : n < sizeLine:=Nat.lt_of_le_of_lt h (by decide)
section
variable {X : Cx}
theorem pv (i : Nat) {x : Str} {pos : Pos} (hN : X.N[i]? = some x:=by rfl) (hv : Vis X.env.scope x:=by first | exact Or.inl rfl | exact Or.inr (Or.inl rfl) | exact Or.inr (Or.inr rfl)) (hd : (x == ("__debug__" : Str)) = false:=by decide)
  (hcd : (x == ("__classdict__" : Str)) = false:=by decide) : PE X (.Name x pos) (J6 i):=IY hN hv hd hcd
end
theorem gH {A B : Prop} (h : B) : if false = true then A else B:=by
 rw [if_neg Bool.false_ne_true]
 exact h
theorem wR {A B : Prop} (h : A) : if true = true then A else B:=by
 rw [if_pos rfl]
 exact h
theorem Hc {c A B : Prop} [Decidable c] (h1 : c -> A) (h2 : ¬ c -> B) : if c then A else B:=by
 by_cases h : c
 ·rw [if_pos h]
  exact h1 h
 ·rw [if_neg h]
  exact h2 h
theorem JI {c A B : Prop} [Decidable c] (hc : c) (h : B) : if (!decide c) = true then A else B:=by
 rw [decide_eq_true hc]
 exact gH h
def Same (H H' : Hp) : Prop := ∀ b o,H b = some o -> H' b = some o
theorem Same.refl (H : Hp) : Same H H:=fun _ _ h => h
theorem Same.trans {H H1 H2 : Hp} (a : Same H H1) (b : Same H1 H2) : Same H H2:=fun c o h => b c o (a c o h)
theorem Same.free {H H' : Hp} (e : Same H H') {l : Addr} (h : H' l = Option.none) : H l = Option.none:=by
 cases q : H l with
 | none => rfl
 | some o =>
  rw [e l o q] at h
  cases h
theorem Same.seq {K : PySem.W.Frag} {H H' : Hp} {a : Addr} {xs : List V} (e : Same H H') (h : SqL K H a xs) : SqL K H' a xs:=by
 rcases h with (h | ⟨o,h⟩) | h
 ·exact .inl (.inl (e _ _ h))
 ·exact .inl (.inr ⟨o,e _ _ h⟩)
 ·exact .inr h
end L2
set_option Elab.async false
set_option linter.all false
set_option maxRecDepth 100000
namespace L2
open PySem PySem.Spec PyProof.Rows
def cV (cells : List (Str × Addr)) : List (Str × NameKind) -> List (Str × Addr) -> List (Str × Addr)
 | [],cs => cs
 | (n,k) :: r,cs => cV cells r (if k == .free then (n,(cells.lookup n).getD 0) :: cs else cs)
theorem mP {scope : Scope} {env : Env} (h : ∀ y ∈ scope.names,y.2 = .free -> ∃ c,env.cells.lookup y.1 = some c) :
  closureFor scope env = pure (cV env.cells scope.names []):=by
 have all : ∀ (ns : List (Str × NameKind)) (cs : List (Str × Addr)),(∀ y ∈ ns,y.2 = .free -> ∃ c,env.cells.lookup y.1 = some c) ->
   (forIn ns cs (fun (x : Str × NameKind) (r : List (Str × Addr)) => (match x with
    | (name,kind) => if (kind == NameKind.free) = true then (do let c <- cellOf env name; pure (ForInStep.yield ((name,c) :: r))) else pure (ForInStep.yield r) : Sem (ForInStep (List (Str × Addr))))) : Sem (List (Str × Addr)))
   = pure (cV env.cells ns cs):=by
  intro ns
  induction ns with
  | nil => intro cs _; rfl
  | cons y r ih =>
   intro cs hy
   obtain ⟨n,k⟩:=y
   rw [List.forIn_cons]
   by_cases hk : k = .free
   ·subst hk
    obtain ⟨c,e⟩:=hy (n,.free) List.mem_cons_self rfl
    have e' : env.cells.lookup n = some c:=e
    have e1 : cellOf env n = pure c:=by unfold cellOf; rw [e']
    simp only [beq_self_eq_true,if_true,e1,pure_bind]
    rw [ih _ fun z hz => hy z (List.mem_cons_of_mem _ hz)]
    simp only [cV,beq_self_eq_true,if_true,e',Option.getD_some]
   ·have hb : (k == NameKind.free) = false:=by simpa using hk
    simp only [hb,Bool.false_eq_true,if_false,pure_bind]
    rw [ih _ fun z hz => hy z (List.mem_cons_of_mem _ hz)]
    simp only [cV,hb,Bool.false_eq_true,if_false]
 unfold closureFor
 have q:=all scope.names [] h
 simp only [bind_pure]
 exact q
theorem mO (cells : List (Str × Addr)) {x : Str} {c : Addr} : ∀ (ns : List (Str × NameKind)) (cs : List (Str × Addr)),(cV cells ns cs).lookup x = some c ->
  ((x,NameKind.free) ∈ ns /\ (cells.lookup x).getD 0 = c) \/ cs.lookup x = some c
 | [],_,h => .inr h
 | (n,k) :: r,cs,h => by
  rcases mO cells r _ h with ⟨h1,h2⟩ | h1
  ·exact .inl ⟨List.mem_cons_of_mem _ h1,h2⟩
  ·by_cases hk : k = .free
   ·subst hk
    simp only [beq_self_eq_true,if_true] at h1
    by_cases hx : x = n
    ·subst hx
     simp only [List.lookup_cons,beq_self_eq_true] at h1
     exact .inl ⟨List.mem_cons_self,Option.some.inj h1⟩
    ·have hb : (x == n) = false:=by simpa using hx
     simp only [List.lookup_cons,hb] at h1
     exact .inr h1
   ·have hb : (k == NameKind.free) = false:=by simpa using hk
    simp only [hb,Bool.false_eq_true,if_false] at h1
    exact .inr h1
theorem kc (cells : List (Str × Addr)) {x : Str} {c : Addr} (e : cells.lookup x = some c) : ∀ (ns : List (Str × NameKind)) (cs : List (Str × Addr)),((x,NameKind.free) ∈ ns \/ cs.lookup x = some c) ->
  (cV cells ns cs).lookup x = some c
 | [],_,h => by
  rcases h with h | h
  ·cases h
  ·exact h
 | (n,k) :: r,cs,h => by
  refine kc cells e r _ ?_
  rcases h with h | h
  ·rcases List.mem_cons.mp h with z | z
   ·cases z
    right
    simp only [beq_self_eq_true,if_true,List.lookup_cons,e,Option.getD_some]
   ·exact .inl z
  ·right
   by_cases hk : (k == NameKind.free) = true
   ·rw [if_pos hk]
    by_cases hx : x = n
    ·subst hx
     simp only [List.lookup_cons,beq_self_eq_true,e,Option.getD_some]
    ·have hb : (x == n) = false:=by simpa using hx
     simp only [List.lookup_cons,hb]
     exact h
   ·rw [if_neg hk]
    exact h
theorem qd {env : Env} : ∀ {names : List (Str × NameKind)} {x : Str},names.lookup x = some .free ->
  (names.map fun (n,k) => if (k == NameKind.free && env.scope.kind == .function && env.kindOf n == some .cell) then (n,NameKind.cell) else (n,k)).lookup x = some .cell \/
  (names.map fun (n,k) => if (k == NameKind.free && env.scope.kind == .function && env.kindOf n == some .cell) then (n,NameKind.cell) else (n,k)).lookup x = some .free
 | [],_,h => by simp at h
 | (n,k) :: r,x,h => by
  have ih:=@qd env r x
  show List.lookup x ((if (k == NameKind.free && env.scope.kind == .function && env.kindOf n == some .cell) = true then (n,NameKind.cell) else (n,k)) :: _) = _ \/
   List.lookup x ((if (k == NameKind.free && env.scope.kind == .function && env.kindOf n == some .cell) = true then (n,NameKind.cell) else (n,k)) :: _) = _
  cases hx : x == n with
  | true =>
   simp only [List.lookup_cons,hx] at h
   cases h
   by_cases hc : (NameKind.free == NameKind.free && env.scope.kind == .function && env.kindOf n == some .cell) = true
   ·rw [if_pos hc]; simp only [List.lookup_cons,hx]; first | exact .inl trivial | exact .inl rfl
   ·rw [if_neg hc]; simp only [List.lookup_cons,hx]; first | exact .inr trivial | exact .inr rfl
  | false =>
   simp only [List.lookup_cons,hx] at h
   by_cases hc : (k == NameKind.free && env.scope.kind == .function && env.kindOf n == some .cell) = true
   ·rw [if_pos hc]; simp only [List.lookup_cons,hx]; exact ih h
   ·rw [if_neg hc]; simp only [List.lookup_cons,hx]; exact ih h
theorem kP {env : Env} : ∀ {names : List (Str × NameKind)} {x : Str} {k' : NameKind},k' = .cell \/ k' = .free -> (∀ y ∈ names,y.2 ≠ .cell) ->
  (names.map fun (n,k) => if (k == NameKind.free && env.scope.kind == .function && env.kindOf n == some .cell) then (n,NameKind.cell) else (n,k)).lookup x = some k' -> (x,NameKind.free) ∈ names
 | [],_,_,_,_,h => by simp at h
 | (n,k) :: r,x,k',hk',hn,h => by
  have ih:=@kP env r x k' hk' (fun y hy => hn y (List.mem_cons_of_mem _ hy))
  have h' : List.lookup x ((if (k == NameKind.free && env.scope.kind == .function && env.kindOf n == some .cell) = true then (n,NameKind.cell) else (n,k)) :: (r.map fun (n,k) => if (k == NameKind.free && env.scope.kind == .function && env.kindOf n == some .cell) then (n,NameKind.cell) else (n,k))) = some k' := h
  have hkc : k ≠ .cell:=hn (n,k) List.mem_cons_self
  cases hx : x == n with
  | true =>
   have hxn : x = n:=by simpa using hx
   subst hxn
   by_cases hc : (k == NameKind.free && env.scope.kind == .function && env.kindOf x == some .cell) = true
   ·have hk : k = .free:=by
     simp only [Bool.and_eq_true,beq_iff_eq] at hc
     exact hc.1.1
    subst hk
    exact List.mem_cons_self
   ·rw [if_neg hc] at h'
    simp only [List.lookup_cons,beq_self_eq_true] at h'
    have hk : k = k' := Option.some.inj h'
    rcases hk' with z | z
    ·exact absurd (hk.trans z) hkc
    ·rw [hk,z]; exact List.mem_cons_self
  | false =>
   refine List.mem_cons_of_mem _ (ih ?_)
   by_cases hc : (k == NameKind.free && env.scope.kind == .function && env.kindOf n == some .cell) = true
   ·rw [if_pos hc] at h'
    simpa only [List.lookup_cons,hx] using h'
   ·rw [if_neg hc] at h'
    simpa only [List.lookup_cons,hx] using h'
def bg (ix : List (Option Nat)) (σ : St) : St:=ix.map fun o => match o with
 | none => none
 | some i => (σ[i]?).join
structure BlkScope (NX : List Str) (scX : Scope) (N : List Str) (ix : List (Option Nat)) (sc : Scope) : Prop where
 kind : sc.kind = .function
 nd : N.Nodup
 nocell : ∀ y ∈ sc.names,y.2 ≠ .cell
 locs : ∀ y ∈ sc.names,y.2 = .local -> sc.names.lookup y.1 = some .local
 free : ∀ y ∈ sc.names,y.2 = .free -> scX.names.lookup y.1 = some .cell \/ scX.names.lookup y.1 = some .free
 len : ix.length = N.length
 at_ : ∀ p ∈ N.zip ix,∀ i,p.2 = some i -> NX[i]? = some p.1 /\ sc.names.lookup p.1 = some .free
def fH (X : Cx) (N : List Str) (scope : Scope) (fp : List Addr) (s : Shared) (H : Hp) (C : Addr) : Cx:=
 { prog:=X.prog,w:=X.w,K:=X.K,mg:=X.mg,base:=X.base,A:=X.A,N:=N,s₀:=s,H₀:=H,env:=compEnvC scope (cV X.env.cells scope.names []) C X.env,outer:=X.stack,stack:=X.stack,ex:=fp,fn:=fun _ => false,calm:=X.calm,pn:=X.pn,xe:=fun _ _ => False }
theorem tV {names : List (Str × NameKind)} {x : Str} (h : names.lookup x = some .free) : (x,NameKind.free) ∈ names:=PySem.mem_of_lookup h
section
variable {X : Cx} {pins : List (Addr × Obj)} {σ : St} {H : Hp} {s : Shared} {N : List Str} {ix : List (Option Nat)} {scope : Scope} {fp : List Addr}
theorem BlkScope.clos (S : BlkScope X.N X.env.scope N ix scope) (ok : X.Ok) : ∀ y ∈ scope.names,y.2 = .free -> ∃ c,X.env.cells.lookup y.1 = some c:=fun y hy hf => ok.has y.1 (S.free y hy hf)
theorem Eb {D C : Addr} {h' : Heap} {tk : Nat} {m : Str -> Option Value} (I : Inv X pins σ H s) (S : BlkScope X.N X.env.scope N ix scope) (hf : ∀ b ∈ fp,mR X pins H b)
  (hfo : ∀ b ∈ fp,∃ o,s.heap.get? b = some o /\ ∀ v,o.data ≠ .cell v)
  (hD : s.heap.objs.size <= D) (hC : s.heap.objs.size <= C) (hDC : D ≠ C) (hk : ∀ b o,s.heap.get? b = some o -> h'.get? b = some o) (hns : h'.Ns C m)
  (hl : ∃ n,h'.get? D = some { cls:=.type "list",data:=.seq ([] : List Value).toArray n }) :
  Inv (fH X N scope fp s H C) pins (bg ix σ) (upd H D (.lst [])) { s with heap:=h',toks:=tk }:=by
 have fresh : ∀ {a : Addr},s.heap.objs.size <= a -> H a = none:=fun h => I.hok.fresh h
 have cl_of : ∀ x c,(cV X.env.cells scope.names []).lookup x = some c -> X.env.cells.lookup x = some c:=fun x c e => by
  rcases mO _ _ _ e with ⟨h1,h2⟩ | h1
  ·obtain ⟨c',e'⟩:=S.clos I.ok _ h1 rfl
   have e'' : X.env.cells.lookup x = some c' := e'
   rw [e''] at h2
   rw [e'']
   exact congrArg some h2
  ·simp at h1
 have ltO : ∀ {b : Addr} {o : Obj},s.heap.get? b = some o -> b < s.heap.objs.size:=fun e => Heap.lt_size e
 have neC : ∀ {b : Addr} {o : Obj},s.heap.get? b = some o -> b ≠ C:=fun e => Nat.ne_of_lt (Nat.lt_of_lt_of_le (ltO e) hC)
 have neD : ∀ {b : Addr} {o : Obj},s.heap.get? b = some o -> b ≠ D:=fun e => Nat.ne_of_lt (Nat.lt_of_lt_of_le (ltO e) hD)
 have cellG : ∀ x c,X.env.cells.lookup x = some c -> ∃ o,s.heap.get? c = some o:=fun x c e => by
  obtain ⟨v,o,ho,_⟩:=I.cell x c e
  exact ⟨o,ho⟩
 refine ⟨⟨I.ok.mod,?_,I.ok.glob,I.ok.blt,hC,fun x y c e1 e2 => I.ok.inj x y c (cl_of x c e1) (cl_of y c e2),fun x hx => ?_,fun x c h _ => ?_,I.ok.hd,I.ok.frames,.inl rfl,fun b hb => ?_,I.bs,Nat.le_trans I.ok.bsz I.sz,fun b o e hb => ?_,fun b hb hb2 => ?_,I.stack,I.stkFree⟩,
  rfl,I.bare,Un.laid hk hD (fresh hD),⟨m,hns,fun j x v e1 e2 e3 => ?_⟩,fun x c e => ?_,?_,fun x c e => ?_,fun p hp => ?_,I.hok.laid hk hD ?_,?_⟩
 ·exact S.kind
 ·have hx' : (x,NameKind.free) ∈ scope.names:=by
   rcases hx with hx | hx
   ·exact kP (.inl rfl) S.nocell hx
   ·exact kP (.inr rfl) S.nocell hx
  obtain ⟨c,e⟩:=S.clos I.ok _ hx' rfl
  exact ⟨c,kc _ e _ _ (.inl hx')⟩
 ·exact absurd (show false = true from h) Bool.false_ne_true
 ·obtain ⟨f0,f1,f2,f3,f4,f5⟩:=hf b hb
  obtain ⟨o,e,_⟩:=hfo b hb
  exact ⟨neC e,fun x c ec => f4 x c (cl_of x c ec)⟩
 ·obtain ⟨f0,f1,f2,f3,f4,f5⟩:=hf b hb
  rcases f3 with z | z
  ·exact I.ok.noex b o e z
  ·exact absurd (Nat.lt_of_lt_of_le (Heap.lt_size (I.ok.bs b o e).1) z) (Nat.lt_irrefl _)
 ·obtain ⟨f0,f1,f2,f3,f4,f5⟩:=hf b hb
  rcases List.mem_cons.mp (I.stkSub b hb2) with z | z
  ·exact f1 z
  ·exact f2 z
 ·-- a name's value
  obtain ⟨mX,hnX,hlX⟩:=id I.loc
  have hj : (bg ix σ)[j]? = some (some v):=e2
  unfold bg at hj
  rw [List.getElem?_map] at hj
  cases ej : ix[j]? with
  | none => rw [ej] at hj; cases hj
  | some o =>
   rw [ej] at hj
   cases o with
   | none => cases hj
   | some i =>
    have hj' : (σ[i]?).join = some v:=Option.some.inj hj
    have hz : (x,some i) ∈ N.zip ix:=List.mem_iff_getElem?.mpr ⟨j,by rw [List.getElem?_zip_eq_some]; exact ⟨e1,ej⟩⟩
    obtain ⟨hNi,hfr⟩:=S.at_ _ hz i rfl
    have hmem:=tV hfr
    have hσ : σ[i]? = some (some v):=by
     cases q : σ[i]? with
     | none => rw [q] at hj'; cases hj'
     | some w' =>
      rw [q] at hj'
      have q' : w' = some v:=hj'
      rw [q']
    have hvx : X.env.scope.names.lookup x = some .cell \/ X.env.scope.names.lookup x = some .free:=S.free _ hmem rfl
    obtain ⟨u,r,lk⟩:=hlX i x v hNi hσ (.inr hvx)
    refine ⟨u,r,.inr ⟨?_,?_⟩⟩
    ·exact qd hfr
    ·rcases lk with ⟨k,_⟩ | ⟨k,c,ec,ci⟩
     ·have k' : X.env.scope.names.lookup x = some .local:=k
      rcases hvx with z | z
      ·rw [z] at k'; cases k'
      ·rw [z] at k'; cases k'
     ·obtain ⟨oc,hoc,hocd⟩:=ci
      exact ⟨c,kc _ ec _ _ (.inl hmem),oc,hk c oc hoc,hocd⟩
 ·obtain ⟨v,o,ho,hd⟩:=I.cell x c (cl_of x c e)
  exact ⟨v,o,hk c o ho,hd⟩
 ·show upd H D (.lst []) C = none
  rw [aj (Ne.symm hDC)]
  exact fresh hC
 ·obtain ⟨o,ho⟩:=cellG x c (cl_of x c e)
  rw [aj (neD ho)]
  exact I.freeC x c (cl_of x c e)
 ·obtain ⟨e,n,ne,nf,d⟩:=I.pin p hp
  refine ⟨hk _ _ e,by rw [aj (neD e)]; exact n,neC e,fun z => ?_,d⟩
  rcases List.mem_cons.mp (I.stkSub p.1 z) with q | q
  ·exact ne q
  ·exact nf q
 ·obtain ⟨n,hl⟩:=hl
  exact ⟨Nat.zero_le _,[],n,.nil,hl⟩
 ·show (bg ix σ).length = N.length
  unfold bg
  rw [List.length_map]
  exact S.len
end
end L2
set_option Elab.async false
set_option linter.all false
set_option maxRecDepth 100000
namespace L2
open PySem PySem.Spec PyProof.Rows
theorem zC {prog : Program} {w : World} {A : Around} {R : Result -> Shared -> Prop} {s : Shared} {elt target iter : Expr} {scope : Scope} {pos : Pos} {it acc : Value} {env : Env} (I : Nat -> Shared -> Prop)
  (turn : ∀ n s,I n s -> wpAny (model prog w) A (pyNext it) (fun r s₁ => match r with
   | none => R (.ok .next) s₁
   | some v => wpAny (model prog w) A (letOwnedTupleGo target it v) (fun _ s₁' => wpAny (model prog w) A (assign target env v) (fun _ s₂ => wpAny (model prog w) A (eval elt env) (fun x s₃ =>
     wpAny (model prog w) A (call (.builtin "list.append") [acc,x]) (fun _ s₄ => ∃ m,m < n /\ I m s₄) (fun _ _ => False) s₃)
     (fun _ _ => False) s₂) (fun _ _ => False) s₁') (fun _ _ => False) s₁) (fun _ _ => False) s)
  (n : Nat) (h : I n s) :
  codeAny (model prog w) A (.compLoop (.ListComp elt [⟨target,iter,[],0⟩] scope pos) 0 it acc env) R s:=by
 refine codeAny_loop rfl I (fun n s hI => ?_) n h
 show wpAny _ _ ((compTurn (.ListComp elt [⟨target,iter,[],0⟩] scope pos) 0 it acc env).onRaise (fun x => do noteFrame x env; theTreesLotGoes x)) _ _ s
 refine wpAny_noted ?_
 rw [compTurn_list1]
 refine wpAny_bind (wpAny_standAt (wpAny_bind (wpAny_mono (turn n s hI) (fun r s₁ h₁ => ?_) fun _ _ h' => h'.elim)))
 cases r with
 | none => exact wpAny_pure h₁
 | some v =>
  refine wpAny_bind (wpAny_mono h₁ (fun _ s₁' h₁' => ?_) fun _ _ h' => h'.elim)
  exact wpAny_bind (wpAny_mono h₁' (fun _ s₂ h₂ => wpAny_bind (wpAny_bind (wpAny_mono h₂ (fun x s₃ h₃ => wpAny_bind (wpAny_mono h₃
   (fun _ s₄ h₄ => wpAny_pure (wpAny_pure ⟨rfl,h₄⟩)) fun _ _ h' => h'.elim)) fun _ _ h' => h'.elim))) fun _ _ h' => h'.elim)
def sI (J : It) (ix : List (Option Nat)) (g : TG) (te : TE) (σ : St) (H : Hp) (Qd : Addr -> Hp -> Prop) : Prop:=
 ∀ D,H D = none -> ∃ W : Nat -> Nat -> St -> Hp -> Prop,(∃ m,W 0 m (bg ix σ) (upd H D (.lst []))) /\ ∀ i m σ' H',W i m σ' H' ->
  (J.stop i H' /\ Qd D H') \/ (J.go i H' /\ ∀ x H2,J.yld i H' x H2 -> g x σ' H2 fun σ3 H3 => te σ3 H3 fun y H4 => ∃ ys,H4 D = some (.lst ys) /\ ys.length < sizeLine /\ ∃ m',m' < m /\ W (i + 1) m' σ3 (upd H4 D (.lst (ys ++ [y]))))
section
variable {X : Cx} {pins : List (Addr × Obj)} {σ : St} {H : Hp} {s : Shared} {N : List Str} {ix : List (Option Nat)} {scope : Scope} {fp : List Addr} {tg elt iter : Expr} {pos spos : Pos} {J : It} {it : Addr} {tn : Nat -> Heap -> Prop} {g : TG} {te : TE} {wi : TI}
theorem zD {Qd : Addr -> Hp -> Prop} {RR : Value -> Addr -> Result -> Shared -> Prop} {E : Value -> Shared -> Prop} (I : Inv X pins σ H s) (hc : X.calm = true) (S : BlkScope X.N X.env.scope N ix scope) (T : Turn X.prog X.w X.K tg J fp it tn) (st : tn 0 s.heap) (f2 : ∀ b ∈ fp,mR X pins H b)
  (hg : ∀ C,PG (fH X N scope fp s H C) tg g) (he : ∀ C,PE (fH X N scope fp s H C) elt te) (hW : sI J ix g te σ H Qd)
  (hR : ∀ D C s' H' m,Inv X pins σ H' s' -> s'.heap.Ns C m -> mR X pins H' C -> Qd D H' -> RR (.ref D) C (.ok .next) s') :
  wpAny (model X.prog X.w) X.A (newList []) (fun acc s₃ => wpAny (model X.prog X.w) X.A (newFunctionEnv scope X.env.globals (cV X.env.cells scope.names []) [] X.env.qual none .none (some X.env)) (fun cenv s₄ =>
   codeAny (model X.prog X.w) X.A (.compStart (.ListComp elt [⟨tg,iter,[],0⟩] scope pos) 0 (.ref it) acc { cenv with scope:=relabel scope X.env }) (RR acc cenv.locals) s₄) E s₃) E s:=by
 refine wpAny_newObj_type (wpAny_newFunctionEnv S.nocell (by intro y hy; simp at hy) (fun h₁ hns₁ hsb₁ => ?_) S.kind)
 dsimp only at hns₁ hsb₁ ⊢
 generalize hH2 : s.heap.push { cls:=.type "list",dict:=none,data:=.seq ([] : List Value).toArray } = H2 at hns₁ hsb₁ ⊢
 have hC : H2.objs.size = s.heap.objs.size + 1:=by rw [<- hH2,Heap.size_push]
 have hDC : s.heap.objs.size ≠ H2.objs.size:=by rw [hC]; exact Nat.ne_of_lt (Nat.lt_succ_self _)
 have hCle : s.heap.objs.size <= H2.objs.size:=by rw [hC]; exact Nat.le_succ _
 have below : ∀ b,b < s.heap.objs.size -> b ≠ H2.objs.size:=fun b hb => by rw [hC]; exact Nat.ne_of_lt (Nat.lt_succ_of_lt hb)
 have old : ∀ b o,s.heap.get? b = some o -> h₁.get? b = some o:=fun b o e => hsb₁.extBut b o (below b (Heap.lt_size e)) (Heap.get?_push_of_some _ (hH2 ▸ Heap.get?_push_of_some _ e))
 have hacc : ∃ n,h₁.get? s.heap.objs.size = some { cls:=.type "list",data:=.seq ([] : List Value).toArray n }:=⟨_,hsb₁.extBut _ _ hDC (Heap.get?_push_of_some _ (hH2 ▸ Heap.get?_push_size _ rfl))⟩
 have st1 : tn 0 h₁:=T.keep _ _ _ st fun b _ o e => old b o e
 have fo : ∀ b ∈ fp,∃ o,s.heap.get? b = some o /\ ∀ v,o.data ≠ .cell v:=T.obj _ _ st
 have I0 : Inv (fH X N scope fp s H H2.objs.size) pins (bg ix σ) (upd H s.heap.objs.size (.lst [])) { s with heap:=h₁,toks:=s.toks + ([] : List (Str × Value)).length }:=
  Eb I S f2 fo (Nat.le_refl _) hCle hDC old hns₁ hacc
 have freshD : H s.heap.objs.size = none:=I.hok.fresh (Nat.le_refl _)
 obtain ⟨W,⟨m0,w0⟩,turn⟩:=hW s.heap.objs.size freshD
 have cl_ne : ∀ b ∈ fp,b ≠ H2.objs.size:=fun b hb => by
  obtain ⟨o,e,_⟩:=fo b hb
  exact below b (Heap.lt_size e)
 have stat : ∀ {H' : Hp},(∀ b ∈ fp,H' b = none) -> ∀ b ∈ fp,mR (fH X N scope fp s H H2.objs.size) pins H' b:=fun hn b hb => by
  obtain ⟨f0,f1,f3,f4,f5,f6⟩:=f2 b hb
  exact ⟨hn b hb,cl_ne b hb,I0.ok.exfs b hb,.inl hb,(I0.ok.exf b hb).2,f6⟩
 have fr0 : ∀ b ∈ fp,(upd H s.heap.objs.size (.lst [])) b = none:=fun b hb => by
  obtain ⟨o,e,_⟩:=fo b hb
  rw [aj (Nat.ne_of_lt (Heap.lt_size e))]
  exact (f2 b hb).1
 have loop : codeAny (model X.prog X.w) X.A (.compLoop (.ListComp elt [⟨tg,iter,[],0⟩] scope pos) 0 (.ref it) (.ref s.heap.objs.size) (compEnvC scope (cV X.env.cells scope.names []) H2.objs.size X.env))
   (RR (.ref s.heap.objs.size) H2.objs.size) { s with heap:=h₁,toks:=s.toks + ([] : List (Str × Value)).length }:=by
  refine zC (fun n s' => ∃ i σ' H',Inv (fH X N scope fp s H H2.objs.size) pins σ' H' s' /\ tn i s'.heap /\ (∀ b ∈ fp,H' b = none) /\ W i n σ' H') ?_ m0 ⟨0,_,_,I0,st1,fr0,w0⟩
  rintro n s3 ⟨i,σ3,H3,I3,st3,fr3,w3⟩
  rcases turn i n σ3 H3 w3 with ⟨stop,qn⟩ | ⟨go,step⟩
  ·refine thn (T.done (fH X N scope fp s H H2.objs.size) rfl rfl rfl hc i pins s3 σ3 H3 _ I3 (stat fr3) st3 stop) fun r s4 ⟨hr,I4⟩ => ?_
   subst hr
   obtain ⟨m4,hn4,_⟩:=id I4.loc
   refine hR _ _ s4 H3 m4 ?_ hn4 (I.fpOk hCle I4.free) qn
   exact I.call' (ch:=fp) I4.os I4.base I4.hok I4.bare fun b hb => by
    obtain ⟨f0,f1,f3,f4,f5,f6⟩:=f2 b hb
    exact ⟨f4,f1,f5,f6⟩
  ·refine thn (T.item (fH X N scope fp s H H2.objs.size) rfl rfl rfl hc i pins s3 σ3 H3 _ I3 (stat fr3) st3 go) fun r s4 ⟨u,hr,h4⟩ => ?_
   subst hr
   refine thn h4 fun _ s5 ⟨x,H5,I5,r5,y5,st5,fr5⟩ => ?_
   have I5' := I5.pinned (stat fr5) (T.obj _ _ st5)
   refine thn (hg _ _ s5 σ3 H5 x u _ I5' r5 (step x H5 y5)) fun _ s6 ⟨σ6,H6,I6,q6⟩ => ?_
   refine thn (he _ _ s6 σ6 H6 _ I6 q6) fun yv s7 ⟨y,H7,I7,r7,ys,hD7,hz7,m',hm,w7⟩ => ?_
   refine thn (bD (X:=fH X N scope fp s H H2.objs.size) _ s7 σ6 H7 (.ref s.heap.objs.size) [y] (.ref s.heap.objs.size) [yv] (fun _ H8 => W (i + 1) m' σ6 H8) I7 rfl (.cons r7 .nil) ⟨_,ys,y,rfl,rfl,hD7,hz7,w7⟩) fun _ s8 ⟨_,H8,I8,_,w8⟩ => ?_
   refine ⟨m',hm,i + 1,σ6,H8,I8.unpinned,T.keep _ _ _ st5 fun b hb o e => (I8.pin (b,o) (List.mem_append_right _ (List.mem_append_right _ (kL hb e)))).1,fun b hb => ?_,w8⟩
   obtain ⟨o,e,d⟩:=T.obj _ _ st5 b hb
   exact (I8.pin (b,o) (List.mem_append_right _ (List.mem_append_right _ (kL hb e)))).2.1
 exact codeAny_compStart_list loop (T.self _ _ _ _ _ st1 loop)
def Ic (ix : List (Option Nat)) (wi : TI) (g : TG) (te : TE) : TE:=fun σ H Q => wi σ H fun J H1 => sI J ix g te σ H1 fun D H' => Q (.ref D) H'
theorem dG (hc : X.calm = true) (S : BlkScope X.N X.env.scope N ix scope) (hi : PI X tg iter wi) (hg : ∀ fp s H C,PG (fH X N scope fp s H C) tg g) (he : ∀ fp s H C,PE (fH X N scope fp s H C) elt te)
  (hs : ∀ x,foldedSetIterable iter X.env x = pure x:=by intro _; rfl) : PE X (.ListComp elt [⟨tg,iter,[],0⟩] scope pos) (Ic ix wi g te):=by
 intro pins s σ H Q I h
 rw [eval_ListComp]
 refine wpAny_comprehension_free (use:=none) rfl hs (mP (S.clos I.ok)) S.kind S.locs (thn (hi pins s σ H _ I h) fun v s1 h1 => thn h1 fun itv s2 h2 => ?_)
 obtain ⟨it,fp,tn,J,H2,e,I2,T,st2,f2,hW⟩:=h2
 subst e
 refine zD (RR:=fun acc C => compPost (model X.prog X.w) X.A X.xe none (EP X pins σ Q) acc C) I2 hc S T st2 f2 (hg _ _ _) (he _ _ _) hW ?_
 intro D C s' H' m I' hn fC q
 exact ⟨m,hn,fun h' sb => ⟨.ref D,H',I'.turned (t' := s'.toks) (fun b o hb e => (sb.2 b hb).trans e) fC.1 fC.2.1 fC.2.2.2.1 fC.2.2.2.2.1 fC.2.2.2.2.2,rfl,q⟩⟩
theorem fQ {i : Nat} {y : Str} {py : Pos} (hc : X.calm = true) (hN : X.N.Nodup) (hyi : X.N[i]? = some y) (hy : Loc X.env.scope y) (S : BlkScope X.N X.env.scope N ix scope) (hi : PI X tg iter wi) (hg : ∀ fp s H C,PG (fH X N scope fp s H C) tg g) (he : ∀ fp s H C,PE (fH X N scope fp s H C) elt te)
  (hsw : swapsWith (.ListComp elt [⟨tg,iter,[],0⟩] scope pos) (some (.Name y py)) spos.line X.env = pure true:=by rfl)
  (hf : X.fn y = true \/ X.env.scope.names.lookup y = some .local:=by first | exact .inl rfl | exact .inr rfl | assumption)
  (hs : ∀ x,foldedSetIterable iter X.env x = pure x:=by intro _; rfl) : PS X (.Assign [.Name y py] (.ListComp elt [⟨tg,iter,[],0⟩] scope pos) spos) (ue (Ic ix wi g te) (bB i)):=by
 intro pins s σ H D I h
 rw [exec_Assign_Name_used _ _ _ _ hsw]
 refine wpAny_bind (wpAny_standAt (wpAny_bind ?_))
 show wpAny _ X.A (do let _ <- comprehension (.ListComp elt [⟨tg,iter,[],0⟩] scope pos) scope X.env _ (newList []) false (eval iter X.env) (some (assign (.Name y py) X.env))) _ _ s
 refine wpAny_bind (wpAny_mono (wpAny_comprehension_free (use:=some (assign (.Name y py) X.env)) (Q:=fun _ s' => SP X pins D .next s') rfl hs (mP (S.clos I.ok)) S.kind S.locs
  (thn (hi pins s σ H _ I h) fun v s1 h1 => thn h1 fun itv s2 h2 => ?_)) (fun _ s' hq => wpAny_pure (wpAny_pure hq)) fun _ _ e => e)
 obtain ⟨it,fp,tn,J,H2,e,I2,T,st2,f2,hW⟩:=h2
 subst e
 refine zD (RR:=fun acc C => compPost (model X.prog X.w) X.A X.xe (some (assign (.Name y py) X.env)) (fun _ s' => SP X pins D .next s') acc C) I2 hc S T st2 f2 (hg _ _ _) (he _ _ _) hW ?_
 intro Dl C s' H' m I' hn fC q
 show wpAny _ X.A (assign (.Name y py) X.env (.ref Dl)) _ _ s'
 refine wpAny_assign_Name (yn I' hN hyi hy (v:=.ref Dl) rfl (fun s2 I2' hsb => ?_) hf)
 obtain ⟨a,sb,ha⟩:=hsb
 refine ⟨m,hn.sameBut sb ?_,fun h3 sb3 => ⟨_,H',I2'.turned (t' := s2.toks) (fun b o hb e => (sb3.2 b hb).trans e) fC.1 fC.2.1 fC.2.2.2.1 fC.2.2.2.2.1 fC.2.2.2.2.2,q⟩⟩
 rcases ha with z | z
 ·rw [z]; exact fC.2.1
 ·exact Ne.symm (fC.2.2.2.2.1 _ _ z)
end
theorem iG {lo : Int} {n : Nat} {ix : List (Option Nat)} {te : TE} {σ : St} {H : Hp} {Qd : Addr -> Hp -> Prop} (Pv : Addr -> Nat -> List V -> Hp -> Prop)
  (h0 : ∀ D,H D = none -> Pv D 0 [] (upd H D (.lst [])))
  (hs : ∀ D i ys H' (Q' : VK),H D = none -> i < n -> H' D = some (.lst ys) -> Pv D i ys H' -> (∀ y H4,H4 D = some (.lst ys) -> ys.length < sizeLine -> Pv D (i + 1) (ys ++ [y]) (upd H4 D (.lst (ys ++ [y]))) -> Q' y H4) ->
   te ((bg ix σ).set 0 (some (.int (lo + i)))) H' Q')
  (hd : ∀ D ys H',H D = none -> H' D = some (.lst ys) -> Pv D n ys H' -> Qd D H') : sI (Itr lo n) ix (bB 0) te σ H Qd:=by
 intro D hD
 refine ⟨fun i m σ' H' => m = n - i /\ i <= n /\ (σ' = bg ix σ \/ ∃ t,σ' = (bg ix σ).set 0 t) /\ ∃ ys,H' D = some (.lst ys) /\ Pv D i ys H',⟨n,by simp,Nat.zero_le _,.inl rfl,[],af,h0 D hD⟩,?_⟩
 rintro i m σ' H' ⟨rfl,hi,hσ,ys,hy,p⟩
 by_cases hlt : i < n
 ·refine .inr ⟨hlt,fun x H2 y => ?_⟩
  obtain ⟨e1,e2⟩:=y
  subst e1
  subst e2
  have es : σ'.set 0 (some (V.int (lo + i))) = (bg ix σ).set 0 (some (V.int (lo + i))):=by
   rcases hσ with z | ⟨t,z⟩
   ·rw [z]
   ·rw [z,List.set_set]
  show te (σ'.set 0 (some (V.int (lo + i)))) _ _
  rw [es]
  refine hs D i ys _ _ hD hlt hy p fun y H4 h4 hz p4 => ⟨ys,h4,hz,n - (i + 1),by omega,rfl,hlt,.inr ⟨_,rfl⟩,ys ++ [y],af,p4⟩
 ·have e : i = n:=by omega
  subst e
  exact .inl ⟨Nat.le_refl _,hd D ys H' hD hy p⟩
theorem fG {K : PySem.W.Frag} {a : Addr} {xs : List V} {ix : List (Option Nat)} {te : TE} {σ : St} {H : Hp} {Qd : Addr -> Hp -> Prop} (Pv : Addr -> Nat -> List V -> Hp -> Prop)
  (h0 : ∀ D,H D = none -> Pv D 0 [] (upd H D (.lst [])))
  (hl : ∀ D i ys H',i <= xs.length -> Pv D i ys H' -> SqL K H' a xs)
  (hs : ∀ D i x ys H' (Q' : VK),H D = none -> xs[i]? = some x -> H' D = some (.lst ys) -> Pv D i ys H' -> (∀ y H4,H4 D = some (.lst ys) -> ys.length < sizeLine -> Pv D (i + 1) (ys ++ [y]) (upd H4 D (.lst (ys ++ [y]))) -> Q' y H4) ->
   te ((bg ix σ).set 0 (some x)) H' Q')
  (hd : ∀ D ys H',H D = none -> H' D = some (.lst ys) -> Pv D xs.length ys H' -> Qd D H') : sI (Itl K a) ix (bB 0) te σ H Qd:=by
 intro D hD
 refine ⟨fun i m σ' H' => m = xs.length - i /\ i <= xs.length /\ (σ' = bg ix σ \/ ∃ t,σ' = (bg ix σ).set 0 t) /\ ∃ ys,H' D = some (.lst ys) /\ Pv D i ys H',⟨xs.length,by simp,Nat.zero_le _,.inl rfl,[],af,h0 D hD⟩,?_⟩
 rintro i m σ' H' ⟨rfl,hi,hσ,ys,hy,p⟩
 have q:=hl D i ys H' hi p
 by_cases hlt : i < xs.length
 ·refine .inr ⟨⟨xs,xs[i],q,by simp [hlt]⟩,fun x H2 y => ?_⟩
  obtain ⟨e1,e2⟩:=y
  subst e1
  have ex:=e2 xs q
  have es : σ'.set 0 (some x) = (bg ix σ).set 0 (some x):=by
   rcases hσ with z | ⟨t,z⟩
   ·rw [z]
   ·rw [z,List.set_set]
  show te (σ'.set 0 (some x)) _ _
  rw [es]
  refine hs D i x ys _ _ hD ex hy p fun y H4 h4 hz p4 => ⟨ys,h4,hz,xs.length - (i + 1),by omega,rfl,hlt,.inr ⟨_,rfl⟩,ys ++ [y],af,p4⟩
 ·have e : i = xs.length:=by omega
  subst e
  exact .inl ⟨⟨xs,q,Nat.le_refl _⟩,hd D ys H' hD hy p⟩
section
variable {X : Cx}
def Kq (K : PySem.W.Frag) : List V -> Hp -> VK -> Prop:=fun xs H Q => ∃ x n t b,xs = [x,.ty n] /\ TyOf K H x t /\ PySem.W.kitOne K t (.type n) = some b /\ Q (.bl b) H
theorem ir : iR X (.builtin "isinstance") (Kq X.K):=by
 intro pins s σ H xs us Q I r h
 obtain ⟨x,n,t,b,rfl,ty,e,q⟩:=h
 obtain ⟨u,v,rfl,ru,rv⟩:=r.two
 cases (show v = Value.type n from rv)
 exact Ec I ru ty e fun tk => ⟨.bl b,H,I.tok tk,rfl,q⟩
end
section
variable {prog : Program} {w : World} {A : Around} {E : Value -> Shared -> Prop} {s : Shared}
theorem xW {it t : Addr} {items : Array Value} (hne : t ≠ it) : ∀ (n i : Nat) (s : Shared) (Q : List Value -> Shared -> Prop),s.heap.IsListIter it t i -> s.heap.IsList t items -> i + n <= items.size ->
  (∀ h',h'.IsListIter it t (i + n) -> Heap.SameBut it s.heap h' -> Q ((items.toList.drop i).take n) { s with heap:=h' }) -> wpAny (model prog w) A (draw (.ref it) n) Q E s
 | 0,i,s,Q,hit,_,_,hQ => by
  show wpAny _ _ (pure []) Q E s
  exact wpAny_pure (by simpa using hQ s.heap hit (Heap.SameBut.refl ..))
 | n + 1,i,s,Q,hit,ht,hle,hQ => by
  have hlt : i < items.size:=by omega
  show wpAny _ _ (pyNext (.ref it) >>= _) Q E s
  refine wpAny_bind (wpAny_pyNext_list_item hit ht (x:=items[i]) (by simp [hlt]) fun h₁ hit₁ hs₁ => ?_)
  refine wpAny_bind (wpAny_holding (xW hne n (i + 1) _ _ hit₁ (ht.extBut hs₁.extBut hne) (by omega) fun h₂ hit₂ hs₂ => wpAny_pure ?_))
  have hd : items.toList.drop i = items[i] :: items.toList.drop (i + 1):=by simp [List.drop_eq_getElem_cons,hlt]
  have:=hQ h₂ (by rw [show i + (n + 1) = i + 1 + n by omega]; exact hit₂) (hs₁.trans hs₂)
  rw [hd,List.take_succ_cons] at this
  exact this
theorem sE {t : Addr} {items : Array Value} {Q : List Value -> Shared -> Prop} (hh : A.handled = none) (ht : s.heap.IsList t items)
  (hQ : ∀ h',Heap.ExtBut s.heap.objs.size s.heap h' -> Q items.toList { s with heap:=h' }) : wpAny (model prog w) A (unpackItems (.ref t) items.size none) Q E s:=by
 have hlt : t ≠ s.heap.objs.size:=by obtain ⟨o,ho,_⟩:=ht; exact Nat.ne_of_lt (Heap.lt_size ho)
 unfold unpackItems
 refine wpAny_bind ?_
 ·unfold notIterableAtAll
  refine wpAny_bind (wpAny_specialOf ht.typeIs slot_list_iter.lookup ?_)
  refine wpAny_pure ?_
  simp only [Bool.false_eq_true,if_false]
  refine wpAny_bind (wpAny_holding (wpAny_pyIter_list ht ?_))
  refine wpAny_bind (wpAny_holding (xW hlt items.size 0 _ _ ⟨_,Heap.get?_push_size _ rfl,rfl,rfl⟩ (ht.push _) (by omega) fun h₁ hit₁ hs₁ => ?_))
  have hall : List.take items.size (List.drop 0 items.toList) = items.toList:=by
   rw [List.drop_zero]; exact List.take_of_length_le (by simp)
  rw [hall]
  rw [if_neg (by simp)]
  have ht₁ : h₁.IsList t items:=(ht.push _).extBut hs₁.extBut hlt
  refine wpAny_bind (wpAny_holding (wpAny_pyNext_list_end hh hit₁ ht₁ (by simp) fun h₂ he₂ => ?_))
  simp only [Option.isSome_none,Bool.false_eq_true,if_false]
  refine wpAny_pure (hQ h₂ fun b o hb e => he₂ b o hb (hs₁.extBut b o hb (Heap.get?_push_of_some _ e)))
theorem pq {env : Env} {elts : List Expr} {x1} {pos : Pos} {t : Addr} {items : Array Value} {Q : Unit -> Shared -> Prop} (hh : A.handled = none) (ht : s.heap.IsList t items)
  (hn : (assignEach elts env).length = items.size) (hstar : (assignEach elts env).findIdx? (·.1) = none)
  (h : ∀ h',Heap.ExtBut s.heap.objs.size s.heap h' -> wpAny (model prog w) A (assignInOrder ((assignEach elts env).map (·.2)) items.toList) Q E { s with heap:=h' }) :
  wpAny (model prog w) A (assign (.Tuple elts x1 pos) env (.ref t)) Q E s:=by
 rw [PyProof.Rows.assign_Tuple]
 refine wpAny_bind (wpAny_standAt ?_)
 unfold unpack
 rw [hn,hstar]
 exact wpAny_bind (wpAny_holding (sE hh ht h))
end
section
variable {X : Cx} {pos : Pos}
def Kh (K : PySem.W.Frag) (n : Nat) (t : TGs) : TG:=fun v σ H Q => ∃ a xs,v = .ref a /\ SqL K H a xs /\ xs.length = n /\ t xs σ H Q
theorem IZ {es : List Expr} {k : Nat} {t : TGs} {n : Nat} (hc : X.calm = true) (h : PGs X es t)
  (hn : (assignEach es X.env).length = n:=by rfl) (hst : (assignEach es X.env).findIdx? (·.1) = none:=by rfl) : PG X (.Tuple es k pos) (Kh X.K n t):=by
 intro pins s σ H v u Q I r hw
 obtain ⟨a,xs,e1,hq,hl,hw⟩:=hw
 subst e1
 cases r
 obtain ⟨its,rv,ht,hz⟩:=I.list hq
 refine pq (I.ok.hd hc) ht.isList (by simp [hn,<- hl,rv.length]) hst fun h' hx => ?_
 have I1 : Inv X pins σ H { s with heap:=h' }:=I.kept (t' := s.toks) fun b o e => hx b o (Nat.ne_of_lt (Heap.lt_size e)) e
 exact h pins _ σ H xs _ Q I1 (by simpa using rv) hw
def zQ : List V -> List V -> Bool
 | [],[] => true
 | x :: xs,y :: ys => eqV x y && zQ xs ys
 | _,_ => false
theorem zS : ∀ {xs ys : List V},xs.length ≠ ys.length -> zQ xs ys = false
 | [],[],h => absurd rfl h
 | [],_ :: _,_ => rfl
 | _ :: _,[],_ => rfl
 | x :: xs,y :: ys,h => by
  have:=@zS xs ys (by simpa using h)
  simp [zQ,this]
theorem zR : ∀ {xs ys : List V},xs.length = ys.length -> zQ xs ys = (List.range xs.length).all fun j => eqV (xs.getD j .non) (ys.getD j .non)
 | [],[],_ => rfl
 | [],_ :: _,h => by simp at h
 | _ :: _,[],h => by simp at h
 | x :: xs,y :: ys,h => by
  have ih:=@zR xs ys (by simpa using h)
  rw [List.length_cons,List.range_succ_eq_map,List.all_cons,List.all_map]
  show (eqV x y && zQ xs ys) = (eqV x y && _)
  rw [ih]
  rfl
def Kp (K : PySem.W.Frag) : R2:=fun x y H Q => ∃ a b xs ys,x = .ref a /\ y = .ref b /\ SqL K H a xs /\ SqL K H b ys /\ xs.all kU = true /\ ys.all kU = true /\ Q (.bl (zQ xs ys)) H
theorem IT (hu : X.A.units < cLine) : OpR X (compareOp .Eq) (Kp X.K):=by
 intro pins s σ H x y v u Q I r1 r2 h
 obtain ⟨a,b,xs,ys,rfl,rfl,ha,hb,fa,fb,q⟩:=h
 cases r1
 cases r2
 obtain ⟨its,rv,ht,hz⟩:=I.list ha
 obtain ⟨its2,rv2,ht2,hz2⟩:=I.list hb
 have l1:=rv.length
 have l2:=rv2.length
 by_cases hl : xs.length = ys.length
 ·refine SeqAt.eq_listAt (e:=fun j => eqV (xs.getD j .non) (ys.getD j .non)) ht.isList ht2.isList (by simp; omega) hu (fun j h1 h2 => ?_) ?_
  ·have j1 : j < xs.length:=by simp at h1; omega
   have j2 : j < ys.length:=by omega
   obtain ⟨u1,e1,q1⟩:=rv.get (i:=j) (x:=xs[j]) (by simp [j1])
   obtain ⟨u2,e2,q2⟩:=rv2.get (i:=j) (x:=ys[j]) (by simp [j2])
   have f1 : kU xs[j] = true:=List.all_eq_true.mp fa _ (List.getElem_mem j1)
   have f2 : kU ys[j] = true:=List.all_eq_true.mp fb _ (List.getElem_mem j2)
   have g1 : its.toArray[j] = u1:=by
    have:=(List.getElem?_eq_some_iff.mp e1).2
    simpa using this
   have g2 : its2.toArray[j] = u2:=by
    have:=(List.getElem?_eq_some_iff.mp e2).2
    simpa using this
   rw [g1,g2]
   have d1 : xs.getD j V.non = xs[j]:=by simp [j1]
   have d2 : ys.getD j V.non = ys[j]:=by simp [j2]
   show SeqAt.EqAt _ _ _ _ (eqV (xs.getD j V.non) (ys.getD j V.non))
   rw [d1,d2]
   exact Ff q1 q2 f1 f2
  ·refine ⟨.bl (zQ xs ys),H,I,?_,q⟩
   show Value.bool _ = Value.bool _
   rw [zR hl]
   simp [l1]
 ·refine SeqAt.eq_list_lengthsAt ht.isList ht2.isList ?_ hu ?_
  ·simp
   omega
  ·refine ⟨.bl (zQ xs ys),H,I,?_,q⟩
   rw [zS hl]
   rfl
end
end L2
set_option Elab.async false
set_option linter.all false
set_option maxRecDepth 100000
namespace HT
open PySem PySem.Spec PyProof.Rows
section
variable {prog : Program} {w : World} {A : Around} {E : Value -> Shared -> Prop} {s : Shared}
theorem getItem_tuple_whole {t sl : Addr} {items : Array Value} {vl vu : Value} {lo hi : Option Int} {Q : Value -> Shared -> Prop} (ht : IsTup s.heap t items) (hs : s.heap.IsSliceOf sl vl vu .none) (pl : IsPart vl lo) (pu : IsPart vu hi)
  (hw : sIx items.size 0 lo = 0 /\ sIx items.size items.size hi = items.size) (h : Q (.ref t) s) : wpAny (model prog w) A (getItem (.ref t) (.ref sl)) Q E s:=by
 obtain ⟨os,hos,hcs,hds⟩:=id hs
 have hTs : s.TypeIs (.ref sl) "slice" := ⟨os,hos,hcs⟩
 unfold getItem
 try with_reducible refine wpAny_holding ?_
 first | refine wpAny_bind (wpAny_pure ?_) | skip
 refine wpAny_bind (wpAny_sequenceKey ht.typeIs (by decide) ?_)
 refine wpAny_bind (wpAny_callSpecial?_slot (name:=Str.ofString "__getitem__") ht.typeIs PyProof.Rows.slot_tuple_getitem
  (wpAny_call_entry PyProof.Rows.slot_tuple_getitem ht.typeIs entry_tuple_getitem ?_ (args_tuple_getitem _ _)))
 show wpAny _ _ (Builtin.Tuple.tupleItemsOf (.ref t) >>= _) _ _ s
 refine wpAny_bind (tupleItemsOf_ ht ?_)
 refine wpAny_bind (wpAny_typeOf hTs ?_)
 rw [if_pos (by decide)]
 refine wpAny_bind (jG hs pl pu ?_)
 have hyes : ((((sIx items.size 0 lo : Nat) : Int) == 0 && (1 : Int) == 1 && (sIx items.size items.size hi - sIx items.size 0 lo) == items.size) = true):=by
  rw [hw.1,hw.2]; simp
 show wpAny _ _ (if (((sIx items.size 0 lo : Nat) : Int) == 0 && (1 : Int) == 1 && (sIx items.size items.size hi - sIx items.size 0 lo) == items.size) = true then _ else _) _ _ s
 rw [if_pos hyes]
 unfold Builtin.Tuple.tupleIsExact
 refine wpAny_bind (wpAny_bind (wpAny_typeOf ht.typeIs (wpAny_pure ?_)))
 rw [if_pos (by decide)]
 first
  | exact wpAny_bind (wpAny_rule (wpAny_pure ⟨_,rfl,wpAny_pure h⟩))
  | exact wpAny_bind (wpAny_rule (wpAny_bind (wpAny_pure (wpAny_pure ⟨_,rfl,wpAny_pure h⟩))))
  | exact wpAny_bind (wpAny_bind (wpAny_rule (wpAny_pure ⟨_,rfl,wpAny_pure h⟩)))
end
end HT
namespace L2
open PySem PySem.Spec PyProof.Rows
section
variable {X : Cx}
def JS (K : PySem.W.Frag) : V -> Option Int -> Option Int -> Hp -> VK -> Prop:=fun x lo hi H Q => ∃ a xs,x = .ref a /\ SqT K H a xs /\
 (HT.sIx xs.length 0 lo = 0 /\ HT.sIx xs.length xs.length hi = xs.length) /\ Q (.ref a) H
theorem HN : SlR X (JS X.K):=by
 intro pins s σ H x v vl vu lo hi sl Q I rx hs pl pu h
 obtain ⟨a,xs,rfl,hx,hw,q⟩:=h
 cases rx
 obtain ⟨its,r,ht,hz⟩:=I.tuple hx
 have hlen : its.toArray.size = xs.length:=by rw [List.size_toArray]; exact r.length.symm
 refine ⟨"tuple",_,PyProof.Rows.slot_tuple_getitem.lookup,ht.typeIs,?_⟩
 exact HT.getItem_tuple_whole ht hs pl pu (by rw [hlen]; exact hw) ⟨.ref a,H,I,rfl,q⟩
def rSl (K : PySem.W.Frag) : V -> Option Int -> Option Int -> Hp -> VK -> Prop:=fun x lo hi H Q => ∃ a xs,x = .ref a /\
 ((SqL K H a xs /\ ∀ p,H p = none -> Q (.ref p) (upd H p (.lst (qU xs lo hi)))) \/
  (SqT K H a xs /\ (qU xs lo hi = xs -> Q (.ref a) H) /\ ∀ p,H p = none -> Q (.ref p) (upd H p (.tup (qU xs lo hi)))))
theorem Bq {xs : List V} {lo hi : Option Int} (h : HT.sIx xs.length 0 lo = 0 /\ HT.sIx xs.length xs.length hi = xs.length) : qU xs lo hi = xs:=by
 unfold qU
 rw [h.1,h.2]
 simp
theorem Ji : SlR X (rSl X.K):=by
 intro pins s σ H x v vl vu lo hi sl Q I rx hs pl pu h
 obtain ⟨a,xs,rfl,h⟩:=h
 rcases h with ⟨hx,q⟩ | ⟨hx,q1,q2⟩
 ·exact DA pins s σ H _ v vl vu lo hi sl Q I rx hs pl pu ⟨a,xs,rfl,hx,q⟩
 ·by_cases hw : HT.sIx xs.length 0 lo = 0 /\ HT.sIx xs.length xs.length hi = xs.length
  ·exact HN pins s σ H _ v vl vu lo hi sl Q I rx hs pl pu ⟨a,xs,rfl,hx,hw,q1 (Bq hw)⟩
  ·exact Jj pins s σ H _ v vl vu lo hi sl Q I rx hs pl pu ⟨a,xs,rfl,hx,hw,q2⟩
end
structure FunD (K : PySem.W.Frag) (x qual : Str) (st : Stmt) (dV : Value) (f : Addr) (fd : FuncData) : Prop where
 ex : ∃ (oc : Value) (od : Option Addr) (kV doc pm : Value) (an : Option Addr) (cdv ct : Value) (osl : Array (Option Value)),
  fd = PySem.W.fnOf x qual (aF st) (aE st) (ah st) dV kV doc pm an cdv ct /\ K.lookup f = some ⟨oc,od,.func fd,osl⟩ /\ PySem.W.codeIn K cdv qual = true
 kp : PySem.W.keepIn K (.ref f) = true
section
variable {P : Program} {w : World} {K : PySem.W.Frag} {mg : Str -> Option Value} {base : Heap}
theorem FunD.ok {x qual : Str} {st : Stmt} {dV : Value} {f : Addr} {fd : FuncData} {N ps : List Str} {k : Nat} {sp : Sp} (F : FunD K x qual st dV f fd) (S : FnScope N ps (ah st)) (len : ∀ vs H Q E,sp vs H Q E -> vs.length = ps.length)
  (hbody : ∀ (cdv : Value) (A : Around) (outer : List Env) (s : Shared) (H : Hp) (vs : List V) (Q : VK) (E : XK),Room k (A.deeper (envOfC qual (ah st) s.heap.objs.size f cdv)) -> sp vs H Q E ->
   ∃ t,PSs (yB CX0 P w K mg base N qual (ah st) f cdv A outer s H E).nox (aE st) t /\ t { nx:=fun _ H' => Q .non H',rt:=Q } (start N vs) H) : FnOk P w K mg base CX0 (k + 1) f fd ps sp:=by
 obtain ⟨oc,od,kV,doc,pm,an,cdv,ct,osl,rfl,lk,hcd⟩:=F.ex
 refine HY lk hcd S len fun A outer s H vs Q E hr hsp => ?_
 obtain ⟨t,h,q⟩:=hbody cdv A outer s H vs Q E hr hsp
 exact ⟨t,h.nox,q⟩
theorem FunD.binds {x qual : Str} {st : Stmt} {f : Addr} {fd : FuncData} {ps : List Str} (F : FunD K x qual st .none f fd)
  (h : ∀ (kV doc pm : Value) (an : Option Addr) (cdv ct : Value) (us : List Value),us.length = ps.length -> bindArgs (PySem.W.fnOf x qual (aF st) (aE st) (ah st) .none kV doc pm an cdv ct) ⟨us,[]⟩ = pure (ps.zip us)) : Binds K fd ps []:=by
 obtain ⟨oc,od,kV,doc,pm,an,cdv,ct,osl,rfl,lk,hcd⟩:=F.ex
 exact .all (h kV doc pm an cdv ct)
theorem FunD.bindsD {x qual : Str} {st : Stmt} {f T : Addr} {fd : FuncData} {ps : List Str} {ds : List Value} {o : Obj} {items : Array Value} {n : Nat} (F : FunD K x qual st (.ref T) f fd) (ho : K.lookup T = some o) (hs : o.data = .seq items n) (m : Nat) (hm : m + ds.length = ps.length)
  (h : ∀ (kV doc pm : Value) (an : Option Addr) (cdv ct : Value) (us : List Value),us.length = m -> ∃ k : Option (Array Value) -> Sem (List (Str × Value)),
   bindArgs (PySem.W.fnOf x qual (aF st) (aE st) (ah st) (.ref T) kV doc pm an cdv ct) ⟨us,[]⟩ = seqItems? (.ref T) >>= k /\ k (some items) = pure (ps.zip (us ++ ds))) : Binds K fd ps ds:=by
 obtain ⟨oc,od,kV,doc,pm,an,cdv,ct,osl,rfl,lk,hcd⟩:=F.ex
 intro s us X hl
 obtain ⟨k,h1,h2⟩:=h kV doc pm an cdv ct us (by rw [List.length_append] at hl; omega)
 exact BindsTo.of_defaults (fd:=PySem.W.fnOf x qual (aF st) (aE st) (ah st) (.ref T) kV doc pm an cdv ct) rfl (X _ _ ho) hs h1 h2
theorem aN {x qual : Str} {st : Stmt} {f : Addr} {oc : Value} {od an : Option Addr} {osl : Array (Option Value)} {dV kV doc pm cdv ct : Value} (l : K.lookup f = some ⟨oc,od,.func (PySem.W.fnOf x qual (aF st) (aE st) (ah st) dV kV doc pm an cdv ct),osl⟩)
  (c : PySem.W.codeIn K cdv qual = true) (k : PySem.W.keepIn K (.ref f) = true) : FunD K x qual st dV f (PySem.W.fnOf x qual (aF st) (aE st) (ah st) dV kV doc pm an cdv ct):=⟨⟨oc,od,kV,doc,pm,an,cdv,ct,osl,rfl,l,c⟩,k⟩
structure DefOk (P : Program) (w : World) (K : PySem.W.Frag) (mg : Str -> Option Value) (base : Heap) (x : Str) (k : Nat) (ps : List Str) (dvs : List V) (sp : Sp) : Prop where
 ex : ∃ (f : Addr) (fd : FuncData) (ds : List Value),mg x = some (.ref f) /\ PySem.W.keepIn K (.ref f) = true /\ Vals dvs ds /\ Binds K fd ps ds /\ FnOk P w K mg base CX0 k f fd ps sp
end
section
variable {X : Cx} {x : Str} {j k : Nat} {ps : List Str} {dvs : List V} {sp : Sp} {p pos : Pos} {e : Expr} {es : List Expr} {t : TA}
theorem aV (G : DefOk X.prog X.w X.K X.mg X.base x k ps dvs sp) (hr : Room j X.A) (ha : PA X (e :: es) t) (hx : ∀ e s,X.xe e s = False:=by intro _ _; rfl) (hkj : k <= j:=by decide) (hg : Gl X x:=by rfl) (hdb : (x == ("__debug__" : Str)) = false:=by decide)
  (he : starEach (e :: es) X.env = (false,eval e X.env) :: starEach es X.env:=by rfl) (hpl : (backTo pos (starEach es X.env)).any (·.1) = false:=by rfl) :
  PE X (.Call (.Name x p) (e :: es) [] pos) (AW sp dvs E0 t):=by
 obtain ⟨f,fd,ds,hm,hk,hd,hb,F⟩:=G.ex
 exact Dt F (hr.mono hkj) hg hm hk hb hd (fun _ _ _ _ _ _ _ h => h.elim) ha hdb he hpl
end
theorem lL (K : PySem.W.Frag) : PySem.W.kitOne K (.type "int") (.type "int") = some true:=by with_unfolding_all rfl
theorem ky (K : PySem.W.Frag) : PySem.W.kitOne K (.type "int") (.type "bool") = some false:=by with_unfolding_all rfl
theorem aq {H : Hp} {p : Addr} (h : H p = none) (o : HO) : Same H (upd H p o):=fun b u q => by rw [aj (av q h)]; exact q
theorem small {n : Nat} (h : n <= 1000) : n <= sizeLine:=Nat.le_of_lt (aB h)
theorem bG : bootBuiltins "len" = some (.builtin "len"):=by decide +kernel
theorem E3 : bootBuiltins "min" = some (.builtin "min"):=by decide +kernel
theorem aQ : bootBuiltins "isinstance" = some (.builtin "isinstance"):=by decide +kernel
theorem Be : bootBuiltins "int" = some (.type "int"):=by decide +kernel
theorem C5 : bootBuiltins "bool" = some (.type "bool"):=by decide +kernel
theorem bP : bootBuiltins "tuple" = some (.type "tuple"):=by decide +kernel
theorem uh : bootBuiltins "list" = some (.type "list"):=by decide +kernel
theorem ug : bootBuiltins "dict" = some (.type "dict"):=by decide +kernel
theorem zz : bootBuiltins "reversed" = some (.type "reversed"):=by decide +kernel
end L2
set_option Elab.async false
set_option linter.all false
set_option maxRecDepth 100000
namespace L2
open PySem PySem.Spec PyProof.Rows
def BIG : Int:=2 ^ 4000
theorem zy {k : Int} (h0 : 0 <= k) (h : k < BIG) : k.natAbs.log2 < 4000:=by
 rcases Nat.eq_zero_or_pos k.natAbs with z | hp
 ·rw [z]; decide +kernel
 ·refine (Nat.log2_lt (by omega)).mpr ?_
  have e : BIG = ((2 ^ 4000 : Nat) : Int):=by unfold BIG; norm_cast
  rw [e] at h
  omega
def CMulB (i j : Int) : Prop:=(0 <= i /\ i < BIG) /\ (0 <= j /\ j < BIG)
theorem CMulB.ok {i j : Int} (h : CMulB i j) : IntMulOk i j:=by
 have one : ∀ {k : Int},0 <= k -> k < BIG -> Builtin.Int.intBits k <= 2 ^ 20:=fun {k} h0 h1 => by
  unfold Builtin.Int.intBits
  have:=zy h0 h1
  split <;> omega
 exact .of_bits (one h.1.1 h.1.2) (one h.2.1 h.2.2)
def Jt (i j : Int) : Prop:=0 < j /\ j < BIG
section
variable {X : Cx}
theorem Ds : OpR X (binaryOp .Mult) (rI CMulB fun i j => .int (i * j)):=opI fun _ _ _ _ _ _ _ hc q => PyProof.Rows.mul_int q hc.ok
theorem FY : OpR X (binaryOp .FloorDiv) (rI Jt fun i j => .int (i / j)):=opI fun i j _ _ _ _ _ hc q => by
 have h1 : (0 : Int) < j:=hc.1
 have h2 : j < BIG:=hc.2
 have h3:=zy (Int.le_of_lt h1) h2
 exact floordiv_int (by omega) (by rw [Int.fdiv_eq_ediv_of_nonneg i (by omega)]; exact q) (.inl (PyProof.noPylong_of_log2 (by omega)))
end
def Itv (K : PySem.W.Frag) (a : Addr) (n : Nat) : It:=
 ⟨fun i H => i < n /\ ∃ xs,SqL K H a xs /\ xs.length = n,fun i H x H' => H' = H /\ ∀ xs,SqL K H a xs -> xs[n - 1 - i]? = some x,fun i H => i = n⟩
theorem GL {P : Program} {w : World} {K : PySem.W.Frag} {tg : Expr} (a it : Addr) (n : Nat) : Turn P w K tg (Itv K a n) [it] it (fun i h => i <= n /\ PySem.Heap.IsRevIter h it a ((n : Int) - 1 - (i : Int))) where
 mem:=by simp
 obj:=fun i h st b hb => by
  have e : b = it:=by simpa using hb
  subst e
  obtain ⟨_,o,e,c,d⟩:=st
  exact ⟨o,e,fun v z => by rw [d] at z; cases z⟩
 keep:=fun i h h' st k => ⟨st.1,st.2.at fun o e => k it (by simp) o e⟩
 item:=by
  intro X hP hw hK hc i pins s σ H E I hf st hg
  subst hP hw hK
  obtain ⟨hi,xs,hq,hn⟩:=hg
  obtain ⟨its,rv,p,hz⟩:=I.list hq
  have hj : n - 1 - i < xs.length:=by omega
  obtain ⟨u,hu,ru⟩:=rv.get (i:=n - 1 - i) (x:=xs[n - 1 - i]) (by simp [hj])
  obtain ⟨f0,f1,f2,f3,f4,f5⟩:=hf it (by simp)
  have e : (n : Int) - 1 - (i : Int) = ((n - 1 - i : Nat) : Int):=by omega
  have st2:=st.2
  rw [e] at st2
  refine wpAny_pyNext_rev_item st2 p.isList (x:=u) (by simpa using hu) fun h' st' sb => ?_
  have I1 : Inv X pins σ H { s with heap:=h' }:=I.turned (t' := s.toks) (fun b o hb e => (sb.2 b hb).trans e) f0 f1 f3 f4 f5
  obtain ⟨o,eo,c,d⟩:=id st'
  refine ⟨u,rfl,zX (s:={ s with heap:=h' }) eo c d (by decide) ⟨xs[n - 1 - i],H,I1,ru,⟨rfl,fun ys hy => by rw [I.list_inj hy hq]; simp [hj]⟩,⟨by omega,?_⟩,fun b hb => (hf b hb).1⟩⟩
  have e2 : (n : Int) - 1 - ((i + 1 : Nat) : Int) = ((n - 1 - i : Nat) : Int) - 1:=by omega
  rw [e2]
  exact st'
 done:=by
  intro X hP hw hK hc i pins s σ H E I hf st hg
  subst hP hw hK
  have hg' : i = n:=hg
  obtain ⟨f0,f1,f2,f3,f4,f5⟩:=hf it (by simp)
  have e : (n : Int) - 1 - (i : Int) = -1:=by omega
  have st2:=st.2
  rw [e] at st2
  exact wpAny_pyNext_rev_end (I.ok.hd hc) st2 fun h' eb => ⟨rfl,I.turned (t' := s.toks) (fun b o hb e => eb b o hb e) f0 f1 f3 f4 f5⟩
 self:=fun _ _ _ _ _ st h => wpAny_pyIter_revIter st.2 h
section
variable {X : Cx} {tg : Expr}
def Kk (K : PySem.W.Frag) (ta : TA) : TI:=fun σ H R => ta σ H fun vs H1 => ∃ a xs,vs = [.ref a] /\ SqL K H1 a xs /\ R (Itv K a xs.length) H1
theorem Ja {a : Expr} {ta : TA} {p pos : Pos} (hg : Gl X "reversed") (hm : X.mg "reversed" = none) (ha : PA X [a] ta) (hs : starEach [a] X.env = [(false,eval a X.env)]:=by rfl) : PI X tg (.Call (.Name "reversed" p) [a] [] pos) (Kk X.K ta):=by
 intro pins s σ H R I h
 refine Call_ (kI I hg hm zz (PyProof.Rows.callWith_type1 (thn (ha pos pins s σ H _ I h) fun us s1 ⟨vs,H1,I1,r1,q1⟩ => ?_) hs rfl))
 obtain ⟨l,xs,e,hq,q⟩:=q1
 subst e
 cases r1 with
 | cons r rr =>
  cases rr
  cases r
  obtain ⟨its,rv,pl,hz⟩:=I1.list hq
  have hlen:=rv.length
  refine call_reversed_list pl.isList ?_
  have I2 : Inv X pins σ H1 { s1 with heap:=s1.heap.push (revObj l ((its.toArray.size : Int) - 1)) }:=I1.kept (t' := s1.toks) fun b o e => Heap.get?_push_of_some _ e
  have hit : PySem.Heap.IsRevIter (s1.heap.push (revObj l ((its.toArray.size : Int) - 1))) s1.heap.objs.size l ((xs.length : Int) - 1 - ((0 : Nat) : Int)):=by
   refine ⟨_,Heap.get?_push_size _ rfl,rfl,?_⟩
   have e : ((its.toArray.size : Int) - 1) = (xs.length : Int) - 1 - ((0 : Nat) : Int):=by rw [List.size_toArray]; omega
   rw [<- e]
   rfl
  refine wpAny_pyIter_revIter hit ?_
  refine ⟨s1.heap.objs.size,[s1.heap.objs.size],_,_,H1,rfl,I2,GL l _ xs.length,⟨Nat.zero_le _,hit⟩,fun b hb => ?_,q⟩
  have e : b = s1.heap.objs.size:=by simpa using hb
  subst e
  exact I1.fpOk (Nat.le_refl _) (I1.hok.fresh (Nat.le_refl _))
end
theorem G7 {K : PySem.W.Frag} {a : Addr} {xs : List V} {g : TG} {tb : TS} {D : Ends} {σ : St} {H : Hp} (Pv : Nat -> St -> Hp -> Prop) (h0 : Pv 0 σ H) (hl : ∀ i σ H,i <= xs.length -> Pv i σ H -> SqL K H a xs)
  (hs : ∀ i x σ H,i < xs.length -> xs[xs.length - 1 - i]? = some x -> Pv i σ H -> g x σ H fun σ2 H2 => tb { D with nx:=Pv (i + 1),ct:=Pv (i + 1),bk:=D.nx } σ2 H2) (hd : ∀ σ H,Pv xs.length σ H -> D.nx σ H) :
  ∃ W : Nat -> Nat -> St -> Hp -> Prop,(∃ m,W 0 m σ H) /\ ∀ i m σ H,W i m σ H ->
   ((Itv K a xs.length).stop i H /\ D.nx σ H) \/ ((Itv K a xs.length).go i H /\ ∃ N : St -> Hp -> Prop,(∀ σ' H',N σ' H' -> ∃ m',m' < m /\ W (i + 1) m' σ' H') /\ ∀ x H',(Itv K a xs.length).yld i H x H' -> g x σ H' fun σ2 H2 => tb { D with nx:=N,ct:=N,bk:=D.nx } σ2 H2):=by
 refine ⟨fun i m σ H => m = xs.length - i /\ i <= xs.length /\ Pv i σ H,⟨xs.length,by simp,Nat.zero_le _,h0⟩,?_⟩
 rintro i m σ H ⟨rfl,hi,p⟩
 have q:=hl i σ H hi p
 by_cases hlt : i < xs.length
 ·refine .inr ⟨⟨hlt,xs,q,rfl⟩,Pv (i + 1),fun σ' H' p' => ⟨xs.length - (i + 1),by omega,rfl,hlt,p'⟩,fun x H' y => ?_⟩
  obtain ⟨e,y⟩:=y
  subst e
  exact hs i x σ _ hlt (y xs q) p
 ·have e : i = xs.length:=by omega
  subst e
  exact .inl ⟨rfl,hd σ H p⟩
theorem mw {c : TT} {tb : TS} {D : Ends} {σ : St} {H : Hp} (Pv : Nat -> St -> Hp -> Prop) (h0 : ∃ m,Pv m σ H)
  (hs : ∀ m σ H,Pv m σ H -> c σ H fun b H1 => if b = true then ∃ N : St -> Hp -> Prop,(∀ σ' H',N σ' H' -> ∃ m',m' < m /\ Pv m' σ' H') /\ tb { D with nx:=N,ct:=N,bk:=D.nx } σ H1 else D.nx σ H1) : lU c tb D σ H:=⟨Pv,h0,hs⟩
end L2
set_option Elab.async false
set_option linter.all false
set_option maxRecDepth 100000
namespace L2
open PySem PySem.Spec PyProof.Rows
section
variable {X : Cx} {pins : List (Addr × Obj)} {σ : St} {H : Hp} {s : Shared}
end
section
variable {X : Cx} {tg : Expr}
end
section
variable {X : Cx}
end
end L2
set_option Elab.async false
set_option linter.all false
set_option maxRecDepth 100000
namespace PySem
section
variable {prog : Program} {w : World} {A : Around} {R : Result -> Shared -> Prop} {I : Addr} {fp wr : List Addr} {n : Nat} {P : Nat -> Value -> Prop} {St : Nat -> Heap -> Prop}
end
section
variable {prog : Program} {w : World} {A : Around} {E : Value -> Shared -> Prop} {s : Shared}
end
end PySem
namespace L2
open PySem PySem.Spec PyProof.Rows
section
variable {X : Cx}
variable {p pos kpos : Pos} {e d : Expr} {ta : TA} {td : TE}
end
section
variable {prog : Program} {w : World} {A : Around} {E : Value -> Shared -> Prop} {s : Shared}
end
section
variable {X : Cx} {e : Expr} {te : TE} {lo hi : Option Expr} {st : Expr} {tl th ts : TO} {pos p2 : Pos}
end
section
variable {X : Cx} {tg : Expr}
end
theorem pC {K : PySem.W.Frag} {a : Addr} {xs : List V} {ix : List (Option Nat)} {te : TE} {σ : St} {H : Hp} {Qd : Addr -> Hp -> Prop} (Pv : Addr -> Nat -> List V -> Hp -> Prop)
  (h0 : ∀ D,H D = none -> Pv D 0 [] (upd H D (.lst [])))
  (hl : ∀ D i ys H',i <= xs.length -> Pv D i ys H' -> SqT K H' a xs)
  (hs : ∀ D i x ys H' (Q' : VK),H D = none -> xs[i]? = some x -> H' D = some (.lst ys) -> Pv D i ys H' -> (∀ y H4,H4 D = some (.lst ys) -> ys.length < sizeLine -> Pv D (i + 1) (ys ++ [y]) (upd H4 D (.lst (ys ++ [y]))) -> Q' y H4) ->
   te ((bg ix σ).set 0 (some x)) H' Q')
  (hd : ∀ D ys H',H D = none -> H' D = some (.lst ys) -> Pv D xs.length ys H' -> Qd D H') : sI (Itt K a) ix (bB 0) te σ H Qd:=by
 intro D hD
 refine ⟨fun i m σ' H' => m = xs.length - i /\ i <= xs.length /\ (σ' = bg ix σ \/ ∃ t,σ' = (bg ix σ).set 0 t) /\ ∃ ys,H' D = some (.lst ys) /\ Pv D i ys H',⟨xs.length,by simp,Nat.zero_le _,.inl rfl,[],af,h0 D hD⟩,?_⟩
 rintro i m σ' H' ⟨rfl,hi,hσ,ys,hy,p⟩
 have q:=hl D i ys H' hi p
 by_cases hlt : i < xs.length
 ·refine .inr ⟨⟨xs,xs[i],q,by simp [hlt]⟩,fun x H2 y => ?_⟩
  obtain ⟨e1,e2⟩:=y
  subst e1
  have ex:=e2 xs q
  have es : σ'.set 0 (some x) = (bg ix σ).set 0 (some x):=by
   rcases hσ with z | ⟨t,z⟩
   ·rw [z]
   ·rw [z,List.set_set]
  show te (σ'.set 0 (some x)) _ _
  rw [es]
  refine hs D i x ys _ _ hD ex hy p fun y H4 h4 hz p4 => ⟨ys,h4,hz,xs.length - (i + 1),by omega,rfl,hlt,.inr ⟨_,rfl⟩,ys ++ [y],af,p4⟩
 ·have e : i = xs.length:=by omega
  subst e
  exact .inl ⟨⟨xs,q,Nat.le_refl _⟩,hd D ys H' hD hy p⟩
section
variable {X : Cx}
theorem zZ (K : PySem.W.Frag) (h : X.K = K:=by rfl) : IxR X (JP K):=by subst h; exact eN
theorem pO (K : PySem.W.Frag) (h : X.K = K:=by rfl) : IxR X (JQ K):=by subst h; exact aK
end
end L2
set_option Elab.async false
set_option linter.all false
set_option maxRecDepth 100000
namespace L2
open PySem PySem.Spec PyProof.Rows
section
variable {κ : Type} [DecidableEq κ]
def ff (kvs : List (κ × V)) (k : κ) : Option V:=(kvs.find? fun kv => decide (kv.1 = k)).map (·.2)
def putK (kvs : List (κ × V)) (k : κ) (v : V) : List (κ × V):=
 if (kvs.any fun kv => decide (kv.1 = k)) = true then kvs.map (fun kv => if kv.1 = k then (kv.1,v) else kv) else kvs ++ [(k,v)]
def uX (kvs : List (κ × V)) (k : κ) : List (κ × V):=kvs.filter fun kv => decide (kv.1 ≠ k)
theorem jI {p : κ × V} {r : List (κ × V)} {k : κ} (e : p.1 = k) : ff (p :: r) k = some p.2:=by simp [ff,List.find?_cons,e]
theorem iQ {p : κ × V} {r : List (κ × V)} {k : κ} (e : ¬ p.1 = k) : ff (p :: r) k = ff r k:=by simp [ff,List.find?_cons,e]
theorem AY (k : κ) : ∀ kvs : List (κ × V),(kvs.any fun kv => decide (kv.1 = k)) = (ff kvs k).isSome
 | [] => rfl
 | p :: r => by
  rw [List.any_cons]
  by_cases e : p.1 = k
  ·simp only [jI e,decide_eq_true e,Bool.true_or,Option.isSome_some]
  ·rw [iQ e,decide_eq_false e,Bool.false_or]; exact AY k r
theorem gc (kvs : List (κ × V)) (k : κ) (v : V) : (putK kvs k v).length <= kvs.length + 1:=by
 unfold putK
 split
 ·rw [List.length_map]; omega
 ·rw [List.length_append,List.length_cons,List.length_nil]; omega
theorem RelO.isSome_eq {o : Option V} {u : Option Value} (r : RelO o u) : o.isSome = u.isSome:=by
 cases o with
 | none => cases u with
  | none => rfl
  | some _ => exact (show False from r).elim
 | some _ => cases u with
  | none => exact (show False from r).elim
  | some _ => rfl
theorem RelO.getD {o : Option V} {u : Option Value} {d : V} {d' : Value} (r : RelO o u) (rd : RelV d d') : RelV (o.getD d) (u.getD d'):=by
 cases o with
 | none => cases u with
  | none => exact rd
  | some _ => exact (show False from r).elim
 | some _ => cases u with
  | none => exact (show False from r).elim
  | some _ => exact r
theorem KV.val {kvs : List (κ × V)} {vs : List (κ × Value)} (r : KV kvs vs) (k : κ) : RelO (ff kvs k) (valueAt vs k):=by
 unfold KV at r
 induction r with
 | nil => exact True.intro
 | @cons p q ps qs h t ih =>
  obtain ⟨h1,h2⟩:=h
  by_cases e : p.1 = k
  ·have e' : q.1 = k:=h1.symm.trans e
   have b : valueAt (q :: qs) k = some q.2:=by simp [valueAt,List.find?_cons,e']
   rw [jI e,b]; exact h2
  ·have e' : ¬ q.1 = k:=fun z => e (h1.trans z)
   have b : valueAt (q :: qs) k = valueAt qs k:=by simp [valueAt,List.find?_cons,e']
   rw [iQ e,b]; exact ih
theorem KV.any {kvs : List (κ × V)} {vs : List (κ × Value)} (r : KV kvs vs) (k : κ) : (kvs.any fun kv => decide (kv.1 = k)) = vs.any fun kv => decide (kv.1 = k):=by
 unfold KV at r
 induction r with
 | nil => rfl
 | cons h t ih => rw [List.any_cons,List.any_cons,ih,h.1]
theorem KV.repl {kvs : List (κ × V)} {vs : List (κ × Value)} (r : KV kvs vs) (k : κ) {y : V} {u : Value} (ry : RelV y u) :
  KV (kvs.map fun kv => if kv.1 = k then (kv.1,y) else kv) (vs.map fun kv => if kv.1 = k then (kv.1,u) else kv):=by
 unfold KV at r ⊢
 induction r with
 | nil => exact .nil
 | @cons p q ps qs h t ih =>
  rw [List.map_cons,List.map_cons]
  refine .cons ?_ ih
  obtain ⟨h1,h2⟩:=h
  by_cases e : p.1 = k
  ·rw [if_pos e,if_pos (h1.symm.trans e)]; exact ⟨h1,ry⟩
  ·rw [if_neg e,if_neg (fun z => e (h1.trans z))]; exact ⟨h1,h2⟩
theorem KV.put {kvs : List (κ × V)} {vs : List (κ × Value)} (r : KV kvs vs) (k : κ) {y : V} {u : Value} (ry : RelV y u) : KV (putK kvs k y) (stored vs k u):=by
 unfold putK stored
 rw [r.any k]
 by_cases e : (vs.any fun kv => decide (kv.1 = k)) = true
 ·rw [if_pos e,if_pos e]; exact r.repl k ry
 ·rw [if_neg e,if_neg e]; exact Paired.snoc r ⟨rfl,ry⟩
theorem KV.drop {kvs : List (κ × V)} {vs : List (κ × Value)} (r : KV kvs vs) (k : κ) : KV (uX kvs k) (without vs k):=by
 unfold KV at r ⊢
 unfold uX without
 induction r with
 | nil => exact .nil
 | @cons p q ps qs h t ih =>
  obtain ⟨h1,h2⟩:=h
  rw [List.filter_cons,List.filter_cons]
  by_cases e : p.1 = k
  ·have a : ¬ decide (p.1 ≠ k) = true:=by simp [e]
   have b : ¬ decide (q.1 ≠ k) = true:=by simp [h1.symm.trans e]
   rw [if_neg a,if_neg b]; exact ih
  ·have e' : ¬ q.1 = k:=fun z => e (h1.trans z)
   have a : decide (p.1 ≠ k) = true:=by simp [e]
   have b : decide (q.1 ≠ k) = true:=by simp [e']
   rw [if_pos a,if_pos b]; exact .cons ⟨h1,h2⟩ ih
theorem KV.length {kvs : List (κ × V)} {vs : List (κ × Value)} (r : KV kvs vs) : kvs.length = vs.length:=Paired.length r
theorem Fe (kvs : List (κ × V)) (k : κ) : (uX kvs k).length <= kvs.length:=List.length_filter_le _ _
end
theorem mQ {P : Program} {w : World} {k : Key} {u : Value} (r : RelV (kV k) u) : (bb P w).is k u = true:=by
 cases k with
 | inl i => obtain ⟨t,e⟩:=(show ∃ t,u = Value.int i t from r); subst e; exact Ad P w i t
 | inr x => obtain ⟨t,e⟩:=(show ∃ t,u = Value.str x t from r); subst e; exact Ae P w x t
theorem yb {P : Program} {w : World} : ∀ {ks : List Key} {us : List Value},Vals (ks.map kV) us -> ItemsAre (bb P w) ks us
 | [],_,r => by rw [List.map_nil] at r; cases r; exact .nil
 | k :: ks,_,r => by
  rw [List.map_cons] at r
  cases r with
  | cons h t => exact .cons (mQ h) (yb t)
abbrev KT (H : Hp) : List (List Key × V) -> List (List Key × Addr × Value) -> Prop:=Paired fun p q => p.1 = q.1 /\ H q.2.1 = some (.tup (p.1.map kV)) /\ RelV p.2 q.2.2
theorem KT.val {H : Hp} {kvs : List (List Key × V)} {xs : List (List Key × Addr × Value)} (r : KT H kvs xs) (k : List Key) : RelO (ff kvs k) ((atKey xs k).map (·.2)):=by
 induction r with
 | nil => exact True.intro
 | @cons p q ps qs h t ih =>
  obtain ⟨h1,_,h2⟩:=h
  by_cases e : p.1 = k
  ·have e' : q.1 = k:=h1.symm.trans e
   have b : atKey (q :: qs) k = some q.2:=by simp [atKey,List.find?_cons,e']
   rw [jI e,b]; exact h2
  ·have e' : ¬ q.1 = k:=fun z => e (h1.trans z)
   have b : atKey (q :: qs) k = atKey qs k:=by simp [atKey,List.find?_cons,e']
   rw [iQ e,b]; exact ih
theorem KT.repl {H : Hp} {kvs : List (List Key × V)} {xs : List (List Key × Addr × Value)} (r : KT H kvs xs) (k : List Key) {y : V} {u : Value} (ry : RelV y u) :
  KT H (kvs.map fun kv => if kv.1 = k then (kv.1,y) else kv) (xs.map (putAt k u)):=by
 induction r with
 | nil => exact .nil
 | @cons p q ps qs h t ih =>
  rw [List.map_cons,List.map_cons]
  refine .cons ?_ ih
  obtain ⟨h1,h2,h3⟩:=h
  unfold putAt
  by_cases e : p.1 = k
  ·rw [if_pos e,if_pos (h1.symm.trans e)]; exact ⟨h1,h2,ry⟩
  ·rw [if_neg e,if_neg (fun z => e (h1.trans z))]; exact ⟨h1,h2,h3⟩
theorem KT.put {H : Hp} {kvs : List (List Key × V)} {xs : List (List Key × Addr × Value)} (r : KT H kvs xs) (k : List Key) {b : Addr} {y : V} {u : Value} (hb : H b = some (.tup (k.map kV))) (ry : RelV y u) :
  KT H (putK kvs k y) (storedH xs k b u):=by
 have e : (kvs.any fun kv => decide (kv.1 = k)) = (atKey xs k).isSome:=by
  rw [AY,(r.val k).isSome_eq,Option.isSome_map]
 unfold putK storedH
 rw [e]
 by_cases q : (atKey xs k).isSome = true
 ·rw [if_pos q,if_pos q]; exact r.repl k ry
 ·rw [if_neg q,if_neg q]; exact Paired.snoc r ⟨rfl,hb,ry⟩
theorem KT.keeps {H H' : Hp} {kvs : List (List Key × V)} {xs : List (List Key × Addr × Value)} (r : KT H kvs xs) (ht : ∀ b ys,H b = some (.tup ys) -> H' b = some (.tup ys)) : KT H' kvs xs:=
 Paired.mapP r fun _ _ z => ⟨z.1,ht _ _ z.2.1,z.2.2⟩
section
variable {P : Program} {w : World} {H : Hp} {h : Heap} {a : Addr}
theorem Ib {u : HO} (ok : HOk P w H h) (e : Rd H a u) : ObjOk P w H h a u:=e.ok ok
theorem sP {kvs : List (Key × V)} (ok : HOk P w H h) (e : Rd H a (.dK kvs)) : kvs.length <= sizeLine /\ (a == sysModules) = false /\ ∃ vs,KV kvs vs /\ h.DictOf (bb P w) a vs:=
 show ObjOk P w H h a (.dK kvs) from Ib ok e
theorem Df {kvs : List (Key × V)} (ok : HOk P w H h) (e : H a = some (.dK kvs)) : kvs.length <= sizeLine /\ (a == sysModules) = false /\ ∃ vs,KV kvs vs /\ h.DictOf (bb P w) a vs:=sP ok (.inl e)
theorem nY {ks : List Key} (ok : HOk P w H h) (e : H a = some (.tup (ks.map kV))) : (tupleKind (bb P w)).is h ks a:=by
 obtain ⟨_,its,r,o,h1,h2,n,h3⟩:=(show ObjOk P w H h a (.tup (ks.map kV)) from ok a _ e)
 exact ⟨o,its.toArray,n,h1,h2,h3,by simpa using yb r⟩
theorem uY {kvs : List (List Key × V)} (ok : HOk P w H h) (e : Rd H a (.dT kvs)) : kvs.length <= sizeLine /\ (a == sysModules) = false /\
  ∃ xs,KT H kvs xs /\ h.DictOfH (tupleKind (bb P w)) a xs:=by
 obtain ⟨z,y,xs,r,o,es,ep,h1,h2,h3,h4,h5⟩:=(show ObjOk P w H h a (.dT kvs) from Ib ok e)
 refine ⟨z,y,xs,r,o,es,ep,h1,h2,h3,h4,fun x hx => ?_,h5⟩
 have all : ∀ {l : List (List Key × V)} {m : List (List Key × Addr × Value)},KT H l m -> ∀ x ∈ m,(tupleKind (bb P w)).is h x.1 x.2.1:=by
  intro l m q
  induction q with
  | nil => intro x hx; exact nomatch hx
  | @cons p q ps qs hq t ih =>
   intro x hx
   rcases List.mem_cons.mp hx with e | hx
   ·subst e
    exact nY ok (by rw [<- hq.1]; exact hq.2.1)
   ·exact ih x hx
 exact all r x hx
theorem JC {kvs : List (List Key × V)} (ok : HOk P w H h) (e : H a = some (.dT kvs)) : kvs.length <= sizeLine /\ (a == sysModules) = false /\
  ∃ xs,KT H kvs xs /\ h.DictOfH (tupleKind (bb P w)) a xs:=uY ok (.inl e)
end
def DGet (H : Hp) (a : Addr) (y : V) (r : Option V) : Prop:=
 (∃ kvs k,Rd H a (.dK kvs) /\ y = kV k /\ r = ff kvs k) \/ ∃ kvs k b,Rd H a (.dT kvs) /\ y = .ref b /\ H b = some (.tup (k.map kV)) /\ r = ff kvs k
def DPut (H : Hp) (a : Addr) (y v : V) (H' : Hp) : Prop:=
 (∃ kvs k,H a = some (.dK kvs) /\ y = kV k /\ kvs.length < sizeLine /\ H' = upd H a (.dK (putK kvs k v))) \/
 ∃ kvs k b,H a = some (.dT kvs) /\ y = .ref b /\ H b = some (.tup (k.map kV)) /\ kvs.length < sizeLine /\ H' = upd H a (.dT (putK kvs k v))
theorem DGet.k {H : Hp} {a : Addr} {kvs : List (Key × V)} {k : Key} (e : H a = some (.dK kvs)) : DGet H a (kV k) (ff kvs k):=.inl ⟨kvs,k,.inl e,rfl,rfl⟩
theorem DPut.k {H : Hp} {a : Addr} {kvs : List (Key × V)} {k : Key} {v : V} (e : H a = some (.dK kvs)) (hl : kvs.length < sizeLine) : DPut H a (kV k) v (upd H a (.dK (putK kvs k v))):=.inl ⟨kvs,k,e,rfl,hl,rfl⟩
section
variable {X : Cx} {pins : List (Addr × Obj)} {σ : St} {H : Hp} {s : Shared} {a : Addr} {y v : V} {u r : Value} {o : Option V} {A : Around} {E : Value -> Shared -> Prop}
theorem Inv.big (I : Inv X pins σ H s) : sysModules < s.heap.objs.size:=by
 have h : mainGlobals < s.heap.objs.size:=(I.mod.glob.keeps I.bk).lt
 exact Nat.lt_trans (by decide) h
theorem DN {Q : Value -> Shared -> Prop} (hu : A.units + 1 < cLine) (I : Inv X pins σ H s) (g : DGet H a y (some v)) (ry : RelV y u) (h : ∀ w' s',Inv X pins σ H s' -> RelV v w' -> Q w' s') :
  wpAny (model X.prog X.w) A (getItem (.ref a) u) Q E s:=by
 rcases g with ⟨kvs,k,e,ey,l⟩ | ⟨kvs,k,b,e,ey,eb,l⟩
 ·subst ey
  obtain ⟨z,hd,vs,rel,dd⟩:=sP I.hok e
  obtain ⟨w',hw,rw'⟩:=RelO.some_of (v:=v) (o:=valueAt vs k) (by rw [l]; exact rel.val k)
  exact wpAny_getItem_of (mQ ry) dd.mapOf hw (h w' _ (I.tok _) rw')
 ·subst ey
  cases (show u = Value.ref b from ry)
  obtain ⟨z,hd,xs,rel,dd⟩:=uY I.hok e
  obtain ⟨w',hw,rw'⟩:=RelO.some_of (v:=v) (o:=(atKey xs k).map (·.2)) (by rw [l]; exact rel.val k)
  obtain ⟨p,hp,hp2⟩:=Option.map_eq_some_iff.mp hw
  refine wpAny_getItem_heap (tupleKind_room_in1 hu) (nY I.hok eb) dd hp ?_
  rw [hp2]
  exact h w' _ (I.tok _) rw'
theorem Kg {Q : Value -> Shared -> Prop} (hu : A.units + 1 < cLine) (I : Inv X pins σ H s) (g : DGet H a y o) (ry : RelV y u) (h : ∀ s',Inv X pins σ H s' -> Q (.bool o.isSome) s') :
  wpAny (model X.prog X.w) A (compareOp .In u (.ref a)) Q E s:=by
 rcases g with ⟨kvs,k,e,ey,l⟩ | ⟨kvs,k,b,e,ey,eb,l⟩
 ·subst ey
  obtain ⟨z,hd,vs,rel,dd⟩:=sP I.hok e
  refine wpAny_in_of (mQ ry) hd dd.mapOf ?_
  rw [<- (rel.val k).isSome_eq,<- l]
  exact h _ (I.tok _)
 ·subst ey
  cases (show u = Value.ref b from ry)
  obtain ⟨z,hd,xs,rel,dd⟩:=uY I.hok e
  refine wpAny_in_heap (tupleKind_room_in1 hu) (nY I.hok eb) hd dd ?_
  have q:=(rel.val k).isSome_eq
  rw [Option.isSome_map] at q
  rw [<- q,<- l]
  exact h _ (I.tok _)
theorem G2 {Q : Value -> Shared -> Prop} (hu : A.units + 1 < cLine) (I : Inv X pins σ H s) (g : DGet H a y o) (ry : RelV y u) (h : ∀ s',Inv X pins σ H s' -> Q (.bool (!o.isSome)) s') :
  wpAny (model X.prog X.w) A (compareOp .NotIn u (.ref a)) Q E s:=by
 rcases g with ⟨kvs,k,e,ey,l⟩ | ⟨kvs,k,b,e,ey,eb,l⟩
 ·subst ey
  obtain ⟨z,hd,vs,rel,dd⟩:=sP I.hok e
  refine wpAny_notIn_of (mQ ry) hd dd.mapOf ?_
  rw [<- (rel.val k).isSome_eq,<- l]
  exact h _ (I.tok _)
 ·subst ey
  cases (show u = Value.ref b from ry)
  obtain ⟨z,hd,xs,rel,dd⟩:=uY I.hok e
  refine wpAny_notIn_heap (tupleKind_room_in1 hu) (nY I.hok eb) hd dd ?_
  have q:=(rel.val k).isSome_eq
  rw [Option.isSome_map] at q
  rw [<- q,<- l]
  exact h _ (I.tok _)
theorem pF {h' : Heap} {t' : Nat} {ob : HO} (I : Inv X pins σ H s) (mu : Mut (H a)) (hs : Heap.SameBut a s.heap h') (he : ∃ q,h'.get? a = some q) (new : ObjOk X.prog X.w (upd H a ob) h' a ob) :
  Inv X pins σ (upd H a ob) { s with heap:=h',toks:=t' }:=
 I.write (x:=a) (e:=a) mu (.inl rfl) (fun b q hb z => (hs.2 b hb).trans z) he new
theorem uW {P : Program} {w : World} {H' : Hp} {h' : Heap} {kvs : List (Key × V)} {vs : List (Key × Value)} (z : kvs.length <= sizeLine) (hd : (a == sysModules) = false) (rel : KV kvs vs) (dd : h'.DictOf (bb P w) a vs) :
  ObjOk P w H' h' a (.dK kvs):=⟨z,hd,vs,rel,dd⟩
theorem DP {H' : Hp} {Q : Unit -> Shared -> Prop} (hu : A.units + 1 < cLine) (I : Inv X pins σ H s) (g : DPut H a y v H') (ry : RelV y u) (rv : RelV v r) (h : ∀ s',Inv X pins σ H' s' -> Q () s') :
  wpAny (model X.prog X.w) A (setItem (.ref a) u r) Q E s:=by
 rcases g with ⟨kvs,k,e,ey,l,eH⟩ | ⟨kvs,k,b,e,ey,eb,l,eH⟩
 ·subst ey eH
  obtain ⟨z,hd,vs,rel,dd⟩:=Df I.hok e
  have hz : vs.length <= sizeLine:=by rw [<- rel.length]; exact z
  have hl : (putK kvs k v).length <= sizeLine:=by have:=gc kvs k v; omega
  refine wpAny_setItem_pairs (hsz:=hz) (mQ ry) dd fun h' dd' hs => h _ ?_
  have he : ∃ q,h'.get? a = some q:=let ⟨q,_,_,hq,_⟩:=dd'; ⟨q,hq⟩
  exact pF I (by rw [e]; exact True.intro) hs he (uW hl hd (rel.put k rv) dd')
 ·subst ey eH
  cases (show u = Value.ref b from ry)
  obtain ⟨z,hd,xs,rel,dd⟩:=JC I.hok e
  have hz : xs.length <= sizeLine:=by rw [<- Paired.length rel]; exact z
  have hl : (putK kvs k v).length <= sizeLine:=by have:=gc kvs k v; omega
  refine wpAny_setItem_heap (hsz:=hz) (tupleKind_room_in1 hu) (nY I.hok eb) dd fun h' dd' hs => h _ ?_
  obtain ⟨q,es,ep,hq,h2,h3,h4,_,h5⟩:=dd'
  refine pF I (by rw [e]; exact True.intro) hs ⟨q,hq⟩ ⟨hl,hd,_,(rel.put k eb rv).keeps fun c ys ec => ?_,q,es,ep,hq,h2,h3,h4,h5⟩
  rw [aj (aJ ec e (fun z => nomatch z))]
  exact ec
end
section
variable {X : Cx} {pins : List (Addr × Obj)} {σ : St} {H : Hp} {s : Shared} {a : Addr} {kvs : List (Key × V)} {k : Key} {u : Value} {A : Around} {E : Value -> Shared -> Prop}
theorem JB {v : V} {more : List Value} {Q : Value -> Shared -> Prop} (I : Inv X pins σ H s) (e : H a = some (.dK kvs)) (ry : RelV (kV k) u) (l : ff kvs k = some v) (hm : more = [] \/ ∃ x,more = [x])
  (h : ∀ w' s',Inv X pins σ (upd H a (.dK (uX kvs k))) s' -> RelV v w' -> Q w' s') : wpAny (model X.prog X.w) A (call (.builtin "dict.pop") (.ref a :: u :: more)) Q E s:=by
 obtain ⟨z,hd,vs,rel,dd⟩:=Df I.hok e
 obtain ⟨w',hw,rw'⟩:=RelO.some_of (v:=v) (o:=valueAt vs k) (by rw [<- l]; exact rel.val k)
 have hp : (keyPart u).isSome = true:=by
  cases k with
  | inl i => obtain ⟨t,q⟩:=(show ∃ t,u = Value.int i t from ry); subst q; rfl
  | inr x => obtain ⟨t,q⟩:=(show ∃ t,u = Value.str x t from ry); subst q; rfl
 have ha : argsOk "dict.pop" ⟨.ref a :: u :: more,[]⟩:=by
  rcases hm with q | ⟨x,q⟩
  ·subst q; exact PySem.F.args_dict_pop_2 _ _
  ·subst q; exact PySem.F.args_dict_pop_3 _ _ _
 refine call_meetsIn PySem.F.slot_dict_pop dd.typeIs PySem.F.entry_dict_pop ha (meets_dict_pop_there (bb X.prog X.w) a (mQ ry) more hm hp)
  ⟨vs,w',dd,by rw [<- rel.length]; exact z,hw,fun h' dd' hs => h w' _ ?_ rw'⟩
 have he : ∃ q,h'.get? a = some q:=let ⟨q,_,_,hq,_⟩:=dd'; ⟨q,hq⟩
 exact pF I (by rw [e]; exact True.intro) hs he (uW (Nat.le_trans (Fe kvs k) z) hd (rel.drop k) dd')
theorem JA {Q : Value -> Shared -> Prop} (I : Inv X pins σ H s) (e : Rd H a (.dK kvs)) (h : ∀ t s',Inv X pins σ H s' -> Q (.int kvs.length t) s') : wpAny (model X.prog X.w) A (call (.builtin "len") [.ref a]) Q E s:=by
 obtain ⟨z,hd,vs,rel,dd⟩:=sP I.hok e
 refine call_len_dict hd dd (by rw [<- rel.length]; rw [sizeLine_eq] at z; omega) ?_
 rw [<- rel.length]
 exact h _ _ (I.tok _)
end
def Ju (i : Expr) : Prop := ∀ ov iv,subscripted i false ov iv = operate [ov,iv] (getItem ov iv)
theorem HQ {prog : Program} {w : World} {A : Around} {E : Value -> Shared -> Prop} {s : Shared} {env : Env} {value slice : Expr} {pos : Pos} {T id : String} {Q : Value -> Shared -> Prop}
  (hl : typeLookup (.type T) "__getitem__" = pure (some (.builtin id))) (hs : Ju slice)
  (h : wpAny (model prog w) A (eval value env) (fun o s₁ => wpAny (model prog w) A (eval slice env) (fun i s₂ => s₂.TypeIs o T /\ wpAny (model prog w) A (getItem o i) Q E s₂) E s₁) E s) :
  wpAny (model prog w) A (eval (.Subscript value slice pos) env) Q E s:=by
 refine Subscript_ (wpAny_mono h (fun o s₁ h₁ => wpAny_mono h₁ (fun i s₂ h₂ => ?_) fun _ _ x => x) fun _ _ x => x)
 obtain ⟨hT,h₂⟩:=h₂
 unfold subscriptTail
 refine wpAny_bind ?_
 rw [getitemInPython_of_ne hT.not_modules]
 refine wpAny_bind (wpAny_specialOf hT hl ?_)
 have fin : wpAny (model prog w) A (subscripted slice false o i) (fun r s₃ => wpAny (model prog w) A (letTemporaryGo value o r >>= fun _ => pure r) Q E s₃) E s₂:=by
  rw [hs o i]
  exact wpAny_operating (wpAny_mono h₂ (fun r s₃ h₃ => wpAny_bind (wpAny_letTemporaryGo (wpAny_pure h₃))) fun _ _ x => x)
 first
  | exact wpAny_pure (wpAny_bind fin)
  | exact wpAny_bind (wpAny_pure (wpAny_bind fin))
  | exact wpAny_bind fin
theorem zL {X : Cx} {pins : List (Addr × Obj)} {σ : St} {H : Hp} {s : Shared} {a : Addr} {y : V} {o : Option V} (I : Inv X pins σ H s) (g : DGet H a y o) : s.TypeIs (.ref a) "dict" := by
 rcases g with ⟨kvs,k,e,_,_⟩ | ⟨kvs,k,b,e,_,_,_⟩
 ·obtain ⟨_,_,vs,_,dd⟩:=sP I.hok e
  exact dd.typeIs
 ·obtain ⟨_,_,xs,_,dd⟩:=uY I.hok e
  exact dd.typeIs
def JW (td ty : TE) : TE:=fun σ H Q => td σ H fun x H1 => ty σ H1 fun y H2 => ∃ a v,x = .ref a /\ DGet H2 a y (some v) /\ Q v H2
def Kx (ty td : TE) : TE:=fun σ H Q => ty σ H fun y H1 => td σ H1 fun x H2 => ∃ a o,x = .ref a /\ DGet H2 a y o /\ Q (.bl o.isSome) H2
def HR (ty td : TE) : TE:=fun σ H Q => ty σ H fun y H1 => td σ H1 fun x H2 => ∃ a o,x = .ref a /\ DGet H2 a y o /\ Q (.bl (!o.isSome)) H2
def JT (td ty tv : TE) : TS:=fun D σ H => tv σ H fun v H1 => td σ H1 fun x H2 => ty σ H2 fun y H3 => ∃ a H4,x = .ref a /\ DPut H3 a y v H4 /\ D.nx σ H4
section
variable {X : Cx} {o i e value : Expr} {pos pos' tpos : Pos} {td ty tv : TE}
theorem Du (hu : X.A.units + 1 < cLine) (ho : PE X o td) (hi : PE X i ty) (hs : Ju i) : PE X (.Subscript o i pos) (JW td ty):=by
 intro pins s σ H Q I h
 refine HQ PySem.F.slot_dict_getitem.lookup hs (thn (ho pins s σ H _ I h) fun u s1 ⟨x,H1,I1,rx,q1⟩ => thn (hi pins s1 σ H1 _ I1 q1) fun iv s2 ⟨y,H2,I2,ry,a,v,ex,g,q2⟩ => ?_)
 subst ex
 obtain rfl : u = Value.ref a:=rx
 exact ⟨zL I2 g,DN hu I2 g ry fun w' s3 I3 rw' => ⟨v,H2,I3,rw',q2⟩⟩
theorem IV (hu : X.A.units + 1 < cLine) (hi : PE X i ty) (ho : PE X o td) : PC X .In i o (Kx ty td):=by
 intro pins s σ H Q I h
 refine thn (hi pins s σ H _ I h) fun iv s1 ⟨y,H1,I1,ry,q1⟩ => thn (ho pins s1 σ H1 _ I1 q1) fun u s2 ⟨x,H2,I2,rx,a,ov,ex,g,q2⟩ => ?_
 subst ex
 obtain rfl : u = Value.ref a:=rx
 exact Kg hu I2 g ry fun s3 I3 => ⟨.bl ov.isSome,H2,I3,rfl,q2⟩
theorem yj (hu : X.A.units + 1 < cLine) (hi : PE X i ty) (ho : PE X o td) : PC X .NotIn i o (HR ty td):=by
 intro pins s σ H Q I h
 refine thn (hi pins s σ H _ I h) fun iv s1 ⟨y,H1,I1,ry,q1⟩ => thn (ho pins s1 σ H1 _ I1 q1) fun u s2 ⟨x,H2,I2,rx,a,ov,ex,g,q2⟩ => ?_
 subst ex
 obtain rfl : u = Value.ref a:=rx
 exact G2 hu I2 g ry fun s3 I3 => ⟨.bl (!ov.isSome),H2,I3,rfl,q2⟩
theorem uv (hu : X.A.units + 1 < cLine) (ho : PE X o td) (hi : PE X i ty) (hv : PE X value tv) (hs : swapsWith value (some (.Subscript o i pos')) pos.line X.env = pure false) :
  PS X (.Assign [.Subscript o i pos'] value pos) (JT td ty tv):=by
 intro pins s σ H D I h
 refine wpAny_Assign_Subscript (thn (hv pins s σ H _ I h) fun r s1 ⟨v,H1,I1,rv,q1⟩ => thn (ho pins s1 σ H1 _ I1 q1) fun u s2 ⟨x,H2,I2,rx,q2⟩ => thn (hi pins s2 σ H2 _ I2 q2) fun iv s3 ⟨y,H3,I3,ry,a,H4,ex,g,q3⟩ => ?_) hs
 subst ex
 obtain rfl : u = Value.ref a:=rx
 exact DP hu I3 g ry rv fun s4 I4 => ⟨σ,H4,I4,q3⟩
end
theorem zP {P : Program} {w : World} {H : Hp} (h : Heap) (hb : sysModules < h.objs.size) : ObjOk P w H (h.push { cls:=.type "dict",data:=.dict #[] }) h.objs.size (.dK []):=
 ⟨Nat.zero_le _,beq_eq_false_iff_ne.mpr (Ne.symm (Nat.ne_of_lt hb)),[],.nil,Heap.DictOf.new h⟩
def Jl : TE:=fun _ H Q => ∀ p,H p = none -> Q (.ref p) (upd H p (.dK []))
section
variable {X : Cx} {pos : Pos}
theorem lO : PE X (.Dict [] [] pos) Jl:=fun pins s σ H Q I h =>
 wpAny_Dict_empty ⟨.ref s.heap.objs.size,_,I.laid (a:=s.heap.objs.size) (o:=.dK []) (t' := s.toks) (fun _ _ q => Heap.get?_push_of_some _ q) (Nat.le_refl _) (zP s.heap I.big),rfl,h _ (I.hok.fresh (Nat.le_refl _))⟩
end
def CP : List (TE × TE) -> St -> Hp -> (List (V × V) -> Hp -> Prop) -> Prop
 | [],_,H,Q => Q [] H
 | (tk,tv) :: r,σ,H,Q => tk σ H fun x H1 => tv σ H1 fun y H2 => CP r σ H2 fun ps H3 => Q ((x,y) :: ps) H3
abbrev VV : List (V × V) -> List (Value × Value) -> Prop:=Paired fun p q => RelV p.1 q.1 /\ RelV p.2 q.2
def PPs (X : Cx) (pos : Pos) (keys : List (Option Expr)) (values : List Expr) (trs : List (TE × TE)) : Prop:=
 ∀ (pins : List (Addr × Obj)) (s : Shared) (σ : St) (H : Hp) (Q : List (V × V) -> Hp -> Prop),Inv X pins σ H s -> CP trs σ H Q ->
  wpAny (model X.prog X.w) X.A (evalPairs (pairTrees keys values X.env pos)) (fun vs s' => ∃ ps H',Inv X pins σ H' s' /\ VV ps vs /\ Q ps H') X.xe s
theorem HE {X : Cx} {pos : Pos} : PPs X pos [] [] []:=fun pins s σ H Q I h => pairTrees_nil_walk ⟨[],H,I,.nil,h⟩
theorem Gm {X : Cx} {pos : Pos} {k v : Expr} {ks : List (Option Expr)} {vs : List Expr} {tk tv : TE} {trs : List (TE × TE)} (hk : PE X k tk) (hv : PE X v tv) (hr : PPs X pos ks vs trs) :
  PPs X pos (some k :: ks) (v :: vs) ((tk,tv) :: trs):=fun pins s σ H Q I h =>
 pairTrees_cons_walk (thn (hk pins s σ H _ I h) fun u s1 ⟨x,H1,I1,rx,q1⟩ => thn (hv pins s1 σ H1 _ I1 q1) fun w2 s2 ⟨y,H2,I2,ry,q2⟩ =>
  thn (hr pins s2 σ H2 _ I2 q2) fun ws s3 ⟨ps,H3,I3,rel,q3⟩ => ⟨(x,y) :: ps,H3,I3,.cons ⟨rx,ry⟩ rel,q3⟩)
def cW (kvs more : List (Key × V)) : List (Key × V):=more.foldl (fun acc kv => putK acc kv.1 kv.2) kvs
theorem KV.merge : ∀ {more : List (Key × V)} {rs : List (Key × Value)} {kvs : List (Key × V)} {vs : List (Key × Value)},KV more rs -> KV kvs vs -> KV (cW kvs more) (merged vs rs):=by
 intro more rs kvs vs r
 unfold KV at r
 induction r generalizing kvs vs with
 | nil => intro q; exact q
 | @cons p q ps qs h t ih =>
  intro r0
  have e : KV (putK kvs p.1 p.2) (stored vs q.1 q.2):=by
   have:=r0.put p.1 h.2
   rw [<- h.1]; exact this
  exact ih e
theorem jc : ∀ (more kvs : List (Key × V)),(cW kvs more).length <= kvs.length + more.length
 | [],kvs => by show kvs.length <= kvs.length + 0; omega
 | p :: r,kvs => by
  have h1:=jc r (putK kvs p.1 p.2)
  have h2:=gc kvs p.1 p.2
  show (cW (putK kvs p.1 p.2) r).length <= _
  rw [List.length_cons]; omega
theorem uK {P : Program} {w : World} : ∀ {kvs : List (Key × V)} {ws : List (Value × Value)},VV (kvs.map fun kv => (kV kv.1,kv.2)) ws -> ∃ rs,Carries (bb P w) ws rs /\ KV kvs rs
 | [],_,r => by rw [List.map_nil] at r; cases r; exact ⟨[],True.intro,.nil⟩
 | p :: kvs,_,r => by
  rw [List.map_cons] at r
  cases r with
  | @cons a b as bs h t =>
   obtain ⟨rs,c,q⟩:=uK (P:=P) (w:=w) t
   obtain ⟨b1,b2⟩:=b
   exact ⟨(p.1,b2) :: rs,⟨mQ h.1,rfl,c⟩,.cons ⟨rfl,h.2⟩ q⟩
def JY (trs : List (TE × TE)) : TE:=fun σ H Q => ∀ p,H p = none -> CP trs σ (upd H p (.dK [])) fun ps H2 => H2 p = some (.dK []) /\ ∃ kvs : List (Key × V),ps = kvs.map (fun kv => (kV kv.1,kv.2)) /\ kvs.length <= 15 /\ Q (.ref p) (upd H2 p (.dK (cW [] kvs)))
theorem Hx {X : Cx} {pos : Pos} {keys : List (Option Expr)} {values : List Expr} {trs : List (TE × TE)} (h : PPs X pos keys values trs) (hall : keys.all (·.isSome) = true) (hl : keys.length = values.length) (h0 : keys ≠ [])
  (h15 : keys.length <= 15) : PE X (.Dict keys values pos) (JY trs):=by
 intro pins s σ H Q I q
 have hn:=I.hok.fresh (Nat.le_refl s.heap.objs.size)
 have I1:=I.laid (a:=s.heap.objs.size) (o:=.dK []) (h' := s.heap.push { cls:=.type "dict",data:=.dict #[] }) (t' := s.toks) (fun _ _ q => Heap.get?_push_of_some _ q) (Nat.le_refl _) (zP s.heap I.big)
 refine wpAny_Dict_walk (knd:=bb X.prog X.w) hall hl h0 h15 (thn (h pins _ σ _ _ I1 (q _ hn)) fun ws s2 ⟨ps,H2,I2,rel,e,kvs,ep,lk,q2⟩ => ?_)
 subst ep
 obtain ⟨rs,c,rk⟩:=uK (P:=X.prog) (w:=X.w) rel
 obtain ⟨z,hd,vs0,r0,dd⟩:=Df I2.hok e
 cases r0
 refine ⟨rs,c,dd,fun h' dd' hs => ⟨.ref s.heap.objs.size,_,?_,rfl,q2⟩⟩
 have hz : (cW [] kvs).length <= sizeLine:=by
  have h1:=jc kvs []
  rw [List.length_nil] at h1
  rw [sizeLine_eq]; omega
 have he : ∃ q,h'.get? s.heap.objs.size = some q:=let ⟨q,_,_,hq,_⟩:=dd'; ⟨q,hq⟩
 exact pF I2 (by rw [e]; exact True.intro) hs he (uW hz hd (rk.merge .nil) dd')
structure M1 (X : Cx) (o : Expr) (m : Str) (apos : Pos) (e : Expr) (cpos : Pos) : Prop where
 base : attributeBase o m X.env (eval o X.env) = eval o X.env
 few : ((backTo cpos (starEach [e] X.env)).all (fun x => !x.1) && (backToKw cpos (keywordEach [] X.env)).all (fun x => x.1.isSome)
  && decide (([e] : List Expr).length + ([] : List Keyword).length + (if ([] : List Keyword).isEmpty then 0 else 1) < 30)) = true
 line : (apos.endLine == cpos.line) = true
 trees : backTo cpos (starEach [e] X.env) = [(false,eval e X.env)]
structure M2 (X : Cx) (o : Expr) (m : Str) (apos : Pos) (e f : Expr) (cpos : Pos) : Prop where
 base : attributeBase o m X.env (eval o X.env) = eval o X.env
 few : ((backTo cpos (starEach [e,f] X.env)).all (fun x => !x.1) && (backToKw cpos (keywordEach [] X.env)).all (fun x => x.1.isSome)
  && decide (([e,f] : List Expr).length + ([] : List Keyword).length + (if ([] : List Keyword).isEmpty then 0 else 1) < 30)) = true
 line : (apos.endLine == cpos.line) = true
 trees : backTo cpos (starEach [e,f] X.env) = [(false,eval e X.env),(false,eval f X.env)]
def IsD (H : Hp) (a : Addr) : Prop:=(∃ kvs,Rd H a (.dK kvs)) \/ ∃ kvs,Rd H a (.dT kvs)
theorem BE {X : Cx} {pins : List (Addr × Obj)} {σ : St} {H : Hp} {s : Shared} {a : Addr} (I : Inv X pins σ H s) (d : IsD H a) :
  s.TypeIs (.ref a) "dict" /\ (∀ b,Value.ref a = .ref b -> ∃ ob,s.heap.get? b = some ob /\ ob.dict = none) /\ (a == sysModules) = false:=by
 rcases d with ⟨kvs,e⟩ | ⟨kvs,e⟩
 ·obtain ⟨_,hd,vs,_,dd⟩:=sP I.hok e
  refine ⟨dd.typeIs,fun b q => ?_,hd⟩
  cases q
  obtain ⟨ob,_,_,h1,h2,_⟩:=dd
  exact ⟨ob,h1,h2.2.1⟩
 ·obtain ⟨_,hd,xs,_,dd⟩:=uY I.hok e
  refine ⟨dd.typeIs,fun b q => ?_,hd⟩
  cases q
  obtain ⟨ob,_,_,h1,h2,_⟩:=dd
  exact ⟨ob,h1,h2.2.1⟩
section
variable {X : Cx} {pins : List (Addr × Obj)} {σ : St} {H : Hp} {s : Shared} {a : Addr} {y d : V} {u r : Value} {o : Option V} {A : Around} {E : Value -> Shared -> Prop}
theorem Im {Q : Value -> Shared -> Prop} (hu : A.units + 1 < cLine) (I : Inv X pins σ H s) (g : DGet H a y o) (ry : RelV y u) (rd : RelV d r) (h : ∀ w' s',Inv X pins σ H s' -> RelV (o.getD d) w' -> Q w' s') :
  wpAny (model X.prog X.w) A (call (.builtin "dict.get") [.ref a,u,r]) Q E s:=by
 rcases g with ⟨kvs,k,e,ey,l⟩ | ⟨kvs,k,b,e,ey,eb,l⟩
 ·subst ey
  obtain ⟨z,hd,vs,rel,dd⟩:=sP I.hok e
  refine call_meetsIn PySem.F.slot_dict_get dd.typeIs PySem.F.entry_dict_get (PySem.F.args_dict_get_3 _ _ _) (meets_dict_get_default (bb X.prog X.w) a (mQ ry) hd r) ⟨_,dd.mapOf,h _ _ (I.tok _) ?_⟩
  rw [l]
  exact (rel.val k).getD rd
 ·subst ey
  cases (show u = Value.ref b from ry)
  obtain ⟨z,hd,xs,rel,dd⟩:=uY I.hok e
  refine call_meetsIn PySem.F.slot_dict_get dd.typeIs PySem.F.entry_dict_get (PySem.F.args_dict_get_3 _ _ _) (meetsH_dict_get_default (tupleKind (bb X.prog X.w)) a b hd r) ⟨tupleKind_room_in1 hu,k,xs,nY I.hok eb,dd,h _ _ (I.tok _) ?_⟩
  rw [l]
  exact (rel.val k).getD rd
end
def Jk (td ty tx : TE) : TE:=fun σ H Q => td σ H fun x H1 => ∃ a,x = .ref a /\ IsD H1 a /\ ty σ H1 fun y H2 => tx σ H2 fun z H3 => ∃ o,DGet H3 a y o /\ Q (o.getD z) H3
def Jm (td ty : TE) : TE:=fun σ H Q => td σ H fun x H1 => ∃ a,x = .ref a /\ IsD H1 a /\ ty σ H1 fun y H2 => ∃ kvs k v,H2 a = some (.dK kvs) /\ y = kV k /\ ff kvs k = some v /\ Q v (upd H2 a (.dK (uX kvs k)))
section
variable {X : Cx} {o e f : Expr} {apos cpos : Pos} {td ty tx : TE}
theorem F8 (hu : X.A.units + 1 < cLine) (ho : PE X o td) (he : PE X e ty) (hf : PE X f tx) (m : M2 X o "get" apos e f cpos) : PE X (.Call (.Attribute o "get" apos) [e,f] [] cpos) (Jk td ty tx):=by
 intro pins s σ H Q I h
 refine wpAny_Call_method m.base m.few m.line PySem.F.plainAttrs_dict PySem.F.slot_dict_get PySem.F.type_dict_get (thn (ho pins s σ H _ I h) fun u s1 ⟨x,H1,I1,rx,a,ex,d,q1⟩ => ?_)
 subst ex
 obtain rfl : u = Value.ref a:=rx
 obtain ⟨t1,t2,_⟩:=BE I1 d
 refine ⟨t1,t2,?_⟩
 rw [m.trees]
 refine Calls.callWith_builtin rfl (Calls.evalArgs_plain (Calls.spliced_cons (thn (he pins s1 σ H1 _ I1 q1) fun iv s2 ⟨y,H2,I2,ry,q2⟩ =>
  Calls.spliced_cons (thn (hf pins s2 σ H2 _ I2 q2) fun fv s3 ⟨z,H3,I3,rz,ov,g,q3⟩ => Calls.spliced_nil ?_))))
 exact Im hu I3 g ry rz fun w' s4 I4 rw' => ⟨_,H3,I4,rw',q3⟩
theorem Av (ho : PE X o td) (he : PE X e ty) (m : M1 X o "pop" apos e cpos) : PE X (.Call (.Attribute o "pop" apos) [e] [] cpos) (Jm td ty):=by
 intro pins s σ H Q I h
 refine wpAny_Call_method m.base m.few m.line PySem.F.plainAttrs_dict PySem.F.slot_dict_pop PySem.F.type_dict_pop (thn (ho pins s σ H _ I h) fun u s1 ⟨x,H1,I1,rx,a,ex,d,q1⟩ => ?_)
 subst ex
 obtain rfl : u = Value.ref a:=rx
 obtain ⟨t1,t2,_⟩:=BE I1 d
 refine ⟨t1,t2,?_⟩
 rw [m.trees]
 refine Calls.callWith_builtin rfl (Calls.evalArgs_plain (Calls.spliced_cons (thn (he pins s1 σ H1 _ I1 q1) fun iv s2 ⟨y,H2,I2,ry,kvs,k,v,ea,ey,l,q2⟩ => Calls.spliced_nil ?_)))
 subst ey
 exact JB I2 ea ry l (.inl rfl) fun w' s3 I3 rw' => ⟨v,_,I3,rw',q2⟩
end
section
variable {X : Cx} {pins : List (Addr × Obj)} {σ : St} {H : Hp} {s : Shared} {a : Addr} {kvs : List (Key × V)} {A : Around} {E : Value -> Shared -> Prop}
end
section
variable {X : Cx} {pins : List (Addr × Obj)} {σ : St} {H : Hp} {s : Shared} {a : Addr} {y : V} {u : Value} {A : Around} {E : Value -> Shared -> Prop}
end
end L2
namespace L2
open PySem PySem.Spec PyProof.Rows
section
variable {κ : Type} [DecidableEq κ]
theorem pW : ∀ {l : List κ} {k : κ},l.Nodup -> ¬ k ∈ l -> (l ++ [k]).Nodup
 | [],k,_,_ => by simp
 | a :: r,k,h,hk => by
  obtain ⟨h1,h2⟩:=List.nodup_cons.mp h
  show (a :: (r ++ [k])).Nodup
  refine List.nodup_cons.mpr ⟨fun m => ?_,pW h2 fun m => hk (List.mem_cons.mpr (Or.inr m))⟩
  rcases List.mem_append.mp m with q | q
  ·exact h1 q
  ·exact hk (List.mem_cons.mpr (Or.inl (List.mem_singleton.mp q).symm))
end
end L2
set_option Elab.async false
set_option linter.all false
set_option maxRecDepth 100000
namespace PySem
open Sem (wp)
open Builtin
end PySem
namespace L2
open PySem PySem.Spec PyProof.Rows
section
variable {X : Cx}
end
inductive Pl (H : Hp) : V -> Prop where
 | non : Pl H .non
 | bl (b : Bool) : Pl H (.bl b)
 | int (i : Int) : Pl H (.int i)
 | str (x : Str) : Pl H (.str x)
 | lst {a : Addr} {xs : List V} (e : H a = some (.lst xs)) : Pl H (.ref a)
 | tup {a : Addr} {xs : List V} (e : H a = some (.tup xs)) : Pl H (.ref a)
 | dK {a : Addr} {kvs : List (Key × V)} (e : H a = some (.dK kvs)) : Pl H (.ref a)
structure PEW (X : Cx) (e : Expr) (t : TE) : Prop where
 out : PE X e t
structure PAW (X : Cx) (es : List Expr) (t : TA) : Prop where
 out : PA X es t
structure PTW (X : Cx) (e : Expr) (t : TT) : Prop where
 out : PT X e t
structure PSW (X : Cx) (s : Stmt) (t : TS) : Prop where
 out : PS X s t
structure PSsW (X : Cx) (s : List Stmt) (t : TS) : Prop where
 out : PSs X s t
section
variable {X : Cx} {a b e : Expr} {es : List Expr} {ta tb te : TE} {t : TA} {pos : Pos}
theorem CW : PAW X [] HS:=⟨ae⟩
theorem mv (ha : PEW X e te) (hr : PAW X es t) (hs : starEach (e :: es) X.env = (false,eval e X.env) :: starEach es X.env:=by rfl) : PAW X (e :: es) (Ie te t):=⟨aa ha.out hr.out hs⟩
theorem Ih {x1} (h : PAW X es t) : PEW X (.Tuple es x1 pos) (J5 t):=⟨iM h.out⟩
theorem KD {x : Str} {j k : Nat} {ps : List Str} {dvs : List V} {sp : Sp} {p : Pos} (G : DefOk X.prog X.w X.K X.mg X.base x k ps dvs sp) (hr : Room j X.A) (ha : PAW X (e :: es) t) (hx : ∀ e s,X.xe e s = False:=by intro _ _; rfl) (hkj : k <= j:=by decide) (hg : Gl X x:=by rfl) (hdb : (x == ("__debug__" : Str)) = false:=by decide)
  (he : starEach (e :: es) X.env = (false,eval e X.env) :: starEach es X.env:=by rfl) (hpl : (backTo pos (starEach es X.env)).any (·.1) = false:=by rfl) :
  PEW X (.Call (.Name x p) (e :: es) [] pos) (AW sp dvs E0 t):=⟨aV G hr ha.out hx hkj hg hdb he hpl⟩
variable {st : Stmt} {rest : List Stmt} {ts us : TS}
theorem aZ (h1 : PSW X st ts) (h2 : PSsW X rest us) : PSsW X (st :: rest) (EU ts us):=⟨ag h1.out h2.out⟩
theorem sG (h1 : PSW X st ts) : PSsW X [st] ts:=⟨ao h1.out⟩
theorem J8 (he : PEW X e te) : PSW X (.Return (some e) pos) (J2 te):=⟨aI he.out⟩
theorem Ka {i : Nat} {x : Str} {pos' : Pos} (hN : X.N.Nodup) (hi : X.N[i]? = some x) (hx : Loc X.env.scope x) (he : PEW X e te) (hs : swapsWith e (some (.Name x pos')) pos.line X.env = pure false:=by rfl) (hf : X.fn x = true \/ X.env.scope.names.lookup x = some .local:=by first | exact .inl rfl | exact .inr rfl | assumption) :
  PSW X (.Assign [.Name x pos'] e pos) (ue te (bB i)):=⟨au hN hi hx he.out hs hf⟩
theorem HX {c : Expr} {body : List Stmt} {tc : TT} {tb : TS} (hp : PassesOwn (model X.prog X.w) X.A X.env X.xe) (hc : PTW X c tc) (hb : PSsW X body tb) : PSW X (.While c body [] pos) (lU tc tb):=⟨jB hp hc.out hb.out⟩
theorem J7 {tg iter : Expr} {body : List Stmt} {wi : TI} {g : TG} {tb : TS} (hp : PassesOwn (model X.prog X.w) X.A X.env X.xe) (hc : X.calm = true) (hi : PI X tg iter wi) (hg : PG X tg g) (hb : PSsW X body tb)
  (hs : ∀ x,foldedSetIterable iter X.env x = pure x:=by intro _; rfl) : PSW X (.For tg iter body [] pos) (oX wi g tb):=⟨bu hp hc hi hg hb.out hs⟩
theorem yw {b : List Stmt} {R : TS -> Prop} (h : PSsW X b ts) (r : R ts) : ∃ t,PSs X b t /\ R t:=⟨ts,h.out,r⟩
end
end L2
set_option Elab.async false
set_option linter.all false
set_option maxRecDepth 100000
namespace L2
open PySem PySem.Spec PyProof.Rows
def CX1 (P : Program) (w : World) : CXT:=fun outer H s E e s' => ∃ (ea t C : Addr) (B : Heap) (H' : Hp),e = .ref ea /\ s'.os = s.os /\ AllBare s'.gens /\ Un (frs outer) [] H H' s.heap s'.heap /\ HOk P w H' B /\
 Heap.FlyingW B outer ea (.ref C) (.ref t) s'.heap /\ (∀ b o,s.heap.get? b = some o -> b ∉ frs outer -> ∃ o',B.get? b = some o') /\ H' ea = none /\ E (.ref C) none H'
theorem ObjOk.ex {P : Program} {w : World} {H : Hp} {h : Heap} {a : Addr} : ∀ {o : HO},ObjOk P w H h a o -> ∃ ob,h.get? a = some ob
 | .lst _,⟨_,_,_,_,e⟩ => ⟨_,e⟩
 | .tup _,⟨_,_,_,o,e,_⟩ => ⟨o,e⟩
 | .dK _,⟨_,_,_,_,o,_,_,e,_⟩ => ⟨o,e⟩
 | .dT _,⟨_,_,_,_,o,_,_,e,_⟩ => ⟨o,e⟩
 | .set _ _,⟨o,_,_,_,e,_⟩ => ⟨o,e⟩
 | .ins _ _ _,⟨_,_,_,e,_⟩ => ⟨_,e⟩
 | .own _,⟨o,e⟩ => ⟨o,e⟩
 | .xd _,⟨_,⟨o,_,_,e,_⟩,_⟩ => ⟨o,e⟩
 | .rng _ _,⟨_,_,_,e⟩ => ⟨_,e⟩
 | .frz _ _,⟨e,_⟩ => ⟨_,e⟩
 | .tbl _,e => ⟨_,e⟩
 | .met _ _,e => ⟨_,e⟩
 | .ext _,⟨_,⟨o,e⟩,_⟩ => ⟨o,e⟩
theorem HOk.none {P : Program} {w : World} {H : Hp} {h : Heap} {a : Addr} (x : HOk P w H h) (e : h.get? a = none) : H a = none:=by
 cases q : H a with
 | none => rfl
 | some o =>
  obtain ⟨ob,e'⟩:=(x a o q).ex
  rw [e] at e'
  cases e'
theorem HOk.less {P : Program} {w : World} {H : Hp} {h B : Heap} (x : HOk P w H h) (k : ∀ b u,(∃ o,H b = some o) -> h.get? b = some u -> B.get? b = some u) : HOk P w H B:=fun a o e =>
 (x a o e).stay (fun b u hb q => k b u (by
  rcases hb with z | z
  ·rw [z]; exact ⟨o,e⟩
  ·exact ⟨_,z⟩) q) (fun _ z => z) fun _ _ z => z
theorem Un.fly {fs : List Addr} {H H1 : Hp} {h h1 h2 B : Heap} (u : Un fs [] H H1 h h1) (stays : B.StaysIn h2) (inB : ∀ b o o1,h.get? b = some o -> h1.get? b = some o1 -> b ∉ fs -> B.get? b = some o1)
  (frame : ∀ b o,b ∈ fs -> h1.get? b = some o -> ∃ sl,h2.get? b = some { o with slots:=sl }) : Un fs [] H H1 h h2 where
 keep:=fun b o q n hb hx => stays b o (inB b o o q (u.keep b o q n hb hx) hb)
 slot:=fun b o q n hb hx => by
  obtain ⟨sl,e⟩:=u.slot b o q n hb hx
  obtain ⟨sl',e'⟩:=frame b _ hb e
  exact ⟨sl',e'⟩
 free:=u.free
 there:=fun b o q hx => by
  obtain ⟨o',e⟩:=u.there b o q hx
  by_cases hb : b ∈ fs
  ·obtain ⟨sl,e'⟩:=frame b _ hb e
   exact ⟨_,e'⟩
  ·exact ⟨o',stays b o' (inB b o o' q e hb)⟩
 tups:=u.tups
 frzs:=u.frzs
 tbls:=u.tbls
section
variable {P : Program} {w : World} {K : PySem.W.Frag} {mg : Str -> Option Value} {base : Heap} {N : List Str} {qual : Str} {scope : Scope} {f : Addr} {cd : Value} {A : Around} {outer : List Env} {s : Shared} {H : Hp} {E : XK}
def Thr (X : Cx) (E : XK) : Prop := ∀ (pins : List (Addr × Obj)) (σ : St) (H : Hp) (s : Shared) (h' : Heap) (ea C : Addr) (vs : List Value),Inv X pins σ H s -> Heap.MadeExcOf s.heap h' ea (.ref C) vs -> E (.ref C) none H -> X.xe (.ref ea) { s with heap:=h' }
theorem vE (b : Addr) : b ∈ frs (envOfC qual scope s.heap.objs.size f cd :: outer) ↔ b = s.heap.objs.size \/ b ∈ frs outer:=by
 unfold frs
 rw [List.filterMap_cons]
 show b ∈ (s.heap.objs.size :: _) ↔ _
 rw [List.mem_cons]
theorem HW : Thr (yB (CX1 P w) P w K mg base N qual scope f cd A outer s H E) E:=by
 intro pins σ H1 s1 h' ea C vs I hx hE
 show wpAny (model P w) (A.deeper (envOfC qual scope s.heap.objs.size f cd)) (leaving (envOfC qual scope s.heap.objs.size f cd) (.ref ea)) _ _ _
 have hin : ∀ env ∈ (envOfC qual scope s.heap.objs.size f cd :: outer),∀ b,env.frame = some b -> b ∈ frs (envOfC qual scope s.heap.objs.size f cd :: outer):=fun env he b hb => List.mem_filterMap.mpr ⟨env,he,hb⟩
 have fst:=I.stack
 have mem : ∀ {b},b ∈ frs (envOfC qual scope s.heap.objs.size f cd :: outer) -> ∃ o,s1.heap.get? b = some o /\ ∀ vs,o.data ≠ .fields vs:=fun {b} hb => (fst.mem hb).2
 refine wpAny_leaves_madeW (base:=PySem.W.hideAll s1.heap (frs (envOfC qual scope s.heap.objs.size f cd :: outer))) I.ok.frames rfl (fun b o q => PySem.W.of_hideAll _ q) (PySem.W.funFrames_hide fst hin) hx fun h'' t x1 x2 x3 x4 => ?_
 refine ⟨ea,t,C,_,H1,rfl,I.os,I.bare,?_,?_,x1,fun b o q hb => ?_,I.hok.none hx.new,hE⟩
 ·refine Un.fly (h1:=s1.heap) I.base x1.1 (fun b o o1 q q1 hb => PySem.W.hideAll_get _ q1 fun z => ?_) fun b o hb q => ?_
  ·rcases (vE b).mp z with e | e
   ·exact Nat.lt_irrefl _ (e ▸ Heap.lt_size q)
   ·exact hb e
  ·obtain ⟨o',e',hd⟩:=mem ((vE (qual:=qual) (scope:=scope) (s:=s) (f:=f) (cd:=cd) b).mpr (.inr hb))
   rw [q] at e'
   cases e'
   exact x4 b o (hx.keeps b o q) hd
 ·exact I.hok.less fun b u ⟨o,e⟩ q => PySem.W.hideAll_get _ q fun z => by
   have:=I.stkFree b z
   rw [e] at this
   cases this
 ·obtain ⟨o',e'⟩:=I.base.there b o q (by intro z; cases z)
  exact ⟨o',PySem.W.hideAll_get _ e' fun z => by
   rcases (vE b).mp z with e | e
   ·exact Nat.lt_irrefl _ (e ▸ Heap.lt_size q)
   ·exact hb e⟩
end
end L2
set_option Elab.async false
set_option linter.all false
set_option maxRecDepth 100000
namespace L2
open PySem PySem.Spec PyProof.Rows
abbrev VEm : List Value:=[.type "ValueError",.type "Exception",.type "BaseException",.type "object"]
theorem Io {K : PySem.W.Frag} {h : Heap} {C : Addr} {bmB : List Value} {newId : String} (X : K.In h) (q : PySem.W.excIn K C bmB newId = true) :
  ∃ tl N nm qn bs hd sn sub ab col dd k0 k1 k2 k3 k5 mN,h.get? C = some (excClassObj nm qn C N bs tl hd sn sub ab col dd k0 k1 k2 k3 k5 newId) /\ h.Ns N mN /\ mN "__init__" = none /\ OwnTail h bmB tl:=by
 unfold PySem.W.excIn at q
 cases e : K.lookup C with
 | none => rw [e] at q; cases q
 | some ob =>
  rw [e] at q
  obtain ⟨oc,od,dt,sl⟩:=ob
  split at q
  ·rename_i dd cd sl' he
   cases he
   split at q
   ·rename_i C' tl k0 k1 k2 k3 n k5 m1 m2
    simp only [Bool.and_eq_true,beq_iff_eq,Bool.not_eq_true'] at q
    obtain ⟨⟨⟨⟨⟨rfl,rfl⟩,d1⟩,t1⟩,o1⟩,i1⟩:=q
    obtain ⟨nm,bs,mro,ns,qn,hd,sn,sub,ab,col,del⟩:=cd
    dsimp only at m1 d1 o1 i1
    subst m1 d1
    have es : sl = #[k0,k1,k2,k3,some (.builtin n),k5]:=by
     cases sl with
     | mk l => exact congrArg Array.mk m2
    subst es
    exact ⟨tl,ns,nm,qn,bs,hd,sn,sub,ab,col,_,k0,k1,k2,k3,k5,_,X _ _ e,.of_isNs (PySem.W.isNs_of_in X o1),PySem.W.nsMap_none_of_in X o1 i1,PySem.W.tail_of_in X t1⟩
   ·cases q
  ·cases q
section
variable {X : Cx} {x : Str} {j k : Nat} {ps : List Str} {dvs : List V} {sp : Sp} {p pos cpos : Pos} {e : Expr} {es : List Expr} {t : TA} {C : Addr} {E : XK}
def Jo (C : Addr) (E : XK) (t : TA) : TS:=fun _ σ H => t σ H fun vs H1 => vs.length <= 8 /\ E (.ref C) none H1
theorem Gn (hq : PySem.W.excIn X.K C VEm "ValueError.__new__" = true) (hc : X.calm = true) (hm : X.mg x = some (.ref C)) (ht : Thr X E) (ha : PA X (e :: es) t) (hg : Gl X x:=by rfl) (hdb : (x == ("__debug__" : Str)) = false:=by decide)
  (he : starEach (e :: es) X.env = (false,eval e X.env) :: starEach es X.env:=by rfl) (hpl : (backTo cpos (starEach es X.env)).any (·.1) = false:=by rfl) :
  PS X (.Raise (some (.Call (.Name x p) (e :: es) [] cpos)) none pos) (Jo C E t):=by
 intro pins s σ H D I h
 obtain ⟨tl,N,nm,qn,bs,hd,sn,sub,ab,col,dd,k0,k1,k2,k3,k5,mN,hC,hN,hni,T⟩:=Io I.ok.mod.kin hq
 refine wpAny_Raise_call_subU (C:=C) (nm:=nm) (q:=qn) (N:=N) (bs:=bs) (bm:=tl) (hdct:=hd) (sn:=sn) (sub:=sub) (ab:=ab) (col:=col) (dd:=dd) (k0:=k0) (k1:=k1) (k2:=k2) (k3:=k3) (k5:=k5)
  PySem.F.excBase_ValueError (bmB:=VEm) (by decide) PySem.F.excBase_ValueError (mN:=mN) (T.hasType (by decide)) (I.ok.hd hc) (by rw [he]; show (false || (backTo cpos (starEach es X.env)).any (·.1)) = false; rw [hpl]; rfl) hni (kJ I hg hm ⟨rfl,?_⟩ hdb)
 have hw:=ha cpos pins s σ H _ I h
 rw [he] at hw ⊢
 refine Calls.evalArgs_plain (thn hw fun us s1 ⟨vs,H1,I1,r,l8,q⟩ => ⟨rfl,?_,I1.bk _ _ hC,hN.keeps I1.bk,T.keeps I1.bk,fun h' ea hx => ht pins σ H1 s1 h' ea C us I1 hx q⟩)
 show us.length <= sizeLine
 rw [<- r.length]
 exact Nat.le_trans l8 (by decide)
theorem JL (G : DefOk X.prog X.w X.K X.mg X.base x k ps dvs sp) (hr : Room j X.A) (ha : PA X (e :: es) t) (hkj : k <= j:=by decide) (hg : Gl X x:=by rfl) (hdb : (x == ("__debug__" : Str)) = false:=by decide)
  (he : starEach (e :: es) X.env = (false,eval e X.env) :: starEach es X.env:=by rfl) (hpl : (backTo pos (starEach es X.env)).any (·.1) = false:=by rfl) :
  PE X (.Call (.Name x p) (e :: es) [] pos) (AW sp dvs E0 t):=by
 obtain ⟨f,fd,ds,hm,hk,hd,hb,F⟩:=G.ex
 exact Dt F (hr.mono hkj) hg hm hk hb hd (fun _ _ _ _ _ _ _ h => h.elim) ha hdb he hpl
end
structure DefX (P : Program) (w : World) (K : PySem.W.Frag) (mg : Str -> Option Value) (base : Heap) (x : Str) (k : Nat) (ps : List Str) (dvs : List V) (sp : Sp) : Prop where
 ex : ∃ (f : Addr) (fd : FuncData) (ds : List Value),mg x = some (.ref f) /\ PySem.W.keepIn K (.ref f) = true /\ Vals dvs ds /\ Binds K fd ps ds /\ FnOk P w K mg base (CX1 P w) k f fd ps sp
section
variable {X : Cx} {x : Str} {j k : Nat} {ps : List Str} {dvs : List V} {sp : Sp} {p pos : Pos} {e : Expr} {es : List Expr} {t : TA} {E : XK}
def J3 (t : TS) : TS:=fun _ σ H => t { nx:=fun _ _ => False,rt:=fun _ _ => False } σ H
theorem Gp {st : Stmt} {rest : List Stmt} {t : TS} (h : PS X st t) : PSs X (st :: rest) (J3 t):=by
 intro pins s σ H D I q
 refine wpAny_execs_cons (thn (h pins s σ H _ I q) fun f s' hs => ?_)
 cases f with
 | next => obtain ⟨_,_,_,z⟩:=hs; exact z.elim
 | brk => obtain ⟨_,_,_,z⟩:=hs; exact z.elim
 | cont => obtain ⟨_,_,_,z⟩:=hs; exact z.elim
 | ret u => obtain ⟨_,_,_,_,_,z⟩:=hs; exact z.elim
end
section
variable {P : Program} {w : World} {K : PySem.W.Frag} {mg : Str -> Option Value} {base : Heap}
theorem FunD.okX {x qual : Str} {st : Stmt} {dV : Value} {f : Addr} {fd : FuncData} {N ps : List Str} {k : Nat} {sp : Sp} (F : FunD K x qual st dV f fd) (S : FnScope N ps (ah st)) (len : ∀ vs H Q E,sp vs H Q E -> vs.length = ps.length)
  (hbody : ∀ (cdv : Value) (A : Around) (outer : List Env) (s : Shared) (H : Hp) (vs : List V) (Q : VK) (E : XK),Room k (A.deeper (envOfC qual (ah st) s.heap.objs.size f cdv)) -> sp vs H Q E ->
   ∃ t,PSs (yB (CX1 P w) P w K mg base N qual (ah st) f cdv A outer s H E) (aE st) t /\ t { nx:=fun _ H' => Q .non H',rt:=Q } (start N vs) H) : FnOk P w K mg base (CX1 P w) (k + 1) f fd ps sp:=by
 obtain ⟨oc,od,kV,doc,pm,an,cdv,ct,osl,rfl,lk,hcd⟩:=F.ex
 exact HY lk hcd S len fun A outer s H vs Q E hr hsp => hbody cdv A outer s H vs Q E hr hsp
end
section
variable {X : Cx} {e v1 v2 : Expr} {es rest : List Expr} {pos : Pos} {te : TE} {n : Nat}
end
end L2
set_option Elab.async false
set_option linter.all false
set_option maxRecDepth 100000
namespace L2
open PySem PySem.Spec PySem.W PySem.Builtin PySem.Builtin.Getset_descriptor
structure XCls (K : PySem.W.Frag) (C : Addr) : Prop where
 ga : findIn K (.ref C) "__getattribute__" = some (some (.builtin "BaseException.__getattribute__"))
 gt : findIn K (.ref C) "__getattr__" = some none
 cl : findIn K (.ref C) "__class__" = some (some (.builtin "object.__class__"))
 gg : specialIn K (.builtin "object.__class__") "__get__" = some (some (.builtin "getset_descriptor.__get__"))
 tk : takesIn K (.builtin "object.__class__") = some true
 ob : mroIn K C (.type "object") = some true
 be : mroIn K C (.type "BaseException") = some true
 ci : (clsIn K C).isSome = true
section
variable {prog : Program} {w : World} {A : Around} {E : Value -> Shared -> Prop} {s : Shared} {K : PySem.W.Frag} {ea C : Addr} {ob : Obj}
theorem Fh {M : Model} {h : Heap} (c : XCls K C) (X : K.In h) : Looks M h (Builtin.ObjectAttr.find (.ref ea) (.ref C) "__class__") (.bind (.builtin "getset_descriptor.__get__") (.builtin "object.__class__")):=by
 have l1:=looks_findIn (M:=M) X c.cl
 have l2 : Looks M h (Builtin.ObjectAttr.getOf (some (.builtin "object.__class__"))) (some (.builtin "getset_descriptor.__get__")):=looks_specialIn (M:=M) X c.gg
 have l3:=looks_takesIn (M:=M) X c.tk
 have l4 : Looks M h (Builtin.ObjectAttr.dataDescriptor? (some (.builtin "object.__class__")) (some (.builtin "getset_descriptor.__get__"))) (some (.builtin "getset_descriptor.__get__",.builtin "object.__class__")):=l3.andThen .now
 unfold Builtin.ObjectAttr.find
 exact l1.andThen (l2.andThen (l4.andThen (Looks.tag .now)))
theorem G6 {tp : Value} {R : Result -> Shared -> Prop} (X : K.In s.heap) (LT : Looks (model prog w) s.heap (typeOf (.ref ea)) (.ref C)) (hm : mroIn K C (.type "object") = some true) (q : R (.ok (.ret (.ref C))) s) :
  codeAny (model prog w) A (.call (.builtin "getset_descriptor.__get__") ⟨[.builtin "object.__class__",.ref ea,tp],[]⟩) R s:=by
 have LM:=looks_mroIn (M:=model prog w) X hm
 obtain ⟨hp,gs,dr,tk,os⟩:=s
 dsimp only at LT LM
 refine codeAny_call_builtin KF.slot_gs.plain KF.entry_gs (KF.slot_gs.check _ _ _ _ _ _ _ _ KF.type_class (KF.args_gs _ _ _) ?_)
 unfold Builtin.«getset_descriptor.__get__» descrGet; rw [dga_obj]
 refine wpAny_bind (wpAny_pure ?_); unfold descrGetter descrCheckInstance descrNameAndClass isInstance
 simp only [KF.owner_class]; repeat lk
 refine ⟨Code.quiet_builtin _ (by decide +kernel),codeAny_builtin KF.entry_class ?_⟩; unfold Builtin.«object.__class__» shownTypeOf
 repeat lk
 exact q
theorem DT {M : Model} {hh : Heap} {g : Array GenState} {d : Drawn} {t : Nat} {os : OsState} {nameV : Value} {Q : Unit -> Shared -> Prop} (LB : Looks M hh (isInstance (.ref ea) (.type "BaseException")) true) (hq : Q () ⟨hh,g,d,t,os⟩) :
  wpAny M A (checkBuiltinCall "BaseException.__getattribute__" ⟨[.ref ea,nameV],[]⟩) Q E ⟨hh,g,d,t,os⟩:=by
 have hk : builtinKind "BaseException.__getattribute__" = some .slot:=by decide +kernel
 have hsplit : splitId "BaseException.__getattribute__" = some ("BaseException","__getattribute__"):=by decide +kernel
 have ha:=PySem.F.args_bexc_ga (.ref ea) nameV
 simp only [checkBuiltinCall,hk,hsplit]
 refine wpAny_bind (LB.at ?_)
 simp only [Bool.not_true,Bool.false_eq_true,if_false]
 repeat (any_goals (first | assumption | wp_step))
theorem DU {Q : Option Value -> Shared -> Prop} (c : XCls K C) (X : K.In s.heap) (LT : ∀ M : Model,Looks M s.heap (typeOf (.ref ea)) (.ref C)) (h : Q (some (.ref C)) { s with toks:=s.toks + 1 }) :
  wpAny (model prog w) A (getAttr? (.ref ea) "__class__") Q E s:=by
 obtain ⟨hh,g,d,t,os⟩:=s
 have L0:=LT (model prog w)
 have L1:=looks_findIn (M:=model prog w) X c.ga
 have L2:=looks_findIn (M:=model prog w) X c.gt
 have LF:=Fh (M:=model prog w) (ea:=ea) c X
 have LB : Looks (model prog w) hh (isInstance (.ref ea) (.type "BaseException")) true:=L0.andThen (looks_mroIn (M:=model prog w) X c.be)
 unfold getAttr? getAttrBy? getAttrBy
 refine wpAny_bind (wpAny_mkText (wpAny_bind (wpAny_attempt (wpAny_holding (wpAny_bind (L0.at (wpAny_bind (L1.at ?_))))))))
 have ne : (onTheHeap (Value.ref C) && Value.builtin "BaseException.__getattribute__" == Value.builtin "object.__getattribute__") = false:=by
  have : (Value.builtin "BaseException.__getattribute__" == Value.builtin "object.__getattribute__") = false:=by decide +kernel
  rw [this]; rfl
 dsimp only
 rw [ne]
 simp only [Bool.false_eq_true,if_false]
 unfold getAttrByItsOwn hookBefore
 rw [if_pos (show onTheHeap (Value.ref C) = true from rfl)]
 refine wpAny_bind (L2.at ?_)
 refine wpAny_bind (wpAny_attempt (wpAny_holding ?_))
 unfold callGetattribute
 simp only [Bool.false_and,Bool.false_eq_true,if_false]
 unfold boundAndCalled
 rw [PySem.F.attrBase_ValueError.ga.bind (.ref ea)]
 refine wpAny_bind (wpAny_pure ?_)
 have hk : builtinKind "BaseException.__getattribute__" = some .slot:=by decide +kernel
 have hsplit : splitId "BaseException.__getattribute__" = some ("BaseException","__getattribute__"):=by decide +kernel
 have ha:=PySem.F.args_bexc_ga (.ref ea) (.str "__class__" t)
 refine wpAny_call (codeAny_call_builtin PySem.F.attrBase_ValueError.ga.plain PySem.F.entry_bexc_ga ?_)
 refine DT LB ?_
 unfold Builtin.«object.__getattribute__»
 refine wpAny_bind (wpAny_pure ?_)
 dsimp only
 refine wpAny_bind ?_
 refine (show wpAny _ _ (pure _) _ _ _ from wpAny_pure ?_)
 refine wpAny_bind (L0.at ?_)
 refine wpAny_bind (LF.at ?_)
 dsimp only
 show wpAny _ _ (holding [Value.builtin "object.__class__"] (call (.builtin "getset_descriptor.__get__") [.builtin "object.__class__",.ref ea,.ref C]) >>= ret) _ _ _
 refine wpAny_bind (wpAny_holding (wpAny_call (G6 (s:=⟨hh,g,d,t + 1,os⟩) X L0 c.ob ?_)))
 refine wpAny_pure ?_
 exact handed_on rfl (wpAny_pure h)
def ExAt (ea C : Addr) (h : Heap) : Prop := ∃ ob vs,h.get? ea = some ob /\ ob.cls = .ref C /\ ob.data = .fields vs
theorem ExAt.ty {M : Model} {h : Heap} (p : ExAt ea C h) : Looks M h (typeOf (.ref ea)) (.ref C):=by
 obtain ⟨ob,vs,e,c,_⟩:=p
 exact c ▸ (Looks.ld e).andThen .now
theorem Fv (c : XCls K C) : KitX K (.ref ea) (.ref C) (ExAt ea C) where
 ty:=fun M h _ p => p.ty
 it:=fun M h X _ => by
  obtain ⟨cd,e⟩:=Option.isSome_iff_exists.mp c.ci
  unfold clsIn at e
  split at e
  ·rename_i ho
   intro A' Q' E' s' k q
   unfold isType loadHead; exact wpAny_bind (wpAny_loadPart (k _ _ (X _ _ ho)) (wpAny_pure q))
  ·cases e
 ne:=fun h tp dd its n sl X htp => by
  obtain ⟨cd,e⟩:=Option.isSome_iff_exists.mp c.ci
  refine Bool.eq_false_iff.mpr fun q => ?_
  cases (show C = tp from Value.ref.inj (beq_iff_eq.mp q))
  unfold clsIn at e
  split at e
  ·rename_i ho; cases (X _ _ ho).symm.trans htp
  ·cases e
 ca:=fun X p k => DU c X (fun M => p.ty) k
end
end L2
set_option Elab.async false
set_option linter.all false
set_option maxRecDepth 100000
namespace L2
open PySem PySem.Spec PyProof.Rows
abbrev Cx.held (X : Cx) (ea : Addr) : Cx:={ X with A:=X.A.mark (some (.ref ea)),calm:=false,xe:=fun _ _ => False }
section
variable {X : Cx} {pins : List (Addr × Obj)} {σ : St} {H : Hp} {s : Shared} {E : XK} {ea : Addr}
theorem mark_frames {A : Around} {v : Option Value} : (A.mark v).frames = A.frames:=by first | rfl | simp [Around.mark]
theorem Cx.Ok.held (ok : X.Ok) : (X.held ea).Ok:=
 ⟨ok.mod,ok.kind,ok.glob,ok.blt,ok.above,ok.inj,ok.has,ok.cab,(fun z => by cases z),mark_frames.trans ok.frames,ok.stk,ok.exf,ok.bs,ok.bsz,ok.noex,ok.exfs,ok.funs,ok.frf⟩
theorem Inv.held (I : Inv X pins σ H s) : Inv (X.held ea) pins σ H s:=⟨I.ok.held,I.os,I.bare,I.base,I.loc,I.cell,I.free,I.freeC,I.pin,I.hok,I.len⟩
theorem Inv.unheld (ok : X.Ok) (I : Inv (X.held ea) pins σ H s) : Inv X pins σ H s:=⟨ok,I.os,I.bare,I.base,I.loc,I.cell,I.free,I.freeC,I.pin,I.hok,I.len⟩
def CXI (X : Cx) (pins : List (Addr × Obj)) (σ : St) (E : XK) (e : Value) (s' : Shared) : Prop := ∃ s H,Inv X pins σ H s /\ CX1 X.prog X.w X.stack H s E e s'
abbrev TXE:=St -> Hp -> VK -> XK -> Prop
abbrev TX:=Ends -> XK -> St -> Hp -> Prop
def PXE (X : Cx) (e : Expr) (t : TXE) : Prop := ∀ (pins : List (Addr × Obj)) (s : Shared) (σ : St) (H : Hp) (Q : VK) (E : XK),Inv X pins σ H s -> t σ H Q E -> wpAny (model X.prog X.w) X.A (eval e X.env) (EP X pins σ Q) (CXI X pins σ E) s
def PX1 (X : Cx) (st : Stmt) (t : TX) : Prop := ∀ (pins : List (Addr × Obj)) (s : Shared) (σ : St) (H : Hp) (D : Ends) (E : XK),Inv X pins σ H s -> t D E σ H -> wpAny (model X.prog X.w) X.A (exec st X.env) (SP X pins D) (CXI X pins σ E) s
def PX (X : Cx) (st : List Stmt) (t : TX) : Prop := ∀ (pins : List (Addr × Obj)) (s : Shared) (σ : St) (H : Hp) (D : Ends) (E : XK),Inv X pins σ H s -> t D E σ H -> wpAny (model X.prog X.w) X.A (execs st X.env) (SP X pins D) (CXI X pins σ E) s
end
section
variable {X : Cx} {x : Str} {j k : Nat} {ps : List Str} {dvs : List V} {sp : Sp} {p pos : Pos} {e : Expr} {es : List Expr} {t : TA} {E : XK}
def Jp (sp : Sp) (dvs : List V) (t : TA) : TXE:=fun σ H Q E => t σ H fun vs H1 => sp (vs ++ dvs) H1 Q E
theorem Gw (G : DefX X.prog X.w X.K X.mg X.base x k ps dvs sp) (hr : Room j X.A) (ha : PA X (e :: es) t) (hx : ∀ e s,X.xe e s = False:=by intro _ _; rfl) (hkj : k <= j:=by decide) (hg : Gl X x:=by rfl) (hdb : (x == ("__debug__" : Str)) = false:=by decide)
  (he : starEach (e :: es) X.env = (false,eval e X.env) :: starEach es X.env:=by rfl) (hpl : (backTo pos (starEach es X.env)).any (·.1) = false:=by rfl) :
  PXE X (.Call (.Name x p) (e :: es) [] pos) (Jp sp dvs t):=by
 obtain ⟨f,fd,ds,hm,hk,hd,hb,F⟩:=G.ex
 intro pins s σ H Q E I h
 refine wpAny_Call_Name_kw (kJ I hg hm ?_ hdb)
 refine PySem.W.callWith_K (h₀:=X.base) I.ok.mod.kin hk (wpAny_mono (ha pos pins s σ H _ I h) (fun us s1 ⟨vs,H1,I1,r,q⟩ => ⟨I1.kIn,?_⟩) fun e' s' z => ((hx e' s').mp z).elim) he hpl
 have r2 : Vals (vs ++ dvs) (us ++ ds):=r.append hd
 have hl : (us ++ ds).length = ps.length:=by rw [<- r2.length]; exact F.len _ _ _ _ q
 refine wpAny_call (codeAny_mono (F.run X.A X.stack s1 H1 ⟨us,[]⟩ (us ++ ds) (vs ++ dvs) Q E (hr.mono hkj) I1.env0 (hb s1 us I1.kIn hl) r2 q) fun r' s' hq => ?_)
 cases r' with
 | error e' => exact ⟨s1,H1,I1,hq⟩
 | ok fl =>
  cases fl with
  | ret u => exact I1.after hq
  | next => exact False.elim hq
  | brk => exact False.elim hq
  | cont => exact False.elim hq
def Jr (t : TXE) : TX:=fun D E σ H => t σ H (fun _ H1 => D.nx σ H1) E
theorem HG {t : TXE} (he : PXE X e t) (hs : swapsWith e none pos.line X.env = pure false:=by rfl) : PX1 X (.Expr e pos) (Jr t):=by
 intro pins s σ H D E I h
 exact wpAny_Expr_any (thn (he pins s σ H _ E I h) fun v s1 ⟨y,H1,I1,r1,q1⟩ => ⟨σ,H1,I1,q1⟩) I.quiet hs
theorem Jc {st : Stmt} {t : TX} (h : PX1 X st t) : PX X [st] t:=by
 intro pins s σ H D E I q
 refine wpAny_execs_cons (thn (h pins s σ H D E I q) fun f s' hs => ?_)
 cases f with
 | next => exact wpAny_execs_nil hs
 | brk => exact hs
 | cont => exact hs
 | ret u => exact hs
end
section
variable {P : Program} {w : World} {fs : List Addr} {H H1 : Hp} {h h1 : Heap} {ea C : Addr} {o : HO}
theorem Un.more (u : Un fs [] H H1 h h1) (n : h.get? ea = none) (z : H ea = none) : Un fs [] H (upd H1 ea o) h h1 where
 keep:=u.keep
 slot:=u.slot
 free:=fun b ob q e hx => by
  rw [aj (fun c => by rw [c,n] at q; cases q)]
  exact u.free b ob q e hx
 there:=u.there
 tups:=fun b xs q => by rw [aj (av q z)]; exact u.tups b xs q
 frzs:=fun b ob v q => by rw [aj (av q z)]; exact u.frzs b ob v q
 tbls:=fun b ps q => by rw [aj (av q z)]; exact u.tbls b ps q
theorem HOk.ext (x : HOk P w H h) (z : H ea = Option.none) (p : ExAt ea C h) : HOk P w (upd H ea (.ext (ExAt ea C))) h:=by
 intro a u e
 by_cases q : a = ea
 ·subst q
  rw [af] at e
  cases e
  obtain ⟨ob,vs,e1,e2,e3⟩:=p
  refine ⟨⟨ob,vs,e1,e2,e3⟩,⟨ob,e1⟩,?_⟩
  rintro h1 h2 ⟨ob',vs',f1,f2,f3⟩ k
  exact ⟨ob',vs',k _ f1,f2,f3⟩
 ·rw [aj q] at e
  exact (x a u e).stay (fun b v _ f => f) (fun b f => by rw [aj (av f z)]; exact f) fun b xs f => by rw [aj (av f z)]; exact f
end
section
variable {X : Cx} {pins : List (Addr × Obj)} {σ : St} {H : Hp} {s : Shared} {E : XK}
theorem EX {M : Model} {A : Around} {EE : Value -> Shared -> Prop} {i : Nat} {x : Str} {v : V} {pos : Pos} {Q : Unit -> Shared -> Prop} (I : Inv X pins σ H s) (hN : X.N.Nodup) (hi : X.N[i]? = some x) (hx : X.env.scope.names.lookup x = some .local)
  (h : ∀ s',Inv X pins (σ.set i none) H s' -> Q () s') : wpAny M A (do bindName X.env x .none; unbindBehindTheSuite X.env x pos) Q EE s:=by
 have hcls : (X.env.scope.kind == .class || (X.env.scope.kind == .module && X.env.locals != X.env.globals)) = false:=by rw [I.ok.kind]; rfl
 have hiσ : i < σ.length:=by rw [I.len]; exact (List.getElem?_eq_some_iff.mp hi).1
 refine wpAny_bind (wpAny_bindName (qk I hN hi (.inl hx) (v:=.non) rfl (fun s1 I1 => ?_) (.inr hx)))
 unfold unbindBehindTheSuite
 refine wpAny_onRaise ?_
 obtain ⟨m,hn,hl⟩:=id I1.loc
 have hv : m x = some .none:=by
  obtain ⟨u,ru,lk⟩:=hl i x .non hi (List.getElem?_set_self hiσ) (.inl hx)
  cases (show u = Value.none from ru)
  rcases lk with ⟨_,e⟩ | ⟨k,_⟩
  ·exact e
  ·have k0 : X.env.kindOf x = some .local:=hx
   rw [k0] at k
   rcases k with k | k <;> cases k
 refine wpAny_unbindName_local hx hn hv hcls fun h' u hn' hs => h _ ?_
 have cne:=I1.cne
 obtain ⟨oL,_,_,hoL,_⟩:=id hn
 refine ⟨I1.ok,I1.os,I1.bare,⟨fun b o e n hb hz => ?_,fun b o e n hb hz => ?_,I1.base.free,fun b o e hz => ?_,I1.base.tups,I1.base.frzs,I1.base.tbls⟩,⟨_,hn',fun j y v' e1 e2 e3 => ?_⟩,fun y c e => ?_,I1.free,I1.freeC,fun p hp => ?_,fun b ob e => ?_,?_⟩
 ·exact (hs.2 b (Nat.ne_of_lt (Nat.lt_of_lt_of_le (Heap.lt_size e) I1.ok.above))).trans (I1.base.keep b o e n hb hz)
 ·obtain ⟨sl,f⟩:=I1.base.slot b o e n hb hz
  exact ⟨sl,(hs.2 b (Nat.ne_of_lt (Nat.lt_of_lt_of_le (Heap.lt_size e) I1.ok.above))).trans f⟩
 ·obtain ⟨o',f⟩:=I1.base.there b o e hz
  exact ⟨o',(hs.2 b (Nat.ne_of_lt (Nat.lt_of_lt_of_le (Heap.lt_size e) I1.ok.above))).trans f⟩
 ·by_cases hj : j = i
  ·subst hj
   rw [List.getElem?_set_self hiσ] at e2
   cases e2
  ·rw [List.getElem?_set_ne (Ne.symm hj)] at e2
   obtain ⟨u',r',q⟩:=hl j y v' e1 (by rw [List.getElem?_set_ne (Ne.symm hj)]; exact e2) e3
   refine ⟨u',r',?_⟩
   rcases q with ⟨k,e⟩ | ⟨k,c,e,z⟩
   ·refine .inl ⟨k,?_⟩
    have : y ≠ x:=fun e => hj (vz hN e1 (e ▸ hi))
    simp [this,e]
   ·exact .inr ⟨k,c,e,z.sameBut hs (cne y c e)⟩
 ·obtain ⟨w',z⟩:=I1.cell y c e
  exact ⟨w',z.sameBut hs (cne y c e)⟩
 ·obtain ⟨e,n,ne,nf,d⟩:=I1.pin p hp
  exact ⟨(hs.2 p.1 ne).trans e,n,ne,nf,d⟩
 ·refine (I1.hok b ob e).stay (fun c w' hc q => (hs.2 c ?_).trans q) (fun _ q => q) fun _ _ q => q
  rintro rfl
  rcases hc with rfl | hc
  ·rw [I1.free] at e; cases e
  ·rw [I1.free] at hc; cases hc
 ·rw [List.length_set]; exact I.len
end
section
variable {X : Cx} {pins : List (Addr × Obj)} {σ : St} {H : Hp} {s s' : Shared} {E : XK} {C F : Addr} {i : Nat} {x n : Str} {np pos hpos : Pos} {body : List Stmt} {b₀ : Stmt} {suite : List Stmt} {tb : TX} {ts : TS}
theorem land {h5 : Heap} {B : Heap} {H' : Hp} (I : Inv X pins σ H s) (os : s'.os = s.os) (bare : AllBare s'.gens) (un : Un (frs X.stack) [] H H' s.heap s'.heap) (hok : HOk X.prog X.w H' B)
  (there : ∀ b o,s.heap.get? b = some o -> b ∉ frs X.stack -> ∃ o',B.get? b = some o') (f0 : B.StaysIn s'.heap) (f5 : B.StaysIn h5) (sm : s'.heap.UpToSlots h5) : Un (frs X.stack) [] H H' s.heap h5 /\ HOk X.prog X.w H' h5:=by
 have hokS : HOk X.prog X.w H' s'.heap:=hok.kept fun b u q => f0 b u q
 have J : Inv X pins σ H' s' := I.call' (ch:=[]) os un hokS bare (fun b z => by cases z)
 refine ⟨Un.fly un f5 (fun b o o1 q q1 hb => ?_) fun b o hb q => ?_,hok.kept fun b u q => f5 b u q⟩
 ·obtain ⟨o',e'⟩:=there b o q hb
  have:=f0 b o' e'
  rw [q1] at this
  cases this
  exact e'
 ·obtain ⟨_,o',e',hd⟩:=J.stack.mem hb
  rw [q] at e'
  cases e'
  exact sm b o q hd
def KC (C : Addr) (i : Nat) (tb : TX) (ts : TS) : TS:=fun D σ H => tb D (fun c _ H1 => c = .ref C /\ ∀ ea,H1 ea = none ->
 ts { nx:=fun σ' H' => D.nx (σ'.set i none) H',rt:=D.rt,bk:=fun σ' H' => D.bk (σ'.set i none) H',ct:=fun σ' H' => D.ct (σ'.set i none) H' } (σ.set i (some (.ref ea))) (upd H1 ea (.ext (ExAt ea C)))) σ H
theorem Jb (hN : X.N.Nodup) (hi : X.N[i]? = some n) (hx : X.env.scope.names.lookup n = some .local) (hm : X.mg x = some (.ref F)) (hq : PySem.W.exmOne X.K (.ref C) (.ref F) = some true) (hb : PX X body tb) (hs : ∀ ea,PSs (X.held ea) (b₀ :: suite) ts)
  (hst : X.stack = X.env :: X.outer:=by rfl) (hfr : X.env.frame = some X.env.locals:=by rfl) (hg : Gl X x:=by rfl) (hdb : (x == ("__debug__" : Str)) = false:=by decide) :
  PS X (.Try body [.ExceptHandler (some (.Name x np)) (some n) (b₀ :: suite) hpos] [] [] pos) (KC C i tb ts):=by
 intro pins s σ H D I h
 refine wpAny_Try_except (wpAny_mono (hb pins s σ H D _ I h) (fun f s1 q => ?_) fun e s1 q => ?_)
 ·cases f with
  | next => exact wpAny_execs_nil q
  | brk => exact q
  | cont => exact q
  | ret u => exact q
 obtain ⟨s0,H0,I0,ea,t,C',B,H',rfl,os,bare,un,hok,fl,there,hn,hc,k⟩:=q
 obtain rfl : C' = C:=Value.ref.inj hc
 have flt:=fl
 rw [hst] at flt
 have ean : s0.heap.get? ea = none:=by
  cases q : s0.heap.get? ea with
  | none => rfl
  | some o =>
   by_cases hb : ea ∈ frs X.stack
   ·exfalso
    obtain ⟨_,_,_,oe,vs,_,_,_,he,_,hd,_⟩:=id fl
    have hokS : HOk X.prog X.w H' s1.heap:=hok.kept fun b u q => fl.1 b u q
    have J : Inv X pins σ H' s1:=I0.call' (ch:=[]) os un hokS bare (fun b z => by cases z)
    obtain ⟨_,o',e',hnd⟩:=J.stack.mem hb
    rw [he] at e'
    cases e'
    exact hnd _ hd
   ·obtain ⟨o',e'⟩:=there ea o q hb
    rw [fl.2.1] at e'
    cases e'
 have h0n : H0 ea = none:=I0.hok.none ean
 refine wpAny_looks_onW (I0.ok.frames.trans (by rw [hst])) hfr flt fun h4 held4 sm4 => ?_
 refine wpAny_landsW held4 fun h5 fl5 sm5 => ?_
 have sm:=sm4.trans sm5
 obtain ⟨un5,hok5⟩:=land I0 os bare un hok there fl.1 fl5.1 sm
 have I5 : Inv X pins σ H' { s1 with heap:=h5 }:=I0.call' (ch:=[]) os un5 hok5 bare (fun b z => by cases z)
 refine wpAny_handleBy_cons (codeAny_handlers_test ?_) (by intro q; cases q)
 refine kJ (X:=X.held ea) I5.held hg hm ?_ hdb
 have ty5 : PySem.W.Looks (model X.prog X.w) h5 (typeOf (.ref ea)) (.ref C'):=by
  obtain ⟨ob,e1,e2⟩:=fl5.there
  exact e2 ▸ (PySem.W.Looks.ld e1).andThen .now
 refine (PySem.W.exm_one (M:=model X.prog X.w) I5.kIn ty5 hq).here ?_
 refine codeAny_handlers_suite_as (lands_againW fl5 fun h6 fl6 sm6 => ?_)
 obtain ⟨un6,hok6⟩:=land I0 os bare un hok there fl.1 fl6.1 (sm.trans sm6)
 have ex6 : ExAt ea C' h6:=by
  obtain ⟨_,_,_,oe,vs,_,_,_,he,hcl,hd,_⟩:=fl6
  exact ⟨oe,vs,he,hcl.1,hd⟩
 have I6 : Inv X pins σ (upd H' ea (.ext (ExAt ea C'))) { s1 with heap:=h6 }:=I0.call' (ch:=[]) os (un6.more ean h0n) (hok6.ext hn ex6) bare (fun b z => by cases z)
 refine qk (X:=X.held ea) I6.held hN hi (.inl hx) (v:=.ref ea) rfl (fun s7 I7 => ?_) (.inr hx)
 refine wpAny_mono (hs ea pins s7 _ _ _ I7 (k ea hn)) (fun f s8 q8 => ?_) fun _ _ z => z.elim
 have fin : ∀ {σ8 : St} {H8 : Hp} {Q : Unit -> Shared -> Prop},Inv (X.held ea) pins σ8 H8 s8 -> (∀ s9,Inv X pins (σ8.set i none) H8 s9 -> Q () s9) -> wpAny (model X.prog X.w) X.A (do bindName X.env n .none; unbindBehindTheSuite X.env n hpos) Q X.xe s8:=
  fun {σ8 H8 Q} J g => EX (v:=.non) (J.unheld I.ok) hN hi hx g
 cases f with
 | next => obtain ⟨σ8,H8,J,q⟩:=q8; exact fin J fun s9 J9 => ⟨_,H8,J9,q⟩
 | brk => obtain ⟨σ8,H8,J,q⟩:=q8; exact fin J fun s9 J9 => ⟨_,H8,J9,q⟩
 | cont => obtain ⟨σ8,H8,J,q⟩:=q8; exact fin J fun s9 J9 => ⟨_,H8,J9,q⟩
 | ret u => obtain ⟨v,σ8,H8,J,r,q⟩:=q8; exact fin J fun s9 J9 => ⟨v,_,H8,J9,r,q⟩
end
end L2
set_option Elab.async false
set_option linter.all false
set_option maxRecDepth 100000
namespace L2
open PySem PySem.Spec PyProof.Rows
structure RoomH (k : Nat) (A : Around) : Prop where
 dp : A.depth + 3 * k + 5 < recursionLimit
 un : A.units + 16 * k + 200 < cLine
theorem RoomH.mono {j k : Nat} {A : Around} (r : RoomH k A) (h : j <= k) : RoomH j A:=⟨by have:=r.dp; omega,by have:=r.un; omega⟩
theorem RoomH.deeper {k : Nat} {A : Around} (r : RoomH (k + 1) A) (env : Env) : RoomH k (A.deeper env):=
 ⟨by have:=r.dp; show A.depth + 1 + 3 * k + 5 < _; omega,by have:=r.un; show A.units + 3 + 16 * k + 200 < _; omega⟩
theorem RoomH.depth {k : Nat} {A : Around} (r : RoomH k A) : A.depth < recursionLimit:=by have:=r.dp; omega
theorem Room.held {k : Nat} {A : Around} {v : Option Value} (r : Room k A) : RoomH k (A.mark v):=
 ⟨by have:=r.dp; first | exact this | (simp only [Around.mark]; exact this),by have:=r.un; first | exact this | (simp only [Around.mark]; exact this)⟩
structure FnOkH (P : Program) (w : World) (K : PySem.W.Frag) (mg : Str -> Option Value) (base : Heap) (CX : CXT) (k : Nat) (f : Addr) (fd : FuncData) (ps : List Str) (sp : Sp) : Prop where
 len : ∀ vs H Q E,sp vs H Q E -> vs.length = ps.length
 run : ∀ (A : Around) (outer : List Env) (s : Shared) (H : Hp) (args : Args) (us : List Value) (vs : List V) (Q : VK) (E : XK),RoomH k A -> Env0 P w K mg base A outer s H -> BindsTo s fd args (ps.zip us) -> Vals vs us -> sp vs H Q E ->
  codeAny (model P w) A (.call (.ref f) args) (CR CX outer P w H s Q E) s
abbrev zH (CX : CXT) (P : Program) (w : World) (K : PySem.W.Frag) (mg : Str -> Option Value) (base : Heap) (N : List Str) (qual : Str) (scope : Scope) (f : Addr) (cd : Value) (A : Around) (outer : List Env) (s : Shared) (H : Hp) (E : XK) : Cx:=
 { yB CX P w K mg base N qual scope f cd A outer s H E with calm:=false }
theorem BD {CX : CXT} {P : Program} {w : World} {K : PySem.W.Frag} {mg : Str -> Option Value} {base : Heap} {N ps : List Str} {qual : Str} {scope : Scope} {f : Addr} {cd : Value} {A : Around} {outer : List Env} {s s1 : Shared} {H : Hp} {E : XK} {us : List Value} {vs : List V}
  (S : FnScope N ps scope) (e0 : Env0 P w K mg base A outer s H) (hl : vs.length = ps.length) (r : Vals vs us)
  (x : InCallC s s.heap.objs.size (bindL (envOfC qual scope s.heap.objs.size f cd).kindOf (ps.zip us) fun _ => none) (cellsFrom (s.heap.objs.size + 1) scope.names []) (bindC (envOfC qual scope s.heap.objs.size f cd).kindOf (ps.zip us) fun _ => none) s1) :
  Inv (zH CX P w K mg base N qual scope f cd A outer s H E) [] (start N vs) H s1:=by
 have e1 : Env0 P w K mg base { A with handled:=none } outer s H:=⟨e0.frames,e0.mod,e0.bs,e0.bsz,e0.funs,e0.frf,e0.hok,e0.bare⟩
 have I:=x9 (CX:=CX) (E:=E) (qual:=qual) (f:=f) (cd:=cd) S rfl e1 hl r x
 have ok:=I.ok
 exact ⟨⟨ok.mod,ok.kind,ok.glob,ok.blt,ok.above,ok.inj,ok.has,ok.cab,(fun z => by cases z),Around.frames_deeper e0.frames,ok.stk,ok.exf,ok.bs,ok.bsz,ok.noex,ok.exfs,ok.funs,ok.frf⟩,I.os,I.bare,I.base,I.loc,I.cell,I.free,I.freeC,I.pin,I.hok,I.len⟩
theorem Iq {CX : CXT} {P : Program} {w : World} {K : PySem.W.Frag} {mg : Str -> Option Value} {base : Heap} {k : Nat} {f : Addr} {name qual : Str} {params : Arguments} {body : List Stmt} {scope : Scope} {dV kV doc pm cdv ct oc : Value} {an od : Option Addr}
  {osl : Array (Option Value)} {N ps : List Str} {sp : Sp} (lk : K.lookup f = some ⟨oc,od,.func (PySem.W.fnOf name qual params body scope dV kV doc pm an cdv ct),osl⟩) (hcd : PySem.W.codeIn K cdv qual = true) (S : FnScope N ps scope)
  (len : ∀ vs H Q E,sp vs H Q E -> vs.length = ps.length)
  (hbody : ∀ (A : Around) (outer : List Env) (s : Shared) (H : Hp) (vs : List V) (Q : VK) (E : XK),RoomH k (A.deeper (envOfC qual scope s.heap.objs.size f cdv)) -> sp vs H Q E ->
   ∃ t,PSs (zH CX P w K mg base N qual scope f cdv A outer s H E) body t /\ t { nx:=fun _ H' => Q .non H',rt:=Q } (start N vs) H) :
  FnOkH P w K mg base CX (k + 1) f (PySem.W.fnOf name qual params body scope dV kV doc pm an cdv ct) ps sp:=by
 refine ⟨len,fun A outer s H args us vs Q E hr e0 hb r hsp => ?_⟩
 have hl:=len _ _ _ _ hsp
 have KX : K.In s.heap:=e0.mod.kin.keeps fun b o e => (e0.bs b o e).1
 have lim : s.heap.NoLimit:=e0.mod.nolimit.keeps fun b o e => (e0.bs b o e).1
 have hkind : ∀ y ∈ ps.zip us,scope.names.lookup y.1 = some .local \/ (scope.names.lookup y.1 = some .cell /\ ((cellsFrom (s.heap.objs.size + 1) scope.names []).lookup y.1).isSome = true):=fun ⟨n,v⟩ hy => by
  rcases S.par n (List.of_mem_zip hy).1 with q | q
  ·exact .inl q
  ·exact .inr ⟨q,PySem.W.cellsFrom_some _ _ _ (.inl q)⟩
 refine codeAny_call_function hr.depth (KX _ _ lk) rfl S.co S.gen rfl (PySem.W.codeRec_of KX hcd) (hb _ _ _ _ ?_)
 refine wpAny_newFunctionEnv_cells S.kind hkind fun env he s1 x => ?_
 subst he
 refine ⟨lim.keeps x.toInCall.keep,codeAny_func ?_⟩
 obtain ⟨t,ht,hq⟩:=hbody A outer s H vs Q E (hr.deeper _) hsp
 have I : Inv (zH CX P w K mg base N qual scope f cdv A outer s H E) [] (start N vs) H s1:=BD S e0 hl r x
 refine wpAny_mono (ht [] s1 (start N vs) H _ I hq) (fun fl s' hs => ?_) fun e s' hs => hs
 have fin : ∀ {σ' : St} {H' : Hp} {v : V} {u : Value},Inv (zH CX P w K mg base N qual scope f cdv A outer s H E) [] σ' H' s' -> RelV v u -> Q v H' -> CE outer P w H s Q u s' :=
  fun {σ' H' v u} J rv q => ⟨v,H',J.os,J.bare,J.base,J.hok,rv,q⟩
 cases fl with
 | ret u =>
  obtain ⟨v,σ',H',J,rv,q⟩:=hs
  exact fin J rv q
 | next =>
  obtain ⟨σ',H',J,q⟩:=hs
  exact fin (v:=V.non) (u:=Value.none) J rfl q
 | brk =>
  obtain ⟨_,_,_,q⟩:=hs
  exact False.elim q
 | cont =>
  obtain ⟨_,_,_,q⟩:=hs
  exact False.elim q
structure DefH (P : Program) (w : World) (K : PySem.W.Frag) (mg : Str -> Option Value) (base : Heap) (x : Str) (k : Nat) (ps : List Str) (dvs : List V) (sp : Sp) : Prop where
 ex : ∃ (f : Addr) (fd : FuncData) (ds : List Value),mg x = some (.ref f) /\ PySem.W.keepIn K (.ref f) = true /\ Vals dvs ds /\ Binds K fd ps ds /\ FnOkH P w K mg base CX0 k f fd ps sp
section
variable {P : Program} {w : World} {K : PySem.W.Frag} {mg : Str -> Option Value} {base : Heap}
theorem FunD.okH {x qual : Str} {st : Stmt} {dV : Value} {f : Addr} {fd : FuncData} {N ps : List Str} {k : Nat} {sp : Sp} (F : FunD K x qual st dV f fd) (S : FnScope N ps (ah st)) (len : ∀ vs H Q E,sp vs H Q E -> vs.length = ps.length)
  (hbody : ∀ (cdv : Value) (A : Around) (outer : List Env) (s : Shared) (H : Hp) (vs : List V) (Q : VK) (E : XK),RoomH k (A.deeper (envOfC qual (ah st) s.heap.objs.size f cdv)) -> sp vs H Q E ->
   ∃ t,PSs (zH CX0 P w K mg base N qual (ah st) f cdv A outer s H E).nox (aE st) t /\ t { nx:=fun _ H' => Q .non H',rt:=Q } (start N vs) H) : FnOkH P w K mg base CX0 (k + 1) f fd ps sp:=by
 obtain ⟨oc,od,kV,doc,pm,an,cdv,ct,osl,rfl,lk,hcd⟩:=F.ex
 refine Iq lk hcd S len fun A outer s H vs Q E hr hsp => ?_
 obtain ⟨t,h,q⟩:=hbody cdv A outer s H vs Q E hr hsp
 exact ⟨t,h.nox,q⟩
end
section
variable {X : Cx} {x : Str} {j k : Nat} {ps : List Str} {dvs : List V} {sp : Sp} {p pos : Pos} {e : Expr} {es : List Expr} {t : TA}
theorem JM (G : DefH X.prog X.w X.K X.mg X.base x k ps dvs sp) (hr : RoomH j X.A) (ha : PA X (e :: es) t) (hkj : k <= j:=by decide) (hg : Gl X x:=by rfl) (hdb : (x == ("__debug__" : Str)) = false:=by decide)
  (he : starEach (e :: es) X.env = (false,eval e X.env) :: starEach es X.env:=by rfl) (hpl : (backTo pos (starEach es X.env)).any (·.1) = false:=by rfl) :
  PE X (.Call (.Name x p) (e :: es) [] pos) (AW sp dvs E0 t):=by
 obtain ⟨f,fd,ds,hm,hk,hd,hb,F⟩:=G.ex
 intro pins s σ H Q I h
 refine wpAny_Call_Name_kw (kJ I hg hm ?_ hdb)
 refine PySem.W.callWith_K (h₀:=X.base) I.ok.mod.kin hk (thn (ha pos pins s σ H _ I h) fun us s1 ⟨vs,H1,I1,r,q⟩ => ⟨I1.kIn,?_⟩) he hpl
 have r2 : Vals (vs ++ dvs) (us ++ ds):=r.append hd
 have hl : (us ++ ds).length = ps.length:=by rw [<- r2.length]; exact F.len _ _ _ _ q
 refine wpAny_call (codeAny_mono (F.run X.A X.stack s1 H1 ⟨us,[]⟩ (us ++ ds) (vs ++ dvs) Q E0 (hr.mono hkj) I1.env0 (hb s1 us I1.kIn hl) r2 q) fun r' s' hq => ?_)
 cases r' with
 | error e' => exact False.elim hq
 | ok fl =>
  cases fl with
  | ret u => exact I1.after hq
  | next => exact False.elim hq
  | brk => exact False.elim hq
  | cont => exact False.elim hq
end
section
variable {X : Cx}
end
end L2
set_option Elab.async false
set_option linter.all false
set_option maxRecDepth 100000
namespace L2
open PySem PySem.Spec PyProof.Rows
section
variable {X : Cx}
def Jz : V -> Option Value
 | .ref a => some (.ref a)
 | .ty n => some (.type n)
 | _ => none
theorem E5 {c : V} {cv u : Value} (e : Jz c = some cv) (r : RelV c u) : u = cv:=by
 cases c <;> first | cases e
 ·exact r
 ·exact r
def JO (K : PySem.W.Frag) : List V -> Hp -> VK -> Prop:=fun xs H Q => ∃ (a C : Addr) (c : V) (cv : Value) (b : Bool),xs = [.ref a,c] /\ H a = some (.ext (ExAt a C)) /\ XCls K C /\ Jz c = some cv /\ PySem.W.kitOne K (.ref C) cv = some b /\ Q (.bl b) H
theorem eD : iR X (.builtin "isinstance") (JO X.K):=by
 intro pins s σ H xs us Q I r h
 obtain ⟨a,C,c,cv,b,rfl,ha,cl,hc,e,q⟩:=h
 obtain ⟨u,v,rfl,ru,rv⟩:=r.two
 cases (show u = Value.ref a from ru)
 cases E5 hc rv
 obtain ⟨p,_⟩:=(show ObjOk X.prog X.w H s.heap a (.ext (ExAt a C)) from I.hok a _ ha)
 exact PySem.W.kia_one (Fv cl) I.kIn p e (fun z => nomatch z) fun tk => ⟨.bl b,H,I.tok tk,rfl,q⟩
end
end L2
set_option Elab.async false
set_option linter.all false
set_option maxRecDepth 100000
namespace L2
open PySem PySem.Spec PyProof.Rows
section
variable {prog : Program} {w : World} {A : Around} {E : Value -> Shared -> Prop} {s : Shared} {it l S : Addr} {items : Array Value}
end
section
variable {X : Cx} {a : Expr} {ta : TA} {p p2 pos pos2 : Pos}
end
end L2
set_option Elab.async false
set_option linter.all false
set_option maxRecDepth 100000
namespace L2
open PySem PySem.Spec PyProof.Rows
theorem gd {α β : Type} {F : α -> β -> Prop} : ∀ {l₁ : List α} {l₂ : List β} {j : Nat} {q : β},Paired F l₁ l₂ -> l₂[j]? = some q -> ∃ p,l₁[j]? = some p /\ F p q
 | _,_,_,_,.nil,e => by simp at e
 | _,_,0,_,.cons r _,e => by simp at e; subst e; exact ⟨_,rfl,r⟩
 | _,_,j + 1,_,.cons _ t,e => by
  obtain ⟨p,h1,h2⟩:=gd (j:=j) t (by simpa using e)
  exact ⟨p,by simpa using h1,h2⟩
section
variable {X : Cx}
theorem yd : ∀ {ks : List Key} {us : List Value},us.length = ks.length -> (∀ (j : Nat) (v : Value),us[j]? = some v -> ∃ k,ks[j]? = some k /\ sV k v = true) -> Vals (ks.map kV) us
 | [],[],_,_ => .nil
 | [],_ :: _,h,_ => by simp at h
 | _ :: _,[],h,_ => by simp at h
 | k :: ks,u :: us,h,q => by
  obtain ⟨k',e,i⟩:=q 0 u rfl
  cases (show k = k' from by simpa using e)
  refine .cons ?_ (yd (by simpa using h) fun j v e => by simpa using q (j + 1) v (by simpa using e))
  rcases bQ i with ⟨n,t,rfl,rfl⟩ | ⟨x,t,rfl,rfl⟩
  ·exact ⟨t,rfl⟩
  ·exact ⟨t,rfl⟩
def Je : List V -> Hp -> VK -> Prop:=fun xs H Q => ∃ p kvs,xs = [.ref p] /\ H p = some (.dK kvs) /\ ∀ l,H l = none -> Q (.ref l) (upd H l (.lst (kvs.map fun q => kV q.1)))
theorem uJ (hc : X.calm = true) : iR X (.type "list") Je:=by
 intro pins s σ H xs us Q I r h
 obtain ⟨p,kvs,rfl,hp,q⟩:=h
 obtain ⟨u,rfl,rx⟩:=vals1 r
 cases rx
 obtain ⟨hz,lo,vs,kv,dof⟩:=(show ObjOk X.prog X.w H s.heap p (.dK kvs) from I.hok p _ hp)
 obtain ⟨ep,hat⟩:=dof.dictAt
 have hlen : kvs.length = vs.length:=Paired.length kv
 refine PySem.W.kdl_call (PySem.W.kdl_dict (knd:=bb X.prog X.w) (kvs:=vs) (ep:=ep) lo) (I.ok.hd hc) hat (by rw [<- hlen]; exact hz) fun h' tk acc c' kp e hacc => ?_
 have rv : Vals ((kvs.map (·.1)).map kV) acc.toList:=yd (by rw [Array.length_toList,hacc.1,List.length_map,hlen]) fun j v ej => by
  obtain ⟨k,x,e1,e2⟩:=hacc.2 j v (by rw [<- Array.getElem?_toList]; exact ej)
  refine ⟨k,?_,e2⟩
  obtain ⟨pv,f1,f2⟩:=gd kv e1
  rw [List.getElem?_map,f1]
  exact congrArg some f2.1
 rw [List.map_map] at rv
 have ob : ObjOk X.prog X.w (upd H s.heap.objs.size (.lst (kvs.map fun q => kV q.1))) h' s.heap.objs.size (.lst (kvs.map fun q => kV q.1)):=by
  refine ⟨by rw [List.length_map]; exact hz,acc.toList,c',rv,?_⟩
  rw [Array.toArray_toList]
  exact e
 exact ⟨.ref _,_,I.laid (t' := tk) kp (Nat.le_refl _) ob,rfl,q _ (I.hok.fresh (Nat.le_refl _))⟩
end
end L2
set_option Elab.async false
set_option linter.all false
set_option maxRecDepth 100000
namespace L2
open PySem PySem.Spec PyProof.Rows
section
variable {X : Cx} {pins : List (Addr × Obj)} {σ : St} {H : Hp} {s : Shared} {N : List Str} {ix : List (Option Nat)} {scope : Scope} {fp : List Addr} {tg elt iter cond : Expr} {tc : TT} {pos spos : Pos} {J : It} {it : Addr} {tn : Nat -> Heap -> Prop} {g : TG} {te : TE} {wi : TI}
end
end L2
set_option Elab.async false
set_option linter.all false
set_option maxRecDepth 100000
set_option maxHeartbeats 4000000
namespace L2
open PySem PySem.Spec PyProof.Rows
open AutoSeq1 (wpAny_loadPart')
section
variable {prog : Program} {w : World} {A : Around} {E : Value -> Shared -> Prop} {s : Shared}
theorem pX {it t : Addr} {i : Nat} {items : Array Value} {x : Value} {Q : Value -> Shared -> Prop} (hit : s.heap.IsTupleIter it t i) (ht : s.heap.IsTuple t items) (hx : items[i]? = some x)
  (hQ : ∀ h',h'.IsTupleIter it t (i + 1) -> Heap.SameBut it s.heap h' -> Q x { s with heap:=h' }) : wpAny (model prog w) A (Builtin.SmallTypes.nextOf (.ref it)) Q E s:=by
 obtain ⟨o,ho,hc,hd⟩:=id hit
 obtain ⟨ol,hol,_,nl,hdl⟩:=ht
 unfold Builtin.SmallTypes.nextOf
 refine wpAny_bind (wpAny_callSpecial?_slot (name:=Str.ofString "__next__") hit.typeIs F.slot_tuple_iterator_next
  (wpAny_call_entry F.slot_tuple_iterator_next hit.typeIs F.entry_tuple_iterator_next ?_ (F.args_tuple_iterator_next_1 _)))
 show wpAny _ _ (field (.ref it) 0 >>= _) _ _ s
 refine wpAny_bind (wpAny_field ho hd (x:=.ref t) rfl ?_)
 show wpAny _ _ (if (Value.ref t == Value.none) = true then _ else _) _ _ s
 rw [if_neg (show ¬ ((Value.ref t == Value.none) = true) from Bool.false_ne_true)]
 show wpAny _ _ (field (.ref it) 1 >>= _) _ _ s
 refine wpAny_bind (wpAny_field ho hd (x:=.int i 0) rfl ?_)
 show wpAny _ _ (seqItems? (.ref t) >>= _) _ _ s
 refine wpAny_bind (wpAny_seqItems hol hdl ?_)
 simp only [Int.toNat_natCast,hx]
 refine wpAny_bind (wpAny_setField ho hd (by simp) (wpAny_pure ⟨x,rfl,wpAny_pure (hQ _ ?_ (Heap.SameBut.update ..))⟩))
 exact ⟨_,Heap.get?_update_self _ ho (Obj.isFreed_of_fields (Obj.data_mapFields hd _)),(Obj.cls_mapFields ..).trans hc,by
  rw [Obj.data_mapFields hd]; simp [rawInt]⟩
theorem jv {it t : Addr} {i : Nat} {items : Array Value} {Q : Value -> Shared -> Prop} (hh : A.handled = none) (hit : s.heap.IsTupleIter it t i) (ht : s.heap.IsTuple t items) (hx : items[i]? = none)
  (hE : ∀ h' e,Heap.ExtBut it s.heap h' -> (∃ o,h'.get? e = some o /\ o.cls = .type "StopIteration") -> E (.ref e) { s with heap:=h' }) : wpAny (model prog w) A (Builtin.SmallTypes.nextOf (.ref it)) Q E s:=by
 obtain ⟨o,ho,hc,hd⟩:=id hit
 obtain ⟨ol,hol,_,nl,hdl⟩:=ht
 unfold Builtin.SmallTypes.nextOf
 refine wpAny_bind (wpAny_callSpecial?_slot (name:=Str.ofString "__next__") hit.typeIs F.slot_tuple_iterator_next
  (wpAny_call_entry F.slot_tuple_iterator_next hit.typeIs F.entry_tuple_iterator_next ?_ (F.args_tuple_iterator_next_1 _)))
 show wpAny _ _ (field (.ref it) 0 >>= _) _ _ s
 refine wpAny_bind (wpAny_field ho hd (x:=.ref t) rfl ?_)
 show wpAny _ _ (if (Value.ref t == Value.none) = true then _ else _) _ _ s
 rw [if_neg (show ¬ ((Value.ref t == Value.none) = true) from Bool.false_ne_true)]
 show wpAny _ _ (field (.ref it) 1 >>= _) _ _ s
 refine wpAny_bind (wpAny_field ho hd (x:=.int i 0) rfl ?_)
 show wpAny _ _ (seqItems? (.ref t) >>= _) _ _ s
 refine wpAny_bind (wpAny_seqItems hol hdl ?_)
 simp only [Int.toNat_natCast,hx]
 refine wpAny_bind (wpAny_rule (wpAny_bind (wpAny_setField ho hd (by simp) ?_)))
 show wpAny _ _ (newExc (.type "StopIteration") [] >>= _) _ _ _
 refine wpAny_bind ?_
 simp only [newExc,newTuple]
 refine wpAny_bind (wpAny_newObj_type ?_ (by size_fits))
 refine wpAny_bind (m:=firstArgMember _ _) (wpAny_of_eq (a:=Value.none) (by first | rfl | (simp only [firstArgMember]; rfl)) ?_)
 refine wpAny_newObj_type ?_ (by size_fits)
 simp only [raiseNew]
 refine wpAny_bind (wpAny_handled ?_)
 first | rw [show A.in1.handled = none from hh] | rw [hh]
 refine wpAny_bind (wpAny_pure (wpAny_throw ?_))
 exact hE _ _ (((Heap.SameBut.update ..).extBut.push _).push _) ⟨_,Heap.get?_push_size _ rfl,rfl⟩
end
theorem Bw {prog : Program} {w : World} {A : Around} (hh : A.handled = none) (it t : Addr) (hne : t ≠ it) (items : Array Value) :
  Draws prog w A it [it,t] items.size (fun i v => items[i]? = some v) (fun i h => h.IsTupleIter it t i /\ h.IsTuple t items) where
 live:=fun _ _ st => let ⟨o,ho,_⟩:=st.1; ⟨o,ho⟩
 frame:=fun _ _ _ st hk => ⟨st.1.at fun o e => hk it (by simp) o e,st.2.at fun o e => hk t (by simp) o e⟩
 item:=fun i s Q E hi st hQ => by
  refine pX st.1 st.2 (x:=items[i]) (by simp [hi]) fun h' hit' hs' => ?_
  exact hQ _ h' s.toks (by simp [hi]) ⟨hit',st.2.at fun o e => (hs'.2 t hne).trans e⟩ hs'
 done:=fun s Q E st hE => jv hh st.1 st.2 (by simp) hE
theorem lN (l : Addr) (items : Array Value) (n : Nat) (dct : Option Addr) (sl : Array (Option Value)) :
  Meets (Builtin.«enumerate.__new__» ⟨[.type "enumerate",.ref l],[]⟩) (fun _ R s => s.heap.get? l = some { cls:=.type "tuple",dict:=dct,data:=.seq items n,slots:=sl } /\
   R (.ok (.ret (.ref (s.heap.push { cls:=.type "tuple_iterator",data:=.fields #[.ref l,.int 0 0] }).objs.size)))
    { s with heap:=(s.heap.push { cls:=.type "tuple_iterator",data:=.fields #[.ref l,.int 0 0] }).push { cls:=.type "enumerate",data:=.fields #[.none,.bool false,.ref s.heap.objs.size,rawInt 0,.none,.none] } }):=
 .of_wp fun prog w A R s h => by
  obtain ⟨hp,g,d,tk,os⟩:=s; obtain ⟨hl,h⟩:=h
  have hsub:=sub_enumerate
  have hL : Heap.IsTuple (Shared.heap ⟨hp,g,d,tk,os⟩) l items:=⟨_,hl,rfl,n,rfl⟩
  wp_walk using wpAny_loadPart' hl
  refine wpAny_stack_any fun st => wpAny_pure ?_
  split
  ·rename_i c _ _ _ _ _
   cases (c == Value.type "enumerate")
   ·wp_walk using wpAny_loadPart' hl,wpAny_pyIter_tuple hL
    exact ⟨_,rfl,h⟩
   ·wp_walk using wpAny_loadPart' hl,wpAny_pyIter_tuple hL
    exact ⟨_,rfl,h⟩
  ·wp_walk using wpAny_loadPart' hl,wpAny_pyIter_tuple hL
   exact ⟨_,rfl,h⟩
theorem lh {prog : Program} {w : World} {A : Around} {E : Value -> Shared -> Prop} {s : Shared} {l : Addr} {items : Array Value} {Q : Value -> Shared -> Prop} (hL : s.heap.IsTuple l items)
  (h : ∀ h',IsEnum h' (s.heap.objs.size + 1) s.heap.objs.size 0 .none -> h'.IsTupleIter s.heap.objs.size l 0 -> h'.objs.size = s.heap.objs.size + 2 ->
   (∀ b o,s.heap.get? b = some o -> h'.get? b = some o) -> Q (.ref (s.heap.objs.size + 1)) { s with heap:=h' }) :
  wpAny (model prog w) A (call (.type "enumerate") [.ref l]) Q E s:=by
 obtain ⟨⟨c,dct,dt,sl⟩,hl,hc,n,hd⟩:=hL
 replace hc : c = .type "tuple" := hc
 replace hd : dt = .seq items n:=hd
 subst hc hd
 refine callType_new F.called_enumerate (by decide) (F.typeCall_enumerate_1 _) (F.newCall_enumerate_1 _) (fun obj => F.args_object_init_2 obj _) F.entry_enumerate_new
  (lN l items n dct sl) ⟨hl,?_⟩
 have hz : (s.heap.push { cls:=.type "tuple_iterator",data:=.fields #[.ref l,.int 0 0] }).objs.size = s.heap.objs.size + 1:=Heap.size_push ..
 show _ /\ _
 rw [hz]
 have he : IsEnum ((s.heap.push { cls:=.type "tuple_iterator",data:=.fields #[.ref l,.int 0 0] }).push
   { cls:=.type "enumerate",data:=.fields #[.none,.bool false,.ref s.heap.objs.size,rawInt 0,.none,.none] }) (s.heap.objs.size + 1) s.heap.objs.size 0 .none:=by
  have:=Heap.get?_push_size (s.heap.push { cls:=.type "tuple_iterator",data:=.fields #[.ref l,.int 0 0] })
   (o:={ cls:=.type "enumerate",data:=.fields #[.none,.bool false,.ref s.heap.objs.size,rawInt 0,.none,.none] }) rfl
  rw [hz] at this; exact this
 refine ⟨⟨_,he,rfl⟩,h _ he ⟨_,Heap.get?_push_of_some _ (Heap.get?_push_size _ rfl),rfl,rfl⟩ (by rw [Heap.size_push,hz]) fun b o x => Heap.get?_push_of_some _ (Heap.get?_push_of_some _ x)⟩
end L2
set_option Elab.async false
set_option linter.all false
set_option maxRecDepth 100000
set_option maxHeartbeats 4000000
namespace L2
open PySem PySem.Spec PyProof.Rows
section
variable {X : Cx} {pins : List (Addr × Obj)} {σ : St} {H : Hp} {s : Shared} {h' : Heap}
theorem Inv.turned2 {t' : Nat} {e it : Addr} (I : Inv X pins σ H s) (k : ∀ b o,b ≠ e -> b ≠ it -> s.heap.get? b = some o -> h'.get? b = some o) (fe : mR X pins H e) (fi : mR X pins H it) : Inv X pins σ H { s with heap:=h',toks:=t' }:=by
 have nn : ∀ b u,H b = some u -> b ≠ e /\ b ≠ it:=fun b u q => ⟨fun z => (by rw [z,fe.1] at q; cases q),fun z => (by rw [z,fi.1] at q; cases q)⟩
 have kk : ∀ b o,b ∉ [e,it] -> s.heap.get? b = some o -> h'.get? b = some o:=fun b o hc q => k b o (fun z => hc (by simp [z])) (fun z => hc (by simp [z])) q
 refine I.step (g' := s.gens) (d' := s.drawn) (ch:=[e,it]) (fun b hb => ?_) (fun b o _ _ hc q _ => kk b o hc q) (fun b o _ _ hc q _ => ⟨o.slots,kk b o hc q⟩) (fun _ _ _ _ n => n)
  (fun b o hc q => ⟨o,kk b o hc q⟩) (fun _ _ q => q) (fun _ _ _ q => q) (fun b ps q => ⟨#[],by rw [q]; simp⟩) (fun m hm => ?_) (fun b u q => ?_) I.bare
 ·have q : b = e \/ b = it:=by simpa using hb
  rcases q with rfl | rfl
  ·exact ⟨fe.2.2.2.1,fe.2.1,fe.2.2.2.2.1,fe.2.2.2.2.2⟩
  ·exact ⟨fi.2.2.2.1,fi.2.1,fi.2.2.2.2.1,fi.2.2.2.2.2⟩
 ·obtain ⟨o,es,ep,ho,r⟩:=hm
  exact ⟨o,es,ep,k _ o (Ne.symm fe.2.1) (Ne.symm fi.2.1) ho,r⟩
 ·refine (I.hok b u q).stay (fun c v hc z => k c v ?_ ?_ z) (fun _ z => z) fun _ _ z => z
  ·rcases hc with z | z
   ·rw [z]; exact (nn b u q).1
   ·exact (nn c _ z).1
  ·rcases hc with z | z
   ·rw [z]; exact (nn b u q).2
   ·exact (nn c _ z).2
end
def Ite (K : PySem.W.Frag) (a : Addr) : It:=
 ⟨fun i H => ∃ xs x,SqT K H a xs /\ xs[i]? = some x,fun i H v H' => ∃ T x,v = .ref T /\ H T = none /\ H' = upd H T (.tup [.int i,x]) /\ ∀ xs,SqT K H a xs -> xs[i]? = some x,fun i H => ∃ xs,SqT K H a xs /\ xs.length <= i⟩
theorem CS {P : Program} {w : World} {K : PySem.W.Frag} {elts : List Expr} {x1 : _} {pos : Pos} (a e it : Addr) : Turn P w K (.Tuple elts x1 pos) (Ite K a) [e,it] e (fun i h => (∃ old,IsEnum h e it i old) /\ h.IsTupleIter it a i) where
 mem:=by simp
 obj:=fun i h st b hb => by
  have q : b = e \/ b = it:=by simpa using hb
  rcases q with rfl | rfl
  ·obtain ⟨⟨old,st⟩,_⟩:=st
   exact ⟨_,st,fun v z => by
    have z' : Data.fields _ = Data.cell v:=z
    cases z'⟩
  ·obtain ⟨_,o,e,c,d⟩:=st
   exact ⟨o,e,fun v z => by rw [d] at z; cases z⟩
 keep:=fun i h h' st k => ⟨let ⟨old,z⟩:=st.1; ⟨old,k e (by simp) _ z⟩,st.2.at fun o z => k it (by simp) o z⟩
 item:=by
  intro X hP hw hK hc i pins s σ H E I hf st hg
  subst hP hw hK
  obtain ⟨xs,x,hq,hx⟩:=hg
  obtain ⟨its,rv,p,hz⟩:=I.tuple hq
  obtain ⟨u,hu,ru⟩:=rv.get hx
  obtain ⟨⟨old,he⟩,hit⟩:=st
  have p' : s.heap.IsTuple a its.toArray:=p
  have fe:=hf e (by simp)
  have fi:=hf it (by simp)
  have ne : e ≠ it:=fun z => by
   subst z
   obtain ⟨o,e1,c,d⟩:=hit
   rw [he] at e1
   cases e1
   have c' : Value.type "enumerate" = Value.type "tuple_iterator" := c
   injection c' with c'
   exact absurd c' (by decide)
  have nae : a ≠ e:=fun z => by
   subst z
   obtain ⟨o,e1,c,d⟩:=p'
   rw [he] at e1
   cases e1
   have c' : Value.type "enumerate" = Value.type "tuple" := c
   injection c' with c'
   exact absurd c' (by decide)
  have nai : a ≠ it:=fun z => by
   subst z
   obtain ⟨o,e1,c,d⟩:=p'
   obtain ⟨o2,e2,c2,d2⟩:=hit
   rw [e1] at e2
   cases e2
   rw [c] at c2
   injection c2 with c'
   exact absurd c' (by decide)
  have hi : i < its.toArray.size:=by
   have : i < its.length:=(List.getElem?_eq_some_iff.mp hu).1
   simpa using this
  have D:=Bw (prog:=X.prog) (w:=X.w) (A:=X.A.in1) (show X.A.in1.handled = none from I.ok.hd hc) it a nai its.toArray
  refine wpAny_pyNext_enum_itemD D he ⟨hit,p'⟩ hi ne (by simp [ne,Ne.symm nae]) fun y h1 tk hy ho st1 hT hsz hk => ?_
  have ey : y = u:=by
   have : its.toArray[i]? = some u:=by simpa using hu
   rw [this] at hy
   exact (Option.some.inj hy).symm
  subst ey
  refine ⟨_,rfl,wpAny_letOwnedTupleGo_enum ho fun h2 he2 hs2 => ?_⟩
  have fr : H s.heap.objs.size = none:=I.hok.fresh (Nat.le_refl _)
  have I1 : Inv X pins σ (upd H s.heap.objs.size (.tup [.int i,x])) { s with heap:=s.heap.push { cls:=.type "tuple",data:=.seq #[.int i tk,y] },toks:=tk + 1 }:=
   I.laid (o:=.tup [.int i,x]) (fun b ob q => Heap.get?_push_of_some _ q) (Nat.le_refl _) ⟨by show 2 <= sizeLine; decide,[.int i tk,y],.cons ⟨tk,rfl⟩ (.cons ru .nil),⟨_,Heap.get?_push_size _ rfl,rfl,_,rfl⟩⟩
  have lt : ∀ b ∈ [e,it],b < s.heap.objs.size:=fun b hb => by
   have q : b = e \/ b = it:=by simpa using hb
   rcases q with rfl | rfl
   ·exact Heap.lt_size he
   ·obtain ⟨o,e1,_⟩:=hit
    exact Heap.lt_size e1
  have f2 : ∀ b ∈ [e,it],mR X pins (upd H s.heap.objs.size (.tup [.int i,x])) b:=fun b hb => by
   refine ⟨?_,(hf b hb).2⟩
   rw [aj (Nat.ne_of_lt (lt b hb))]
   exact (hf b hb).1
  have I2 : Inv X pins σ (upd H s.heap.objs.size (.tup [.int i,x])) { s with heap:=h2,toks:=tk + 1 }:=by
   refine I1.turned2 (t' := tk + 1) (h' := h2) (fun b o b1 b2 q => ?_) (f2 e (by simp)) (f2 it (by simp))
   refine (hs2.2 b b1).trans ?_
   rcases Heap.get?_push_cases (show (s.heap.push { cls:=.type "tuple",data:=.seq #[.int i tk,y] }).get? b = some o from q) with ⟨rfl,rfl⟩ | z
   ·exact hT
   ·exact hk b o b1 b2 z
  refine ⟨.ref s.heap.objs.size,_,I2,rfl,⟨s.heap.objs.size,x,rfl,fr,rfl,fun ys hy => by rw [I.tuple_inj hy hq]; exact hx⟩,⟨⟨y,?_⟩,?_⟩,fun b hb => (f2 b hb).1⟩
  ·have : ((i + 1 : Nat) : Int) = (i : Int) + 1:=by push_cast; rfl
   rw [this]
   exact he2
  ·exact st1.1.at fun o z => (hs2.2 it (Ne.symm ne)).trans z
 done:=by
  intro X hP hw hK hc i pins s σ H E I hf st hg
  subst hP hw hK
  obtain ⟨xs,hq,hx⟩:=hg
  obtain ⟨its,rv,p,hz⟩:=I.tuple hq
  obtain ⟨⟨old,he⟩,hit⟩:=st
  obtain ⟨f0,f1,f2,f3,f4,f5⟩:=hf it (by simp)
  have p' : s.heap.IsTuple a its.toArray:=p
  have hl:=rv.length
  have hT : s.TypeIs (.ref e) "enumerate" := ⟨_,he,rfl⟩
  unfold pyNext
  refine wpAny_bind (wpAny_attempt (wpAny_callSpecial?_slot (name:=Str.ofString "__next__") hT F.slot_enumerate_next
   (wpAny_call_entry F.slot_enumerate_next hT F.entry_enumerate_next ?_ (F.args_enumerate_next_1 _))))
  show wpAny _ _ (field (.ref e) 2 >>= _) _ _ _
  refine wpAny_bind (wpAny_field he rfl (x:=.ref it) rfl ?_)
  refine wpAny_bind (jv (show X.A.in1.handled = none from I.ok.hd hc) hit p' (by simp; omega) fun h' x he' hx' => ?_)
  obtain ⟨o,ho,hcl⟩:=hx'
  refine wpAny_bind (wpAny_isInstance (T := "StopIteration") (b:=true) ⟨o,ho,hcl⟩ isSubtype_stop ?_)
  exact wpAny_pure ⟨rfl,I.turned (t' := s.toks) (fun b o hb z => he' b o hb z) f0 f1 f3 f4 f5⟩
 self:=fun _ _ _ _ _ st h => let ⟨_,z⟩:=st.1; wpAny_pyIter_enum z h
section
variable {X : Cx}
def Iv (K : PySem.W.Frag) (tl : TA) : TI:=fun σ H R => tl σ H fun vs H1 => ∃ a,vs = [.ref a] /\ (∃ xs,SqT K H1 a xs) /\ R (Ite K a) H1
theorem pz : bootBuiltins "enumerate" = some (.type "enumerate"):=by decide +kernel
theorem Gf {elts : List Expr} {x1 : _} {tpos : Pos} {l : Expr} {tl : TA} {p pos : Pos} (hg : Gl X "enumerate") (hm : X.mg "enumerate" = none) (hl : PA X [l] tl) (hs : starEach [l] X.env = [(false,eval l X.env)]:=by rfl) :
  PI X (.Tuple elts x1 tpos) (.Call (.Name "enumerate" p) [l] [] pos) (Iv X.K tl):=by
 intro pins s σ H R I h
 refine Call_ (kI I hg hm pz (PyProof.Rows.callWith_type1 (thn (hl pos pins s σ H _ I h) fun us s1 ⟨vs,H1,I1,r1,q1⟩ => ?_) hs rfl))
 obtain ⟨a,e,⟨xs,hq⟩,q⟩:=q1
 subst e
 cases r1 with
 | cons r rr =>
  cases rr
  cases r
  obtain ⟨its,rv,p,hz⟩:=I1.tuple hq
  refine lh (show s1.heap.IsTuple a its.toArray from p) fun h' he hit hsz hk => ?_
  refine wpAny_pyIter_enum he ?_
  refine ⟨s1.heap.objs.size + 1,[s1.heap.objs.size + 1,s1.heap.objs.size],_,_,H1,rfl,I1.kept (t' := s1.toks) hk,CS a _ s1.heap.objs.size,⟨⟨_,he⟩,hit⟩,fun b hb => ?_,q⟩
  have e : b = s1.heap.objs.size + 1 \/ b = s1.heap.objs.size:=by simpa using hb
  rcases e with rfl | rfl
  ·exact I1.fpOk (Nat.le_succ _) (I1.hok.fresh (Nat.le_succ _))
  ·exact I1.fpOk (Nat.le_refl _) (I1.hok.fresh (Nat.le_refl _))
end
theorem DY {K : PySem.W.Frag} {a : Addr} {xs : List V} {g : TG} {tb : TS} {D : Ends} {σ : St} {H : Hp} (Pv : Nat -> St -> Hp -> Prop) (h0 : Pv 0 σ H) (hl : ∀ i σ H,i <= xs.length -> Pv i σ H -> SqT K H a xs)
  (hs : ∀ i x σ H T,xs[i]? = some x -> Pv i σ H -> H T = none -> g (.ref T) σ (upd H T (.tup [.int i,x])) fun σ2 H2 => tb { D with nx:=Pv (i + 1),ct:=Pv (i + 1),bk:=D.nx } σ2 H2) (hd : ∀ σ H,Pv xs.length σ H -> D.nx σ H) :
  ∃ W : Nat -> Nat -> St -> Hp -> Prop,(∃ m,W 0 m σ H) /\ ∀ i m σ H,W i m σ H ->
   ((Ite K a).stop i H /\ D.nx σ H) \/ ((Ite K a).go i H /\ ∃ N : St -> Hp -> Prop,(∀ σ' H',N σ' H' -> ∃ m',m' < m /\ W (i + 1) m' σ' H') /\ ∀ x H',(Ite K a).yld i H x H' -> g x σ H' fun σ2 H2 => tb { D with nx:=N,ct:=N,bk:=D.nx } σ2 H2):=by
 refine ⟨fun i m σ H => m = xs.length - i /\ i <= xs.length /\ Pv i σ H,⟨xs.length,by simp,Nat.zero_le _,h0⟩,?_⟩
 rintro i m σ H ⟨rfl,hi,p⟩
 have q:=hl i σ H hi p
 by_cases hlt : i < xs.length
 ·refine .inr ⟨⟨xs,xs[i],q,by simp [hlt]⟩,Pv (i + 1),fun σ' H' p' => ⟨xs.length - (i + 1),by omega,rfl,hlt,p'⟩,fun x H' y => ?_⟩
  obtain ⟨T,x0,rfl,hT,rfl,y⟩:=y
  exact hs i x0 σ _ T (y xs q) p hT
 ·have e : i = xs.length:=by omega
  subst e
  exact .inl ⟨⟨xs,q,Nat.le_refl _⟩,hd σ H p⟩
end L2
set_option Elab.async false
set_option linter.all false
set_option maxRecDepth 100000
set_option maxHeartbeats 4000000
namespace L2
open PySem PySem.Spec PyProof.Rows
theorem BH {acc : Array Value} {n : Nat} (h : ItemsOf (fun i v => ∃ t,v = .int (0 + (i : Int) * 1) t) acc n) : Vals ((List.range n).map fun i : Nat => V.int i) acc.toList:=by
 have go : ∀ (n : Nat) (us : List Value),us.length = n -> (∀ (j : Nat) (v : Value),us[j]? = some v -> ∃ t,v = Value.int (0 + (j : Int) * 1) t) -> Vals ((List.range n).map fun i : Nat => V.int i) us:=by
  intro n
  induction n with
  | zero =>
   intro us hl _
   cases us with
   | nil => exact .nil
   | cons a r => cases hl
  | succ n ih =>
   intro us hl hv
   have ne : us ≠ []:=fun z => by rw [z] at hl; cases hl
   have e:=List.dropLast_concat_getLast ne
   rw [<- e,List.range_succ,List.map_append]
   have hd : us.dropLast.length = n:=by rw [List.length_dropLast,hl]; rfl
   refine (ih us.dropLast hd fun j v hj => ?_).append (.cons ?_ .nil)
   ·refine hv j v ?_
    have lt:=(List.getElem?_eq_some_iff.mp hj).1
    rw [<- e,List.getElem?_append_left lt]
    exact hj
   ·obtain ⟨t,ht⟩:=hv n (us.getLast ne) (by rw [List.getLast_eq_getElem,List.getElem?_eq_getElem (by omega)]; simp [hl])
    rw [ht]
    exact ⟨t,by rw [Int.zero_add,Int.mul_one]⟩
 exact go n acc.toList (by rw [Array.length_toList,h.1]) fun j v hj => h.2 j v (by rw [<- Array.getElem?_toList]; exact hj)
section
variable {X : Cx} {a : Expr} {ta : TA} {p p2 pos pos2 : Pos}
def GK (ta : TA) : TE:=fun σ H Q => ta σ H fun vs H1 => ∃ n : Nat,vs = [.int n] /\ n <= sizeLine /\ ∀ l,H1 l = none -> Q (.ref l) (upd H1 l (.lst ((List.range n).map fun i : Nat => V.int i)))
theorem Cm (hc : X.calm = true) (hgl : Gl X "list") (hml : X.mg "list" = none) (hg : Gl X "range") (hm : X.mg "range" = none) (ha : PA X [a] ta)
  (hs : starEach [a] X.env = [(false,eval a X.env)]:=by rfl) (hs2 : starEach [.Call (.Name "range" p2) [a] [] pos2] X.env = [(false,eval (.Call (.Name "range" p2) [a] [] pos2) X.env)]:=by rfl) :
  PE X (.Call (.Name "list" p) [.Call (.Name "range" p2) [a] [] pos2] [] pos) (GK ta):=by
 intro pins s σ H Q I h
 refine wpAny_Call_Name_kw (kI I hgl hml uh ?_)
 refine PyProof.Rows.callWith_type1 ?_ hs2 rfl
 rw [hs2]
 refine Calls.spliced_cons ?_
 refine Call_ (kI I hg hm boot_range (PyProof.Rows.callWith_type1 (thn (ha pos2 pins s σ H _ I h) fun us s1 ⟨vs,H1,I1,r1,q1⟩ => ?_) hs rfl))
 obtain ⟨n,e,hn,q⟩:=q1
 subst e
 cases r1 with
 | cons r rr =>
  cases rr
  obtain ⟨t,rfl⟩:=r
  have big : sizeLine <= 2 ^ 24:=by decide
  have big2 : ((sizeLine : Nat) : Int) < 2 ^ 62:=by decide
  have hn62 : (n : Int) < 2 ^ 62:=by omega
  refine call_range_1 ?_
  refine Calls.spliced_nil ?_
  have sz : (s1.heap.push { cls:=.type "range",data:=.fields #[.int 0 s1.toks,.int n t,.int 1 (s1.toks + 1)] }).objs.size = s1.heap.objs.size + 1:=Heap.size_push _ _
  refine PySem.call_list_range (s:={ s1 with heap:=s1.heap.push { cls:=.type "range",data:=.fields #[.int 0 s1.toks,.int n t,.int 1 (s1.toks + 1)] },toks:=s1.toks + 1 + 1 }) (n:=n) (I1.ok.hd hc) (IsRange.new ..) (small_one (by omega) (by omega) (by omega) hn62)
   (by rw [rangeSize_one]; split <;> omega) (by omega) fun h' tk acc' c' kp e hacc => ?_
  have kp1 : ∀ b o,s1.heap.get? b = some o -> h'.get? b = some o:=fun b o f => kp b o (Heap.get?_push_of_some _ f)
  have ob : ObjOk X.prog X.w (upd H1 (s1.heap.push { cls:=.type "range",data:=.fields #[.int 0 s1.toks,.int n t,.int 1 (s1.toks + 1)] }).objs.size (.lst ((List.range n).map fun i : Nat => V.int i))) h' (s1.heap.push { cls:=.type "range",data:=.fields #[.int 0 s1.toks,.int n t,.int 1 (s1.toks + 1)] }).objs.size (.lst ((List.range n).map fun i : Nat => V.int i)):=by
   refine ⟨by rw [List.length_map,List.length_range]; exact hn,acc'.toList,c',BH hacc,?_⟩
   exact e
  exact ⟨.ref _,_,I1.laid (t' := tk) kp1 (by rw [sz]; exact Nat.le_succ _) ob,rfl,q _ (I1.hok.fresh (by rw [sz]; exact Nat.le_succ _))⟩
end
structure DefMk (P : Program) (w : World) (K : PySem.W.Frag) (mg : Str -> Option Value) (base : Heap) (x : Str) (C : Addr) (k : Nat) (ps : List Str) (sp : Sp) : Prop where
 m : mg x = some (.ref C)
 cl : Cls K C
 ex : ∃ (f : Addr) (fd : FuncData),Mk K C f /\ Binds K fd ps [] /\ FnOk P w K mg base CX0 k f fd ps sp
theorem IW {X : Cx} {x : Str} {C : Addr} {j k : Nat} {ps : List Str} {sp : Sp} {p pos : Pos} {e : Expr} {es : List Expr} {t : TA} (G : DefMk X.prog X.w X.K X.mg X.base x C k ps sp) (hr : Room j X.A) (ha : PA X (e :: es) t) (hkj : k + 1 <= j:=by decide) (hg : Gl X x:=by rfl) (hdb : (x == ("__debug__" : Str)) = false:=by decide)
  (he : starEach (e :: es) X.env = (false,eval e X.env) :: starEach es X.env:=by rfl) (hpl : (backTo pos (starEach es X.env)).any (·.1) = false:=by rfl) : PE X (.Call (.Name x p) (e :: es) [] pos) (Ig C sp [] E0 t):=by
 obtain ⟨f,fd,M,hb,F⟩:=G.ex
 exact Hy M F (hr.mono hkj) hg G.m hb .nil F7 ha hdb he hpl
structure DefMe (P : Program) (w : World) (K : PySem.W.Frag) (mg : Str -> Option Value) (base : Heap) (C : Addr) (m : Str) (k : Nat) (ps : List Str) (sp : Sp) : Prop where
 cl : Cls K C
 ex : ∃ (f : Addr) (fd : FuncData),Meth K C m f /\ Binds K fd ps [] /\ FnOk P w K mg base CX0 k f fd ps sp
theorem Dv {X : Cx} {m : Str} {C : Addr} {j k : Nat} {ps : List Str} {sp : Sp} {apos pos : Pos} {o e : Expr} {es : List Expr} {ta : TE} {t : TA} {pl : Sem Bool} (G : DefMe X.prog X.w X.K X.mg X.base C m k ps sp) (hr : Room j X.A) (ho : PE X o ta) (ha : PA X (e :: es) t) (hkj : k <= j:=by decide)
  (hst : starEach (e :: es) X.env = (false,eval e X.env) :: starEach es X.env:=by rfl) (hpl : (backTo pos (starEach es X.env)).any (·.1) = false:=by rfl)
  (ht : eval (.Call (.Attribute o m apos) (e :: es) [] pos) X.env = (do
   let ov <- eval o X.env
   standAt apos.atName
   let (f,first) <- holding [ov] (getMethod ov m pl)
   callWith pos f first (backTo pos (starEach (e :: es) X.env)) (backToKw pos (keywordEach [] X.env))):=by rfl) :
  PE X (.Call (.Attribute o m apos) (e :: es) [] pos) (DC C m sp [] E0 ta t):=by
 obtain ⟨f,fd,hm,hb,F⟩:=G.ex
 exact Hz ho G.cl hm F (hr.mono hkj) hb .nil F7 ha hst hpl ht
end L2
set_option Elab.async false
set_option linter.all false
set_option maxRecDepth 100000
set_option maxHeartbeats 4000000
namespace L2
open PySem PySem.Spec PyProof.Rows
section
variable {prog : Program} {w : World} {A : Around} {E : Value -> Shared -> Prop} {s : Shared}
structure ZipFar (z TI TO i1 i2 : Addr) (fp1 fp2 : List Addr) : Prop where
 TIz : TI ≠ z
 TOz : TO ≠ z
 TITO : TI ≠ TO
 i1z : i1 ≠ z
 i2z : i2 ≠ z
 TIi1 : TI ≠ i1
 TIi2 : TI ≠ i2
 TOi1 : TO ≠ i1
 TOi2 : TO ≠ i2
 i12 : i1 ≠ i2
 z1 : z ∉ fp1
 TO1 : TO ∉ fp1
 i21 : i2 ∉ fp1
 z2 : z ∉ fp2
 TO2 : TO ∉ fp2
 i12' : i1 ∉ fp2
variable {z TI TO i1 i2 : Addr} {fp1 fp2 : List Addr} {n1 n2 k : Nat} {P1 P2 : Nat -> Value -> Prop} {St1 St2 : Nat -> Heap -> Prop} {a b : Value}
end
end L2
set_option Elab.async false
set_option linter.all false
set_option maxRecDepth 100000
set_option maxHeartbeats 4000000
namespace L2
open PySem PySem.Spec PyProof.Rows
section
variable {X : Cx} {pins : List (Addr × Obj)} {σ : St} {H : Hp} {s : Shared} {h' : Heap}
end
section
variable {X : Cx}
end
end L2
set_option Elab.async false
set_option linter.all false
set_option maxRecDepth 100000
set_option maxHeartbeats 4000000
namespace L2
open PySem PySem.Spec PyProof.Rows
inductive EqN (K : PySem.W.Frag) (H : Hp) : V -> V -> Prop where
 | non : EqN K H .non .non
 | tup {a b : Addr} {ns : List Int} (ha : SqT K H a (ns.map V.int)) (hb : SqT K H b (ns.map V.int)) : EqN K H (.ref a) (.ref b)
section
variable {X : Cx} {pins : List (Addr × Obj)} {σ : St} {H : Hp} {s : Shared}
theorem AZ {ns : List Int} {us : List Value} (r : Vals (ns.map V.int) us) : ∀ (j : Nat) (u : Value),us[j]? = some u -> ∃ n t,ns[j]? = some n /\ u = Value.int n t:=by
 intro j u hu
 have hj : j < us.length:=(List.getElem?_eq_some_iff.mp hu).1
 have hl:=r.length
 rw [List.length_map] at hl
 obtain ⟨v,hv,rv⟩:=r.get (i:=j) (x:=V.int (ns[j]'(by omega))) (by rw [List.getElem?_map,List.getElem?_eq_getElem (by omega)]; rfl)
 rw [hu] at hv
 cases hv
 obtain ⟨t,rfl⟩:=(show ∃ t,u = Value.int _ t from rv)
 exact ⟨_,t,List.getElem?_eq_getElem (by omega),rfl⟩
end
end L2
set_option Elab.async false
set_option linter.all false
set_option maxRecDepth 100000
set_option maxHeartbeats 4000000
namespace L2
open PySem PySem.Spec PyProof.Rows
def DG (K : PySem.W.Frag) (a : Addr) : It:=
 ⟨fun i H => ∃ xs x,SqL K H a xs /\ xs[i]? = some x,fun i H v H' => ∃ T x,v = .ref T /\ H T = none /\ H' = upd H T (.tup [.int i,x]) /\ ∀ xs,SqL K H a xs -> xs[i]? = some x,fun i H => ∃ xs,SqL K H a xs /\ xs.length <= i⟩
theorem CQ {P : Program} {w : World} {K : PySem.W.Frag} {elts : List Expr} {x1 : _} {pos : Pos} (a e it : Addr) : Turn P w K (.Tuple elts x1 pos) (DG K a) [e,it] e (fun i h => (∃ old,IsEnum h e it i old) /\ h.IsListIter it a i) where
 mem:=by simp
 obj:=fun i h st b hb => by
  have q : b = e \/ b = it:=by simpa using hb
  rcases q with rfl | rfl
  ·obtain ⟨⟨old,st⟩,_⟩:=st
   exact ⟨_,st,fun v z => by
    have z' : Data.fields _ = Data.cell v:=z
    cases z'⟩
  ·obtain ⟨_,o,e,c,d⟩:=st
   exact ⟨o,e,fun v z => by rw [d] at z; cases z⟩
 keep:=fun i h h' st k => ⟨let ⟨old,z⟩:=st.1; ⟨old,k e (by simp) _ z⟩,st.2.at fun o z => k it (by simp) o z⟩
 item:=by
  intro X hP hw hK hc i pins s σ H E I hf st hg
  subst hP hw hK
  obtain ⟨xs,x,hq,hx⟩:=hg
  obtain ⟨its,rv,p,hz⟩:=I.list hq
  obtain ⟨u,hu,ru⟩:=rv.get hx
  obtain ⟨⟨old,he⟩,hit⟩:=st
  have p' : s.heap.IsList a its.toArray:=p.isList
  have fe:=hf e (by simp)
  have fi:=hf it (by simp)
  have ne : e ≠ it:=fun z => by
   subst z
   obtain ⟨o,e1,c,d⟩:=hit
   rw [he] at e1
   cases e1
   have c' : Value.type "enumerate" = Value.type "list_iterator" := c
   injection c' with c'
   exact absurd c' (by decide)
  have nae : a ≠ e:=fun z => by
   subst z
   obtain ⟨o,e1,c,d⟩:=p'
   rw [he] at e1
   cases e1
   have c' : Value.type "enumerate" = Value.type "list" := c
   injection c' with c'
   exact absurd c' (by decide)
  have nai : a ≠ it:=fun z => by
   subst z
   obtain ⟨o,e1,c,d⟩:=p'
   obtain ⟨o2,e2,c2,d2⟩:=hit
   rw [e1] at e2
   cases e2
   rw [c] at c2
   injection c2 with c'
   exact absurd c' (by decide)
  have hi : i < its.toArray.size:=by
   have : i < its.length:=(List.getElem?_eq_some_iff.mp hu).1
   simpa using this
  have D:=Draws.list (prog:=X.prog) (w:=X.w) (A:=X.A.in1) (show X.A.in1.handled = none from I.ok.hd hc) it a nai its.toArray
  refine wpAny_pyNext_enum_itemD D he ⟨hit,p'⟩ hi ne (by simp [ne,Ne.symm nae]) fun y h1 tk hy ho st1 hT hsz hk => ?_
  have ey : y = u:=by
   have : its.toArray[i]? = some u:=by simpa using hu
   rw [this] at hy
   exact (Option.some.inj hy).symm
  subst ey
  refine ⟨_,rfl,wpAny_letOwnedTupleGo_enum ho fun h2 he2 hs2 => ?_⟩
  have fr : H s.heap.objs.size = none:=I.hok.fresh (Nat.le_refl _)
  have I1 : Inv X pins σ (upd H s.heap.objs.size (.tup [.int i,x])) { s with heap:=s.heap.push { cls:=.type "tuple",data:=.seq #[.int i tk,y] },toks:=tk + 1 }:=
   I.laid (o:=.tup [.int i,x]) (fun b ob q => Heap.get?_push_of_some _ q) (Nat.le_refl _) ⟨by show 2 <= sizeLine; decide,[.int i tk,y],.cons ⟨tk,rfl⟩ (.cons ru .nil),⟨_,Heap.get?_push_size _ rfl,rfl,_,rfl⟩⟩
  have lt : ∀ b ∈ [e,it],b < s.heap.objs.size:=fun b hb => by
   have q : b = e \/ b = it:=by simpa using hb
   rcases q with rfl | rfl
   ·exact Heap.lt_size he
   ·obtain ⟨o,e1,_⟩:=hit
    exact Heap.lt_size e1
  have f2 : ∀ b ∈ [e,it],mR X pins (upd H s.heap.objs.size (.tup [.int i,x])) b:=fun b hb => by
   refine ⟨?_,(hf b hb).2⟩
   rw [aj (Nat.ne_of_lt (lt b hb))]
   exact (hf b hb).1
  have I2 : Inv X pins σ (upd H s.heap.objs.size (.tup [.int i,x])) { s with heap:=h2,toks:=tk + 1 }:=by
   refine I1.turned2 (t' := tk + 1) (h' := h2) (fun b o b1 b2 q => ?_) (f2 e (by simp)) (f2 it (by simp))
   refine (hs2.2 b b1).trans ?_
   rcases Heap.get?_push_cases (show (s.heap.push { cls:=.type "tuple",data:=.seq #[.int i tk,y] }).get? b = some o from q) with ⟨rfl,rfl⟩ | z
   ·exact hT
   ·exact hk b o b1 b2 z
  refine ⟨.ref s.heap.objs.size,_,I2,rfl,⟨s.heap.objs.size,x,rfl,fr,rfl,fun ys hy => by rw [I.list_inj hy hq]; exact hx⟩,⟨⟨y,?_⟩,?_⟩,fun b hb => (f2 b hb).1⟩
  ·have : ((i + 1 : Nat) : Int) = (i : Int) + 1:=by push_cast; rfl
   rw [this]
   exact he2
  ·exact st1.1.at fun o z => (hs2.2 it (Ne.symm ne)).trans z
 done:=by
  intro X hP hw hK hc i pins s σ H E I hf st hg
  subst hP hw hK
  obtain ⟨xs,hq,hx⟩:=hg
  obtain ⟨its,rv,p,hz⟩:=I.list hq
  obtain ⟨⟨old,he⟩,hit⟩:=st
  obtain ⟨f0,f1,f2,f3,f4,f5⟩:=hf it (by simp)
  have p' : s.heap.IsList a its.toArray:=p.isList
  have hl:=rv.length
  have hT : s.TypeIs (.ref e) "enumerate" := ⟨_,he,rfl⟩
  unfold pyNext
  refine wpAny_bind (wpAny_attempt (wpAny_callSpecial?_slot (name:=Str.ofString "__next__") hT F.slot_enumerate_next
   (wpAny_call_entry F.slot_enumerate_next hT F.entry_enumerate_next ?_ (F.args_enumerate_next_1 _))))
  show wpAny _ _ (field (.ref e) 2 >>= _) _ _ _
  refine wpAny_bind (wpAny_field he rfl (x:=.ref it) rfl ?_)
  refine wpAny_bind (wpAny_nextOf_list_end (show X.A.in1.handled = none from I.ok.hd hc) hit p' (by simp; omega) fun h' x he' hx' => ?_)
  obtain ⟨o,ho,hcl⟩:=hx'
  refine wpAny_bind (wpAny_isInstance (T := "StopIteration") (b:=true) ⟨o,ho,hcl⟩ isSubtype_stop ?_)
  exact wpAny_pure ⟨rfl,I.turned (t' := s.toks) (fun b o hb z => he' b o hb z) f0 f1 f3 f4 f5⟩
 self:=fun _ _ _ _ _ st h => let ⟨_,z⟩:=st.1; wpAny_pyIter_enum z h
section
variable {X : Cx}
def Iu (K : PySem.W.Frag) (tl : TA) : TI:=fun σ H R => tl σ H fun vs H1 => ∃ a,vs = [.ref a] /\ (∃ xs,SqL K H1 a xs) /\ R (DG K a) H1
theorem vF {elts : List Expr} {x1 : _} {tpos : Pos} {l : Expr} {tl : TA} {p pos : Pos} (hg : Gl X "enumerate") (hm : X.mg "enumerate" = none) (hl : PA X [l] tl) (hs : starEach [l] X.env = [(false,eval l X.env)]:=by rfl) :
  PI X (.Tuple elts x1 tpos) (.Call (.Name "enumerate" p) [l] [] pos) (Iu X.K tl):=by
 intro pins s σ H R I h
 refine Call_ (kI I hg hm pz (PyProof.Rows.callWith_type1 (thn (hl pos pins s σ H _ I h) fun us s1 ⟨vs,H1,I1,r1,q1⟩ => ?_) hs rfl))
 obtain ⟨a,e,⟨xs,hq⟩,q⟩:=q1
 subst e
 cases r1 with
 | cons r rr =>
  cases rr
  cases r
  obtain ⟨its,rv,p,hz⟩:=I1.list hq
  refine call_enumerate_list (show s1.heap.IsList a its.toArray from p.isList) fun h' he hit hsz hk => ?_
  refine wpAny_pyIter_enum he ?_
  refine ⟨s1.heap.objs.size + 1,[s1.heap.objs.size + 1,s1.heap.objs.size],_,_,H1,rfl,I1.kept (t' := s1.toks) hk,CQ a _ s1.heap.objs.size,⟨⟨_,he⟩,hit⟩,fun b hb => ?_,q⟩
  have e : b = s1.heap.objs.size + 1 \/ b = s1.heap.objs.size:=by simpa using hb
  rcases e with rfl | rfl
  ·exact I1.fpOk (Nat.le_succ _) (I1.hok.fresh (Nat.le_succ _))
  ·exact I1.fpOk (Nat.le_refl _) (I1.hok.fresh (Nat.le_refl _))
end
theorem xY {K : PySem.W.Frag} {a : Addr} {xs : List V} {g : TG} {tb : TS} {D : Ends} {σ : St} {H : Hp} (Pv : Nat -> St -> Hp -> Prop) (h0 : Pv 0 σ H) (hl : ∀ i σ H,i <= xs.length -> Pv i σ H -> SqL K H a xs)
  (hs : ∀ i x σ H T,xs[i]? = some x -> Pv i σ H -> H T = none -> g (.ref T) σ (upd H T (.tup [.int i,x])) fun σ2 H2 => tb { D with nx:=Pv (i + 1),ct:=Pv (i + 1),bk:=D.nx } σ2 H2) (hd : ∀ σ H,Pv xs.length σ H -> D.nx σ H) :
  ∃ W : Nat -> Nat -> St -> Hp -> Prop,(∃ m,W 0 m σ H) /\ ∀ i m σ H,W i m σ H ->
   ((DG K a).stop i H /\ D.nx σ H) \/ ((DG K a).go i H /\ ∃ N : St -> Hp -> Prop,(∀ σ' H',N σ' H' -> ∃ m',m' < m /\ W (i + 1) m' σ' H') /\ ∀ x H',(DG K a).yld i H x H' -> g x σ H' fun σ2 H2 => tb { D with nx:=N,ct:=N,bk:=D.nx } σ2 H2):=by
 refine ⟨fun i m σ H => m = xs.length - i /\ i <= xs.length /\ Pv i σ H,⟨xs.length,by simp,Nat.zero_le _,h0⟩,?_⟩
 rintro i m σ H ⟨rfl,hi,p⟩
 have q:=hl i σ H hi p
 by_cases hlt : i < xs.length
 ·refine .inr ⟨⟨xs,xs[i],q,by simp [hlt]⟩,Pv (i + 1),fun σ' H' p' => ⟨xs.length - (i + 1),by omega,rfl,hlt,p'⟩,fun x H' y => ?_⟩
  obtain ⟨T,x0,rfl,hT,rfl,y⟩:=y
  exact hs i x0 σ _ T (y xs q) p hT
 ·have e : i = xs.length:=by omega
  subst e
  exact .inl ⟨⟨xs,q,Nat.le_refl _⟩,hd σ H p⟩
end L2
set_option Elab.async false
set_option linter.all false
set_option maxRecDepth 100000
set_option maxHeartbeats 4000000
namespace L2
open PySem PySem.Spec PyProof.Rows
theorem GF {B : St} {t u a b : Option V} : ((((B.set 0 t).set 1 u).set 0 a).set 1 b) = (B.set 0 a).set 1 b:=by
 rw [List.set_comm u a (l:=B.set 0 t) (by decide : (1 : Nat) ≠ 0),List.set_set,List.set_set]
theorem Bk {J : It} {n : Nat} {item : Nat -> V} {ix : List (Option Nat)} {g : TG} {te : TE} {σ : St} {H : Hp} {Qd : Addr -> Hp -> Prop} (Pv : Addr -> Nat -> List V -> Hp -> Prop)
  (hg : ∀ (T : Addr) (σ : St) (H : Hp) (Q : St -> Hp -> Prop) (i : Int) (x : V),H T = some (.tup [.int i,x]) -> Q ((σ.set 0 (some (.int i))).set 1 (some x)) H -> g (.ref T) σ H Q)
  (h0 : ∀ D,H D = none -> Pv D 0 [] (upd H D (.lst [])))
  (hgo : ∀ D i ys H',i < n -> Pv D i ys H' -> J.go i H' /\ ∀ x H2,J.yld i H' x H2 -> ∃ T,x = .ref T /\ H' T = none /\ H2 = upd H' T (.tup [.int i,item i]))
  (hst : ∀ D ys H',Pv D n ys H' -> J.stop n H')
  (hs : ∀ D i ys H' T (Q' : VK),H D = none -> i < n -> H' D = some (.lst ys) -> Pv D i ys H' -> H' T = none -> (∀ y H4,H4 D = some (.lst ys) -> ys.length < sizeLine -> Pv D (i + 1) (ys ++ [y]) (upd H4 D (.lst (ys ++ [y]))) -> Q' y H4) ->
   te (((bg ix σ).set 0 (some (.int i))).set 1 (some (item i))) (upd H' T (.tup [.int i,item i])) Q')
  (hd : ∀ D ys H',H D = none -> H' D = some (.lst ys) -> Pv D n ys H' -> Qd D H') : sI J ix g te σ H Qd:=by
 intro D hD
 refine ⟨fun i m σ' H' => m = n - i /\ i <= n /\ (σ' = bg ix σ \/ ∃ t u,σ' = ((bg ix σ).set 0 t).set 1 u) /\ ∃ ys,H' D = some (.lst ys) /\ Pv D i ys H',⟨n,by simp,Nat.zero_le _,.inl rfl,[],af,h0 D hD⟩,?_⟩
 rintro i m σ' H' ⟨rfl,hi,hσ,ys,hy,p⟩
 by_cases hlt : i < n
 ·obtain ⟨g1,g2⟩:=hgo D i ys H' hlt p
  refine .inr ⟨g1,fun x H2 y => ?_⟩
  obtain ⟨T,rfl,hT,rfl⟩:=g2 x H2 y
  refine hg T σ' _ _ i (item i) af ?_
  have es : ((σ'.set 0 (some (V.int i))).set 1 (some (item i))) = ((bg ix σ).set 0 (some (V.int i))).set 1 (some (item i)):=by
   rcases hσ with z | ⟨t,u,z⟩
   ·rw [z]
   ·rw [z,GF]
  show te ((σ'.set 0 (some (V.int i))).set 1 (some (item i))) _ _
  rw [es]
  refine hs D i ys _ T _ hD hlt hy p hT fun y H4 h4 hz p4 => ⟨ys,h4,hz,n - (i + 1),by omega,rfl,hlt,.inr ⟨_,_,rfl⟩,ys ++ [y],af,p4⟩
 ·have e : i = n:=by omega
  subst e
  exact .inl ⟨hst D ys H' p,hd D ys H' hD hy p⟩
end L2
set_option Elab.async false
set_option linter.all false
set_option maxRecDepth 100000
namespace L2
open PySem PySem.Spec PyProof.Rows
section
variable {X : Cx} {pins : List (Addr × Obj)} {σ : St} {H H' : Hp} {s : Shared} {h' : Heap}
end
theorem Dr {k : Key} {v : Value} (h : sV k v = true) : RelV (kV k) v:=by
 rcases bQ h with ⟨n,t,rfl,rfl⟩ | ⟨x,t,rfl,rfl⟩
 ·exact ⟨t,rfl⟩
 ·exact ⟨t,rfl⟩
section
variable {X : Cx}
abbrev pd (v d : Addr) : HO:=.ext fun h => h.IsItemsView v d
def Jd : V -> List V -> Hp -> VK -> Prop:=fun x vs H Q => ∃ d kvs,x = .ref d /\ vs = [] /\ H d = some (.dK kvs) /\ ∀ v,H v = none -> Q (.ref v) (upd H v (pd v d))
theorem FE : MtM X "dict.items" Jd:=by
 intro pins s σ H x vs v us Q I rx rv h
 obtain ⟨d,kvs,rfl,rfl,hd,q⟩:=h
 cases rx
 have hus:=rv.zero
 subst hus
 obtain ⟨z,lo,vs,kv,dof⟩:=(show ObjOk X.prog X.w H s.heap d (.dK kvs) from I.hok d _ hd)
 refine call_meetsIn PySem.F.slot_dict_items dof.typeIs PySem.F.entry_dict_items (PySem.F.args_dict_items_1 _) (meets_dict_items (bb X.prog X.w) d lo) ⟨⟨vs,dof⟩,?_⟩
 refine ⟨.ref _,_,I.laid (o:=pd s.heap.objs.size d) (t' := s.toks) (fun b o e => Heap.get?_push_of_some _ e) (Nat.le_refl _) ?_,rfl,q _ (I.hok.fresh (Nat.le_refl _))⟩
 exact ⟨⟨_,Heap.get?_push_size _ rfl,rfl,rfl⟩,⟨_,Heap.get?_push_size _ rfl⟩,fun h1 h2 ⟨o,ho,x⟩ kp => ⟨o,kp o ho,x⟩⟩
end
end L2
set_option Elab.async false
set_option linter.all false
set_option maxRecDepth 100000
namespace L2
open PySem PySem.Spec PyProof.Rows
section
variable {X : Cx}
end
end L2
set_option Elab.async false
set_option linter.all false
set_option maxRecDepth 100000
namespace L2
open PySem PySem.Spec PyProof.Rows
section
variable {X : Cx}
end
end L2
namespace PySem
open PyProof.Rows
namespace F
end F
section
variable {prog : Program} {w : World} {A : Around} {E : Value -> Shared -> Prop} {s : Shared}
end
end PySem
namespace L2
open PySem PySem.Spec PyProof.Rows
section
variable {X : Cx} {tg : Expr}
end
end L2
set_option Elab.async false
set_option linter.all false
set_option maxRecDepth 100000
set_option maxHeartbeats 4000000
namespace L2
open PySem PySem.Spec PyProof.Rows
section
variable {X : Cx}
end
section
variable {X : Cx}
theorem HA (K : PySem.W.Frag) {es : List Expr} {k : Nat} {pos : Pos} {t : TGs} {n : Nat} (hc : X.calm = true) (h : PGs X es t) (hK : X.K = K:=by rfl)
  (hn : (assignEach es X.env).length = n:=by rfl) (hst : (assignEach es X.env).findIdx? (·.1) = none:=by rfl) : PG X (.Tuple es k pos) (JE K n t):=by
 subst hK
 exact oE hc h hn hst
theorem F9 {m : Str} {C : Addr} {j k : Nat} {ps : List Str} {sp : Sp} {apos pos : Pos} {o : Expr} {ta : TE} {pl : Sem Bool} (G : DefMe X.prog X.w X.K X.mg X.base C m k ps sp) (hr : Room j X.A) (ho : PE X o ta) (hkj : k <= j:=by decide)
  (ht : eval (.Call (.Attribute o m apos) [] [] pos) X.env = (do
   let ov <- eval o X.env
   standAt apos.atName
   let (f,first) <- holding [ov] (getMethod ov m pl)
   callWith pos f first (backTo pos (starEach [] X.env)) (backToKw pos (keywordEach [] X.env))):=by rfl) :
  PE X (.Call (.Attribute o m apos) [] [] pos) (DC C m sp [] E0 ta HS):=by
 obtain ⟨f,fd,hm,hb,F⟩:=G.ex
 exact Ga ho G.cl hm F (hr.mono hkj) hb .nil F7 ht
end
end L2
set_option Elab.async false
set_option linter.all false
set_option maxRecDepth 100000
set_option maxHeartbeats 4000000
namespace L2
open PySem PySem.Spec PyProof.Rows
section
variable {prog : Program} {w : World} {A : Around} {E : Value -> Shared -> Prop} {s : Shared}
structure ZipFar3 (z TI TO i1 i2 i3 : Addr) (fp1 fp2 fp3 : List Addr) : Prop where
 TIz : TI ≠ z
 TOz : TO ≠ z
 TITO : TI ≠ TO
 i1z : i1 ≠ z
 i2z : i2 ≠ z
 i3z : i3 ≠ z
 TIi1 : TI ≠ i1
 TIi2 : TI ≠ i2
 TIi3 : TI ≠ i3
 TOi1 : TO ≠ i1
 TOi2 : TO ≠ i2
 TOi3 : TO ≠ i3
 z1 : z ∉ fp1
 TO1 : TO ∉ fp1
 i21 : i2 ∉ fp1
 i31 : i3 ∉ fp1
 z2 : z ∉ fp2
 TO2 : TO ∉ fp2
 i12 : i1 ∉ fp2
 i32 : i3 ∉ fp2
 z3 : z ∉ fp3
 TO3 : TO ∉ fp3
 i13 : i1 ∉ fp3
 i23 : i2 ∉ fp3
variable {z TI TO i1 i2 i3 : Addr} {fp1 fp2 fp3 : List Addr} {n1 n2 n3 k : Nat} {P1 P2 P3 : Nat -> Value -> Prop} {St1 St2 St3 : Nat -> Heap -> Prop} {a b c : Value}
end
section
variable {X : Cx}
end
section
variable {X : Cx}
end
theorem dR {t u : TS} {D : Ends} {σ : St} {H : Hp} (R : St -> Hp -> Prop) (h1 : ∀ σ' H',R σ' H' -> u D σ' H') (h2 : ∀ D' : Ends,(∀ σ' H',R σ' H' -> D'.nx σ' H') -> t D' σ H) : EU t u D σ H:=
 h2 { D with nx:=u D } h1
theorem lZ {X : Cx} : iR X (.builtin "len") (fun xs H Q => ∃ a kvs,xs = [.ref a] /\ H a = some (.dK kvs) /\ Q (.int kvs.length) H):=by
 intro pins s σ H xs us Q I r h
 obtain ⟨a,kvs,rfl,ha,q⟩:=h
 obtain ⟨u,rfl,rx⟩:=vals1 r
 cases rx
 exact JA I (.inl ha) fun t s' I' => ⟨.int kvs.length,H,I',⟨t,rfl⟩,q⟩
end L2
set_option Elab.async false
set_option linter.all false
set_option maxRecDepth 100000
set_option maxHeartbeats 4000000
namespace L2
open PySem PySem.Spec PyProof.Rows
structure BlkScope1 (NX : List Str) (scX : Scope) (N : List Str) (ix : List (Option Nat)) (sc : Scope) (x : Str) : Prop where
 kind : sc.kind = .function
 nd : N.Nodup
 cell : sc.names.lookup x = some .cell
 only : ∀ y ∈ sc.names,y.2 = .cell -> y.1 = x
 lay : ∀ n cl,cellsFrom n sc.names cl = (x,n) :: cl
 lays : ∀ h,pushCells h sc.names = h.push { cls:=.type "cell",data:=.cell none }
 locs : ∀ y ∈ sc.names,y.2 = .local -> sc.names.lookup y.1 = some .local
 free : ∀ y ∈ sc.names,y.2 = .free -> scX.names.lookup y.1 = some .cell \/ scX.names.lookup y.1 = some .free
 nofree : ∀ y ∈ sc.names,y.2 = .free -> y.1 ≠ x
 len : ix.length = N.length
 at_ : ∀ p ∈ N.zip ix,∀ i,p.2 = some i -> NX[i]? = some p.1 /\ sc.names.lookup p.1 = some .free
section
variable {X : Cx} {pins : List (Addr × Obj)} {σ : St} {H : Hp} {s : Shared} {N : List Str} {ix : List (Option Nat)} {scope : Scope} {fp : List Addr} {x : Str}
variable {tg elt iter : Expr} {pos spos : Pos} {J : It} {it : Addr} {tn : Nat -> Heap -> Prop} {g : TG} {te : TE} {wi : TI}
end
end L2
set_option Elab.async false
set_option linter.all false
set_option maxRecDepth 100000
namespace L2
open PySem PySem.Spec PyProof.Rows
abbrev Kd (xs : Array Nat) : Prop:=xs.toList.Pairwise (· < ·)
structure TabOk (t : SetTable) (led : Bool) : Prop where
 rise : Kd t.place
 nod : t.dummies = #[]
 led : t.led = led
abbrev byT (w : World) : Bool:=w.params.followText "set-order"
section
variable {P : Program} {w : World} {A : Around} {E : Value -> Shared -> Prop} {s : Shared}
end
end L2
set_option Elab.async false
set_option linter.all false
set_option maxRecDepth 100000
namespace L2
open PySem PySem.Spec PyProof.Rows
section
variable {P : Program} {w : World} {A : Around} {E : Value -> Shared -> Prop} {R : Result -> Shared -> Prop} {I : Addr} {fp wr : List Addr} {G : Array GenState -> Array GenState -> Prop} {n : Nat} {Pz : Nat -> Value -> Prop} {St : Nat -> Shared -> Prop}
end
section
variable {P : Program} {w : World} {A : Around} {E : Value -> Shared -> Prop} {s : Shared}
end
end L2
set_option Elab.async false
set_option linter.all false
set_option maxRecDepth 100000
namespace L2
open PySem PySem.Spec PyProof.Rows
namespace SF
end SF
def DF (h : Heap) (I S : Addr) (first : Value) (i n ep : Nat) : Prop := ∃ o,h.get? I = some o /\ o.cls = .type "set_iterator" /\ o.data = .fields #[first,.int i 0,.ref S,.int n 0,.int ep 0]
def Ik (w : World) (es : Array (Int × Value)) (ep : Nat) (t : SetTable) (S T : Addr) (L : List Value) (h : Heap) (i : Nat) (first : Value) : Prop:=
 (byT w = true /\ (∃ z : Nat,first = .int z 0) /\ L = (pickOrder (w.params.setOrder S ep) es).toList.map (·.2)) \/
 (byT w = false /\ (t.plain = true \/ es.size <= 1) /\ (∃ z : Nat,first = .int z 0 /\ SetTable.below t.place z = i) /\ L = es.toList.map (·.2)) \/
 (byT w = false /\ first = .ref T /\ ∃ pl : List Nat,pl.Perm (List.range es.size) /\ (∃ o e,h.get? T = some o /\ o.data = .seq (pl.map fun p : Nat => Value.int (p : Int) 0).toArray e) /\ L = pl.map fun p => (es.getD p (0,.none)).2)
structure SetSt (w : World) (es : Array (Int × Value)) (ep : Nat) (t : SetTable) (S T I : Addr) (L : List Value) (i : Nat) (h : Heap) : Prop where
 set : ∃ o,h.get? S = some o /\ o.data = .set es ep t
 it : ∃ first,DF h I S first i es.size ep /\ Ik w es ep t S T L h i first
section
variable {P : Program} {w : World} {A : Around} {E : Value -> Shared -> Prop} {s : Shared} {es : Array (Int × Value)} {ep : Nat} {t : SetTable} {S T I : Addr} {L : List Value} {i : Nat}
end
end L2
set_option Elab.async false
set_option linter.all false
set_option maxRecDepth 100000
namespace L2
open PySem PySem.Spec PyProof.Rows
namespace SF
end SF
section
variable {P : Program} {w : World} {A : Around} {E : Value -> Shared -> Prop} {s : Shared} {es : Array (Int × Value)} {ep : Nat} {t : SetTable} {S T I : Addr} {L : List Value}
end
end L2
set_option Elab.async false
set_option linter.all false
set_option maxRecDepth 100000
namespace L2
open PySem PySem.Spec PyProof.Rows
section
variable {P : Program} {w : World} {A : Around} {E : Value -> Shared -> Prop} {s : Shared} {S : Addr} {ns : List Int}
end
end L2
set_option Elab.async false
set_option linter.all false
set_option maxRecDepth 100000
namespace L2
open PySem PySem.Spec PyProof.Rows
def bj (ns : List Int) : List Int:=ns.foldl step_dedup []
theorem DS {s : List Int} {v k : Int} : k ∈ step_dedup s v ↔ k ∈ s \/ k = v:=by
 unfold step_dedup
 split
 ·rename_i h
  have hv : v ∈ s:=by simpa using h
  exact ⟨.inl,fun z => z.elim id fun e => e ▸ hv⟩
 ·simp
theorem tj : ∀ (ns s : List Int) (k : Int),k ∈ ns.foldl step_dedup s ↔ k ∈ s \/ k ∈ ns
 | [],s,k => by simp
 | n :: r,s,k => by
  rw [List.foldl_cons,tj r,DS,List.mem_cons]
  constructor
  ·rintro ((h | h) | h)
   ·exact .inl h
   ·exact .inr (.inl h)
   ·exact .inr (.inr h)
  ·rintro (h | h | h)
   ·exact .inl (.inl h)
   ·exact .inl (.inr h)
   ·exact .inr h
theorem once_mem {ns : List Int} {k : Int} : k ∈ bj ns ↔ k ∈ ns:=by
 unfold bj
 rw [tj]
 simp
theorem dW : ∀ (ns s : List Int),(ns.foldl step_dedup s).length <= s.length + ns.length
 | [],s => Nat.le_refl _
 | n :: r,s => by
  refine Nat.le_trans (dW r _) ?_
  have : (step_dedup s n).length <= s.length + 1:=by
   unfold step_dedup
   split
   ·exact Nat.le_succ _
   ·rw [List.length_append]; exact Nat.le_refl _
  rw [List.length_cons]
  omega
theorem p6 (ns : List Int) : (bj ns).length <= ns.length:=by
 have q:=dW ns []
 unfold bj
 simpa using q
section
variable {X : Cx}
end
end L2
set_option Elab.async false
set_option linter.all false
set_option maxRecDepth 100000
namespace PySem
open PyProof.Rows
theorem vh : typeLookup (.type "list") "keys" = pure none:=by rw [typeLookup_type,builtinLookup_eq_fast]; kernel_rfl
theorem lK {prog : Program} {w : World} {A : Around} {E : Value -> Shared -> Prop} {s : Shared} {a : Addr} {xs : Array Value} {k : Nat} {sl : Array (Option Value)} {Q : Option Value -> Shared -> Prop}
  (hx : s.heap.get? a = some { cls:=.type "list",dict:=none,data:=.seq xs k,slots:=sl }) (hA : A.handled = none)
  (h : ∀ h' tk,(∀ b o,s.heap.get? b = some o -> h'.get? b = some o) -> Q none { s with heap:=h',toks:=tk }) : wpAny (model prog w) A (getAttr? (.ref a) "keys") Q E s:=by
 obtain ⟨hp,g,d,tk,os⟩:=s
 have hT : ∀ tk',(⟨hp,g,d,tk',os⟩ : Shared).TypeIs (.ref a) "list" := fun _ => ⟨_,hx,rfl⟩
 have f1:=sub_AttributeError
 have f3:=F.slot_list_getattribute.lookup
 have f4:=F.slot_list_getattribute.bind (.ref a)
 have f5:=am_list_getattr_none
 have hmiss:=vh
 have hname : (["__module__","__name__","__qualname__","__doc__","__annotations__"] : List Str).contains (Str.ofString "keys") = false:=by decide +kernel
 unfold getAttr? getAttrBy? getAttrBy
 repeat (any_goals (first | assumption | exact hT _ | ((with_reducible show wpAny _ _ (call (Value.builtin "list.__getattribute__") _ _) _ _ _); refine call_meets F.slot_list_getattribute (hT _) am_entry_list_getattribute (F.args_list_getattribute_2 _ _) (meets_getattribute_miss_list a xs k sl (Str.ofString "keys") _ hmiss hname (by decide)) ⟨hx,hA,fun h' tk' e hx' => ?_⟩) | wp_step))
 obtain ⟨t',u',he⟩:=hx'.there
 show wpAny _ _ (getattributeRaised _ _ _ _ _ _ _) _ _ _
 unfold getattributeRaised
 repeat (any_goals (first | assumption | wp_step))
 exact h h' tk' hx'.keeps
section
variable {prog : Program} {w : World} {K : Type} [DecidableEq K] {knd : KeyKind prog w K} {A : Around} {E : Value -> Shared -> Prop} {s : Shared} {R : Result -> Shared -> Prop}
theorem cO : entryFor table "dict.update.loop" = some Builtin.«dict.update.loop» := entryFor_of_tree (by kernel_rfl)
theorem bx : plainId "dict.update.loop" = true:=by decide +kernel
def uC (knd : KeyKind prog w K) (h : Heap) (ts : List Addr) (ps : List (K × Value)) : Prop := ∀ (j : Nat) (t : Addr) (p : K × Value),ts[j]? = some t -> ps[j]? = some p -> ∃ key,knd.is p.1 key = true /\ IsTup h t #[key,p.2]
theorem AX {D I l : Addr} {ts : List Addr} {ps : List (K × Value)} (W : Walks prog w A.in1 I [I,l] [I] ts.length (fun i v => (ts.map Value.ref).toArray[i]? = some v) (fun i h => h.IsListIter I l i /\ h.IsList l (ts.map Value.ref).toArray))
  (hl : ts.length = ps.length) (hDI : D ≠ I) (hDl : D ≠ l) (hDt : ∀ t ∈ ts,t ≠ D /\ t ≠ I) (hz : ps.length <= sizeLine) :
  ∀ (k i : Nat) (s : Shared) (acc : List (K × Value)),ts.length - i = k -> i <= ts.length -> (s.heap.IsListIter I l i /\ s.heap.IsList l (ts.map Value.ref).toArray) -> s.heap.DictOf knd D acc -> acc.length <= i -> uC knd s.heap ts ps ->
  (∀ h' tk,(∀ b o,b ≠ D -> b ≠ I -> s.heap.get? b = some o -> h'.get? b = some o) -> h'.DictOf knd D (merged acc (ps.drop i)) -> R (.ok (.ret .none)) { s with heap:=h',toks:=tk }) ->
  codeAny (model prog w) A (.builtin "dict.update.loop" ⟨[.ref D,.ref I,rawInt (i : Int),.none],[]⟩) R s:=by
 intro k
 induction k with
 | zero =>
  intro i s acc hk hi hst hD hacc hP hR
  have hin : i = ts.length:=by omega
  subst hin
  refine codeAny_builtin cO ?_
  rw [Around.under_plainId bx _]
  show wpAny _ A.in1 (pyNext (.ref I) >>= _) _ _ s
  refine wpAny_bind (W.done s _ _ hst fun h' tk hm => ?_)
  show wpAny _ _ (Builtin.Dict.addKeywords D [] >>= _) _ _ _
  refine wpAny_bind (wpAny_of_eq (a:=()) rfl ?_)
  have e : ps.drop ts.length = []:=by rw [hl,List.drop_length]
  refine wpAny_pure (hR h' tk (fun b o _ hb q => hm b o (by simpa using hb) q) ?_)
  rw [e]
  exact hD.extBut (b:=I) (fun b o hb q => hm b o (by simpa using hb) q) hDI
 | succ k ih =>
  intro i s acc hk hi hst hD hacc hP hR
  have hlt : i < ts.length:=by omega
  have hlt2 : i < ps.length:=by omega
  refine codeAny_builtin cO ?_
  rw [Around.under_plainId bx _]
  show wpAny _ A.in1 (pyNext (.ref I) >>= _) _ _ s
  refine wpAny_bind (W.item i s _ _ hlt hst fun v h' tk hv hst' hm => ?_)
  have ev : v = .ref ts[i]:=by
   have : (ts.map Value.ref).toArray[i]? = some (.ref ts[i]):=by simp [hlt]
   rw [this] at hv
   exact (Option.some.inj hv).symm
  subst ev
  have keep : ∀ b o,b ≠ I -> s.heap.get? b = some o -> h'.get? b = some o:=fun b o hb q => hm b o (by simpa using hb) q
  obtain ⟨key,hkey,ht⟩:=hP i ts[i] ps[i] (List.getElem?_eq_getElem hlt) (List.getElem?_eq_getElem hlt2)
  have tn:=hDt ts[i] (List.getElem_mem hlt)
  have ht' : IsTup h' ts[i] #[key,(ps[i]).2]:=ht.extBut (b:=I) keep tn.2
  have hD' : h'.DictOf knd D acc:=hD.extBut (b:=I) keep hDI
  obtain ⟨ot,hot,hct,nt,hdt⟩:=id ht'
  try dsimp only
  refine wpAny_bind (wpAny_holding ?_)
  refine wpAny_bind (wpAny_tryCatch ?_)
  unfold Builtin.Dict.pairItems
  refine wpAny_bind (wpAny_typeOf (s:={ s with heap:=h',toks:=tk }) ht'.typeIs ?_)
  rw [if_pos (by decide)]
  refine wpAny_bind (wpAny_seqItems (s:={ s with heap:=h',toks:=tk }) hot hdt ?_)
  refine wpAny_pure ?_
  show wpAny _ _ (holding [key,(ps[i]).2] (dictSet D key (ps[i]).2)) _ _ _
  refine wpAny_holding (wpAny_dictSet_pairs (knd:=knd) (s:={ s with heap:=h',toks:=tk }) hkey hD' (fun h2 hD2 sb2 => ?_) (by omega))
  have keep2 : ∀ b o,b ≠ D -> h'.get? b = some o -> h2.get? b = some o:=fun b o hb q => sb2.extBut b o hb q
  refine wpAny_pure ⟨plainId_quiet bx _,?_⟩
  have ri : rawInt ((i : Int) + 1) = rawInt (((i + 1 : Nat)) : Int):=by push_cast; rfl
  rw [ri]
  refine ih (i + 1) { s with heap:=h2,toks:=tk + 1 } (stored acc (ps[i]).1 (ps[i]).2) (by omega) hlt ⟨hst'.1.at fun o q => keep2 I o (Ne.symm hDI) q,hst'.2.at fun o q => keep2 l o (Ne.symm hDl) q⟩ hD2 (by
   have:=stored_length_le acc (ps[i]).1 (ps[i]).2
   omega) (fun j t p h1 h2' => ?_) (fun h3 tk3 kp3 hD3 => ?_)
  ·obtain ⟨key',hk',ht''⟩:=hP j t p h1 h2'
   have tn' := hDt t (List.mem_of_getElem? h1)
   exact ⟨key',hk',(ht''.extBut (b:=I) keep tn'.2).extBut (b:=D) keep2 tn'.1⟩
  ·refine hR h3 tk3 (fun b o hb hb2 q => kp3 b o hb hb2 (keep2 b o hb (keep b o hb2 q))) ?_
   rw [List.drop_eq_getElem_cons hlt2]
   exact hD3
theorem tF {l : Addr} {ts : List Addr} {ps : List (K × Value)} {c : Nat} {Q : Value -> Shared -> Prop} (hh : A.handled = none) (hL : s.heap.get? l = some { cls:=.type "list",dict:=none,data:=.seq (ts.map Value.ref).toArray c,slots := #[] })
  (hl : ts.length = ps.length) (hP : uC knd s.heap ts ps) (hz : ps.length <= sizeLine)
  (hQ : ∀ h' tk,(∀ b o,s.heap.get? b = some o -> h'.get? b = some o) -> h'.DictOf knd s.heap.objs.size (merged [] ps) -> Q (.ref s.heap.objs.size) { s with heap:=h',toks:=tk }) :
  wpAny (model prog w) A (call (.type "dict") [.ref l]) Q E s:=by
 refine callType_codes (Q₁:=fun obj s₁ => obj = .ref s.heap.objs.size /\ s₁ = { s with heap:=s.heap.push { cls:=.type "dict",data:=.dict #[] } }) F.kt_called_dict (F.kt_typeCall_dict_1 _) F.entry_dict_init (kt_code_dict_new _ ⟨rfl,rfl⟩) ?_
 rintro obj s₁ ⟨rfl,rfl⟩
 have hnew : (s.heap.push { cls:=.type "dict",data:=.dict #[] }).DictOf knd s.heap.objs.size []:=Heap.DictOf.new s.heap
 have hlt : l < s.heap.objs.size:=Heap.lt_size hL
 have hL' : (s.heap.push { cls:=.type "dict",data:=.dict #[] }).get? l = some { cls:=.type "list",dict:=none,data:=.seq (ts.map Value.ref).toArray c,slots := #[] }:=Heap.get?_push_of_some _ hL
 refine ⟨hnew.typeIs,F.args_dict_init_2 _ _,?_⟩
 unfold Builtin.«dict.__init__»
 refine wpAny_bind ?_
 unfold Builtin.Dict.selfAndRest
 refine wpAny_bind (wpAny_notOrdered_dict hnew.typeIs ?_)
 show wpAny _ _ (pure (s.heap.objs.size,[Value.ref l])) _ _ _
 refine wpAny_pure ?_
 show wpAny _ _ (Builtin.Dict.updateFrom "dict.__init__" s.heap.objs.size (.ref l) [] .none) _ _ _
 unfold Builtin.Dict.updateFrom
 refine wpAny_bind (wpAny_typeOf (T := "list") ⟨_,hL',rfl⟩ ?_)
 rw [if_pos (by decide)]
 refine wpAny_bind (lK hL' hh fun h1 tk1 kp1 => ?_)
 rw [if_pos (by rfl)]
 refine wpAny_bind (wpAny_rule ?_)
 have hL1:=kp1 _ _ hL'
 have il1 : Heap.IsList h1 l (ts.map Value.ref).toArray:=⟨_,hL1,rfl,c,rfl⟩
 refine wpAny_bind (wpAny_pyIter_list (s:={ s with heap:=h1,toks:=tk1 }) il1 ?_)
 refine wpAny_pure ⟨plainId_quiet bx _,?_⟩
 have oI : (h1.push { cls:=.type "list_iterator",data:=.fields #[.ref l,.int 0 0] }).get? h1.objs.size = some { cls:=.type "list_iterator",data:=.fields #[.ref l,.int 0 0] }:=Heap.get?_push_size _ rfl
 have l1 : l < h1.objs.size:=Heap.lt_size hL1
 have d1 : s.heap.objs.size < h1.objs.size:=Heap.lt_size (kp1 _ _ (Heap.get?_push_size s.heap rfl))
 have W:=Walks.list (prog:=prog) (w:=w) (A:=A.in1.in1) hh h1.objs.size l (Nat.ne_of_lt l1) (ts.map Value.ref).toArray
 have sz : (ts.map Value.ref).toArray.size = ts.length:=by simp
 rw [sz] at W
 have kp2 : ∀ b o,s.heap.get? b = some o -> (h1.push { cls:=.type "list_iterator",data:=.fields #[.ref l,.int 0 0] }).get? b = some o:=fun b o q => Heap.get?_push_of_some _ (kp1 _ _ (Heap.get?_push_of_some _ q))
 refine AX (A:=A.in1) (knd:=knd) (D:=s.heap.objs.size) (ps:=ps) W hl (Nat.ne_of_lt d1) (Nat.ne_of_gt hlt) (fun t ht => ?_) hz ts.length 0 { s with heap:=h1.push { cls:=.type "list_iterator",data:=.fields #[.ref l,.int 0 0] },toks:=tk1 } [] rfl (Nat.zero_le _) ⟨⟨_,oI,rfl,rfl⟩,il1.at fun o q => Heap.get?_push_of_some _ q⟩ ?_ (Nat.zero_le _) (fun j t p a1 a2 => ?_) (fun h3 tk3 kp3 hD3 => ?_)
 ·obtain ⟨j,hj⟩:=List.mem_iff_getElem?.mp ht
  have jl : j < ps.length:=by
   rw [<- hl]
   exact (List.getElem?_eq_some_iff.mp hj).1
  obtain ⟨key,_,o,ho,_⟩:=hP j t ps[j] hj (List.getElem?_eq_getElem jl)
  have tl:=Heap.lt_size ho
  exact ⟨Nat.ne_of_lt tl,Nat.ne_of_lt (Nat.lt_trans tl d1)⟩
 ·exact hnew.extBut (b:=h1.objs.size) (fun b o _ q => Heap.get?_push_of_some _ (kp1 _ _ q)) (Nat.ne_of_lt d1)
 ·obtain ⟨key,hk,ht⟩:=hP j t p a1 a2
  exact ⟨key,hk,ht.keeps kp2⟩
 ·exact ⟨rfl,hQ h3 tk3 (fun b o q => kp3 b o (Nat.ne_of_lt (Heap.lt_size q)) (Nat.ne_of_lt (Nat.lt_trans (Heap.lt_size q) d1)) (kp2 b o q)) hD3⟩
end
end PySem
namespace L2
open PySem PySem.Spec PyProof.Rows
section
variable {X : Cx}
def PairsV (H : Hp) : List Addr -> List (Key × V) -> Prop:=Paired fun a p => H a = some (.tup [kV p.1,p.2])
theorem vy {P : Program} {w : World} : ∀ {kvs : List (Key × V)} {ts : List Addr} {H : Hp} {h : Heap},PairsV H ts kvs -> HOk P w H h -> ∃ ps : List (Key × Value),KV kvs ps /\ ps.length = ts.length /\ uC (bb P w) h ts ps
 | [],[],_,_,.nil,_ => ⟨[],.nil,rfl,fun j t p h => by simp at h⟩
 | _,_,_,_,.cons (a:=a) (b:=p) (l₁:=ts) (l₂:=kvs) q t,ok => by
  obtain ⟨ps,r1,r2,r3⟩:=vy t ok
  obtain ⟨z,its,rv,ht⟩:=ok a _ q
  obtain ⟨u,v,rfl,ru,rv'⟩:=Vals.two rv
  refine ⟨(p.1,v) :: ps,.cons ⟨rfl,rv'⟩ r1,by simp [r2],fun j t' p' h1 h2 => ?_⟩
  cases j with
  | zero =>
   simp at h1 h2
   subst h1 h2
   exact ⟨u,mQ ru,by simpa using ht⟩
  | succ j => exact r3 j t' p' (by simpa using h1) (by simpa using h2)
def HI : List V -> Hp -> VK -> Prop:=fun xs H Q => ∃ l ts kvs,xs = [.ref l] /\ H l = some (.lst (ts.map V.ref)) /\ PairsV H ts kvs /\ ∀ D,H D = none -> Q (.ref D) (upd H D (.dK (cW [] kvs)))
theorem mr : ∀ {ts : List Addr} {us : List Value},Vals (ts.map V.ref) us -> us = ts.map Value.ref
 | [],_,.nil => rfl
 | t :: ts,_,.cons r q => by
  cases r
  rw [List.map_cons,mr q]
theorem k9 (hc : X.calm = true) : iR X (.type "dict") HI:=by
 intro pins s σ H xs us Q I r h
 obtain ⟨l,ts,kvs,rfl,hl,hp,q⟩:=h
 obtain ⟨u,rfl,rx⟩:=vals1 r
 cases rx
 obtain ⟨z,its,n,rv,hln,e⟩:=I.lstM hl
 have ei:=mr rv
 subst ei
 obtain ⟨ps,r1,r2,r3⟩:=vy hp I.hok
 have hlen : kvs.length = ps.length:=Paired.length r1
 have zl : ps.length <= sizeLine:=by
  rw [r2]
  rw [List.length_map] at z
  exact z
 refine tF (knd:=bb X.prog X.w) (I.ok.hd hc) e r2.symm r3 zl fun h' tk kp dd => ?_
 have ob : ObjOk X.prog X.w (upd H s.heap.objs.size (.dK (cW [] kvs))) h' s.heap.objs.size (.dK (cW [] kvs)):=by
  refine uW ?_ (beq_eq_false_iff_ne.mpr (Ne.symm (Nat.ne_of_lt I.big))) (KV.merge r1 .nil) dd
  have:=jc kvs []
  simp only [List.length_nil] at this
  omega
 exact ⟨.ref _,_,I.laid (t' := tk) kp (Nat.le_refl _) ob,rfl,q _ (I.hok.fresh (Nat.le_refl _))⟩
end
section
variable {X : Cx} {pins : List (Addr × Obj)} {σ : St} {H : Hp} {s : Shared} {a : Addr} {z : V} {u r : Value} {A : Around} {E : Value -> Shared -> Prop} {kvs : List (Key × V)} {k : Key}
theorem yC {Q : Value -> Shared -> Prop} (I : Inv X pins σ H s) (e : H a = some (.dK kvs)) (hz : kvs.length < sizeLine) (ry : RelV (kV k) u) (rz : RelV z r)
  (h1 : ∀ v w' s',ff kvs k = some v -> Inv X pins σ H s' -> RelV v w' -> Q w' s') (h2 : ∀ s',ff kvs k = none -> Inv X pins σ (upd H a (.dK (putK kvs k z))) s' -> Q r s') :
  wpAny (model X.prog X.w) A (call (.builtin "dict.setdefault") [.ref a,u,r]) Q E s:=by
 obtain ⟨zl,hd,vs,rel,dd⟩:=Df I.hok e
 have rv:=rel.val k
 refine call_meetsIn PySem.F.slot_dict_setdefault dd.typeIs PySem.F.entry_dict_setdefault (PySem.F.args_dict_setdefault_3 _ _ _) (kt_meets_setdefault (bb X.prog X.w) a (mQ ry) hd r) ⟨vs,dd,by rw [<- rel.length]; exact zl,fun v hv => ?_,fun hn h' dd' sb => ?_⟩
 ·cases hk : ff kvs k with
  | none => rw [hk,hv] at rv; exact rv.elim
  | some x =>
   rw [hk,hv] at rv
   exact h1 x v _ hk (I.tok _) rv
 ·have hk : ff kvs k = none:=by
   cases hk : ff kvs k with
   | none => rfl
   | some x => rw [hk,hn] at rv; exact rv.elim
  refine h2 _ hk (pF (t' := s.toks + 1) I (by rw [e]; trivial) sb ?_ (uW (kvs:=putK kvs k z) (by have:=gc kvs k z; omega) hd (rel.put k rz) dd'))
  obtain ⟨ob,_,_,g,_⟩:=dd'
  exact ⟨ob,g⟩
end
def JX (td ty tx : TE) : TE:=fun σ H Q => td σ H fun x H1 => ∃ a,x = .ref a /\ IsD H1 a /\ ty σ H1 fun y H2 => tx σ H2 fun z H3 => ∃ kvs k,H3 a = some (.dK kvs) /\ y = kV k /\ kvs.length < sizeLine /\
 (∀ v,ff kvs k = some v -> Q v H3) /\ (ff kvs k = none -> Q z (upd H3 a (.dK (putK kvs k z))))
section
variable {X : Cx} {o e f : Expr} {apos cpos : Pos} {td ty tx : TE}
theorem yY (ho : PE X o td) (he : PE X e ty) (hf : PE X f tx) (m : M2 X o "setdefault" apos e f cpos) : PE X (.Call (.Attribute o "setdefault" apos) [e,f] [] cpos) (JX td ty tx):=by
 intro pins s σ H Q I h
 refine wpAny_Call_method m.base m.few m.line PySem.F.plainAttrs_dict PySem.F.slot_dict_setdefault PySem.F.type_dict_setdefault (thn (ho pins s σ H _ I h) fun u s1 ⟨x,H1,I1,rx,a,ex,d,q1⟩ => ?_)
 subst ex
 obtain rfl : u = Value.ref a:=rx
 obtain ⟨t1,t2,_⟩:=BE I1 d
 refine ⟨t1,t2,?_⟩
 rw [m.trees]
 refine Calls.callWith_builtin rfl (Calls.evalArgs_plain (Calls.spliced_cons (thn (he pins s1 σ H1 _ I1 q1) fun iv s2 ⟨y,H2,I2,ry,q2⟩ =>
  Calls.spliced_cons (thn (hf pins s2 σ H2 _ I2 q2) fun fv s3 ⟨z,H3,I3,rz,kvs,k,ea,ey,hz,q3,q4⟩ => Calls.spliced_nil ?_))))
 subst ey
 exact yC I3 ea hz ry rz (fun v w' s' hv I4 rv => ⟨v,H3,I4,rv,q3 v hv⟩) fun s' hn I4 => ⟨z,_,I4,rz,q4 hn⟩
end
end L2
set_option Elab.async false
set_option linter.all false
set_option maxRecDepth 100000
namespace L2
open PySem PySem.Spec PyProof.Rows
section
variable {X : Cx} {pins : List (Addr × Obj)} {σ : St} {H : Hp} {s : Shared} {a : Addr} {o : Obj} {kvs : List (Key × V)}
theorem Inv.freeze (I : Inv X pins σ H s) (e : H a = some (.dK kvs)) (ho : s.heap.get? a = some o) : Inv X pins σ (upd H a (.frz o (.dK kvs))) s:=by
 have nt : ∀ b u,H b = some u -> (u = .dK kvs -> False) -> b ≠ a:=fun b u q d => aJ q e d
 refine I.un (t' := s.toks) ⟨fun b u q _ _ _ => q,fun b u q _ _ _ => ⟨u.slots,q⟩,fun b u q n _ => ?_,fun b u q _ => ⟨u,q⟩,fun b xs q => ?_,fun b u xs q => ?_,fun b ps q => ⟨#[],?_⟩⟩ (fun b u q => ?_)
 ·rw [aj (fun z => by rw [z,e] at n; cases n)]; exact n
 ·rw [aj (nt b _ q (by intro z; cases z))]; exact q
 ·rw [aj (nt b _ q (by intro z; cases z))]; exact q
 ·rw [aj (nt b _ q (by intro z; cases z)),q]; simp
 ·by_cases hb : b = a
  ·subst hb
   rw [af] at q
   cases q
   exact ⟨ho,(I.hok b _ e)⟩
  ·rw [aj hb] at q
   exact (I.hok b u q).stay (fun c v _ z => z) (fun c z => by rw [aj (nt c _ z (by intro y; cases y))]; exact z) fun c xs z => by rw [aj (nt c _ z (by intro y; cases y))]; exact z
end
def pJ (o : Obj) : Nat:=match o.data with
 | .dict _ ep => ep
 | _ => 0
def Itd (a : Addr) (o : Obj) (kvs : List (Key × V)) : It:=
 ⟨fun i H => i < kvs.length /\ H a = some (.frz o (.dK kvs)),fun i H x H' => H' = H /\ ∀ p,kvs[i]? = some p -> x = kV p.1,fun i H => kvs.length <= i /\ H a = some (.frz o (.dK kvs))⟩
def Iti (a : Addr) (o : Obj) (kvs : List (Key × V)) : It:=
 ⟨fun i H => i < kvs.length /\ H a = some (.frz o (.dK kvs)),fun i H x H' => ∃ T p,x = .ref T /\ H T = none /\ H' = upd H T (.tup [kV p.1,p.2]) /\ kvs[i]? = some p,fun i H => kvs.length <= i /\ H a = some (.frz o (.dK kvs))⟩
theorem jH {P : Program} {w : World} {H : Hp} {h : Heap} {a : Addr} {o : Obj} {kvs : List (Key × V)} (ok : HOk P w H h) (e : H a = some (.frz o (.dK kvs))) : ∃ vs,KV kvs vs /\ h.DictAt (bb P w) a vs (pJ o) /\ (a == sysModules) = false /\ h.get? a = some o:=by
 obtain ⟨ho,z,lo,vs,rel,ob,es,ep,hg,hx,hd,rest⟩:=ok a _ e
 rw [ho] at hg
 cases hg
 have ee : pJ o = ep:=by unfold pJ; rw [hd]
 exact ⟨vs,rel,⟨o,es,ho,hx,by rw [ee]; exact hd,rest⟩,lo,ho⟩
theorem EV {P : Program} {w : World} {K : PySem.W.Frag} {tg : Expr} (a it : Addr) (o : Obj) (kvs : List (Key × V)) : Turn P w K tg (Itd a o kvs) [it] it (fun i h => h.IsKeyIter it a i kvs.length (pJ o)) where
 mem:=by simp
 obj:=fun i h st b hb => by
  have e : b = it:=by simpa using hb
  subst e
  obtain ⟨o,e,c,d⟩:=st
  exact ⟨o,e,fun v z => by rw [d] at z; cases z⟩
 keep:=fun i h h' st k => by
  obtain ⟨ob,e,r⟩:=st
  exact ⟨ob,k it (by simp) ob e,r⟩
 item:=by
  intro X hP hw hK hc i pins s σ H E I hf st hg
  subst hP hw hK
  obtain ⟨hi,hfz⟩:=hg
  obtain ⟨vs,rel,dat,lo,ho⟩:=jH I.hok hfz
  have hlen : kvs.length = vs.length:=Paired.length rel
  have hv : i < vs.length:=by omega
  obtain ⟨f0,f1,f2,f3,f4,f5⟩:=hf it (by simp)
  rw [hlen] at st
  refine wpAny_pyNext_dict_item (knd:=bb X.prog X.w) st dat (k:=(vs[i]).1) (v:=(vs[i]).2) (List.getElem?_eq_getElem hv) fun key h' hk st' sb => ?_
  have I1 : Inv X pins σ H { s with heap:=h' }:=I.turned (t' := s.toks) (fun b o hb e => (sb.2 b hb).trans e) f0 f1 f3 f4 f5
  obtain ⟨p,e1,e2⟩:=gd rel (List.getElem?_eq_getElem hv)
  rw [<- hlen] at st'
  obtain ⟨ob,e,c,d⟩:=id st'
  refine ⟨key,rfl,zX (s:={ s with heap:=h' }) e c d (by decide) ⟨kV p.1,H,I1,?_,⟨rfl,fun p' hp' => by rw [e1] at hp'; cases hp'; rfl⟩,st',fun b hb => (hf b hb).1⟩⟩
  rw [e2.1]
  exact Dr hk
 done:=by
  intro X hP hw hK hc i pins s σ H E I hf st hg
  subst hP hw hK
  obtain ⟨hi,hfz⟩:=hg
  obtain ⟨vs,rel,dat,lo,ho⟩:=jH I.hok hfz
  have hlen : kvs.length = vs.length:=Paired.length rel
  obtain ⟨f0,f1,f2,f3,f4,f5⟩:=hf it (by simp)
  rw [hlen] at st
  exact wpAny_pyNext_dict_end (I.ok.hd hc) st dat (List.getElem?_eq_none (by omega)) fun h' eb => ⟨rfl,I.turned (t' := s.toks) (fun b o hb e => eb b o hb e) f0 f1 f3 f4 f5⟩
 self:=fun A i s Q E st h => by
  refine wpAny_pyIter_slot st.typeIs PySem.F.slot_dict_keyiterator_iter (wpAny_call_entry PySem.F.slot_dict_keyiterator_iter st.typeIs PySem.F.entry_dict_keyiterator_iter ?_ (PySem.F.args_dict_keyiterator_iter_1 _))
  show wpAny _ _ (ret (.ref it)) _ _ s
  exact wpAny_pure ⟨_,rfl,"dict_keyiterator",_,st.typeIs,PySem.F.slot_dict_keyiterator_next.lookup,h⟩
section
variable {X : Cx} {tg : Expr}
def JF (tl : TE) : TI:=fun σ H R => tl σ H fun x H1 => ∃ a kvs,x = .ref a /\ ((H1 a = some (.dK kvs) /\ ∀ o,R (Itd a o kvs) (upd H1 a (.frz o (.dK kvs)))) \/ ∃ o,H1 a = some (.frz o (.dK kvs)) /\ R (Itd a o kvs) H1)
theorem HB {l : Expr} {tl : TE} (hl : PE X l tl) : PI X tg l (JF tl):=by
 intro pins s σ H R I h
 refine thn (hl pins s σ H _ I h) fun v s1 ⟨x,H1,I1,r1,q1⟩ => ?_
 obtain ⟨a,kvs,e,q⟩:=q1
 subst e
 cases r1
 have main : ∀ (o : Obj) (H2 : Hp),Inv X pins σ H2 s1 -> H2 a = some (.frz o (.dK kvs)) -> R (Itd a o kvs) H2 -> wpAny (model X.prog X.w) X.A (pyIter (.ref a)) (PIE X pins σ tg R) X.xe s1:=fun o H2 I2 e2 q2 => by
  obtain ⟨vs,rel,dat,lo,ho⟩:=jH I2.hok e2
  have hlen : kvs.length = vs.length:=Paired.length rel
  refine wpAny_pyIter_dict lo dat ?_
  refine ⟨s1.heap.objs.size,[s1.heap.objs.size],_,_,H2,rfl,I2.kept (t' := s1.toks) fun b o e => Heap.get?_push_of_some _ e,EV a _ o kvs,⟨_,Heap.get?_push_size _ rfl,rfl,by rw [hlen]; rfl⟩,fun b hb => ?_,q2⟩
  have e : b = s1.heap.objs.size:=by simpa using hb
  subst e
  exact I2.fpOk (Nat.le_refl _) (I2.hok.fresh (Nat.le_refl _))
 rcases q with ⟨hd,q⟩ | ⟨o,hd,q⟩
 ·obtain ⟨z,lo,vs,rel,ob,es,ep,hg,rest⟩:=I1.hok a _ hd
  exact main ob _ (I1.freeze hd hg) af (q ob)
 ·exact main o H1 I1 hd q
end
theorem tK : entryFor table "dict_itemiterator.__iter__" = some Builtin.«dict_keyiterator.__iter__» :=
 entryFor_alias (id' := "dict_keyiterator.__iter__") (by kernel_rfl) (by first | rfl | decide +kernel | (unfold String.splitOn; simp +decide [String.splitOnAux])) (by decide +kernel) (by kernel_rfl)
theorem CT {P : Program} {w : World} {K : PySem.W.Frag} {elts : List Expr} {x1 : _} {pos : Pos} (a it : Addr) (o : Obj) (kvs : List (Key × V)) : Turn P w K (.Tuple elts x1 pos) (Iti a o kvs) [it] it (fun i h => ∃ ok ov,IsItemIter h it a i kvs.length (pJ o) ok ov) where
 mem:=by simp
 obj:=fun i h st b hb => by
  have e : b = it:=by simpa using hb
  subst e
  obtain ⟨ok,ov,st⟩:=st
  exact ⟨_,st,fun v z => by
   have z' : Data.fields _ = Data.cell v:=z
   cases z'⟩
 keep:=fun i h h' st k => by
  obtain ⟨ok,ov,st⟩:=st
  exact ⟨ok,ov,k it (by simp) _ st⟩
 item:=by
  intro X hP hw hK hc i pins s σ H E I hf st hg
  subst hP hw hK
  obtain ⟨hi,hfz⟩:=hg
  obtain ⟨ok,ov,st⟩:=st
  obtain ⟨vs,rel,dat,lo,ho⟩:=jH I.hok hfz
  have hlen : kvs.length = vs.length:=Paired.length rel
  have hv : i < vs.length:=by omega
  obtain ⟨f0,f1,f2,f3,f4,f5⟩:=hf it (by simp)
  rw [hlen] at st
  have itl : it < s.heap.objs.size:=Heap.lt_size st
  refine wpAny_pyNext_items_item (knd:=bb X.prog X.w) st dat (k:=(vs[i]).1) (v:=(vs[i]).2) (List.getElem?_eq_getElem hv) fun key h' hk st' ht hsz kp => ?_
  obtain ⟨p,e1,e2⟩:=gd rel (List.getElem?_eq_getElem hv)
  refine ⟨.ref s.heap.objs.size,rfl,wpAny_letOwnedTupleGo_items (s:={ s with heap:=h' }) st' fun h2 st2 sb2 => ?_⟩
  have kp2 : ∀ b u,s.heap.get? b = some u -> b ≠ it -> h2.get? b = some u:=fun b u e hb => (sb2.2 b hb).trans (kp b u hb e)
  have nT : s.heap.objs.size ≠ it:=Nat.ne_of_gt itl
  have ht2 : h2.get? s.heap.objs.size = some { cls:=.type "tuple",data:=.seq #[key,(vs[i]).2] }:=(sb2.2 _ nT).trans ht
  have fr : H s.heap.objs.size = none:=I.hok.fresh (Nat.le_refl _)
  have fit : mR X pins (upd H s.heap.objs.size (.tup [kV p.1,p.2])) it:=⟨by rw [aj (Ne.symm nT)]; exact f0,f1,f2,f3,f4,f5⟩
  have I0 : Inv X pins σ (upd H s.heap.objs.size (.tup [kV p.1,p.2])) { s with heap:=s.heap.push { cls:=.type "tuple",data:=.seq #[key,(vs[i]).2] } }:=
   I.laid (t' := s.toks) (o:=.tup [kV p.1,p.2]) (fun b ob q => Heap.get?_push_of_some _ q) (Nat.le_refl _) ⟨by show 2 <= sizeLine; decide,[key,(vs[i]).2],.cons (by rw [e2.1]; exact Dr hk) (.cons e2.2 .nil),⟨_,Heap.get?_push_size _ rfl,rfl,_,rfl⟩⟩
  have I2 : Inv X pins σ (upd H s.heap.objs.size (.tup [kV p.1,p.2])) { s with heap:=h2 }:=by
   refine I0.turned (t' := s.toks) (h' := h2) (fun b ob hb q => ?_) fit.1 fit.2.1 fit.2.2.2.1 fit.2.2.2.2.1 fit.2.2.2.2.2
   rcases Heap.get?_push_cases (show (s.heap.push { cls:=.type "tuple",data:=.seq #[key,(vs[i]).2] }).get? b = some ob from q) with ⟨rfl,rfl⟩ | z
   ·exact ht2
   ·exact kp2 b ob z hb
  refine ⟨.ref s.heap.objs.size,_,I2,rfl,⟨s.heap.objs.size,p,rfl,fr,rfl,e1⟩,⟨_,_,by rw [hlen]; exact st2⟩,fun b hb => ?_⟩
  have e : b = it:=by simpa using hb
  subst e
  exact fit.1
 done:=by
  intro X hP hw hK hc i pins s σ H E I hf st hg
  subst hP hw hK
  obtain ⟨hi,hfz⟩:=hg
  obtain ⟨ok,ov,st⟩:=st
  obtain ⟨vs,rel,dat,lo,ho⟩:=jH I.hok hfz
  have hlen : kvs.length = vs.length:=Paired.length rel
  obtain ⟨f0,f1,f2,f3,f4,f5⟩:=hf it (by simp)
  rw [hlen] at st
  exact wpAny_pyNext_items_end (I.ok.hd hc) st dat (List.getElem?_eq_none (by omega)) fun h' eb => ⟨rfl,I.turned (t' := s.toks) (fun b o hb e => eb b o hb e) f0 f1 f3 f4 f5⟩
 self:=fun A i s Q E st h => by
  obtain ⟨ok,ov,st⟩:=st
  have hT : s.TypeIs (.ref it) "dict_itemiterator" := ⟨_,st,rfl⟩
  refine wpAny_pyIter_slot hT PySem.F.slot_dict_itemiterator_iter (wpAny_call_entry PySem.F.slot_dict_itemiterator_iter hT tK ?_ (PySem.F.args_dict_itemiterator_iter_1 _))
  show wpAny _ _ (ret (.ref it)) _ _ s
  exact wpAny_pure ⟨_,rfl,"dict_itemiterator",_,hT,PySem.F.slot_dict_itemiterator_next.lookup,h⟩
section
variable {X : Cx}
def Iw (tl : TE) : TI:=fun σ H R => tl σ H fun x H1 => ∃ v d kvs,x = .ref v /\ H1 v = some (pd v d) /\ H1 d = some (.dK kvs) /\ ∀ o,R (Iti d o kvs) (upd H1 d (.frz o (.dK kvs)))
theorem Gg {elts : List Expr} {x1 : _} {tpos : Pos} {l : Expr} {tl : TE} (hl : PE X l tl) : PI X (.Tuple elts x1 tpos) l (Iw tl):=by
 intro pins s σ H R I h
 refine thn (hl pins s σ H _ I h) fun v s1 ⟨x,H1,I1,r1,q1⟩ => ?_
 obtain ⟨v,a,kvs,e,hv,hd,q⟩:=q1
 subst e
 cases r1
 obtain ⟨hview,_,_⟩:=(show ObjOk X.prog X.w H1 s1.heap v (pd v a) from I1.hok v _ hv)
 obtain ⟨z,lo,vs0,rel0,ob,es,ep,hg,rest⟩:=I1.hok a _ hd
 have I2:=I1.freeze hd hg
 obtain ⟨vs,rel,dat,lo2,ho⟩:=jH I2.hok af
 have hlen : kvs.length = vs.length:=Paired.length rel
 refine wpAny_pyIter_items hview dat ?_
 refine ⟨s1.heap.objs.size,[s1.heap.objs.size],_,_,_,rfl,I2.kept (t' := s1.toks) fun b o e => Heap.get?_push_of_some _ e,CT a _ ob kvs,⟨_,_,by rw [hlen]; exact Heap.get?_push_size _ rfl⟩,fun b hb => ?_,q ob⟩
 have e : b = s1.heap.objs.size:=by simpa using hb
 subst e
 exact I2.fpOk (Nat.le_refl _) (I2.hok.fresh (Nat.le_refl _))
end
theorem DZ {a : Addr} {o : Obj} {kvs : List (Key × V)} {g : TG} {tb : TS} {D : Ends} {σ : St} {H : Hp} (Pv : Nat -> St -> Hp -> Prop) (h0 : Pv 0 σ H) (hl : ∀ i σ H,i <= kvs.length -> Pv i σ H -> H a = some (.frz o (.dK kvs)))
  (hs : ∀ i p σ H T,kvs[i]? = some p -> Pv i σ H -> H T = none -> g (.ref T) σ (upd H T (.tup [kV p.1,p.2])) fun σ2 H2 => tb { D with nx:=Pv (i + 1),ct:=Pv (i + 1),bk:=D.nx } σ2 H2) (hd : ∀ σ H,Pv kvs.length σ H -> D.nx σ H) :
  ∃ W : Nat -> Nat -> St -> Hp -> Prop,(∃ m,W 0 m σ H) /\ ∀ i m σ H,W i m σ H ->
   ((Iti a o kvs).stop i H /\ D.nx σ H) \/ ((Iti a o kvs).go i H /\ ∃ N : St -> Hp -> Prop,(∀ σ' H',N σ' H' -> ∃ m',m' < m /\ W (i + 1) m' σ' H') /\ ∀ x H',(Iti a o kvs).yld i H x H' -> g x σ H' fun σ2 H2 => tb { D with nx:=N,ct:=N,bk:=D.nx } σ2 H2):=by
 refine ⟨fun i m σ H => m = kvs.length - i /\ i <= kvs.length /\ Pv i σ H,⟨kvs.length,by simp,Nat.zero_le _,h0⟩,?_⟩
 rintro i m σ H ⟨rfl,hi,p⟩
 have q:=hl i σ H hi p
 by_cases hlt : i < kvs.length
 ·refine .inr ⟨⟨hlt,q⟩,Pv (i + 1),fun σ' H' p' => ⟨kvs.length - (i + 1),by omega,rfl,hlt,p'⟩,fun x H' y => ?_⟩
  obtain ⟨T,pr,rfl,hT,rfl,y⟩:=y
  exact hs i pr σ _ T y p hT
 ·have e : i = kvs.length:=by omega
  subst e
  exact .inl ⟨⟨Nat.le_refl _,q⟩,hd σ H p⟩
end L2
set_option Elab.async false
set_option linter.all false
set_option maxRecDepth 100000
namespace L2
open PySem PySem.Spec PyProof.Rows
section
variable {P : Program} {w : World} {A : Around} {E : Value -> Shared -> Prop} {s : Shared}
end
end L2
set_option Elab.async false
set_option linter.all false
set_option maxRecDepth 100000
namespace L2
open PySem PySem.Spec PyProof.Rows
section
variable {X : Cx}
end
end L2
set_option Elab.async false
set_option linter.all false
set_option maxRecDepth 100000
namespace PySem
open PyProof.Rows
section
variable {prog : Program} {w : World} {A : Around} {E : Value -> Shared -> Prop} {s : Shared}
end
end PySem
namespace L2
open PySem PySem.Spec PyProof.Rows
section
variable {X : Cx} {a : Expr} {ta : TA} {p p2 pos pos2 : Pos}
end
end L2
namespace L2
open PySem PySem.Spec PyProof.Rows
section
variable {X : Cx} {N : List Str} {scope : Scope} {ix : List (Option Nat)} {elt iter cond tg : Expr} {pos spos : Pos} {te : TE} {g : TG} {wi : TI} {tc : TT}
end
end L2
set_option Elab.async false
set_option linter.all false
set_option maxRecDepth 100000
namespace L2
open PySem PySem.Spec PyProof.Rows
section
variable {X : Cx} {tg : Expr}
end
section
variable {X : Cx} {a b c : Expr} {ta : TA} {p p2 pos pos2 : Pos}
end
end L2
set_option Elab.async false
set_option linter.all false
set_option maxRecDepth 100000
set_option maxHeartbeats 4000000
namespace L2
open PySem PySem.Spec PyProof.Rows
end L2
set_option Elab.async false
set_option linter.all false
set_option maxRecDepth 100000
set_option maxHeartbeats 4000000
namespace L2
open PySem PySem.Spec PyProof.Rows
theorem w9 (l b : Addr) (items items2 : Array Value) (n n2 : Nat) (dc : Option Addr) (sl : Array (Option Value)) (h0 : ¬(!items.isEmpty && Builtin.List.listTooLong (items.size + items2.size)) = true) (h1 : items.size <= sizeLine) (h2 : items.size + items2.size <= sizeLine + 1) :
  Meets (Builtin.«list.extend» ⟨[.ref l,.ref b],[]⟩) (fun _ R s => s.heap.get? l = some { cls:=.type "list",dict:=none,data:=.seq items n,slots := #[] } /\ s.heap.get? b = some { cls:=.type "tuple",dict:=dc,data:=.seq items2 n2,slots:=sl } /\ R (.ok (.ret Value.none)) { s with heap:=s.heap.update l (Obj.mapSeq (· ++ items2)) }):=
 .of_wp fun prog w A R s h => by
  obtain ⟨hp,g,d,tk,os⟩:=s
  obtain ⟨hl,hb,h⟩:=h
  have f1:=AutoSeq1.idx_int
  have f2:=AutoSeq1.sub_tuple_tuple
  have f3:=AutoSeq1.sub_list_list
  have f4:=AutoSeq1.sub_tuple_list
  have f5:=AutoSeq1.sub_list_tuple
  have hz' : (items ++ items2).size <= sizeLine + 1:=by rw [Array.size_append]; exact h2
  wp_walk using (wpAny_updateSeq hl rfl (hz:=h1) (_hz' := hz')),wpAny_loadPart' hl,wpAny_loadPart' hb
  exact ⟨_,rfl,h⟩
section
variable {X : Cx}
def AF : V -> List V -> Hp -> VK -> Prop:=fun x vs H Q => ∃ l b xs zs,x = .ref l /\ vs = [.ref b] /\ H l = some (.lst xs) /\ H b = some (.tup zs) /\ xs.length + zs.length <= sizeLine /\ Q .non (upd H l (.lst (xs ++ zs)))
theorem BX : MtM X "list.extend" AF:=by
 intro pins s σ H x vs v us Q I rx rv h
 obtain ⟨l,b,xs,zs,rfl,rfl,hH,hB,hz,q⟩:=h
 cases rx
 obtain ⟨u,rfl,ru⟩:=rv.one
 cases ru
 obtain ⟨z,its,n,r,hl,e⟩:=I.lstM hH
 obtain ⟨its2,r2,ht,hz2⟩:=I.tuple (SqT.of (K:=X.K) hB)
 have hl2:=r2.length
 obtain ⟨⟨c,dc,da,sl⟩,e2,c2,n2,d2⟩:=ht
 cases c2
 cases d2
 have hsz : its.toArray.size + its2.toArray.size <= sizeLine:=by rw [List.size_toArray,List.size_toArray]; omega
 have hlong : ¬ (!its.toArray.isEmpty && Builtin.List.listTooLong (its.toArray.size + its2.toArray.size)) = true:=by
  rw [Af hsz,Bool.and_false]
  exact Bool.false_ne_true
 refine call_meets F.slot_list_extend ⟨_,e,rfl⟩ F.entry_list_extend (F.args_list_extend_2 _ _)
  (w9 l b its.toArray its2.toArray n n2 dc sl hlong (by rw [List.size_toArray]; omega) (by omega)) ⟨e,e2,?_⟩
 refine ⟨.non,_,I.lset (its' := its ++ its2) hH e (by simp) (r.append r2) ?_,rfl,q⟩
 rw [List.length_append]
 omega
def Gz : V -> List V -> Hp -> VK -> Prop:=fun x vs H Q => Dz x vs H Q \/ AF x vs H Q
theorem BW : MtM X "list.extend" Gz:=by
 intro pins s σ H x vs v us Q I rx rv h
 rcases h with h | h
 ·exact yh pins s σ H x vs v us Q I rx rv h
 ·exact BX pins s σ H x vs v us Q I rx rv h
end
end L2
set_option Elab.async false
set_option linter.all false
set_option maxRecDepth 100000
set_option maxHeartbeats 4000000
namespace L2
open PySem PySem.Spec PyProof.Rows
theorem DK {a : Addr} {o : Obj} {kvs : List (Key × V)} {ix : List (Option Nat)} {te : TE} {σ : St} {H : Hp} {Qd : Addr -> Hp -> Prop} (Pv : Addr -> Nat -> List V -> Hp -> Prop)
  (h0 : ∀ D,H D = none -> Pv D 0 [] (upd H D (.lst [])))
  (hl : ∀ D i ys H',i <= kvs.length -> Pv D i ys H' -> H' a = some (.frz o (.dK kvs)))
  (hs : ∀ D i p ys H' (Q' : VK),H D = none -> kvs[i]? = some p -> H' D = some (.lst ys) -> Pv D i ys H' -> (∀ y H4,H4 D = some (.lst ys) -> ys.length < sizeLine -> Pv D (i + 1) (ys ++ [y]) (upd H4 D (.lst (ys ++ [y]))) -> Q' y H4) ->
   te ((bg ix σ).set 0 (some (kV p.1))) H' Q')
  (hd : ∀ D ys H',H D = none -> H' D = some (.lst ys) -> Pv D kvs.length ys H' -> Qd D H') : sI (Itd a o kvs) ix (bB 0) te σ H Qd:=by
 intro D hD
 refine ⟨fun i m σ' H' => m = kvs.length - i /\ i <= kvs.length /\ (σ' = bg ix σ \/ ∃ t,σ' = (bg ix σ).set 0 t) /\ ∃ ys,H' D = some (.lst ys) /\ Pv D i ys H',⟨kvs.length,by simp,Nat.zero_le _,.inl rfl,[],af,h0 D hD⟩,?_⟩
 rintro i m σ' H' ⟨rfl,hi,hσ,ys,hy,p⟩
 have q:=hl D i ys H' hi p
 by_cases hlt : i < kvs.length
 ·refine .inr ⟨⟨hlt,q⟩,fun x H2 y => ?_⟩
  obtain ⟨e1,e2⟩:=y
  subst e1
  have ex:=e2 kvs[i] (List.getElem?_eq_getElem hlt)
  subst ex
  have es : σ'.set 0 (some (kV (kvs[i]).1)) = (bg ix σ).set 0 (some (kV (kvs[i]).1)):=by
   rcases hσ with z | ⟨t,z⟩
   ·rw [z]
   ·rw [z,List.set_set]
  show te (σ'.set 0 (some (kV (kvs[i]).1))) _ _
  rw [es]
  refine hs D i kvs[i] ys _ _ hD (List.getElem?_eq_getElem hlt) hy p fun y H4 h4 hz p4 => ⟨ys,h4,hz,kvs.length - (i + 1),by omega,rfl,hlt,.inr ⟨_,rfl⟩,ys ++ [y],af,p4⟩
 ·have e : i = kvs.length:=by omega
  subst e
  exact .inl ⟨⟨Nat.le_refl _,q⟩,hd D ys H' hD hy p⟩
end L2
set_option Elab.async false
set_option linter.all false
set_option maxRecDepth 100000
set_option maxHeartbeats 4000000
namespace PySem
open PyProof.Rows
section
variable {prog : Program} {w : World} {K : Type} [DecidableEq K] {knd : KeyKind prog w K} {A : Around} {E : Value -> Shared -> Prop} {s : Shared} {R : Result -> Shared -> Prop}
theorem IsTupleKey.there {h h' : Heap} {ks : List K} {a : Addr} (x : IsTupleKey knd h ks a) (k : ∀ o,h.get? a = some o -> h'.get? a = some o) : IsTupleKey knd h' ks a:=let ⟨o,it,n,ho,r⟩:=x; ⟨o,it,n,k _ ho,r⟩
def qv (knd : KeyKind prog w K) (h : Heap) (ts : List Addr) (ps : List (List K × Addr × Value)) : Prop := ∀ (j : Nat) (t : Addr) (p : List K × Addr × Value),ts[j]? = some t -> ps[j]? = some p -> IsTupleKey knd h p.1 p.2.1 /\ IsTup h t #[.ref p.2.1,p.2.2]
def uq (xs ps : List (List K × Addr × Value)) : List (List K × Addr × Value):=ps.foldl (fun acc p => storedH acc p.1 p.2.1 p.2.2) xs
theorem uV {h h' : Heap} {D : Addr} {xs : List (List K × Addr × Value)} (x : h.DictOfH (tupleKind knd) D xs) (hD : ∀ o,h.get? D = some o -> h'.get? D = some o) (hk : ∀ p ∈ xs,∀ o,h.get? p.2.1 = some o -> h'.get? p.2.1 = some o) : h'.DictOfH (tupleKind knd) D xs:=by
 obtain ⟨o,es,ep,ho,hc,hd,he,his,hn⟩:=x
 exact ⟨o,es,ep,hD _ ho,hc,hd,he,fun p hp => IsTupleKey.there (his p hp) (hk p hp),hn⟩
theorem AV (xs : List (List K × Addr × Value)) (k : List K) (a : Addr) (v : Value) : (storedH xs k a v).length <= xs.length + 1:=by
 unfold storedH
 split
 ·rw [List.length_map]; omega
 ·rw [List.length_append]; exact Nat.le_refl _
theorem kx {h : Heap} {ks : List K} {a I l : Addr} {i : Nat} (x : IsTupleKey knd h ks a) (y : h.IsListIter I l i) : a ≠ I:=by
 rintro rfl
 obtain ⟨o,_,_,ho,hc,_⟩:=x
 obtain ⟨o',ho',hc',_⟩:=y
 rw [ho] at ho'
 cases ho'
 rw [hc] at hc'
 exact absurd (Value.type.inj hc') (by decide)
theorem zp {D I l : Addr} {ts : List Addr} {ps : List (List K × Addr × Value)} (hu : A.units + 1 < cLine) (W : Walks prog w A.in1 I [I,l] [I] ts.length (fun i v => (ts.map Value.ref).toArray[i]? = some v) (fun i h => h.IsListIter I l i /\ h.IsList l (ts.map Value.ref).toArray))
  (hl : ts.length = ps.length) (hDI : D ≠ I) (hDl : D ≠ l) (hDt : ∀ t ∈ ts,t ≠ D /\ t ≠ I) (hz : ps.length <= sizeLine) :
  ∀ (k i : Nat) (s : Shared) (acc : List (List K × Addr × Value)),ts.length - i = k -> i <= ts.length -> (s.heap.IsListIter I l i /\ s.heap.IsList l (ts.map Value.ref).toArray) -> s.heap.DictOfH (tupleKind knd) D acc -> acc.length <= i -> qv knd s.heap ts ps ->
  (∀ h' tk,(∀ b o,b ≠ D -> b ≠ I -> s.heap.get? b = some o -> h'.get? b = some o) -> h'.DictOfH (tupleKind knd) D (uq acc (ps.drop i)) -> R (.ok (.ret .none)) { s with heap:=h',toks:=tk }) ->
  codeAny (model prog w) A (.builtin "dict.update.loop" ⟨[.ref D,.ref I,rawInt (i : Int),.none],[]⟩) R s:=by
 intro k
 induction k with
 | zero =>
  intro i s acc hk hi hst hD hacc hP hR
  have hin : i = ts.length:=by omega
  subst hin
  refine codeAny_builtin cO ?_
  rw [Around.under_plainId bx _]
  show wpAny _ A.in1 (pyNext (.ref I) >>= _) _ _ s
  refine wpAny_bind (W.done s _ _ hst fun h' tk hm => ?_)
  show wpAny _ _ (Builtin.Dict.addKeywords D [] >>= _) _ _ _
  refine wpAny_bind (wpAny_of_eq (a:=()) rfl ?_)
  have e : ps.drop ts.length = []:=by rw [hl,List.drop_length]
  refine wpAny_pure (hR h' tk (fun b o _ hb q => hm b o (by simpa using hb) q) ?_)
  rw [e]
  obtain ⟨_,_,_,_,_,_,_,his,_⟩:=id hD
  exact uV hD (fun o q => hm D o (by simpa using hDI) q) fun p hp o q => hm _ o (by simpa using kx (his p hp) hst.1) q
 | succ k ih =>
  intro i s acc hk hi hst hD hacc hP hR
  have hlt : i < ts.length:=by omega
  have hlt2 : i < ps.length:=by omega
  refine codeAny_builtin cO ?_
  rw [Around.under_plainId bx _]
  show wpAny _ A.in1 (pyNext (.ref I) >>= _) _ _ s
  refine wpAny_bind (W.item i s _ _ hlt hst fun v h' tk hv hst' hm => ?_)
  have ev : v = .ref ts[i]:=by
   have : (ts.map Value.ref).toArray[i]? = some (.ref ts[i]):=by simp [hlt]
   rw [this] at hv
   exact (Option.some.inj hv).symm
  subst ev
  have keep : ∀ b o,b ≠ I -> s.heap.get? b = some o -> h'.get? b = some o:=fun b o hb q => hm b o (by simpa using hb) q
  have keyN : ∀ {ks : List K} {a : Addr},IsTupleKey knd s.heap ks a -> IsTupleKey knd h' ks a:=fun x => x.there fun o q => keep _ o (kx x hst.1) q
  obtain ⟨hkey,ht⟩:=hP i ts[i] ps[i] (List.getElem?_eq_getElem hlt) (List.getElem?_eq_getElem hlt2)
  have tn:=hDt ts[i] (List.getElem_mem hlt)
  have ht' : IsTup h' ts[i] #[.ref (ps[i]).2.1,(ps[i]).2.2]:=ht.extBut (b:=I) keep tn.2
  have hD' : h'.DictOfH (tupleKind knd) D acc:=by
   obtain ⟨_,_,_,_,_,_,_,his,_⟩:=id hD
   exact uV hD (fun o q => keep D o hDI q) fun p hp o q => keep _ o (kx (his p hp) hst.1) q
  obtain ⟨ot,hot,hct,nt,hdt⟩:=id ht'
  try dsimp only
  refine wpAny_bind (wpAny_holding ?_)
  refine wpAny_bind (wpAny_tryCatch ?_)
  unfold Builtin.Dict.pairItems
  refine wpAny_bind (wpAny_typeOf (s:={ s with heap:=h',toks:=tk }) ht'.typeIs ?_)
  rw [if_pos (by decide)]
  refine wpAny_bind (wpAny_seqItems (s:={ s with heap:=h',toks:=tk }) hot hdt ?_)
  refine wpAny_pure ?_
  show wpAny _ _ (holding [.ref (ps[i]).2.1,(ps[i]).2.2] (dictSet D (.ref (ps[i]).2.1) (ps[i]).2.2)) _ _ _
  refine wpAny_holding (wpAny_dictSet_heap (knd:=tupleKind knd) (k:=(ps[i]).1) (s:={ s with heap:=h',toks:=tk }) hu (keyN hkey) hD' (fun h2 hD2 sb2 => ?_) (by omega))
  have keep2 : ∀ b o,b ≠ D -> h'.get? b = some o -> h2.get? b = some o:=fun b o hb q => sb2.extBut b o hb q
  refine wpAny_pure ⟨plainId_quiet bx _,?_⟩
  have ri : rawInt ((i : Int) + 1) = rawInt (((i + 1 : Nat)) : Int):=by push_cast; rfl
  rw [ri]
  have keyD : ∀ {ks : List K} {a : Addr},IsTupleKey knd s.heap ks a -> a ≠ D:=fun x z => by
   obtain ⟨o,_,_,ho,_,hd,_⟩:=x
   obtain ⟨o',_,_,ho',_,hd',_⟩:=hD
   rw [z,ho'] at ho
   cases ho
   rw [hd'] at hd
   cases hd
  refine ih (i + 1) { s with heap:=h2,toks:=_ } (storedH acc (ps[i]).1 (ps[i]).2.1 (ps[i]).2.2) (by omega) hlt ⟨hst'.1.at fun o q => keep2 I o (Ne.symm hDI) q,hst'.2.at fun o q => keep2 l o (Ne.symm hDl) q⟩ hD2 (by
   have:=AV acc (ps[i]).1 (ps[i]).2.1 (ps[i]).2.2
   omega) (fun j t p h1 h2' => ?_) (fun h3 tk3 kp3 hD3 => ?_)
  ·obtain ⟨hk',ht''⟩:=hP j t p h1 h2'
   have tn' := hDt t (List.mem_of_getElem? h1)
   exact ⟨(keyN hk').there fun o q => keep2 _ o (keyD hk') q,(ht''.extBut (b:=I) keep tn'.2).extBut (b:=D) keep2 tn'.1⟩
  ·refine hR h3 tk3 (fun b o hb hb2 q => kp3 b o hb hb2 (keep2 b o hb (keep b o hb2 q))) ?_
   rw [List.drop_eq_getElem_cons hlt2]
   exact hD3
theorem qK {l : Addr} {ts : List Addr} {ps : List (List K × Addr × Value)} {c : Nat} {Q : Value -> Shared -> Prop} (hu : A.units + 2 < cLine) (hh : A.handled = none) (hL : s.heap.get? l = some { cls:=.type "list",dict:=none,data:=.seq (ts.map Value.ref).toArray c,slots := #[] })
  (hl : ts.length = ps.length) (hP : qv knd s.heap ts ps) (hz : ps.length <= sizeLine)
  (hQ : ∀ h' tk,(∀ b o,s.heap.get? b = some o -> h'.get? b = some o) -> h'.DictOfH (tupleKind knd) s.heap.objs.size (uq [] ps) -> Q (.ref s.heap.objs.size) { s with heap:=h',toks:=tk }) :
  wpAny (model prog w) A (call (.type "dict") [.ref l]) Q E s:=by
 refine callType_codes (Q₁:=fun obj s₁ => obj = .ref s.heap.objs.size /\ s₁ = { s with heap:=s.heap.push { cls:=.type "dict",data:=.dict #[] } }) F.kt_called_dict (F.kt_typeCall_dict_1 _) F.entry_dict_init (kt_code_dict_new _ ⟨rfl,rfl⟩) ?_
 rintro obj s₁ ⟨rfl,rfl⟩
 have hnew : (s.heap.push { cls:=.type "dict",data:=.dict #[] }).DictOfH (tupleKind knd) s.heap.objs.size []:=Heap.DictOfH.new s.heap
 have hnewT : ({ s with heap:=s.heap.push { cls:=.type "dict",data:=.dict #[] } } : Shared).TypeIs (.ref s.heap.objs.size) "dict" := ⟨_,Heap.get?_push_size s.heap rfl,rfl⟩
 have hlt : l < s.heap.objs.size:=Heap.lt_size hL
 have hL' : (s.heap.push { cls:=.type "dict",data:=.dict #[] }).get? l = some { cls:=.type "list",dict:=none,data:=.seq (ts.map Value.ref).toArray c,slots := #[] }:=Heap.get?_push_of_some _ hL
 refine ⟨hnewT,F.args_dict_init_2 _ _,?_⟩
 unfold Builtin.«dict.__init__»
 refine wpAny_bind ?_
 unfold Builtin.Dict.selfAndRest
 refine wpAny_bind (wpAny_notOrdered_dict hnewT ?_)
 show wpAny _ _ (pure (s.heap.objs.size,[Value.ref l])) _ _ _
 refine wpAny_pure ?_
 show wpAny _ _ (Builtin.Dict.updateFrom "dict.__init__" s.heap.objs.size (.ref l) [] .none) _ _ _
 unfold Builtin.Dict.updateFrom
 refine wpAny_bind (wpAny_typeOf (T := "list") ⟨_,hL',rfl⟩ ?_)
 rw [if_pos (by decide)]
 refine wpAny_bind (lK hL' hh fun h1 tk1 kp1 => ?_)
 rw [if_pos (by rfl)]
 refine wpAny_bind (wpAny_rule ?_)
 have hL1:=kp1 _ _ hL'
 have il1 : Heap.IsList h1 l (ts.map Value.ref).toArray:=⟨_,hL1,rfl,c,rfl⟩
 refine wpAny_bind (wpAny_pyIter_list (s:={ s with heap:=h1,toks:=tk1 }) il1 ?_)
 refine wpAny_pure ⟨plainId_quiet bx _,?_⟩
 have oI : (h1.push { cls:=.type "list_iterator",data:=.fields #[.ref l,.int 0 0] }).get? h1.objs.size = some { cls:=.type "list_iterator",data:=.fields #[.ref l,.int 0 0] }:=Heap.get?_push_size _ rfl
 have l1 : l < h1.objs.size:=Heap.lt_size hL1
 have d1 : s.heap.objs.size < h1.objs.size:=Heap.lt_size (kp1 _ _ (Heap.get?_push_size s.heap rfl))
 have W:=Walks.list (prog:=prog) (w:=w) (A:=A.in1.in1) hh h1.objs.size l (Nat.ne_of_lt l1) (ts.map Value.ref).toArray
 have sz : (ts.map Value.ref).toArray.size = ts.length:=by simp
 rw [sz] at W
 have kp2 : ∀ b o,s.heap.get? b = some o -> (h1.push { cls:=.type "list_iterator",data:=.fields #[.ref l,.int 0 0] }).get? b = some o:=fun b o q => Heap.get?_push_of_some _ (kp1 _ _ (Heap.get?_push_of_some _ q))
 refine zp (A:=A.in1) (knd:=knd) (D:=s.heap.objs.size) (ps:=ps) (by show A.units + 1 + 1 < cLine; exact hu) W hl (Nat.ne_of_lt d1) (Nat.ne_of_gt hlt) (fun t ht => ?_) hz ts.length 0 { s with heap:=h1.push { cls:=.type "list_iterator",data:=.fields #[.ref l,.int 0 0] },toks:=tk1 } [] rfl (Nat.zero_le _) ⟨⟨_,oI,rfl,rfl⟩,il1.at fun o q => Heap.get?_push_of_some _ q⟩ ?_ (Nat.zero_le _) (fun j t p a1 a2 => ?_) fun h3 tk3 kp3 hD3 => ?_
 ·obtain ⟨j,hj⟩:=List.mem_iff_getElem?.mp ht
  have jl : j < ps.length:=by
   rw [<- hl]
   exact (List.getElem?_eq_some_iff.mp hj).1
  obtain ⟨_,o,ho,_⟩:=hP j t ps[j] hj (List.getElem?_eq_getElem jl)
  have tl:=Heap.lt_size ho
  exact ⟨Nat.ne_of_lt tl,Nat.ne_of_lt (Nat.lt_trans tl d1)⟩
 ·exact uV hnew (fun o q => Heap.get?_push_of_some _ (kp1 _ _ q)) fun p hp => by cases hp
 ·obtain ⟨hk,ht⟩:=hP j t p a1 a2
  exact ⟨hk.there fun o q => kp2 _ o q,ht.keeps kp2⟩
 ·exact ⟨rfl,hQ h3 tk3 (fun b o q => kp3 b o (Nat.ne_of_lt (Heap.lt_size q)) (Nat.ne_of_lt (Nat.lt_trans (Heap.lt_size q) d1)) (kp2 b o q)) hD3⟩
end
end PySem
namespace L2
open PySem PySem.Spec PyProof.Rows
section
variable {X : Cx}
def A6 (H : Hp) : List Addr -> List (List Key × V) -> Prop:=Paired fun t p => ∃ b,H t = some (.tup [.ref b,p.2]) /\ H b = some (.tup (p.1.map kV))
theorem tf {P : Program} {w : World} : ∀ {kvs : List (List Key × V)} {ts : List Addr} {H : Hp} {h : Heap},A6 H ts kvs -> HOk P w H h -> ∃ ps : List (List Key × Addr × Value),KT H kvs ps /\ ps.length = ts.length /\ qv (bb P w) h ts ps
 | [],[],_,_,.nil,_ => ⟨[],.nil,rfl,fun j t p h => by simp at h⟩
 | _,_,_,_,.cons (a:=a) (b:=p) (l₁:=ts) (l₂:=kvs) q t,ok => by
  obtain ⟨ps,r1,r2,r3⟩:=tf t ok
  obtain ⟨b,qa,qb⟩:=q
  obtain ⟨z,its,rv,ht⟩:=ok a _ qa
  obtain ⟨u,v,rfl,ru,rv'⟩:=Vals.two rv
  cases (show u = Value.ref b from ru)
  refine ⟨(p.1,b,v) :: ps,.cons ⟨rfl,qb,rv'⟩ r1,by simp [r2],fun j t' p' h1 h2 => ?_⟩
  cases j with
  | zero =>
   simp at h1 h2
   subst h1 h2
   exact ⟨nY ok qb,by simpa using ht⟩
  | succ j => exact r3 j t' p' (by simpa using h1) (by simpa using h2)
def gO (acc kvs : List (List Key × V)) : List (List Key × V):=kvs.foldl (fun a p => putK a p.1 p.2) acc
theorem jd : ∀ (kvs acc : List (List Key × V)),(gO acc kvs).length <= acc.length + kvs.length
 | [],acc => Nat.le_refl _
 | p :: kvs,acc => by
  have h1:=jd kvs (putK acc p.1 p.2)
  have h2:=gc acc p.1 p.2
  show (gO (putK acc p.1 p.2) kvs).length <= _
  rw [List.length_cons]
  omega
theorem KT.merge {H : Hp} : ∀ {kvs : List (List Key × V)} {ps : List (List Key × Addr × Value)} {acc : List (List Key × V)} {xs : List (List Key × Addr × Value)},KT H kvs ps -> KT H acc xs -> KT H (gO acc kvs) (uq xs ps)
 | [],[],_,_,.nil,r => r
 | p :: kvs,q :: ps,acc,xs,.cons h t,r => by
  obtain ⟨e,hb,rv⟩:=h
  have s:=r.put p.1 hb rv
  rw [e] at s
  have i:=KT.merge t s
  show KT H (gO (putK acc p.1 p.2) kvs) (uq (storedH xs q.1 q.2.1 q.2.2) ps)
  rw [e]
  exact i
def Gy : List V -> Hp -> VK -> Prop:=fun xs H Q => ∃ l ts kvs,xs = [.ref l] /\ H l = some (.lst (ts.map V.ref)) /\ A6 H ts kvs /\ ∀ D,H D = none -> Q (.ref D) (upd H D (.dT (gO [] kvs)))
theorem yy (hc : X.calm = true) (hu : X.A.units + 2 < cLine) : iR X (.type "dict") Gy:=by
 intro pins s σ H xs us Q I r h
 obtain ⟨l,ts,kvs,rfl,hl,hp,q⟩:=h
 obtain ⟨u,rfl,rx⟩:=vals1 r
 cases rx
 obtain ⟨z,its,n,rv,hln,e⟩:=I.lstM hl
 have ei:=mr rv
 subst ei
 obtain ⟨ps,r1,r2,r3⟩:=tf hp I.hok
 have hlen : kvs.length = ps.length:=Paired.length r1
 have zl : ps.length <= sizeLine:=by
  rw [r2]
  rw [List.length_map] at z
  exact z
 refine qK (knd:=bb X.prog X.w) hu (I.ok.hd hc) e r2.symm r3 zl fun h' tk kp dd => ?_
 have ob : ObjOk X.prog X.w (upd H s.heap.objs.size (.dT (gO [] kvs))) h' s.heap.objs.size (.dT (gO [] kvs)):=by
  obtain ⟨o,es,ep,h1,h2,h3,h4,_,h5⟩:=dd
  refine ⟨?_,beq_eq_false_iff_ne.mpr (Ne.symm (Nat.ne_of_lt I.big)),_,(KT.merge r1 .nil).keeps fun c ys ec => ?_,o,es,ep,h1,h2,h3,h4,h5⟩
  ·have:=jd kvs []
   simp only [List.length_nil] at this
   omega
  ·rw [aj (av ec (I.hok.fresh (Nat.le_refl _)))]
   exact ec
 exact ⟨.ref _,_,I.laid (t' := tk) kp (Nat.le_refl _) ob,rfl,q _ (I.hok.fresh (Nat.le_refl _))⟩
end
theorem Fn {A : Around} {k : Nat} (hr : Room k A) : A.units + 2 < cLine:=by
 have:=hr.un
 omega
end L2
set_option Elab.async false
set_option linter.all false
set_option maxRecDepth 100000
set_option maxHeartbeats 4000000
namespace PySem
section
variable {prog : Program} {w : World} {A : Around} {E : Value -> Shared -> Prop} {s : Shared}
def RawD (h : Heap) (d : Addr) (es : Array DictEntry) (ep : Nat) : Prop := ∃ o,h.get? d = some o /\ o.ExactDict /\ o.data = .dict es ep
theorem RawD.ty {d : Addr} {es : Array DictEntry} {ep : Nat} (x : RawD s.heap d es ep) : s.TypeIs (.ref d) "dict" := let ⟨o,h1,h2,_⟩:=x; ⟨o,h1,h2.1⟩
theorem RawD.to {h h' : Heap} {d : Addr} {es : Array DictEntry} {ep : Nat} (x : RawD h d es ep) (k : ∀ o,h.get? d = some o -> h'.get? d = some o) : RawD h' d es ep:=let ⟨o,h1,r⟩:=x; ⟨o,k _ h1,r⟩
theorem Fq {d : Addr} {es : Array DictEntry} {ep : Nat} {Q : Value -> Shared -> Prop} (lo : (d == sysModules) = false) (x : RawD s.heap d es ep)
  (q : Q (.ref s.heap.objs.size) { s with heap:=s.heap.push { cls:=.type "dict_keyiterator",data:=.fields #[.ref d,.int 0 0,.int es.size 0,.int ep 0] } }) : wpAny (model prog w) A (pyIter (.ref d)) Q E s:=by
 have ty:=x.ty
 obtain ⟨ob,g1,g2,g3⟩:=x
 refine wpAny_pyIter_slot ty F.slot_dict_iter (wpAny_call_entry F.slot_dict_iter ty F.entry_dict_iter ?_ (F.args_dict_iter_1 _))
 unfold Builtin.«dict.__iter__» Builtin.Dict.dictSlotNone
 refine wpAny_bind (wpAny_bind (wpAny_notOrdered_dict ty ?_))
 show wpAny _ _ (pure (Value.ref d)) _ _ s
 refine wpAny_pure ?_
 show wpAny _ _ (Builtin.Dict.showsAll d >>= _) _ _ s
 unfold Builtin.Dict.showsAll
 rw [if_neg (fun z => by rw [lo] at z; cases z)]
 refine wpAny_bind (wpAny_pure (wpAny_bind (wpAny_dictEntries g1 g3 (wpAny_bind (wpAny_dictEpoch g1 g3 ?_)))))
 refine wpAny_bind (wpAny_newObj_type (wpAny_pure ⟨_,rfl,"dict_keyiterator",_,⟨_,Heap.get?_push_size _ rfl,rfl⟩,F.slot_dict_keyiterator_next.lookup,?_⟩))
 simpa [rawInt] using q
theorem FI {it d : Addr} {i ep : Nat} {es : Array DictEntry} {Q : Option Value -> Shared -> Prop} (y : s.heap.IsKeyIter it d i es.size ep) (x : RawD s.heap d es ep) (hi : i < es.size)
  (q : ∀ h',h'.IsKeyIter it d (i + 1) es.size ep -> Heap.SameBut it s.heap h' -> Q (some es[i].key) { s with heap:=h' }) : wpAny (model prog w) A (pyNext (.ref it)) Q E s:=by
 have ty:=y.typeIs
 obtain ⟨oi,i1,i2,i3⟩:=id y
 obtain ⟨ob,g1,g2,g3⟩:=x
 unfold pyNext
 refine wpAny_bind (wpAny_attempt (wpAny_callSpecial?_slot (name:=Str.ofString "__next__") ty F.slot_dict_keyiterator_next (wpAny_call_entry F.slot_dict_keyiterator_next ty F.entry_dict_keyiterator_next ?_ (F.args_dict_keyiterator_next_1 _))))
 refine wpAny_bind (wpAny_pure (wpAny_bind (wpAny_bind ?_)))
 first | refine wpAny_bind (wpAny_typeNameOfWhole_keyiter ty (wpAny_pure ?_)) | refine wpAny_bind (wpAny_typeNameOf_keyiter ty (wpAny_pure ?_))
 refine wpAny_bind (wpAny_fieldsOf i1 i3 ?_)
 have own : Builtin.Dict_items.ownsTuple "dict_keyiterator" = false:=by decide
 simp only [own,Bool.false_eq_true,if_false]
 show wpAny _ _ (if (Value.ref d == Value.none) = true then _ else _) _ _ s
 rw [if_neg (by intro z; cases z)]
 refine wpAny_bind (wpAny_pure (wpAny_bind (wpAny_dictEntries g1 g3 ?_)))
 rw [if_neg (by simp)]
 refine wpAny_bind (wpAny_pure (wpAny_bind (wpAny_dictEpoch g1 g3 ?_)))
 rw [if_neg (by simp)]
 refine wpAny_pure ?_
 simp only [show ¬ ((i : Int) < 0) from by omega,if_false,Int.toNat_natCast,Array.getElem?_eq_getElem hi]
 refine wpAny_bind ?_
 first | refine wpAny_bind (wpAny_typeNameOfWhole_keyiter ty (wpAny_pure ?_)) | refine wpAny_bind (wpAny_typeNameOf_keyiter ty (wpAny_pure ?_))
 refine wpAny_bind (wpAny_isOneOf_keyiter ty ?_)
 show wpAny _ _ (setField (.ref it) 1 (rawInt ((i : Int) + 1)) >>= _) _ _ s
 refine wpAny_bind (wpAny_setField i1 i3 (by simp) ?_)
 have y2 : (s.heap.update it (Obj.mapFields (·.setIfInBounds 1 (rawInt ((i : Int) + 1))))).IsKeyIter it d (i + 1) es.size ep:=⟨_,Heap.get?_update_self _ i1 (Obj.isFreed_of_fields (Obj.data_mapFields i3 _)),(Obj.cls_mapFields ..).trans i2,by rw [Obj.data_mapFields i3]; simp [rawInt]⟩
 refine wpAny_bind (wpAny_holding (wpAny_bind (wpAny_isOneOf_keyiter (s:={ s with heap:=s.heap.update it (Obj.mapFields (·.setIfInBounds 1 (rawInt ((i : Int) + 1)))) }) y2.typeIs ?_)))
 show wpAny _ _ (pure es[i].key) _ _ _
 exact wpAny_pure (wpAny_pure ⟨_,rfl,wpAny_pure (q _ y2 (Heap.SameBut.update ..))⟩)
theorem G5 {it d : Addr} {ep : Nat} {es : Array DictEntry} {Q : Option Value -> Shared -> Prop} (hh : A.handled = none) (y : s.heap.IsKeyIter it d es.size es.size ep) (x : RawD s.heap d es ep)
  (q : ∀ h',Heap.ExtBut it s.heap h' -> Q none { s with heap:=h' }) : wpAny (model prog w) A (pyNext (.ref it)) Q E s:=by
 have ty:=y.typeIs
 obtain ⟨oi,i1,i2,i3⟩:=id y
 obtain ⟨ob,g1,g2,g3⟩:=x
 unfold pyNext
 refine wpAny_bind (wpAny_attempt (wpAny_callSpecial?_slot (name:=Str.ofString "__next__") ty F.slot_dict_keyiterator_next (wpAny_call_entry F.slot_dict_keyiterator_next ty F.entry_dict_keyiterator_next ?_ (F.args_dict_keyiterator_next_1 _))))
 refine wpAny_bind (wpAny_pure (wpAny_bind (wpAny_bind ?_)))
 first | refine wpAny_bind (wpAny_typeNameOfWhole_keyiter ty (wpAny_pure ?_)) | refine wpAny_bind (wpAny_typeNameOf_keyiter ty (wpAny_pure ?_))
 refine wpAny_bind (wpAny_fieldsOf i1 i3 ?_)
 have own : Builtin.Dict_items.ownsTuple "dict_keyiterator" = false:=by decide
 simp only [own,Bool.false_eq_true,if_false]
 show wpAny _ _ (if (Value.ref d == Value.none) = true then _ else _) _ _ s
 rw [if_neg (by intro z; cases z)]
 refine wpAny_bind (wpAny_pure (wpAny_bind (wpAny_dictEntries g1 g3 ?_)))
 rw [if_neg (by simp)]
 refine wpAny_bind (wpAny_pure (wpAny_bind (wpAny_dictEpoch g1 g3 ?_)))
 rw [if_neg (by simp)]
 refine wpAny_pure ?_
 simp only [show ¬ ((es.size : Int) < 0) from by omega,if_false,Int.toNat_natCast,Array.getElem?_eq_none (Nat.le_refl es.size)]
 refine wpAny_bind ?_
 first | refine wpAny_bind (wpAny_typeNameOfWhole_keyiter ty (wpAny_pure ?_)) | refine wpAny_bind (wpAny_typeNameOf_keyiter ty (wpAny_pure ?_))
 show wpAny _ _ (setField (.ref it) 0 .none >>= _) _ _ s
 refine wpAny_bind (wpAny_setField i1 i3 (by simp) ?_)
 show wpAny _ _ (newExc (.type "StopIteration") [] >>= _) _ _ _
 refine wpAny_bind ?_
 simp only [newExc,newTuple]
 refine wpAny_bind (wpAny_newObj_type (wpAny_bind (m:=firstArgMember _ _) (wpAny_of_eq (a:=Value.none) (by first | rfl | (simp only [firstArgMember]; rfl)) (wpAny_newObj_type ?_ (by size_fits)))) (by size_fits))
 simp only [raiseNew]
 refine wpAny_bind (wpAny_handled ?_)
 rw [show A.in1.handled = none from hh]
 refine (wpAny_bind (wpAny_pure (wpAny_throw ?fin)))
 refine (wpAny_bind (wpAny_isInstance (T := "StopIteration") (b:=true) ⟨_,(Heap.get?_push_size _ rfl),rfl⟩ isSubtype_stop ?_))
 exact wpAny_pure (q _ (((Heap.SameBut.update ..).extBut.push _).push _))
theorem EY (hh : A.handled = none) (I d : Addr) (ne : d ≠ I) (es : Array DictEntry) (ep : Nat) :
  Walks prog w A I [I,d] [I] es.size (fun i v => ∃ hi : i < es.size,v = es[i].key) (fun i h => h.IsKeyIter I d i es.size ep /\ RawD h d es ep) where
 sub:=fun b hb => by simp at hb; simp [hb]
 frame:=fun _ _ _ st hk => ⟨st.1.at fun o e => hk I (by simp) o e,st.2.to fun o e => hk d (by simp) o e⟩
 item:=fun i s Q E hi st hQ => FI st.1 st.2 hi fun h' y2 sb => hQ _ h' s.toks ⟨hi,rfl⟩ ⟨y2,st.2.to fun o e => sb.extBut d o ne e⟩ fun b o hb e => sb.extBut b o (fun h => hb (by simp [h])) e
 done:=fun s Q E st hQ => G5 hh st.1 st.2 fun h' he => hQ h' s.toks fun b o hb e => he b o (fun h => hb (by simp [h])) e
 self:=fun _ _ _ _ st hQ => wpAny_pyIter_keyiter st.1 hQ
end
theorem PySem.W.kdl_raw {prog : Program} {w : World} {d : Addr} {es : Array DictEntry} {ep : Nat} (lo : (d == sysModules) = false) : PySem.W.KdlSrc prog w "dict" d d es.size (fun i v => ∃ hi : i < es.size,v = es[i].key) (fun h => RawD h d es ep) where
 type:=fun _ x => x.ty
 there:=fun _ x => let ⟨_,h1,_⟩:=x; ⟨Heap.lt_size h1,Heap.lt_size h1⟩
 keep:=fun _ _ x hk => x.to fun o e => hk d (.inl rfl) o e
 notList:=by decide
 notTuple:=by decide
 hint:=fun _ _ _ _ x hq => PySem.W.kdl_hint_dict x.ty hq
 iter:=fun _ s hh x => ⟨_,_,(fun _ _ q => Fq lo x q),EY hh _ d (let ⟨_,h1,_⟩:=x; Nat.ne_of_lt (Heap.lt_size h1)) es ep,⟨⟨_,Heap.get?_push_size _ rfl,rfl,rfl⟩,x.to fun o e => Heap.get?_push_of_some _ e⟩⟩
end PySem
namespace L2
open PySem PySem.Spec PyProof.Rows
section
variable {X : Cx}
def C1 (H : Hp) : List Addr -> List (List Key × V) -> Prop:=Paired fun b p => H b = some (.tup (p.1.map kV))
theorem KT.keys {H : Hp} : ∀ {kvs : List (List Key × V)} {xs : List (List Key × Addr × Value)},KT H kvs xs -> C1 H (xs.map fun q => q.2.1) kvs
 | [],[],.nil => .nil
 | _ :: _,_ :: _,.cons h t => .cons h.2.1 (KT.keys t)
def Jf : List V -> Hp -> VK -> Prop:=fun xs H Q => ∃ p kvs,xs = [.ref p] /\ H p = some (.dT kvs) /\ ∀ l bs,H l = none -> C1 H bs kvs -> Q (.ref l) (upd H l (.lst (bs.map V.ref)))
theorem Bh (hc : X.calm = true) : iR X (.type "list") Jf:=by
 intro pins s σ H xs us Q I r h
 obtain ⟨p,kvs,rfl,hp,q⟩:=h
 obtain ⟨u,rfl,rx⟩:=vals1 r
 cases rx
 obtain ⟨hz,lo,xs,kt,o,es,ep,h1,h2,h3,h4,h5⟩:=(show ObjOk X.prog X.w H s.heap p (.dT kvs) from I.hok p _ hp)
 have hlen : kvs.length = xs.length:=Paired.length kt
 have sz : es.size = xs.length:=by
  have:=congrArg List.length h4
  rw [List.length_map] at this
  simpa using this
 refine PySem.W.kdl_call (PySem.W.kdl_raw (es:=es) (ep:=ep) lo) (I.ok.hd hc) ⟨o,h1,h2,h3⟩ (by rw [sz,<- hlen]; exact hz) fun h' tk acc c' kp e hacc => ?_
 have ea : acc.toList = (xs.map fun q => q.2.1).map Value.ref:=by
  refine List.ext_getElem? fun j => ?_
  rcases Nat.lt_or_ge j es.size with hj | hj
  ·have hja : j < acc.size:=by rw [hacc.1]; exact hj
   obtain ⟨hi,ev⟩:=hacc.2 j acc[j] (Array.getElem?_eq_getElem hja)
   have ek : es[j] = entryOfKey (tupleKind (bb X.prog X.w)) (xs[j]'(by rw [<- sz]; exact hj)):=by
    have:=congrArg (fun l => l[j]?) h4
    simp only [Array.getElem?_toList,List.getElem?_map] at this
    rw [Array.getElem?_eq_getElem hj,List.getElem?_eq_getElem (by rw [<- sz]; exact hj)] at this
    exact Option.some.inj this
   rw [Array.getElem?_toList,Array.getElem?_eq_getElem hja,ev,ek,List.getElem?_map,List.getElem?_map,List.getElem?_eq_getElem (by rw [<- sz]; exact hj)]
   rfl
  ·rw [List.getElem?_eq_none (by rw [Array.length_toList,hacc.1]; exact hj),List.getElem?_eq_none (by rw [List.length_map,List.length_map,<- sz]; exact hj)]
 have rv : ∀ bs : List Addr,Vals (bs.map V.ref) (bs.map Value.ref):=fun bs => by
  induction bs with
  | nil => exact .nil
  | cons b bs ih => exact .cons rfl ih
 have ob : ObjOk X.prog X.w (upd H s.heap.objs.size (.lst ((xs.map fun q => q.2.1).map V.ref))) h' s.heap.objs.size (.lst ((xs.map fun q => q.2.1).map V.ref)):=by
  refine ⟨by rw [List.length_map,List.length_map,<- hlen]; exact hz,acc.toList,c',by rw [ea]; exact rv _,?_⟩
  rw [Array.toArray_toList]
  exact e
 exact ⟨.ref _,_,I.laid (t' := tk) kp (Nat.le_refl _) ob,rfl,q _ _ (I.hok.fresh (Nat.le_refl _)) (KT.keys kt)⟩
end
end L2
set_option Elab.async false
set_option linter.all false
set_option maxRecDepth 100000
set_option maxHeartbeats 4000000
namespace L2
open PySem PySem.Spec PyProof.Rows
theorem Bl {K : PySem.W.Frag} {a : Addr} {xs : List V} {ix : List (Option Nat)} {g : TG} {te : TE} {σ : St} {H : Hp} {Qd : Addr -> Hp -> Prop} (Pv : Addr -> Nat -> List V -> Hp -> Prop)
  (hg : ∀ (T : Addr) (σ : St) (H : Hp) (Q : St -> Hp -> Prop) (i : Int) (x : V),H T = some (.tup [.int i,x]) -> Q ((σ.set 0 (some (.int i))).set 1 (some x)) H -> g (.ref T) σ H Q)
  (h0 : ∀ D,H D = none -> Pv D 0 [] (upd H D (.lst [])))
  (hl : ∀ D i ys H',i <= xs.length -> Pv D i ys H' -> SqL K H' a xs)
  (hs : ∀ D i x ys H' T (Q' : VK),H D = none -> xs[i]? = some x -> H' D = some (.lst ys) -> Pv D i ys H' -> H' T = none -> (∀ y H4,H4 D = some (.lst ys) -> ys.length < sizeLine -> Pv D (i + 1) (ys ++ [y]) (upd H4 D (.lst (ys ++ [y]))) -> Q' y H4) ->
   te (((bg ix σ).set 0 (some (.int i))).set 1 (some x)) (upd H' T (.tup [.int i,x])) Q')
  (hd : ∀ D ys H',H D = none -> H' D = some (.lst ys) -> Pv D xs.length ys H' -> Qd D H') : sI (DG K a) ix g te σ H Qd:=by
 refine Bk (n:=xs.length) (item:=fun i => xs.getD i .non) Pv hg h0 (fun D i ys H' hi p => ?_) (fun D ys H' p => ⟨xs,hl D _ ys H' (Nat.le_refl _) p,Nat.le_refl _⟩) (fun D i ys H' T Q' hD hi hy p hT k => ?_) hd
 ·have q:=hl D i ys H' (Nat.le_of_lt hi) p
  refine ⟨⟨xs,xs[i],q,List.getElem?_eq_getElem hi⟩,fun x H2 y => ?_⟩
  obtain ⟨T,x0,rfl,hT,rfl,y⟩:=y
  have e:=y xs q
  refine ⟨T,rfl,hT,?_⟩
  show _ = upd H' T (.tup [.int i,xs.getD i .non])
  rw [List.getD_eq_getElem?_getD,e]
  rfl
 ·have e : xs.getD i .non = xs[i]:=by rw [List.getD_eq_getElem?_getD,List.getElem?_eq_getElem hi]; rfl
  show te (((bg ix σ).set 0 (some (.int i))).set 1 (some (xs.getD i .non))) (upd H' T (.tup [.int i,xs.getD i .non])) Q'
  rw [e]
  exact hs D i xs[i] ys H' T Q' hD (List.getElem?_eq_getElem hi) hy p hT k
theorem FnOk.or {P : Program} {w : World} {K : PySem.W.Frag} {mg : Str -> Option Value} {base : Heap} {CX : CXT} {k : Nat} {f : Addr} {fd : FuncData} {ps : List Str} {sp sp' : Sp} (F : FnOk P w K mg base CX k f fd ps sp) (F' : FnOk P w K mg base CX k f fd ps sp') :
  FnOk P w K mg base CX k f fd ps (fun vs H Q E => sp vs H Q E \/ sp' vs H Q E):=
 ⟨fun vs H Q E q => q.elim (F.len vs H Q E) (F'.len vs H Q E),fun A outer s H args us vs Q E hr he hb hv hs => hs.elim (F.run A outer s H args us vs Q E hr he hb hv) (F'.run A outer s H args us vs Q E hr he hb hv)⟩
end L2
set_option Elab.async false
set_option linter.all false
set_option maxRecDepth 100000
set_option maxHeartbeats 4000000
namespace L2
open PySem PySem.Spec PyProof.Rows
def EqD (K : PySem.W.Frag) (H : Hp) : Nat -> V -> V -> Prop
 | 0,x,y => ∃ i : Int,x = .int i /\ y = .int i
 | n + 1,x,y => (∃ i : Int,x = .int i /\ y = .int i) \/ ∃ a b xs ys,x = .ref a /\ y = .ref b /\ SqT K H a xs /\ SqT K H b ys /\ Paired (EqD K H n) xs ys
theorem jz {α β : Type} {F : α -> β -> Prop} : ∀ {xs : List α} {ys : List β} {j : Nat} (h1 : j < xs.length) (h2 : j < ys.length),Paired F xs ys -> F xs[j] ys[j]
 | _,_,j,h1,_,.nil => absurd h1 (Nat.not_lt_zero _)
 | _,_,0,_,_,.cons a _ => a
 | _,_,j + 1,h1,h2,.cons _ t => jz (j:=j) (by simpa using h1) (by simpa using h2) t
section
variable {X : Cx} {pins : List (Addr × Obj)} {σ : St} {H : Hp} {s : Shared}
theorem Dh {A : Around} {i : Int} {u v : Value} (ru : RelV (.int i) u) (rv : RelV (.int i) v) : SeqAt.EqAt A s u v true:=by
 obtain ⟨t,rfl⟩:=(show ∃ t,u = Value.int i t from ru)
 obtain ⟨t',rfl⟩:=(show ∃ t,v = Value.int i t from rv)
 have z:=SeqAt.EqAt.int_int (A:=A) (s:=s) i t i t'
 rw [beq_self_eq_true] at z
 exact z
theorem Di {n : Nat} (ih : ∀ {A : Around} {x y : V} {u v : Value},A.units + n < cLine -> EqD X.K H n x y -> RelV x u -> RelV y v -> SeqAt.EqAt A s u v true) {A : Around} {a b : Addr} {xs ys : List V} (I : Inv X pins σ H s) (hu : A.units + (n + 1) < cLine) (ha : SqT X.K H a xs) (hb : SqT X.K H b ys) (p : Paired (EqD X.K H n) xs ys) : SeqAt.RcAt A s (.ref a) (.ref b) true:=by
 obtain ⟨its,r1,p1,_⟩:=I.tuple ha
 obtain ⟨jts,r2,p2,_⟩:=I.tuple hb
 have l1:=r1.length
 have l2:=r2.length
 have l3:=p.length
 have q:=SeqAt.RcAt.tuples (A:=A) (e:=fun _ => true) p1 p2 (by omega) fun j h1 h2 => by
  have j1 : j < xs.length:=by simp at h1; omega
  have j2 : j < ys.length:=by omega
  obtain ⟨u1,e1,q1⟩:=r1.get (i:=j) (x:=xs[j]) (by simp [j1])
  obtain ⟨u2,e2,q2⟩:=r2.get (i:=j) (x:=ys[j]) (by simp [j2])
  have g1 : its.toArray[j] = u1:=by
   have:=(List.getElem?_eq_some_iff.mp e1).2
   simpa using this
  have g2 : jts.toArray[j] = u2:=by
   have:=(List.getElem?_eq_some_iff.mp e2).2
   simpa using this
  rw [g1,g2]
  exact ih (show A.units + 1 + n < cLine by omega) (jz j1 j2 p) q1 q2
 have e : ((List.range (min its.toArray.size jts.toArray.size)).all (fun _ => true) && its.toArray.size == jts.toArray.size) = true:=by
  simp
  omega
 rw [e] at q
 exact q
theorem EqD.at (I : Inv X pins σ H s) : ∀ (n : Nat) {A : Around} {x y : V} {u v : Value},A.units + n < cLine -> EqD X.K H n x y -> RelV x u -> RelV y v -> SeqAt.EqAt A s u v true
 | 0,A,x,y,u,v,_,h,ru,rv => by
  obtain ⟨i,rfl,rfl⟩:=h
  exact Dh ru rv
 | n + 1,A,x,y,u,v,hu,h,ru,rv => by
  rcases h with ⟨i,rfl,rfl⟩ | ⟨a,b,xs,ys,rfl,rfl,ha,hb,p⟩
  ·exact Dh ru rv
  ·cases ru
   cases rv
   by_cases e : a = b
   ·subst e; exact SeqAt.EqAt.same _
   ·exact SeqAt.EqAt.of_refs e (Di (fun {A x y u v} h1 h2 h3 h4 => EqD.at I n h1 h2 h3 h4) I hu ha hb p)
theorem IQ (n : Nat) (hu : X.A.units + (n + 1) < cLine) : OpR X (compareOp .Eq) (fun x y H Q => ∃ a b xs ys,x = .ref a /\ y = .ref b /\ SqT X.K H a xs /\ SqT X.K H b ys /\ Paired (EqD X.K H n) xs ys /\ Q (.bl true) H):=by
 intro pins s σ H x y v u Q I r1 r2 h
 obtain ⟨a,b,xs,ys,rfl,rfl,ha,hb,e,q⟩:=h
 cases r1
 cases r2
 exact Di (fun {A x y u v} h1 h2 h3 h4 => EqD.at I n h1 h2 h3 h4) I hu ha hb e X.prog X.w X.xe _ ⟨.bl true,H,I,rfl,q⟩
end
theorem Ir {A : Around} {k : Nat} (hr : Room k A) : A.units + 3 < cLine:=by
 have:=hr.un
 omega
end L2
set_option Elab.async false
set_option linter.all false
set_option maxRecDepth 100000
set_option maxHeartbeats 4000000
namespace L2
open PySem PySem.Spec PyProof.Rows
section
variable {X : Cx} {pins : List (Addr × Obj)} {σ : St} {H : Hp} {s : Shared}
theorem zu {ns ms : List Int} : ((List.range (min ns.length ms.length)).all (fun j => decide (ns.getD j 0 = ms.getD j 0)) && ns.length == ms.length) = decide (ns = ms):=by
 by_cases c : ns = ms
 ·subst c
  rw [decide_eq_true rfl]
  simp
 ·rw [decide_eq_false c]
  by_cases l : ns.length = ms.length
  ·rw [Bool.and_eq_false_iff]
   left
   rw [Bool.eq_false_iff]
   intro z
   apply c
   refine List.ext_getElem l fun j h1 h2 => ?_
   have:=List.all_eq_true.mp z j (List.mem_range.mpr (by omega))
   have e:=of_decide_eq_true this
   rw [List.getD_eq_getElem?_getD,List.getD_eq_getElem?_getD,List.getElem?_eq_getElem h1,List.getElem?_eq_getElem h2] at e
   exact e
  ·rw [show (ns.length == ms.length) = false from beq_false_of_ne l,Bool.and_false]
theorem Fp {A : Around} {a b : Addr} {ns ms : List Int} (I : Inv X pins σ H s) (hu : A.units < cLine) (ha : SqT X.K H a (ns.map V.int)) (hb : SqT X.K H b (ms.map V.int)) : SeqAt.RcAt A s (.ref a) (.ref b) (decide (ns = ms)):=by
 obtain ⟨its,r1,p1,_⟩:=I.tuple ha
 obtain ⟨jts,r2,p2,_⟩:=I.tuple hb
 have l1:=r1.length
 have l2:=r2.length
 rw [List.length_map] at l1 l2
 have q:=SeqAt.RcAt.tuples (A:=A) (e:=fun j => decide (ns.getD j 0 = ms.getD j 0)) p1 p2 hu fun j h1 h2 => by
  obtain ⟨n,t,hn,e⟩:=AZ r1 j its.toArray[j] (by simp at h1 ⊢)
  obtain ⟨n',t',hn',e'⟩:=AZ r2 j jts.toArray[j] (by simp at h2 ⊢)
  rw [e,e',List.getD_eq_getElem?_getD,List.getD_eq_getElem?_getD,hn,hn']
  have z:=SeqAt.EqAt.int_int (A:=A.in1) (s:=s) n t n' t'
  have ez : (n == n') = decide (n = n'):=rfl
  rw [ez] at z
  exact z
 have e : ((List.range (min its.toArray.size jts.toArray.size)).all (fun j => decide (ns.getD j 0 = ms.getD j 0)) && its.toArray.size == jts.toArray.size) = decide (ns = ms):=by
  rw [List.size_toArray,List.size_toArray,<- l1,<- l2]
  exact zu
 rw [e] at q
 exact q
theorem sZ {ns ms : List Int} (e : ns.map V.int = ms.map V.int) : ns = ms:=by
 have h:=congrArg (List.map fun v : V => match v with | .int i => i | _ => (0 : Int)) e
 rw [List.map_map,List.map_map] at h
 have f : ((fun v : V => match v with | .int i => i | _ => (0 : Int)) ∘ V.int) = id:=rfl
 rw [f,List.map_id,List.map_id] at h
 exact h
open Classical in
noncomputable def isR (H : Hp) (ns : List Int) (u : Value) : Bool:=decide (∃ b,u = Value.ref b /\ H b = some (.tup (ns.map V.int)))
theorem Dp {H : Hp} {ns r : List Int} {b : Addr} (h : H b = some (.tup (r.map V.int))) : isR H ns (.ref b) = decide (r = ns):=by
 unfold isR
 by_cases c : r = ns
 ·subst c
  rw [decide_eq_true rfl]
  exact @decide_eq_true _ (Classical.propDecidable _) ⟨b,rfl,h⟩
 ·rw [decide_eq_false c]
  refine @decide_eq_false _ (Classical.propDecidable _) fun ⟨b',e,h'⟩ => c ?_
  cases e
  rw [h] at h'
  exact sZ (HO.tup.inj (Option.some.inj h'))
def qw (H : Hp) : List Addr -> List (List Int) -> Prop:=Paired fun b r => H b = some (.tup (r.map V.int))
theorem C3 {H : Hp} {ns : List Int} : ∀ {as : List Addr} {pr : List (List Int)},qw H as pr -> (as.map Value.ref).any (isR H ns) = decide (ns ∈ pr)
 | [],[],.nil => by simp
 | _,_,.cons (a:=a) (b:=r) (l₁:=as) (l₂:=pr) h t => by
  rw [List.map_cons,List.any_cons,C3 t,Dp h]
  by_cases c : r = ns
  ·subst c; simp
  ·simp [c,Ne.symm c]
theorem EH (hu : X.A.units + 2 < cLine) : OpR X (compareOp .NotIn) (fun x y H Q => ∃ (a p : Addr) (as : List Addr) (pr : List (List Int)) (ns : List Int),x = .ref a /\ y = .ref p /\ H p = some (.lst (as.map V.ref)) /\ qw H as pr /\ H a = some (.tup (ns.map V.int)) /\ Q (.bl (!decide (ns ∈ pr))) H):=by
 intro pins s σ H x y v u Q I rx ry h
 obtain ⟨a,p,as,pr,ns,rfl,rfl,hp,ht,ha,q⟩:=h
 cases rx
 cases ry
 obtain ⟨its,r,pl,hz⟩:=I.list (SqL.of hp)
 have ei:=mr r
 subst ei
 refine SeqAt.notIn_listAt (isR H ns) pl.isList (fun w hw => ?_) ⟨.bl _,H,I,rfl,?_⟩
 ·have hw' : w ∈ as.map Value.ref:=by simpa using hw
  obtain ⟨b,hb,rfl⟩:=List.mem_map.mp hw'
  obtain ⟨j,hj,ej⟩:=List.getElem_of_mem hb
  have hj2 : j < pr.length:=by rw [<- Paired.length ht]; exact hj
  have hbr : H b = some (.tup ((pr[j]).map V.int)):=by
   have:=jz hj hj2 ht
   rw [ej] at this
   exact this
  rw [Dp hbr]
  by_cases e : b = a
  ·subst e
   rw [ha] at hbr
   have:=sZ (HO.tup.inj (Option.some.inj hbr))
   rw [decide_eq_true this.symm]
   exact SeqAt.EqAt.same _
  ·exact SeqAt.EqAt.of_refs e (Fp I (by first | omega | (show _ + 1 < cLine; omega)) (SqT.of hbr) (SqT.of ha))
 ·rw [show (as.map Value.ref).toArray.any (isR H ns) = (as.map Value.ref).any (isR H ns) by simp,C3 ht]
  exact q
end
end L2
set_option Elab.async false
set_option linter.all false
set_option maxRecDepth 100000
set_option maxHeartbeats 4000000
namespace L2
open PySem PySem.Spec PyProof.Rows
section
variable {X : Cx}
theorem IU (n : Nat) (hu : X.A.units + (n + 1) < cLine) : OpR X (compareOp .NotEq) (fun x y H Q => ∃ a b xs ys,x = .ref a /\ y = .ref b /\ SqT X.K H a xs /\ SqT X.K H b ys /\ Paired (EqD X.K H n) xs ys /\ Q (.bl false) H):=by
 intro pins s σ H x y v u Q I r1 r2 h
 obtain ⟨a,b,xs,ys,rfl,rfl,ha,hb,p,q⟩:=h
 cases r1
 cases r2
 obtain ⟨its,r1,p1,_⟩:=I.tuple ha
 obtain ⟨jts,r2,p2,_⟩:=I.tuple hb
 have l1:=r1.length
 have l2:=r2.length
 have l3:=p.length
 refine SeqAt.RcNeAt.tuples (e:=fun _ => true) p1 p2 (by omega) (fun j h1 h2 => ?_) X.prog X.w X.xe _ ⟨.bl false,H,I,?_,q⟩
 ·have j1 : j < xs.length:=by simp at h1; omega
  have j2 : j < ys.length:=by omega
  obtain ⟨u1,e1,q1⟩:=r1.get (i:=j) (x:=xs[j]) (by simp [j1])
  obtain ⟨u2,e2,q2⟩:=r2.get (i:=j) (x:=ys[j]) (by simp [j2])
  have g1 : its.toArray[j] = u1:=by
   have:=(List.getElem?_eq_some_iff.mp e1).2
   simpa using this
  have g2 : jts.toArray[j] = u2:=by
   have:=(List.getElem?_eq_some_iff.mp e2).2
   simpa using this
  rw [g1,g2]
  exact EqD.at I n (by show X.A.units + 1 + n < cLine; omega) (jz j1 j2 p) q1 q2
 ·show Value.bool _ = Value.bool _
  simp
  omega
end
end L2
set_option Elab.async false
set_option linter.all false
set_option maxRecDepth 100000
set_option maxHeartbeats 8000000
namespace My
open PySem L2
abbrev LL:=List (List Int)
abbrev LI:=List Int
abbrev OV:=Option V
theorem gi_ {α : Type} {l : List α} {i : Nat} {a : α} (h : l[i]? = some a) : ∃ h : i < l.length,l[i] = a:=List.getElem?_eq_some_iff.mp h
theorem mq_ {α : Type} {l : List α} {i : Nat} {a : α} (h : l[i]? = some a) : a ∈ l:=List.mem_of_getElem? h
theorem ma_ {α : Type} {a : α} {s t : List α} : a ∈ s ++ t ↔ a ∈ s \/ a ∈ t:=List.mem_append
theorem lm_ {α β : Type} {f : α -> β} {l : List α} : (l.map f).length = l.length:=List.length_map f
theorem qT_ {K : PySem.W.Frag} {H : Hp} {a : Addr} {xs : List V} (h : H a = some (.tup xs)) : SqT K H a xs:=SqT.of h
theorem qL_ {K : PySem.W.Frag} {H : Hp} {a : Addr} {xs : List V} (h : H a = some (.lst xs)) : SqL K H a xs:=SqL.of h
def top (i : Nat) : Stmt:=PySem.Challenge.pw_figuretell_k33_raised.main.body.getD i (.Pass ⟨0,0,0,0⟩)
abbrev fU : Stmt:=top 12
abbrev cf : Stmt:=top 13
abbrev dj : Stmt:=top 14
abbrev fV : Stmt:=top 15
abbrev h7 : Stmt:=top 16
abbrev jE : Stmt:=top 17
abbrev sf : Stmt:=top 20
abbrev sh : Stmt:=top 21
abbrev h8 : Stmt:=top 22
abbrev cg : Stmt:=top 23
abbrev iZ : Stmt:=top 25
abbrev bO : Stmt:=top 26
abbrev cL : Stmt:=top 27
abbrev bz : Stmt:=top 28
abbrev hZ : Stmt:=top 29
abbrev iP : Stmt:=top 32
abbrev fW : Stmt:=top 33
abbrev cY : Stmt:=top 35
abbrev di : Stmt:=top 36
abbrev cK : Stmt:=top 37
abbrev bK : Stmt:=top 38
abbrev dh : Stmt:=top 39
abbrev bM : Stmt:=top 40
abbrev cN : Stmt:=top 41
abbrev bU : Stmt:=top 42
abbrev cc : Stmt:=top 43
abbrev cu : Stmt:=top 44
abbrev b9 : Stmt:=top 45
abbrev cB : Stmt:=top 46
abbrev cb : Stmt:=top 47
abbrev fT : Stmt:=top 48
abbrev df : Stmt:=top 49
abbrev qf : Stmt:=top 50
abbrev bh : Stmt:=inClass (top 30) 0
abbrev b7 : Stmt:=inClass (top 30) 1
abbrev br : Stmt:=inClass (top 30) 2
abbrev b8 : Stmt:=inClass (top 30) 3
abbrev bC : Stmt:=inClass (top 30) 4
abbrev bT : Stmt:=inClass (top 30) 5
theorem kX {c A B : Prop} [Decidable c] (h1 : c -> A) (h2 : ¬ c -> B) : if decide c = true then A else B:=Hc (fun h => h1 (of_decide_eq_true h)) fun h => h2 fun z => h (decide_eq_true z)
theorem sU {c A B : Prop} [Decidable c] (h1 : ¬ c -> A) (h2 : c -> B) : if (!decide c) = true then A else B:=Hc (fun h => h1 fun z => by rw [decide_eq_true z] at h; cases h) fun h => h2 (Decidable.byContradiction fun z => h (by rw [decide_eq_false z]; rfl))
theorem nQ {a b : Int} {A B : Prop} (h1 : a = b -> A) (h2 : a ≠ b -> B) : if decide (V.int a = V.int b) = true then A else B:=kX (fun h => h1 (V.int.inj h)) fun h => h2 fun z => h (congrArg V.int z)
theorem FH {a b m n : Int} (a0 : 0 <= a) (a1 : a <= m) (b0 : 0 <= b) (b1 : b <= n) : 0 <= a * b /\ a * b <= m * n:=⟨Int.mul_nonneg a0 b0,Int.mul_le_mul a1 b1 b0 (Int.le_trans a0 a1)⟩
theorem cA {a b : Int} (h : 0 < b) : 0 <= a % b /\ a % b < b:=⟨Int.emod_nonneg a (by omega),Int.emod_lt_of_pos a h⟩
theorem cZ {t u : TS} {D : Ends} {σ : St} {H : Hp} (R : St -> Hp -> Prop) (h2 : ∀ σ' H',R σ' H' -> u D σ' H') (h1 : (∀ σ' H',R σ' H' -> u D σ' H') -> EU t u D σ H) : EU t u D σ H:=h1 h2
theorem dR {t u : TS} {D : Ends} {σ : St} {H : Hp} (R : St -> Hp -> Prop) (h1 : ∀ σ' H',R σ' H' -> u D σ' H') (h2 : ∀ D' : Ends,(∀ σ' H',R σ' H' -> D'.nx σ' H') -> t D' σ H) : EU t u D σ H:=h2 { D with nx:=u D } h1
theorem aw {H H' : Hp} {p : Addr} {o : HO} (h : Same H H') (hp : H p = none) : Same H (upd H' p o):=fun b u e => by rw [aj (av e hp)]; exact h b u e
def IntsIn (lo hi : Int) (ys : List V) : Prop := ∀ y ∈ ys,∃ v : Int,y = .int v /\ lo <= v /\ v < hi
theorem IntsIn.nil {lo hi : Int} : IntsIn lo hi []:=fun y h => by cases h
theorem IntsIn.snoc {lo hi v : Int} {ys : List V} (h : IntsIn lo hi ys) (h0 : lo <= v) (h1 : v < hi) : IntsIn lo hi (ys ++ [.int v]):=fun y hy => by
 rcases ma_.mp hy with z | z
 ·exact h y z
 ·rw [List.mem_singleton.mp z]; exact ⟨v,rfl,h0,h1⟩
theorem IntsIn.ints {lo hi : Int} : ∀ {ys : List V},IntsIn lo hi ys -> ∃ ns : LI,ys = ns.map V.int /\ ∀ z ∈ ns,lo <= z /\ z < hi
 | [],_ => ⟨[],rfl,fun z h => by cases h⟩
 | y :: r,h => by
  obtain ⟨v,e,h0,h1⟩:=h y List.mem_cons_self
  obtain ⟨ns,e2,h2⟩:=IntsIn.ints (ys:=r) fun z hz => h z (List.mem_cons_of_mem _ hz)
  refine ⟨v :: ns,by rw [e,e2]; rfl,fun z hz => ?_⟩
  rcases List.mem_cons.mp hz with q | q
  ·rw [q]; exact ⟨h0,h1⟩
  ·exact h2 z q
theorem gP {x : Int} (h : 0 <= x) : ∃ n : Nat,x = (n : Int):=⟨x.toNat,by omega⟩
theorem getD_at {α : Type} {xs : List α} {i : Nat} {d : α} (h : i < xs.length) : xs.getD i d = xs[i]:=by simp [h]
theorem cy {ns : LI} {k : Int} (h0 : 0 <= k) (h : k < (ns.length : Int)) : atI (ns.map V.int) k = some (.int (ns.getD k.toNat 0)):=by
 have hk : k.toNat < ns.length:=by omega
 have ek : k = ((k.toNat : Nat) : Int):=by omega
 have q : atI (ns.map V.int) ((k.toNat : Nat) : Int) = some (.int ns[k.toNat]):=px (by rw [List.getElem?_map,List.getElem?_eq_getElem hk] <;> rfl)
 rw [<- ek] at q
 rw [q,getD_at hk]
theorem jh {ras : List Addr} {k : Int} {ra : Addr} (h0 : 0 <= k) (h : ras[k.toNat]? = some ra) : atI (ras.map V.ref) k = some (.ref ra):=by
 have ek : k = ((k.toNat : Nat) : Int):=by omega
 have q : atI (ras.map V.ref) ((k.toNat : Nat) : Int) = some (.ref ra):=px (by rw [List.getElem?_map,h] <;> rfl)
 rw [<- ek] at q
 exact q
theorem bw {ns : LI} {i : Nat} {y : V} (h : (ns.map V.int)[i]? = some y) : ∃ z,y = V.int z /\ ns[i]? = some z:=by
 rw [List.getElem?_map] at h
 cases e : ns[i]? with
 | none => rw [e] at h; cases h
 | some z => rw [e] at h; exact ⟨z,(Option.some.inj h).symm,rfl⟩
theorem gI (K : PySem.W.Frag) : PySem.W.kitOne K (.type "tuple") (.type "tuple") = some true:=by with_unfolding_all rfl
def stepI (rows : LL) (h f : Int) : Int:=(rows.getD h.toNat []).getD f.toNat 0
def aM (rows : LL) (row : LI) (h : Int) : Int:=row.foldl (stepI rows) h
structure RowsOk (many wide : Nat) (rows : LL) : Prop where
 len : rows.length = many
 row : ∀ r ∈ rows,r.length = wide
 val : ∀ r ∈ rows,∀ v ∈ r,0 <= v /\ v < (many : Int)
theorem cn {many wide : Nat} {rows : LL} {h f : Int} (R : RowsOk many wide rows) (h0 : 0 <= h) (h1 : h < many) (f0 : 0 <= f) (f1 : f < wide) : 0 <= stepI rows h f /\ stepI rows h f < many:=by
 have l1 : h.toNat < rows.length:=by rw [R.len]; omega
 have l2 : f.toNat < rows[h.toNat].length:=by rw [R.row _ (List.getElem_mem l1)]; omega
 unfold stepI
 rw [getD_at l1,getD_at l2]
 exact R.val _ (List.getElem_mem l1) _ (List.getElem_mem l2)
theorem bV {many wide : Nat} {rows : LL} (R : RowsOk many wide rows) : ∀ {ns : LI} {h : Int},(∀ f ∈ ns,0 <= f /\ f < (wide : Int)) -> 0 <= h -> h < many -> 0 <= aM rows ns h /\ aM rows ns h < many
 | [],h,_,h0,h1 => ⟨h0,h1⟩
 | f :: r,h,hf,h0,h1 => by
  obtain ⟨a,b⟩:=cn R h0 h1 (hf f List.mem_cons_self).1 (hf f List.mem_cons_self).2
  exact bV (ns:=r) R (fun g hg => hf g (List.mem_cons_of_mem _ hg)) a b
theorem cq (rows : LL) (xs ys : LI) (h : Int) : aM rows (xs ++ ys) h = aM rows ys (aM rows xs h):=by
 unfold aM
 rw [List.foldl_append]
theorem CY {rows : LL} {ns : LI} {h z : Int} {i : Nat} (e : ns[i]? = some z) : aM rows (ns.take (i + 1)) h = stepI rows (aM rows (ns.take i) h) z:=by
 rw [List.take_add_one,e,cq]
 rfl
def RowsAt (H : Hp) : List Addr -> LL -> Prop:=Paired fun a r => H a = some (.tup (r.map V.int))
theorem RowsAt.length {H : Hp} {ras : List Addr} {rows : LL} (h : RowsAt H ras rows) : ras.length = rows.length:=Paired.length h
theorem RowsAt.get : ∀ {H : Hp} {ras : List Addr} {rows : LL} {i : Nat},RowsAt H ras rows -> (h : i < rows.length) -> ∃ ra,ras[i]? = some ra /\ H ra = some (.tup (rows[i].map V.int))
 | _,_,_,_,.nil,h => by simp at h
 | _,_,_,0,.cons (a:=a) r _,_ => ⟨a,rfl,r⟩
 | _,_,_,i + 1,.cons _ t,h => by
  obtain ⟨ra,h1,h2⟩:=RowsAt.get (i:=i) t (by simpa using h)
  exact ⟨ra,by simpa using h1,by simpa using h2⟩
theorem RowsAt.same {H H' : Hp} {ras : List Addr} {rows : LL} (h : RowsAt H ras rows) (s : ∀ b xs,H b = some (.tup xs) -> H' b = some (.tup xs)) : RowsAt H' ras rows:=Paired.mapP h fun _ _ q => s _ _ q
theorem RowsAt.snoc : ∀ {H : Hp} {ras : List Addr} {rows : LL} {a : Addr} {r : LI},RowsAt H ras rows -> H a = some (.tup (r.map V.int)) -> RowsAt H (ras ++ [a]) (rows ++ [r])
 | _,_,_,_,_,.nil,h => .cons h .nil
 | _,_,_,_,_,.cons q t,h => .cons q (RowsAt.snoc t h)
structure MachAt (H : Hp) (m r g : Addr) (wide : Nat) (rows : LL) (signs : LI) : Prop where
 tup : H m = some (.tup [.int wide,.ref r,.ref g])
 rows : ∃ ras,H r = some (.tup (ras.map V.ref)) /\ RowsAt H ras rows
 sgn : H g = some (.tup (signs.map V.int))
theorem MachAt.same {H H' : Hp} {m r g : Addr} {wide : Nat} {rows : LL} {signs : LI} (M : MachAt H m r g wide rows signs) (s : ∀ b xs,H b = some (.tup xs) -> H' b = some (.tup xs)) : MachAt H' m r g wide rows signs:=by
 obtain ⟨h1,⟨ras,h2,h3⟩,h4⟩:=M
 exact ⟨s _ _ h1,⟨ras,s _ _ h2,h3.same s⟩,s _ _ h4⟩
theorem lQ {H : Hp} {ras : List Addr} {rows : LL} {many wide : Nat} {h f : Int} (A : RowsAt H ras rows) (R : RowsOk many wide rows) (h0 : 0 <= h) (h1 : h < many) (f0 : 0 <= f) (f1 : f < wide) :
  ∃ (ra : Addr) (r : LI),atI (ras.map V.ref) h = some (.ref ra) /\ H ra = some (.tup (r.map V.int)) /\ atI (r.map V.int) f = some (.int (stepI rows h f)):=by
 have l1 : h.toNat < rows.length:=by rw [R.len]; omega
 have l2 : rows[h.toNat].length = wide:=R.row _ (List.getElem_mem l1)
 obtain ⟨ra,e1,e2⟩:=A.get l1
 refine ⟨ra,rows[h.toNat],jh h0 e1,e2,?_⟩
 rw [cy f0 (by rw [l2]; exact f1)]
 unfold stepI
 rw [getD_at l1]
end My
set_option Elab.async false
set_option linter.all false
set_option maxRecDepth 100000
set_option maxHeartbeats 8000000
namespace My
open PySem L2
def bI (rows : LL) (ρ : Int -> Int) (qs : LI) : LL:=qs.map fun q => (rows.getD q.toNat []).map ρ
def bL (signs qs : LI) : LI:=qs.map fun q => signs.getD q.toNat 0
def Jv (H : Hp) (D : Addr) (many : Nat) (rows : LL) (qs : LI) (ρ : Int -> Int) : Prop := ∃ kvs,H D = some (.dK kvs) /\ ∀ q ∈ qs,∀ t ∈ rows.getD q.toNat [],ff kvs (Sum.inl t) = some (.int (ρ t))
def Jw (H : Hp) (D : Addr) (many : Nat) (rows : LL) (qs : LI) (ρ : Int -> Int) : Prop := ∃ ns : LI,H D = some (.lst (ns.map V.int)) /\ ∀ q ∈ qs,∀ t ∈ rows.getD q.toNat [],(0 <= t /\ t < (ns.length : Int)) /\ ρ t = ns.getD t.toNat 0
def uz (K : PySem.W.Frag) (Num : Hp -> Addr -> Nat -> LL -> LI -> (Int -> Int) -> Prop) : Sp:=fun vs H Q _ => ∃ (m kl D r g : Addr) (many wide : Nat) (rows : LL) (signs qs : LI) (ρ : Int -> Int),vs = [.ref m,.ref kl,.ref D] /\ MachAt H m r g wide rows signs /\ RowsOk many wide rows /\ signs.length = many /\ (many <= 1000 /\ wide <= 1000) /\
 H kl = some (.lst (qs.map V.int)) /\ qs.length <= 1000 /\ (∀ q ∈ qs,0 <= q /\ q < (many : Int)) /\ Num H D many rows qs ρ /\
 ∀ (m' r' g' : Addr) (H' : Hp),Same H H' -> MachAt H' m' r' g' wide (bI rows ρ qs) (bL signs qs) -> Q (.ref m') H'
theorem RowsAt.kept {H : Hp} {ras : List Addr} {rows : LL} {q : Int} {many wide : Nat} (A : RowsAt H ras rows) (R : RowsOk many wide rows) (h0 : 0 <= q) (h1 : q < (many : Int)) : ∃ ra,atI (ras.map V.ref) q = some (.ref ra) /\ H ra = some (.tup ((rows.getD q.toNat []).map V.int)) /\ (rows.getD q.toNat []).length = wide:=by
 have l : q.toNat < rows.length:=by rw [R.len]; omega
 obtain ⟨ra,e1,e2⟩:=A.get l
 refine ⟨ra,?_,by rw [getD_at l]; exact e2,by rw [getD_at l]; exact R.row _ (List.getElem_mem l)⟩
 have q' : atI (ras.map V.ref) ((q.toNat : Nat) : Int) = some (.ref ra):=px (by rw [List.getElem?_map,e1]; rfl)
 rw [Int.toNat_of_nonneg h0] at q'
 exact q'
section
variable {P : Program} {w : World} {K : PySem.W.Frag} {mg : Str -> Option Value} {base : Heap} {f : Addr} {fd : FuncData} {dV : Value}
theorem sc_with_rooms : FnScope ["machine","kept","numbers","rows","signs","kept_rows","here"] ["machine","kept","numbers"] (ah bO):=⟨rfl,rfl,rfl,by decide +kernel,rfl,by decide +kernel,by decide +kernel⟩
theorem bk_with_rooms_0 : BlkScope ["machine","kept","numbers","rows","signs","kept_rows","here"] (ah bO) ["there","numbers"] [none,some 2] { kind:=ScopeKind.function,names:=[(".0",NameKind.local),("there",NameKind.local),("numbers",NameKind.free)],isGenerator:=false,isCoroutine:=false,more:=[] }:=⟨rfl,by decide +kernel,by decide +kernel,by decide +kernel,by decide +kernel,rfl,by decide +kernel⟩
theorem bk_with_rooms_1 : BlkScope ["machine","kept","numbers","rows","signs","kept_rows","here"] (ah bO) ["here","signs"] [none,some 4] { kind:=ScopeKind.function,names:=[(".0",NameKind.local),("here",NameKind.local),("signs",NameKind.free)],isGenerator:=false,isCoroutine:=false,more:=[] }:=⟨rfl,by decide +kernel,by decide +kernel,by decide +kernel,by decide +kernel,rfl,by decide +kernel⟩
theorem ED (F : FunD K "with_rooms" "with_rooms" bO dV f fd) (aO : mg "tuple" = none) : FnOk P w K mg base CX0 1 f fd ["machine","kept","numbers"] (uz K Jv):=by
 refine F.ok sc_with_rooms (fun vs H Q E h => ?_) (fun cdv A outer s H vs Q E hr h => ?_)
 ·obtain ⟨m,kl,D,r,g,many,wide,rows,signs,qs,ρ,rfl,_⟩:=h
  rfl
 obtain ⟨m,kl,D,r,g,many,wide,rows,signs,qs,ρ,rfl,M,R,lsg,⟨n1,w1⟩,hkl,lq,hqs,⟨kvs,hD,hv⟩,k⟩:=h
 obtain ⟨hm,⟨ras,hr',hA⟩,hg⟩:=M
 have hu:=lI hr
 refine ⟨_,(ag (au (i:=3) sc_with_rooms.nd rfl (Or.inl rfl) (aL aK (pv 0) ak (fun _ _ => rfl)))
   (ag (au (i:=4) sc_with_rooms.nd rfl (Or.inr rfl) (aL aK (pv 0) ak (fun _ _ => rfl)))
   (ag (au (i:=5) sc_with_rooms.nd rfl (Or.inl rfl) (bR ae))
   (ag (bu PassesOwn.never rfl (ck (pv 1)) (ax (i:=6) sc_with_rooms.nd rfl (Or.inl rfl)) (ao (bq (fj PySem.F.plainAttrs_list PySem.F.slot_list_append PySem.F.type_list_append bD (pv 5) (aa (a9 a7 (by rfl) aO bP (aa (dG rfl bk_with_rooms_0 (kM (aL aK (pv 3) (pv 6) (fun _ _ => rfl))) (fun _ _ _ _ => (ax (i:=0) bk_with_rooms_0.nd rfl (Or.inl rfl))) (fun _ _ _ _ => (Du hu (pv 1) (pv 0) (fun _ _ => rfl)))) ae)) ae)))))
   (ao (aI (iM (aa (aL aK (pv 0) ak (fun _ _ => rfl)) (aa (a9 a7 (by rfl) aO bP (aa (pv 5) ae)) (aa (a9 a7 (by rfl) aO bP (aa (dG rfl bk_with_rooms_1 (ck (pv 1)) (fun _ _ _ _ => (ax (i:=0) bk_with_rooms_1.nd rfl (Or.inl rfl))) (fun _ _ _ _ => (aL (pO K) (pv 1) (pv 0) (fun _ _ => rfl)))) ae)) ae)))))))))),?_⟩
 refine ⟨_,rfl,m,_,_,_,rfl,rfl,qT_ hm,rfl,?_⟩
 refine ⟨_,rfl,m,_,_,_,rfl,rfl,qT_ hm,rfl,?_⟩
 refine ⟨(by show 0 <= sizeLine; decide),fun L hL => ?_⟩
 have sL:=aq hL (HO.lst [])
 try dsimp only [bB,dm]
 refine dR (t:=oX _ _ _) (fun σ' H' => ∃ (as : List Addr) (v : OV),σ' = [some (.ref m),some (.ref kl),some (.ref D),some (.ref r),some (.ref g),some (.ref L),v] /\ Same H H' /\ H' L = some (.lst (as.map V.ref)) /\ RowsAt H' as (bI rows ρ qs)) ?_ (fun D' nxt => ?_)
 rotate_left
 ·refine ⟨_,rfl,kl,rfl,⟨_,qL_ (sL _ _ hkl)⟩,?_⟩
  refine dz (K:=K) (xs:=qs.map V.int) (fun i σ' H' => ∃ (as : List Addr) (v : OV),σ' = [some (.ref m),some (.ref kl),some (.ref D),some (.ref r),some (.ref g),some (.ref L),v] /\ Same H H' /\ H' L = some (.lst (as.map V.ref)) /\ RowsAt H' as (bI rows ρ (qs.take i))) ⟨[],none,rfl,sL,af,.nil⟩ (fun i σ' H' _ ⟨_,_,_,e,_⟩ => qL_ (e _ _ hkl)) ?_ ?_
  ·rintro i y σ' H3 hi ⟨as,v,rfl,s3,hL3,A3⟩
   obtain ⟨z,rfl,hz⟩:=bw hi
   have zm:=mq_ hz
   have li:=(gi_ hz).1
   obtain ⟨z0,z1⟩:=hqs z zm
   obtain ⟨ra,e1,e2,e3⟩:=hA.kept R z0 z1
   have la : as.length = i:=by rw [A3.length]; unfold bI; rw [lm_,List.length_take]; omega
   refine ⟨_,rfl,.inl ⟨rfl,_,qL_ hL3⟩,_,rfl,_,rfl,r,_,_,_,rfl,rfl,qT_ (s3 _ _ hr'),e1,ra,rfl,⟨_,qT_ (s3 _ _ e2)⟩,?_⟩
   refine pC (K:=K) (xs:=(rows.getD z.toNat []).map V.int) (fun D j ys H' => Same H3 H' /\ ys = (((rows.getD z.toNat []).take j).map ρ).map V.int) (fun D hD => ⟨aq hD _,rfl⟩) (fun D j ys H' _ ⟨e,_⟩ => qT_ (e _ _ (s3 _ _ e2))) ?_ ?_
   ·rintro T j y ys H4 Q' hT hj hy ⟨s4,rfl⟩ k'
    obtain ⟨t,rfl,ht⟩:=bw hj
    have tm:=mq_ ht
    have lj:=(gi_ ht).1
    have s34:=s3.trans s4
    have dg : DGet H4 D (.int t) (some (.int (ρ t))):=by
     rw [<- hv z zm t tm]
     exact DGet.k (k:=Sum.inl t) (s34 _ _ hD)
    refine ⟨_,rfl,_,rfl,D,_,rfl,dg,k' _ _ hy (aB (by rw [lm_,lm_,List.length_take]; omega)) ⟨aw s4 hT,?_⟩⟩
    rw [List.take_add_one,ht,List.map_append,List.map_append]
    rfl
   ·rintro T ys H4 hT hy ⟨s4,rfl⟩
    rw [lm_,List.take_length] at hy
    refine ⟨T,_,rfl,.inl ⟨qL_ hy,fun t ht => ?_⟩⟩
    have hL4:=s4 _ _ hL3
    have nL : L ≠ t:=av hL4 ht
    refine ⟨L,_,_,rfl,rfl,by rw [aj nL]; exact hL4,aB (by rw [lm_]; omega),?_⟩
    have sT : ∀ b xs,H3 b = some (.tup xs) -> (upd (upd H4 t (.tup (((rows.getD z.toNat []).map ρ).map V.int))) L (.lst (as.map V.ref ++ [V.ref t]))) b = some (.tup xs):=fun b xs e => by
     have e4:=s4 _ _ e
     rw [aj (aJ e4 hL4 (by intro z; cases z)),aj (av e4 ht)]
     exact e4
    refine ⟨as ++ [t],_,rfl,aw (aw (s3.trans s4) ((s3.trans s4).free ht)) hL,by rw [af,List.map_append]; rfl,?_⟩
    have ek : bI rows ρ (qs.take (i + 1)) = bI rows ρ (qs.take i) ++ [(rows.getD z.toNat []).map ρ]:=by
     unfold bI
     rw [List.take_add_one,hz,List.map_append]
     rfl
    rw [ek]
    exact RowsAt.snoc (A3.same sT) (by rw [aj (Ne.symm nL),af])
  ·rintro σ' H3 ⟨as,v,rfl,s3,hL3,A3⟩
   rw [lm_,List.take_length] at A3
   exact nxt _ _ ⟨as,v,rfl,s3,hL3,A3⟩
 rintro σ' H1 ⟨as,v,rfl,s1,hL1,A1⟩
 refine ⟨_,rfl,m,_,_,_,rfl,rfl,qT_ (s1 _ _ hm),rfl,_,rfl,L,_,rfl,.inl ⟨qL_ hL1,fun rt hrt => ?_⟩⟩
 have s2:=aq hrt (HO.tup (as.map V.ref))
 have s12:=s1.trans s2
 refine ⟨_,rfl,kl,rfl,⟨_,qL_ (s12 _ _ hkl)⟩,?_⟩
 refine fG (K:=K) (xs:=qs.map V.int) (fun D j ys H' => Same (upd H1 rt (HO.tup (as.map V.ref))) H' /\ ys = (bL signs (qs.take j)).map V.int) (fun D hD => ⟨aq hD _,rfl⟩) (fun D j ys H' _ ⟨e,_⟩ => qL_ (e _ _ (s12 _ _ hkl))) ?_ ?_
 ·rintro T j y ys H4 Q' hT hj hy ⟨s4,rfl⟩ k'
  obtain ⟨z,rfl,hz⟩:=bw hj
  have li:=(gi_ hz).1
  obtain ⟨z0,z1⟩:=hqs z (mq_ hz)
  refine ⟨_,rfl,_,rfl,g,_,_,_,rfl,rfl,qT_ ((s12.trans s4) _ _ hg),cy z0 (by omega),k' _ _ hy (aB (by unfold bL; rw [lm_,lm_,List.length_take]; omega)) ⟨aw s4 hT,?_⟩⟩
  unfold bL
  rw [List.take_add_one,hz,List.map_append,List.map_append]
  rfl
 rintro G ys H4 hG hy ⟨s4,rfl⟩
 rw [lm_,List.take_length] at hy
 refine ⟨G,_,rfl,.inl ⟨qL_ hy,fun gt hgt => ⟨(by show 3 <= sizeLine; decide),fun mm hmm => ?_⟩⟩⟩
 have s5:=aq hgt (HO.tup ((bL signs qs).map V.int))
 have s6:=aq hmm (HO.tup [V.int wide,V.ref rt,V.ref gt])
 have s56:=s5.trans s6
 exact k mm rt gt _ (s12.trans (s4.trans s56)) ⟨af,⟨as,(s4.trans s56) _ _ af,A1.same fun b zs e => (s2.trans (s4.trans s56)) _ _ e⟩,s6 _ _ af⟩
theorem EF (F : FunD K "with_rooms" "with_rooms" bO dV f fd) (aO : mg "tuple" = none) : FnOk P w K mg base CX0 1 f fd ["machine","kept","numbers"] (uz K Jw):=by
 refine F.ok sc_with_rooms (fun vs H Q E h => ?_) (fun cdv A outer s H vs Q E hr h => ?_)
 ·obtain ⟨m,kl,D,r,g,many,wide,rows,signs,qs,ρ,rfl,_⟩:=h
  rfl
 obtain ⟨m,kl,D,r,g,many,wide,rows,signs,qs,ρ,rfl,M,R,lsg,⟨n1,w1⟩,hkl,lq,hqs,⟨nl,hD,hv⟩,k⟩:=h
 obtain ⟨hm,⟨ras,hr',hA⟩,hg⟩:=M
 have hu:=lI hr
 refine ⟨_,(ag (au (i:=3) sc_with_rooms.nd rfl (Or.inl rfl) (aL aK (pv 0) ak (fun _ _ => rfl)))
   (ag (au (i:=4) sc_with_rooms.nd rfl (Or.inr rfl) (aL aK (pv 0) ak (fun _ _ => rfl)))
   (ag (au (i:=5) sc_with_rooms.nd rfl (Or.inl rfl) (bR ae))
   (ag (bu PassesOwn.never rfl (ck (pv 1)) (ax (i:=6) sc_with_rooms.nd rfl (Or.inl rfl)) (ao (bq (fj PySem.F.plainAttrs_list PySem.F.slot_list_append PySem.F.type_list_append bD (pv 5) (aa (a9 a7 (by rfl) aO bP (aa (dG rfl bk_with_rooms_0 (kM (aL aK (pv 3) (pv 6) (fun _ _ => rfl))) (fun _ _ _ _ => (ax (i:=0) bk_with_rooms_0.nd rfl (Or.inl rfl))) (fun _ _ _ _ => (aL (zZ K) (pv 1) (pv 0) (fun _ _ => rfl)))) ae)) ae)))))
   (ao (aI (iM (aa (aL aK (pv 0) ak (fun _ _ => rfl)) (aa (a9 a7 (by rfl) aO bP (aa (pv 5) ae)) (aa (a9 a7 (by rfl) aO bP (aa (dG rfl bk_with_rooms_1 (ck (pv 1)) (fun _ _ _ _ => (ax (i:=0) bk_with_rooms_1.nd rfl (Or.inl rfl))) (fun _ _ _ _ => (aL (pO K) (pv 1) (pv 0) (fun _ _ => rfl)))) ae)) ae)))))))))),?_⟩
 refine ⟨_,rfl,m,_,_,_,rfl,rfl,qT_ hm,rfl,?_⟩
 refine ⟨_,rfl,m,_,_,_,rfl,rfl,qT_ hm,rfl,?_⟩
 refine ⟨(by show 0 <= sizeLine; decide),fun L hL => ?_⟩
 have sL:=aq hL (HO.lst [])
 try dsimp only [bB,dm]
 refine dR (t:=oX _ _ _) (fun σ' H' => ∃ (as : List Addr) (v : OV),σ' = [some (.ref m),some (.ref kl),some (.ref D),some (.ref r),some (.ref g),some (.ref L),v] /\ Same H H' /\ H' L = some (.lst (as.map V.ref)) /\ RowsAt H' as (bI rows ρ qs)) ?_ (fun D' nxt => ?_)
 rotate_left
 ·refine ⟨_,rfl,kl,rfl,⟨_,qL_ (sL _ _ hkl)⟩,?_⟩
  refine dz (K:=K) (xs:=qs.map V.int) (fun i σ' H' => ∃ (as : List Addr) (v : OV),σ' = [some (.ref m),some (.ref kl),some (.ref D),some (.ref r),some (.ref g),some (.ref L),v] /\ Same H H' /\ H' L = some (.lst (as.map V.ref)) /\ RowsAt H' as (bI rows ρ (qs.take i))) ⟨[],none,rfl,sL,af,.nil⟩ (fun i σ' H' _ ⟨_,_,_,e,_⟩ => qL_ (e _ _ hkl)) ?_ ?_
  ·rintro i y σ' H3 hi ⟨as,v,rfl,s3,hL3,A3⟩
   obtain ⟨z,rfl,hz⟩:=bw hi
   have zm:=mq_ hz
   have li:=(gi_ hz).1
   obtain ⟨z0,z1⟩:=hqs z zm
   obtain ⟨ra,e1,e2,e3⟩:=hA.kept R z0 z1
   have la : as.length = i:=by rw [A3.length]; unfold bI; rw [lm_,List.length_take]; omega
   refine ⟨_,rfl,.inl ⟨rfl,_,qL_ hL3⟩,_,rfl,_,rfl,r,_,_,_,rfl,rfl,qT_ (s3 _ _ hr'),e1,ra,rfl,⟨_,qT_ (s3 _ _ e2)⟩,?_⟩
   refine pC (K:=K) (xs:=(rows.getD z.toNat []).map V.int) (fun D j ys H' => Same H3 H' /\ ys = (((rows.getD z.toNat []).take j).map ρ).map V.int) (fun D hD => ⟨aq hD _,rfl⟩) (fun D j ys H' _ ⟨e,_⟩ => qT_ (e _ _ (s3 _ _ e2))) ?_ ?_
   ·rintro T j y ys H4 Q' hT hj hy ⟨s4,rfl⟩ k'
    obtain ⟨t,rfl,ht⟩:=bw hj
    have tm:=mq_ ht
    have lj:=(gi_ ht).1
    have s34:=s3.trans s4
    obtain ⟨⟨t0,t1⟩,et⟩:=hv z zm t tm
    have at' : atI (nl.map V.int) t = some (.int (ρ t)):=by rw [et]; exact cy t0 t1
    refine ⟨_,rfl,_,rfl,D,_,_,_,rfl,rfl,qL_ (s34 _ _ hD),at',k' _ _ hy (aB (by rw [lm_,lm_,List.length_take]; omega)) ⟨aw s4 hT,?_⟩⟩
    rw [List.take_add_one,ht,List.map_append,List.map_append]
    rfl
   ·rintro T ys H4 hT hy ⟨s4,rfl⟩
    rw [lm_,List.take_length] at hy
    refine ⟨T,_,rfl,.inl ⟨qL_ hy,fun t ht => ?_⟩⟩
    have hL4:=s4 _ _ hL3
    have nL : L ≠ t:=av hL4 ht
    refine ⟨L,_,_,rfl,rfl,by rw [aj nL]; exact hL4,aB (by rw [lm_]; omega),?_⟩
    have sT : ∀ b xs,H3 b = some (.tup xs) -> (upd (upd H4 t (.tup (((rows.getD z.toNat []).map ρ).map V.int))) L (.lst (as.map V.ref ++ [V.ref t]))) b = some (.tup xs):=fun b xs e => by
     have e4:=s4 _ _ e
     rw [aj (aJ e4 hL4 (by intro z; cases z)),aj (av e4 ht)]
     exact e4
    refine ⟨as ++ [t],_,rfl,aw (aw (s3.trans s4) ((s3.trans s4).free ht)) hL,by rw [af,List.map_append]; rfl,?_⟩
    have ek : bI rows ρ (qs.take (i + 1)) = bI rows ρ (qs.take i) ++ [(rows.getD z.toNat []).map ρ]:=by
     unfold bI
     rw [List.take_add_one,hz,List.map_append]
     rfl
    rw [ek]
    exact RowsAt.snoc (A3.same sT) (by rw [aj (Ne.symm nL),af])
  ·rintro σ' H3 ⟨as,v,rfl,s3,hL3,A3⟩
   rw [lm_,List.take_length] at A3
   exact nxt _ _ ⟨as,v,rfl,s3,hL3,A3⟩
 rintro σ' H1 ⟨as,v,rfl,s1,hL1,A1⟩
 refine ⟨_,rfl,m,_,_,_,rfl,rfl,qT_ (s1 _ _ hm),rfl,_,rfl,L,_,rfl,.inl ⟨qL_ hL1,fun rt hrt => ?_⟩⟩
 have s2:=aq hrt (HO.tup (as.map V.ref))
 have s12:=s1.trans s2
 refine ⟨_,rfl,kl,rfl,⟨_,qL_ (s12 _ _ hkl)⟩,?_⟩
 refine fG (K:=K) (xs:=qs.map V.int) (fun D j ys H' => Same (upd H1 rt (HO.tup (as.map V.ref))) H' /\ ys = (bL signs (qs.take j)).map V.int) (fun D hD => ⟨aq hD _,rfl⟩) (fun D j ys H' _ ⟨e,_⟩ => qL_ (e _ _ (s12 _ _ hkl))) ?_ ?_
 ·rintro T j y ys H4 Q' hT hj hy ⟨s4,rfl⟩ k'
  obtain ⟨z,rfl,hz⟩:=bw hj
  have li:=(gi_ hz).1
  obtain ⟨z0,z1⟩:=hqs z (mq_ hz)
  refine ⟨_,rfl,_,rfl,g,_,_,_,rfl,rfl,qT_ ((s12.trans s4) _ _ hg),cy z0 (by omega),k' _ _ hy (aB (by unfold bL; rw [lm_,lm_,List.length_take]; omega)) ⟨aw s4 hT,?_⟩⟩
  unfold bL
  rw [List.take_add_one,hz,List.map_append,List.map_append]
  rfl
 rintro G ys H4 hG hy ⟨s4,rfl⟩
 rw [lm_,List.take_length] at hy
 refine ⟨G,_,rfl,.inl ⟨qL_ hy,fun gt hgt => ⟨(by show 3 <= sizeLine; decide),fun mm hmm => ?_⟩⟩⟩
 have s5:=aq hgt (HO.tup ((bL signs qs).map V.int))
 have s6:=aq hmm (HO.tup [V.int wide,V.ref rt,V.ref gt])
 have s56:=s5.trans s6
 exact k mm rt gt _ (s12.trans (s4.trans s56)) ⟨af,⟨as,(s4.trans s56) _ _ af,A1.same fun b zs e => (s2.trans (s4.trans s56)) _ _ e⟩,s6 _ _ af⟩
end
theorem ye {α : Type} (p : α -> Bool) : ∀ l : List α,l.length = (l.filter p).length + (l.filter fun x => !p x).length
 | [] => rfl
 | x :: l => by
  have ih:=ye p l
  cases e : p x
  ·rw [List.filter_cons_of_neg (by rw [e]; decide),List.filter_cons_of_pos (by rw [e]; rfl),List.length_cons,List.length_cons]
   omega
  ·rw [List.filter_cons_of_pos e,List.filter_cons_of_neg (by rw [e]; decide),List.length_cons,List.length_cons]
   omega
theorem bN : ∀ (many : Nat) {ks : LI},ks.Nodup -> (∀ q ∈ ks,0 <= q /\ q < (many : Int)) -> ks.length <= many
 | 0,ks,_,h => by
  cases ks with
  | nil => exact Nat.le_refl _
  | cons q r => have:=h q List.mem_cons_self; omega
 | many + 1,ks,nd,h => by
  have e : (ks.filter fun q => decide (q ≠ (many : Int))).length <= many:=bN many (nd.filter _) fun q hq => by
   have h1:=h q (List.mem_filter.mp hq).1
   have h2 : q ≠ (many : Int):=of_decide_eq_true (List.mem_filter.mp hq).2
   omega
  have c : (ks.filter fun q => !decide (q ≠ (many : Int))).length <= 1:=by
   have nd2:=nd.filter fun q => !decide (q ≠ (many : Int))
   have al : ∀ q ∈ ks.filter (fun q => !decide (q ≠ (many : Int))),q = (many : Int):=fun q hq => by
    have:=(List.mem_filter.mp hq).2
    simpa using this
   match hm : ks.filter (fun q => !decide (q ≠ (many : Int))),nd2,al with
   | [],_,_ => exact Nat.zero_le _
   | [x],_,_ => exact Nat.le_refl _
   | x :: y :: r,nd2,al =>
    have h1:=al x List.mem_cons_self
    have h2:=al y (List.mem_cons_of_mem _ List.mem_cons_self)
    rw [h1,h2] at nd2
    exact absurd List.mem_cons_self (List.nodup_cons.mp nd2).1
  have t:=ye (fun q => decide (q ≠ (many : Int))) ks
  omega
def kvT (ks : LI) : List (Key × V):=ks.map fun q => (Sum.inl q,V.bl true)
theorem um (ks : LI) (q : Int) : (ff (kvT ks) (Sum.inl q)).isSome = decide (q ∈ ks):=by
 induction ks with
 | nil => rfl
 | cons k r ih =>
  by_cases e : k = q
  ·subst e
   rw [show kvT (k :: r) = (Sum.inl k,V.bl true) :: kvT r from rfl,jI rfl]
   simp
  ·rw [show kvT (k :: r) = (Sum.inl k,V.bl true) :: kvT r from rfl,iQ (fun z => e (Sum.inl.inj z)),ih]
   simp [Ne.symm e]
theorem uk {ks : LI} {q : Int} (h : q ∉ ks) : putK (kvT ks) (Sum.inl q) (V.bl true) = kvT (ks ++ [q]):=by
 unfold putK
 rw [if_neg (by
  intro z
  obtain ⟨p,hp,e⟩:=List.any_eq_true.mp z
  obtain ⟨k,hk,rfl⟩:=List.mem_map.mp hp
  have:=Sum.inl.inj (of_decide_eq_true e)
  exact h (this ▸ hk))]
 unfold kvT
 rw [List.map_append]
 rfl
def kvL (es : List (Int × Addr)) : List (Key × V):=es.map fun e => (Sum.inl e.1,V.ref e.2)
theorem z7 : ∀ {es : List (Int × Addr)} {q : Int},q ∉ es.map Prod.fst -> ff (kvL es) (Sum.inl q) = none
 | [],_,_ => rfl
 | e :: es,q,h => by
  rw [show kvL (e :: es) = (Sum.inl e.1,V.ref e.2) :: kvL es from rfl,iQ (fun z => h (by rw [<- Sum.inl.inj z]; exact List.mem_cons_self))]
  exact z7 fun z => h (List.mem_cons_of_mem _ z)
theorem vi : ∀ {es : List (Int × Addr)} {q : Int} {a : Addr} {j : Nat},(es.map Prod.fst).Nodup -> es[j]? = some (q,a) -> ff (kvL es) (Sum.inl q) = some (V.ref a)
 | [],_,_,_,_,h => by cases h
 | e :: es,q,a,0,_,h => by
  cases h
  exact jI rfl
 | e :: es,q,a,j + 1,nd,h => by
  have nd' := List.nodup_cons.mp (show (e.1 :: es.map Prod.fst).Nodup from nd)
  have h' : es[j]? = some (q,a):=h
  rw [show kvL (e :: es) = (Sum.inl e.1,V.ref e.2) :: kvL es from rfl,iQ (fun z => nd'.1 (by
   have : e.1 = q:=Sum.inl.inj z
   rw [this]
   exact List.mem_map.mpr ⟨(q,a),mq_ h',rfl⟩))]
  exact vi nd'.2 h'
theorem Hg {es : List (Int × Addr)} {q : Int} {a : Addr} (h : q ∉ es.map Prod.fst) : putK (kvL es) (Sum.inl q) (V.ref a) = kvL (es ++ [(q,a)]):=by
 unfold putK
 rw [if_neg (by
  intro z
  obtain ⟨p,hp,e⟩:=List.any_eq_true.mp z
  obtain ⟨k,hk,rfl⟩:=List.mem_map.mp hp
  have:=Sum.inl.inj (of_decide_eq_true e)
  exact h (this ▸ List.mem_map.mpr ⟨k,hk,rfl⟩))]
 unfold kvL
 rw [List.map_append]
 rfl
theorem snoc_cases {α : Type} {xs : List α} {y z : α} {j : Nat} (h : (xs ++ [y])[j]? = some z) : xs[j]? = some z \/ (j = xs.length /\ z = y):=by
 rcases Nat.lt_or_ge j xs.length with q | q
 ·rw [List.getElem?_append_left q] at h
  exact .inl h
 ·rw [List.getElem?_append_right q] at h
  rcases Nat.lt_or_ge (j - xs.length) 1 with p | p
  ·have e : j = xs.length:=by omega
   subst e
   rw [Nat.sub_self] at h
   exact .inr ⟨rfl,(Option.some.inj h).symm⟩
  ·rw [List.getElem?_eq_none (by simpa using p)] at h
   cases h
theorem PairsV.same {H H' : Hp} {ts : List Addr} {kvs : List (Key × V)} (h : PairsV H ts kvs) (s : ∀ b xs,H b = some (.tup xs) -> H' b = some (.tup xs)) : PairsV H' ts kvs:=Paired.mapP h fun _ _ q => s _ _ q
theorem Ac : ∀ {gs ks : LI},(ks ++ gs).Nodup -> cW (kvT ks) (kvT gs) = kvT (ks ++ gs)
 | [],ks,_ => by rw [List.append_nil]; rfl
 | g :: gs,ks,nd => by
  have hg : g ∉ ks:=fun z => (List.nodup_append.mp nd).2.2 g z g List.mem_cons_self rfl
  show cW (putK (kvT ks) (Sum.inl g) (V.bl true)) (kvT gs) = _
  rw [uk hg,Ac (by rw [List.append_assoc]; exact nd),List.append_assoc]
  rfl
theorem yg {gs : LI} (nd : gs.Nodup) : cW [] (kvT gs) = kvT gs:=Ac (ks:=[]) nd
structure BackOk (H0 H : Hp) (B : Addr) (es : List (Int × Addr)) (P : Int -> LI -> Prop) : Prop where
 at_ : H B = some (.dK (kvL es))
 nd : (es.map Prod.fst).Nodup
 nd2 : (es.map Prod.snd).Nodup
 fresh : ∀ e ∈ es,H0 e.2 = none
 lst : ∀ e ∈ es,∃ ls : LI,H e.2 = some (.lst (ls.map V.int)) /\ P e.1 ls
 non : ∀ q,q ∉ es.map Prod.fst -> P q []
theorem BackOk.get {H0 H : Hp} {B : Addr} {es : List (Int × Addr)} {P : Int -> LI -> Prop} (b : BackOk H0 H B es P) {q : Int} {v : V} (h : ff (kvL es) (Sum.inl q) = some v) : ∃ la ls,v = .ref la /\ (q,la) ∈ es /\ H la = some (.lst (ls.map V.int)) /\ P q ls:=by
 have hm : q ∈ es.map Prod.fst:=Classical.byContradiction fun z => by rw [z7 z] at h; cases h
 obtain ⟨e,he,rfl⟩:=List.mem_map.mp hm
 obtain ⟨j,hj⟩:=List.mem_iff_getElem?.mp he
 have:=vi b.nd (q:=e.1) (a:=e.2) hj
 rw [this] at h
 obtain ⟨ls,h1,h2⟩:=b.lst e he
 exact ⟨e.2,ls,(Option.some.inj h).symm,he,h1,h2⟩
theorem G8 {es : List (Int × Addr)} (nd : (es.map Prod.fst).Nodup) {e e' : Int × Addr} (h : e ∈ es) (h' : e' ∈ es) (q : e.1 = e'.1) : e = e' := by
 obtain ⟨i,hi,ei⟩:=List.getElem_of_mem h
 obtain ⟨j,hj,ej⟩:=List.getElem_of_mem h'
 have : (es.map Prod.fst)[i]'(by simpa using hi) = (es.map Prod.fst)[j]'(by simpa using hj):=by simp [ei,ej,q]
 have:=(List.getElem_inj nd).mp this
 subst this
 rw [<- ei,<- ej]
theorem HP {es : List (Int × Addr)} (nd : (es.map Prod.snd).Nodup) {e e' : Int × Addr} (h : e ∈ es) (h' : e' ∈ es) (q : e.2 = e'.2) : e = e' := by
 obtain ⟨i,hi,ei⟩:=List.getElem_of_mem h
 obtain ⟨j,hj,ej⟩:=List.getElem_of_mem h'
 have : (es.map Prod.snd)[i]'(by simpa using hi) = (es.map Prod.snd)[j]'(by simpa using hj):=by simp [ei,ej,q]
 have:=(List.getElem_inj nd).mp this
 subst this
 rw [<- ei,<- ej]
theorem BackOk.old {H0 H : Hp} {B la : Addr} {es : List (Int × Addr)} {P P' : Int -> LI -> Prop} {q h : Int} {ls : LI} (b : BackOk H0 H B es P) (hm : (q,la) ∈ es) (hla : H la = some (.lst (ls.map V.int))) (hp : P' q (ls ++ [h])) (ho : ∀ p ls,p ≠ q -> P p ls -> P' p ls) :
  BackOk H0 (upd H la (.lst (ls.map V.int ++ [.int h]))) B es P' where
 at_:=by rw [aj (aJ b.at_ hla (by intro z; cases z))]; exact b.at_
 nd:=b.nd
 nd2:=b.nd2
 fresh:=b.fresh
 lst:=fun e he => by
  by_cases c : e.2 = la
  ·have:=HP b.nd2 he hm c
   subst this
   exact ⟨ls ++ [h],by rw [af,List.map_append]; rfl,hp⟩
  ·obtain ⟨ms,h1,h2⟩:=b.lst e he
   refine ⟨ms,by rw [aj c]; exact h1,ho _ _ (fun z => c ?_) h2⟩
   have:=G8 b.nd he hm z
   rw [this]
 non:=fun p hp' => ho p [] (fun z => hp' (by rw [z]; exact List.mem_map.mpr ⟨_,hm,rfl⟩)) (b.non p hp')
theorem BackOk.new {H0 H : Hp} {B L : Addr} {es : List (Int × Addr)} {P P' : Int -> LI -> Prop} {q h : Int} (b : BackOk H0 H B es P) (hq : q ∉ es.map Prod.fst) (hL : H L = some (.lst [])) (fL : H0 L = none) (nL : ∀ e ∈ es,e.2 ≠ L) (hp : P' q [h]) (ho : ∀ p ls,p ≠ q -> P p ls -> P' p ls) :
  BackOk H0 (upd (upd H B (.dK (putK (kvL es) (Sum.inl q) (.ref L)))) L (.lst [.int h])) B (es ++ [(q,L)]) P' where
 at_:=by rw [aj (aJ b.at_ hL (by intro z; cases z)),af,Hg hq]
 nd:=by rw [List.map_append]; exact pW b.nd hq
 nd2:=by
  rw [List.map_append]
  refine pW b.nd2 fun z => ?_
  obtain ⟨e,he,e2⟩:=List.mem_map.mp z
  exact nL e he e2
 fresh:=fun e he => by
  rcases ma_.mp he with z | z
  ·exact b.fresh e z
  ·rw [List.mem_singleton.mp z]; exact fL
 lst:=fun e he => by
  rcases ma_.mp he with z | z
  ·obtain ⟨ms,h1,h2⟩:=b.lst e z
   refine ⟨ms,by rw [aj (nL e z),aj (aJ h1 b.at_ (by intro z; cases z))]; exact h1,ho _ _ (fun y => hq ?_) h2⟩
   rw [<- y]
   exact List.mem_map.mpr ⟨e,z,rfl⟩
  ·rw [List.mem_singleton.mp z]
   exact ⟨[h],by rw [af]; rfl,hp⟩
 non:=fun p hp' => by
  rw [List.map_append] at hp'
  exact ho p [] (fun z => hp' (by rw [z]; exact List.mem_append_right _ List.mem_cons_self)) (b.non p fun z => hp' (List.mem_append_left _ z))
theorem BackOk.keep {H0 H H' : Hp} {B : Addr} {es : List (Int × Addr)} {P : Int -> LI -> Prop} (b : BackOk H0 H B es P) (hB : H' B = H B) (hl : ∀ e ∈ es,H' e.2 = H e.2) : BackOk H0 H' B es P where
 at_:=by rw [hB]; exact b.at_
 nd:=b.nd
 nd2:=b.nd2
 fresh:=b.fresh
 lst:=fun e he => by rw [hl e he]; exact b.lst e he
 non:=b.non
theorem BackOk.same {H0 H H' : Hp} {B : Addr} {es : List (Int × Addr)} {P : Int -> LI -> Prop} (b : BackOk H0 H B es P) (s : Same H H') : BackOk H0 H' B es P where
 at_:=s _ _ b.at_
 nd:=b.nd
 nd2:=b.nd2
 fresh:=b.fresh
 lst:=fun e he => by
  obtain ⟨ls,h1,h2⟩:=b.lst e he
  exact ⟨ls,s _ _ h1,h2⟩
 non:=b.non
def pB (rows : LL) (wide : Nat) : LL:=(List.range wide).map fun f => rows.map fun r => r.getD f 0
def CG (K : PySem.W.Frag) : Sp:=fun vs H Q _ => ∃ (m r g : Addr) (many wide : Nat) (rows : LL) (signs : LI),vs = [.ref m] /\ MachAt H m r g wide rows signs /\ RowsOk many wide rows /\ (many <= 1000 /\ wide <= 1000) /\
 ∀ (l : Addr) (cs : List Addr) (H' : Hp),Same H H' -> H' l = some (.lst (cs.map V.ref)) -> RowsAt H' cs (pB rows wide) -> Q (.ref l) H'
def cx (col : LI) (q : Int) : LI:=((List.range col.length).filter fun i => decide (col.getD i 0 = q)).map fun i : Nat => (i : Int)
theorem AB (col : LI) (q : Int) : (cx col q).length <= col.length:=by
 unfold cx
 rw [lm_]
 exact Nat.le_trans (List.length_filter_le _ _) (by simp)
theorem sd (col : LI) (t q : Int) : cx (col ++ [t]) q = cx col q ++ (if t = q then [(col.length : Int)] else []):=by
 unfold cx
 rw [List.length_append,List.length_singleton,List.range_succ,List.filter_append,List.map_append]
 congr 1
 ·congr 1
  refine List.filter_congr fun i hi => ?_
  have l:=List.mem_range.mp hi
  rw [List.getD_eq_getElem?_getD,List.getD_eq_getElem?_getD,List.getElem?_append_left l]
 ·have e : (col ++ [t]).getD col.length 0 = t:=by rw [List.getD_eq_getElem?_getD,List.getElem?_append_right (Nat.le_refl _),Nat.sub_self]; rfl
  by_cases c : t = q
  ·rw [if_pos c,List.filter_cons_of_pos (by rw [e]; exact decide_eq_true c)]; rfl
  ·rw [if_neg c,List.filter_cons_of_neg (by rw [e,decide_eq_false c]; decide)]; rfl
theorem preI_mem {col : LI} {q x : Int} : x ∈ cx col q ↔ (0 <= x /\ x < (col.length : Int)) /\ col.getD x.toNat 0 = q:=by
 unfold cx
 rw [List.mem_map]
 constructor
 ·rintro ⟨i,hi,rfl⟩
  have h:=List.mem_filter.mp hi
  have h1:=List.mem_range.mp h.1
  exact ⟨⟨by omega,by omega⟩,by rw [Int.toNat_natCast]; exact of_decide_eq_true h.2⟩
 ·rintro ⟨⟨h0,h1⟩,h2⟩
  exact ⟨x.toNat,List.mem_filter.mpr ⟨List.mem_range.mpr (by omega),decide_eq_true h2⟩,by omega⟩
def zc (K : PySem.W.Frag) : Sp:=fun vs H Q _ => ∃ (c : Addr) (many : Nat) (col : LI),vs = [.ref c] /\ H c = some (.tup (col.map V.int)) /\ col.length <= 1000 /\ many <= 1000 /\ (∀ t ∈ col,0 <= t /\ t < (many : Int)) /\
 ∀ (B : Addr) (es : List (Int × Addr)) (H' : Hp),Same H H' -> H B = none -> BackOk H H' B es (fun q ls => ls = cx col q) -> Q (.ref B) H'
section
variable {P : Program} {w : World} {K : PySem.W.Frag} {mg : Str -> Option Value} {base : Heap} {f : Addr} {fd : FuncData} {dV : Value}
theorem sc_columns_of : FnScope ["machine","rows","columns","figure"] ["machine"] (ah cL):=⟨rfl,rfl,rfl,by decide +kernel,rfl,by decide +kernel,by decide +kernel⟩
theorem bk_columns_of_0 : BlkScope ["machine","rows","columns","figure"] (ah cL) ["row","figure"] [none,some 3] { kind:=ScopeKind.function,names:=[(".0",NameKind.local),("row",NameKind.local),("figure",NameKind.free)],isGenerator:=false,isCoroutine:=false,more:=[] }:=⟨rfl,by decide +kernel,by decide +kernel,by decide +kernel,by decide +kernel,rfl,by decide +kernel⟩
theorem sc_back_of : FnScope ["column","back","here","there"] ["column"] (ah hZ):=⟨rfl,rfl,rfl,by decide +kernel,rfl,by decide +kernel,by decide +kernel⟩
theorem Ho (F : FunD K "columns_of" "columns_of" cL dV f fd) (aH : mg "range" = none) (aO : mg "tuple" = none) : FnOk P w K mg base CX0 1 f fd ["machine"] (CG K):=by
 refine F.ok sc_columns_of (fun vs H Q E h => ?_) (fun cdv A outer s H vs Q E hr h => ?_)
 ·obtain ⟨m,r,g,many,wide,rows,signs,rfl,_⟩:=h
  rfl
 obtain ⟨m,r,g,many,wide,rows,signs,rfl,M,R,⟨n1,w1⟩,k⟩:=h
 obtain ⟨hm,⟨ras,hr',hA⟩,hg⟩:=M
 refine ⟨_,(ag (au (i:=1) sc_columns_of.nd rfl (Or.inl rfl) (aL aK (pv 0) ak (fun _ _ => rfl)))
   (ag (au (i:=2) sc_columns_of.nd rfl (Or.inl rfl) (bR ae))
   (ag (bu PassesOwn.never rfl (bA rfl aH (aa (aL aK (pv 0) ak (fun _ _ => rfl)) ae)) (ax (i:=3) sc_columns_of.nd rfl (Or.inr rfl)) (ao (bq (fj PySem.F.plainAttrs_list PySem.F.slot_list_append PySem.F.type_list_append bD (pv 2) (aa (a9 a7 (by rfl) aO bP (aa (dG rfl bk_columns_of_0 (kM (pv 1)) (fun _ _ _ _ => (ax (i:=0) bk_columns_of_0.nd rfl (Or.inl rfl))) (fun _ _ _ _ => (aL (pO K) (pv 0) (pv 1) (fun _ _ => rfl)))) ae)) ae)))))
   (ao (aI (pv 2)))))),?_⟩
 refine ⟨_,rfl,m,_,_,_,rfl,rfl,qT_ hm,rfl,?_⟩
 refine ⟨(by show 0 <= sizeLine; decide),fun L hL => ?_⟩
 have sL:=aq hL (HO.lst [])
 refine ⟨_,rfl,m,_,_,_,rfl,rfl,qT_ (sL _ _ hm),rfl,_,rfl,by omega,by omega,?_⟩
 refine b4 (fun i σ' H' => ∃ (as : List Addr) (v : OV),σ' = [some (.ref m),some (.ref r),some (.ref L),v] /\ Same H H' /\ H' L = some (.lst (as.map V.ref)) /\ RowsAt H' as ((List.range i).map fun f => rows.map fun r => r.getD f 0)) ⟨[],none,rfl,sL,af,.nil⟩ ?_ ?_
 ·rintro i σ' H3 hi ⟨as,v,rfl,s3,hL3,A3⟩
  rw [Int.toNat_natCast] at hi
  have la : as.length = i:=by rw [A3.length,lm_,List.length_range]
  have z0 : (0 : Int) + (i : Int) = (i : Int):=Int.zero_add _
  refine ⟨_,rfl,.inl ⟨rfl,_,qL_ hL3⟩,_,rfl,r,rfl,⟨_,qT_ (s3 _ _ hr')⟩,?_⟩
  refine pC (K:=K) (xs:=ras.map V.ref) (fun D j ys H' => Same H3 H' /\ ys = ((rows.take j).map fun r => r.getD i 0).map V.int) (fun D hD => ⟨aq hD _,rfl⟩) (fun D j ys H' _ ⟨e,_⟩ => qT_ (e _ _ (s3 _ _ hr'))) ?_ ?_
  ·rintro T j y ys H4 Q' hT hj hy ⟨s4,rfl⟩ k'
   have jl : j < rows.length:=by
    have:=(gi_ hj).1
    rw [lm_,hA.length] at this
    exact this
   obtain ⟨ra,e1,e2⟩:=hA.get jl
   have ey : y = .ref ra:=by rw [List.getElem?_map,e1] at hj; exact (Option.some.inj hj).symm
   subst ey
   have lr:=R.len
   have lrow : rows[j].length = wide:=R.row _ (List.getElem_mem jl)
   have at1 : atI (rows[j].map V.int) (0 + (i : Int)) = some (.int (rows[j].getD i 0)):=by
    rw [z0,cy (by omega) (by omega),Int.toNat_natCast]
   refine ⟨_,rfl,_,rfl,ra,_,_,_,rfl,rfl,qT_ ((s3.trans s4) _ _ e2),at1,k' _ _ hy (aB (by rw [lm_,lm_,List.length_take]; omega)) ⟨aw s4 hT,?_⟩⟩
   rw [List.take_add_one,List.getElem?_eq_getElem jl,List.map_append,List.map_append]
   rfl
  ·rintro T ys H4 hT hy ⟨s4,rfl⟩
   rw [lm_,hA.length,List.take_length] at hy
   refine ⟨T,_,rfl,.inl ⟨qL_ hy,fun t ht => ?_⟩⟩
   have hL4:=s4 _ _ hL3
   have nL : L ≠ t:=av hL4 ht
   refine ⟨L,_,_,rfl,rfl,by rw [aj nL]; exact hL4,aB (by rw [lm_]; omega),?_⟩
   have sT : ∀ b xs,H3 b = some (.tup xs) -> (upd (upd H4 t (.tup ((rows.map fun r => r.getD i 0).map V.int))) L (.lst (as.map V.ref ++ [V.ref t]))) b = some (.tup xs):=fun b xs e => by
    have e4:=s4 _ _ e
    rw [aj (aJ e4 hL4 (by intro z; cases z)),aj (av e4 ht)]
    exact e4
   refine ⟨as ++ [t],_,rfl,aw (aw (s3.trans s4) ((s3.trans s4).free ht)) hL,by rw [af,List.map_append]; rfl,?_⟩
   rw [List.range_succ,List.map_append]
   exact RowsAt.snoc (A3.same sT) (by rw [aj (Ne.symm nL),af])
 ·rintro σ' H3 ⟨as,v,rfl,s3,hL3,A3⟩
  rw [Int.toNat_natCast] at A3
  exact ⟨_,rfl,k L as _ s3 hL3 A3⟩
theorem FN (F : FunD K "back_of" "back_of" hZ dV f fd) (bZ : mg "enumerate" = none) : FnOk P w K mg base CX0 1 f fd ["column"] (zc K):=by
 refine F.ok sc_back_of (fun vs H Q E h => ?_) (fun cdv A outer s H vs Q E hr h => ?_)
 ·obtain ⟨c,many,col,rfl,_⟩:=h
  rfl
 obtain ⟨c,many,col,rfl,hc,lc,n1,hcol,k⟩:=h
 have hu:=lI hr
 refine ⟨_,(ag (au (i:=1) sc_back_of.nd rfl (Or.inl rfl) lO)
   (ag (bu PassesOwn.never rfl (Gf rfl bZ (aa (pv 0) ae)) (oE rfl (bE (ax (i:=2) sc_back_of.nd rfl (Or.inl rfl)) (bE (ax (i:=3) sc_back_of.nd rfl (Or.inl rfl)) iY))) (ao (bq (fj PySem.F.plainAttrs_list PySem.F.slot_list_append PySem.F.type_list_append bD (yY (pv 1) (pv 3) (bR ae) ⟨rfl,rfl,rfl,rfl⟩) (aa (pv 2) ae)))))
   (ao (aI (pv 1))))),?_⟩
 refine fun B hB => ?_
 have s0:=aq hB (HO.dK [])
 have b0 : BackOk H (upd H B (.dK [])) B [] (fun q ls => ls = cx (col.take 0) q):=⟨af,List.Pairwise.nil,List.Pairwise.nil,(fun e h => by cases h),(fun e h => by cases h),fun q _ => rfl⟩
 refine ⟨_,rfl,c,rfl,⟨_,qT_ (s0 _ _ hc)⟩,DY (K:=K) (xs:=col.map V.int) (fun i σ' H' => ∃ (es : List (Int × Addr)) (v1 v2 : OV),σ' = [some (.ref c),some (.ref B),v1,v2] /\ Same H H' /\ (∀ e ∈ es,0 <= e.1 /\ e.1 < (many : Int)) /\ BackOk H H' B es (fun q ls => ls = cx (col.take i) q))
  ⟨[],none,none,rfl,s0,(fun e h => by cases h),b0⟩ (fun i σ' H' _ ⟨_,_,_,_,e,_⟩ => qT_ (e _ _ hc)) ?_ ?_⟩
 ·rintro i y σ' H1 T hi ⟨es,v1,v2,rfl,s1,kr,b1⟩ hT
  obtain ⟨t,rfl,ht⟩:=bw hi
  have il:=(gi_ ht).1
  have stq:=hcol t (mq_ ht)
  have sT:=aq hT (HO.tup [V.int i,V.int t])
  obtain ⟨H2,eH2⟩ : ∃ H2,upd H1 T (HO.tup [V.int i,V.int t]) = H2:=⟨_,rfl⟩
  have hT2 : H2 T = some (.tup [V.int i,V.int t]):=by rw [<- eH2]; exact af
  rw [eH2] at sT ⊢
  have s2:=s1.trans sT
  have b2:=b1.same sT
  refine ⟨T,_,rfl,qT_ hT2,rfl,_,_,rfl,_,_,rfl,rfl,?_⟩
  refine ⟨_,rfl,B,rfl,.inl ⟨_,.inl b2.at_⟩,_,rfl,(by show 0 <= sizeLine; decide),fun L hL => ?_⟩
  have sL:=aq hL (HO.lst [])
  have b3:=b2.same sL
  have nL : ∀ e ∈ es,e.2 ≠ L:=fun e he z => by
   obtain ⟨ls,h1,_⟩:=b2.lst e he
   rw [z,hL] at h1
   cases h1
  have nLB : B ≠ L:=av b2.at_ hL
  have fL : H L = none:=s2.free hL
  have few:=bN many b3.nd (fun q hq => by
   obtain ⟨e,he,rfl⟩:=List.mem_map.mp hq
   exact kr e he)
  rw [lm_] at few
  have len : (kvL es).length < sizeLine:=aB (by unfold kvL; rw [lm_]; omega)
  have et : col.take (i + 1) = col.take i ++ [t]:=by rw [List.take_add_one,ht]; rfl
  have ln : (col.take i).length = i:=by rw [List.length_take]; omega
  have oth : ∀ (p : Int) (ls : LI),p ≠ t -> ls = cx (col.take i) p -> ls = cx (col.take (i + 1)) p:=fun p ls np z => by
   rw [et,sd,if_neg (Ne.symm np),List.append_nil]
   exact z
  have grow : ∀ ls : LI,ls = cx (col.take i) t -> ls ++ [(i : Int)] = cx (col.take (i + 1)) t:=fun ls z => by
   rw [et,sd,if_pos rfl,ln,z]
  refine ⟨_,Sum.inl t,b3.at_,rfl,len,fun v hv => ?_,fun hn => ?_⟩
  ·obtain ⟨la,ls,rfl,hm,hla,hp⟩:=b3.get hv
   have pl:=AB (col.take i) t
   have lz : (ls.map V.int).length < sizeLine:=aB (by rw [lm_,hp]; omega)
   refine ⟨.inl ⟨rfl,_,qL_ hla⟩,_,rfl,la,_,_,rfl,rfl,hla,lz,?_⟩
   exact ⟨es,_,_,rfl,aw (s2.trans sL) (b2.fresh _ hm),kr,b3.old hm hla (grow ls hp) oth⟩
  ·have hq : t ∉ es.map Prod.fst:=fun z => by
    obtain ⟨e,he,ee⟩:=List.mem_map.mp z
    obtain ⟨jj,hjj⟩:=List.mem_iff_getElem?.mp he
    have:=vi b3.nd (q:=e.1) (a:=e.2) hjj
    rw [ee,hn] at this
    cases this
   have hL3 : (upd (upd H2 L (HO.lst [])) B (HO.dK (putK (kvL es) (Sum.inl t) (V.ref L)))) L = some (.lst []):=by rw [aj (Ne.symm nLB),af]
   refine ⟨.inl ⟨rfl,_,qL_ hL3⟩,_,rfl,L,_,_,rfl,rfl,hL3,(by show 0 < sizeLine; decide),?_⟩
   refine ⟨es ++ [(t,L)],_,_,rfl,aw (aw (s2.trans sL) hB) fL,fun e he => ?_,b3.new hq af fL nL (grow [] (b3.non _ hq)) oth⟩
   rcases ma_.mp he with z | z
   ·exact kr e z
   ·rw [List.mem_singleton.mp z]; exact stq
 ·rintro σ' H1 ⟨es,v1,v2,rfl,s1,kr,b1⟩
  rw [lm_,List.take_length] at b1
  exact ⟨_,rfl,k B es _ s1 hB b1⟩
end
structure PCls (K : PySem.W.Frag) (C : Addr) : Prop where
 cl : Cls K C
 ng : NoAttr K C "group_of"
 nm : NoAttr K C "members"
 nw : NoAttr K C "waiting"
 ni : NoAttr K C "is_waiting"
structure PtAt (H : Hp) (C x go ms wt iw : Addr) : Prop where
 ob : ∃ dx : Addr,H x = some (.ins C dx [("group_of",.ref go),("members",.ref ms),("waiting",.ref wt),("is_waiting",.ref iw)])
theorem PtAt.same {H H' : Hp} {C x go ms wt iw : Addr} (h : PtAt H C x go ms wt iw) (s : Same H H') : PtAt H' C x go ms wt iw:=by
 obtain ⟨dx,h1⟩:=h.ob
 exact ⟨dx,s _ _ h1⟩
def vW (K : PySem.W.Frag) (C : Addr) : Sp:=fun vs H Q _ => ∃ (x go ms wt iw : Addr) (gs : LI) (ds : List Addr),vs = [.ref x] /\ PtAt H C x go ms wt iw /\ H go = some (.lst (gs.map V.int)) /\ H ms = some (.lst (ds.map V.ref)) /\ Q (.bl (decide (ds.length = gs.length))) H
def CM (C : Addr) : Sp:=fun vs H Q _ => ∃ (x go ms wt iw : Addr) (n : Int) (ws ks : LI),vs = [.ref x,.int n] /\ PtAt H C x go ms wt iw /\ H wt = some (.lst (ws.map V.int)) /\ H iw = some (.dK (kvT ks)) /\ ks.Nodup /\ ws.length <= 1000 /\ ks.length <= 1000 /\
 Q .non (upd (upd H wt (.lst ((ws ++ [n]).map V.int))) iw (.dK (kvT (if n ∈ ks then ks else ks ++ [n]))))
theorem z8 (ks : LI) (g : Int) : uX (kvT ks) (Sum.inl g) = kvT (ks.filter fun k => decide (k ≠ g)):=by
 unfold uX kvT
 rw [List.filter_map]
 congr 1
 refine List.filter_congr fun k _ => ?_
 by_cases c : k = g
 ·subst c
  simp
 ·have : (Sum.inl k : Key) ≠ Sum.inl g:=fun z => c (Sum.inl.inj z)
  simp [c,this]
theorem Fw (ks : LI) : (kvT ks).map (fun kv => kV kv.1) = ks.map V.int:=by
 unfold kvT
 rw [List.map_map]
 rfl
def ze (C : Addr) : Sp:=fun vs H Q _ => ∃ (x go ms wt iw da : Addr) (g : Int) (ws ks mem : LI) (ds : List Addr),vs = [.ref x] /\ PtAt H C x go ms wt iw /\ H wt = some (.lst ((ws ++ [g]).map V.int)) /\ H iw = some (.dK (kvT ks)) /\ g ∈ ks /\ H ms = some (.lst (ds.map V.ref)) /\ 0 <= g /\ ds[g.toNat]? = some da /\ ms ≠ wt /\ H da = some (.dK (kvT mem)) /\ da ≠ iw /\ mem.length <= 1000 /\
 ∀ l,H l = none -> Q (.ref l) (upd (upd (upd H wt (.lst (ws.map V.int))) iw (.dK (kvT (ks.filter fun k => decide (k ≠ g))))) l (.lst (mem.map V.int)))
section
variable {P : Program} {w : World} {K : PySem.W.Frag} {mg : Str -> Option Value} {base : Heap} {f : Addr} {fd : FuncData} {dV : Value} {C : Addr}
theorem qg : FnScope ["self"] ["self"] (ah b7):=⟨rfl,rfl,rfl,by decide +kernel,rfl,by decide +kernel,by decide +kernel⟩
theorem oO : FnScope ["self","group"] ["self","group"] (ah bT):=⟨rfl,rfl,rfl,by decide +kernel,rfl,by decide +kernel,by decide +kernel⟩
theorem sc_Parted_next_splitter : FnScope ["self","group"] ["self"] (ah br):=⟨rfl,rfl,rfl,by decide +kernel,rfl,by decide +kernel,by decide +kernel⟩
theorem Ew (F : FunD K "is_done" "Parted.is_done" b7 dV f fd) (pc : PCls K C) (aU : mg "len" = none) : FnOk P w K mg base CX0 1 f fd ["self"] (vW K C):=by
 refine F.ok qg (fun vs H Q E h => ?_) (fun cdv A outer s H vs Q E hr h => ?_)
 ·obtain ⟨x,go,ms,wt,iw,gs,ds,rfl,_⟩:=h
  rfl
 obtain ⟨x,go,ms,wt,iw,gs,ds,rfl,⟨dx,hx⟩,hgo,hms,q⟩:=h
 refine ⟨_,(ao (aI (hV eY (aA aD (by rfl) aU bG (aa (du (pv 0) rfl) ae)) (aA aD (by rfl) aU bG (aa (du (pv 0) rfl) ae)) (aW _)))),?_⟩
 refine ⟨_,rfl,x,C,dx,_,_,rfl,hx,pc.cl,pc.nm,rfl,ms,_,rfl,.inl (qL_ hms),_,rfl,x,C,dx,_,_,rfl,hx,pc.cl,pc.ng,rfl,go,_,rfl,.inl (qL_ hgo),rfl,?_⟩
 rw [lm_,lm_]
 have e : decide (V.int (ds.length : Int) = V.int (gs.length : Int)) = decide (ds.length = gs.length):=decide_eq_decide.mpr ⟨fun h => by have:=V.int.inj h; omega,fun h => by rw [h]⟩
 rw [e]
 exact q
theorem Ci (F : FunD K "wait_for" "Parted.wait_for" bT dV f fd) (pc : PCls K C) : FnOk P w K mg base CX0 1 f fd ["self","group"] (CM C):=by
 refine F.ok oO (fun vs H Q E h => ?_) (fun cdv A outer s H vs Q E hr h => ?_)
 ·obtain ⟨x,go,ms,wt,iw,n,ws,ks,rfl,_⟩:=h
  rfl
 obtain ⟨x,go,ms,wt,iw,n,ws,ks,rfl,⟨dx,hx⟩,hwt,hiw,nd,l1,l2,q⟩:=h
 have hu:=lI hr
 refine ⟨_,(ag (bq (fj PySem.F.plainAttrs_list PySem.F.slot_list_append PySem.F.type_list_append bD (du (pv 0) rfl) (aa (pv 1) ae)))
   (ao (uv hu (du (pv 0) rfl) (pv 1) cC rfl))),?_⟩
 have nx : x ≠ wt:=aJ hx hwt (by intro z; cases z)
 have ni : iw ≠ wt:=aJ hiw hwt (by intro z; cases z)
 refine ⟨_,rfl,x,C,dx,_,_,rfl,hx,pc.cl,pc.nw,rfl,.inl ⟨rfl,_,qL_ hwt⟩,_,rfl,wt,_,_,rfl,rfl,hwt,aB (by rw [lm_]; exact l1),?_⟩
 refine ⟨_,rfl,x,C,dx,_,_,rfl,by rw [aj nx]; exact hx,pc.cl,pc.ni,rfl,_,rfl,iw,_,rfl,DPut.k (k:=Sum.inl n) (by rw [aj ni]; exact hiw) (aB (by unfold kvT; rw [lm_]; exact l2)),?_⟩
 have e : putK (kvT ks) (Sum.inl n) (V.bl true) = kvT (if n ∈ ks then ks else ks ++ [n]):=by
  by_cases c : n ∈ ks
  ·rw [if_pos c]
   unfold putK
   rw [if_pos (show ((kvT ks).any fun kv => decide (kv.fst = Sum.inl n)) = true from List.any_eq_true.mpr ⟨(Sum.inl n,V.bl true),List.mem_map.mpr ⟨n,c,rfl⟩,by simp⟩)]
   refine (List.map_congr_left fun kv hk => ?_).trans (List.map_id _)
   obtain ⟨k,_,rfl⟩:=List.mem_map.mp hk
   show (if (Sum.inl k : Key) = Sum.inl n then ((Sum.inl k : Key),V.bl true) else (Sum.inl k,V.bl true)) = (Sum.inl k,V.bl true)
   split <;> rfl
  ·rw [if_neg c]
   exact uk c
 rw [e]
 rw [List.map_append] at q
 exact q
theorem FQ (F : FunD K "next_splitter" "Parted.next_splitter" br dV f fd) (pc : PCls K C) (gR : mg "list" = none) : FnOk P w K mg base CX0 1 f fd ["self"] (ze C):=by
 refine F.ok sc_Parted_next_splitter (fun vs H Q E h => ?_) (fun cdv A outer s H vs Q E hr h => ?_)
 ·obtain ⟨x,go,ms,wt,iw,da,g,ws,ks,mem,ds,rfl,_⟩:=h
  rfl
 obtain ⟨x,go,ms,wt,iw,da,g,ws,ks,mem,ds,rfl,⟨dx,hx⟩,hwt,hiw,gk,hms,g0,hda0,nmw,hda,ndi,lm,q⟩:=h
 have hu:=lI hr
 refine ⟨_,(ag (au (i:=1) sc_Parted_next_splitter.nd rfl (Or.inl rfl) (Ck PySem.F.plainAttrs_list PySem.F.slot_list_pop PySem.F.type_list_pop FF (du (pv 0) rfl)))
   (ag (bq (Av (du (pv 0) rfl) (pv 1) ⟨rfl,rfl,rfl,rfl⟩))
   (ao (aI (a9 (uJ rfl) (by rfl) gR uh (aa (aL eN (du (pv 0) rfl) (pv 1) (fun _ _ => rfl)) ae)))))),?_⟩
 have nx : x ≠ wt:=aJ hx hwt (by intro z; cases z)
 have nxi : x ≠ iw:=aJ hx hiw (by intro z; cases z)
 have ni : iw ≠ wt:=aJ hiw hwt (by intro z; cases z)
 have nmi : ms ≠ iw:=aJ hms hiw (by intro z; cases z)
 have ndw : da ≠ wt:=aJ hda hwt (by intro z; cases z)
 have last : ((ws ++ [g]).map V.int)[((ws ++ [g]).map V.int).length - 1]? = some (.int g):=by
  rw [lm_,List.length_append,List.length_singleton,Nat.add_sub_cancel,List.getElem?_map,List.getElem?_append_right (Nat.le_refl _),Nat.sub_self]
  rfl
 have dl : ((ws ++ [g]).map V.int).dropLast = ws.map V.int:=by rw [List.map_append]; exact List.dropLast_concat
 obtain ⟨v,hv⟩ : ∃ v,ff (kvT ks) (Sum.inl g) = some v:=by
  have h:=um ks g
  rw [decide_eq_true gk] at h
  exact Option.isSome_iff_exists.mp h
 have at' : atI (ds.map V.ref) g = some (.ref da):=by
  have q' : atI (ds.map V.ref) ((g.toNat : Nat) : Int) = some (.ref da):=px (by rw [List.getElem?_map,hda0]; rfl)
  rw [Int.toNat_of_nonneg g0] at q'
  exact q'
 refine ⟨_,rfl,x,C,dx,_,_,rfl,hx,pc.cl,pc.nw,rfl,.inl ⟨rfl,_,qL_ hwt⟩,wt,_,_,rfl,rfl,hwt,last,?_⟩
 rw [dl]
 have hx1 : (upd H wt (HO.lst (ws.map V.int))) x = _:=(aj nx).trans hx
 have hiw1 : (upd H wt (HO.lst (ws.map V.int))) iw = _:=(aj ni).trans hiw
 refine ⟨_,rfl,x,C,dx,_,_,rfl,hx1,pc.cl,pc.ni,rfl,iw,rfl,.inl ⟨_,.inl hiw1⟩,_,rfl,kvT ks,Sum.inl g,v,hiw1,rfl,hv,?_⟩
 rw [z8]
 refine ⟨_,rfl,x,C,dx,_,_,rfl,(aj nxi).trans hx1,pc.cl,pc.nm,rfl,_,rfl,ms,_,_,_,rfl,rfl,qL_ ((aj nmi).trans ((aj nmw).trans hms)),at',da,_,rfl,(aj ndi).trans ((aj ndw).trans hda),fun l hl => ?_⟩
 rw [Fw]
 refine q l ?_
 by_cases c1 : l = iw
 ·rw [c1,af] at hl
  cases hl
 ·rw [aj c1] at hl
  by_cases c2 : l = wt
  ·rw [c2,af] at hl
   cases hl
  ·rw [aj c2] at hl
   exact hl
end
def setG (gs done : LI) (n : Int) : LI:=done.foldl (fun g q => g.set q.toNat n) gs
def outF (mem done : LI) : LI:=mem.filter fun q => decide (q ∉ done)
theorem AO (gs : LI) (n : Int) : ∀ done : LI,(setG gs done n).length = gs.length:=fun done => by
 unfold setG
 induction done generalizing gs with
 | nil => rfl
 | cons q r ih => rw [List.foldl_cons,ih,List.length_set]
theorem EO (gs done : LI) (q n : Int) : setG gs (done ++ [q]) n = (setG gs done n).set q.toNat n:=by
 unfold setG
 rw [List.foldl_append]
 rfl
theorem EI (mem done : LI) (q : Int) : (outF mem done).filter (fun k => decide (k ≠ q)) = outF mem (done ++ [q]):=by
 unfold outF
 rw [List.filter_filter]
 refine List.filter_congr fun k _ => ?_
 by_cases c : k = q
 ·subst c
  simp
 ·simp [c]
def zh (K : PySem.W.Frag) (C : Addr) : Sp:=fun vs H Q _ => ∃ (x go ms wt iw da il : Addr) (g : Int) (gs ws ks mem ins : LI) (ds : List Addr),vs = [.ref x,.int g,.ref il] /\ PtAt H C x go ms wt iw /\ H go = some (.lst (gs.map V.int)) /\ H ms = some (.lst (ds.map V.ref)) /\ H wt = some (.lst (ws.map V.int)) /\ H iw = some (.dK (kvT ks)) /\ ks.Nodup /\ (ws.length <= 1000 /\ ks.length <= 1000 /\ ds.length < 1000 /\ ins.length <= 1000) /\
 0 <= g /\ ds[g.toNat]? = some da /\ H da = some (.dK (kvT mem)) /\ H il = some (.lst (ins.map V.int)) /\ ins.Nodup /\ (∀ q ∈ ins,q ∈ mem /\ 0 <= q /\ q < (gs.length : Int)) /\ (go ≠ ms /\ go ≠ wt /\ go ≠ il /\ ms ≠ wt /\ ms ≠ il /\ wt ≠ il /\ da ≠ iw) /\
 ∀ (E : Addr) (nw : Int) (H' : Hp),H E = none -> H' E = some (.dK (kvT ins)) -> H' ms = some (.lst ((ds ++ [E]).map V.ref)) -> H' da = some (.dK (kvT (outF mem ins))) -> H' go = some (.lst ((setG gs ins (ds.length : Int)).map V.int)) -> H' wt = some (.lst ((ws ++ [nw]).map V.int)) -> H' iw = some (.dK (kvT (if nw ∈ ks then ks else ks ++ [nw]))) ->
  ((g ∈ ks \/ ins.length <= (outF mem ins).length) -> nw = (ds.length : Int)) -> (¬ (g ∈ ks \/ ins.length <= (outF mem ins).length) -> nw = g) -> (∀ c u,c ≠ go -> c ≠ ms -> c ≠ da -> c ≠ wt -> c ≠ iw -> H c = some u -> H' c = some u) -> Q .non H'
theorem Hd {n z : Nat} (h : z < n) : ixN n (z : Int) = some z:=by
 unfold ixN
 rw [if_pos (by omega),if_pos (by omega),Int.toNat_natCast]
section
variable {P : Program} {w : World} {K : PySem.W.Frag} {mg : Str -> Option Value} {base : Heap} {f : Addr} {fd : FuncData} {dV : Value} {C : Addr}
theorem sc_Parted_split_off : FnScope ["self","group","inside","fresh","outside","here"] ["self","group","inside"] (ah bC):=⟨rfl,rfl,rfl,by decide +kernel,rfl,by decide +kernel,by decide +kernel⟩
theorem bk_Parted_split_off_0 : BlkScope ["self","group","inside","fresh","outside","here"] (ah bC) ["here"] [none] { kind:=ScopeKind.function,names:=[(".0",NameKind.local),("here",NameKind.local)],isGenerator:=false,isCoroutine:=false,more:=[] }:=⟨rfl,by decide +kernel,by decide +kernel,by decide +kernel,by decide +kernel,rfl,by decide +kernel⟩
theorem FV (F : FunD K "split_off" "Parted.split_off" bC dV f fd) (pc : PCls K C) (iT : DefMe P w K mg base C "wait_for" 1 ["self","group"] (CM C)) (aU : mg "len" = none) (gQ : mg "dict" = none) : FnOk P w K mg base CX0 2 f fd ["self","group","inside"] (zh K C):=by
 refine F.ok sc_Parted_split_off (fun vs H Q E h => ?_) (fun cdv A outer s H vs Q E hr h => ?_)
 ·obtain ⟨x,go,ms,wt,iw,da,il,g,gs,ws,ks,mem,ins,ds,rfl,_⟩:=h
  rfl
 obtain ⟨x,go,ms,wt,iw,da,il,g,gs,ws,ks,mem,ins,ds,rfl,⟨dx,hx⟩,hgo,hms,hwt,hiw,ndk,⟨lw,lk,ld,li⟩,g0,hda0,hda,hil,ndi,hins,⟨n1,n2,n3,n4,n5,n6,n7⟩,k⟩:=h
 have hu:=lI hr
 refine ⟨_,(ag (au (i:=3) sc_Parted_split_off.nd rfl (Or.inl rfl) (aA aD (by rfl) aU bG (aa (du (pv 0) rfl) ae)))
   (ag (au (i:=4) sc_Parted_split_off.nd rfl (Or.inl rfl) (aL eN (du (pv 0) rfl) (pv 1) (fun _ _ => rfl)))
   (ag (bu PassesOwn.never rfl (ck (pv 2)) (ax (i:=5) sc_Parted_split_off.nd rfl (Or.inl rfl)) (ag (bq (Av (pv 4) (pv 5) ⟨rfl,rfl,rfl,rfl⟩))
   (ao (y1 (pv 3) (I9 (du (pv 0) rfl) (pv 5) set_list)))))
   (ag (bq (fj PySem.F.plainAttrs_list PySem.F.slot_list_append PySem.F.type_list_append bD (du (pv 0) rfl) (aa (a9 (k9 rfl) (by rfl) gQ ug (aa (dG rfl bk_Parted_split_off_0 (ck (pv 2)) (fun _ _ _ _ => (ax (i:=0) bk_Parted_split_off_0.nd rfl (Or.inl rfl))) (fun _ _ _ _ => (iM (aa (pv 0) (aa cC ae))))) ae)) ae)))
   (ao (bS (PW.pt (kW (Cu (IV hu (pv 1) (du (pv 0) rfl)) (by with_unfolding_all rfl)) (lP (aS F1 (aA aD (by rfl) aU bG (aa (pv 2) ae)) (aA lZ (by rfl) aU bG (aa (pv 4) ae)) (aW _))))) (ao (bq (Dv iT hr (pv 0) (aa (pv 3) ae)))) (ao (bq (Dv iT hr (pv 0) (aa (pv 1) ae)))))))))),?_⟩
 have o0 : outF mem [] = mem:=List.filter_eq_self.mpr fun _ _ => by simp
 have nxg : x ≠ go:=aJ hx hgo (by intro z; cases z)
 have nxd : x ≠ da:=aJ hx hda (by intro z; cases z)
 have ngd : go ≠ da:=aJ hgo hda (by intro z; cases z)
 have at' : atI (ds.map V.ref) g = some (.ref da):=by
  have q' : atI (ds.map V.ref) ((g.toNat : Nat) : Int) = some (.ref da):=px (by rw [List.getElem?_map,hda0]; rfl)
  rw [Int.toNat_of_nonneg g0] at q'
  exact q'
 refine ⟨_,rfl,x,C,dx,_,_,rfl,hx,pc.cl,pc.nm,rfl,ms,_,rfl,.inl (qL_ hms),?_⟩
 rw [lm_]
 refine ⟨_,rfl,x,C,dx,_,_,rfl,hx,pc.cl,pc.nm,rfl,_,rfl,ms,_,_,_,rfl,rfl,qL_ hms,at',?_⟩
 try dsimp only [bB,dm]
 refine dR (t:=oX _ _ _) (fun σ' H' => ∃ v : OV,σ' = [some (.ref x),some (.int g),some (.ref il),some (.int (ds.length : Int)),some (.ref da),v] /\ H' da = some (.dK (kvT (outF mem ins))) /\ H' go = some (.lst ((setG gs ins (ds.length : Int)).map V.int)) /\ ∀ c u,c ≠ go -> c ≠ da -> H c = some u -> H' c = some u) ?_ (fun D' nxt => ?_)
 rotate_left
 ·refine ⟨_,rfl,il,rfl,⟨_,qL_ hil⟩,?_⟩
  refine dz (K:=K) (xs:=ins.map V.int) (fun i σ' H' => ∃ v : OV,σ' = [some (.ref x),some (.int g),some (.ref il),some (.int (ds.length : Int)),some (.ref da),v] /\ H' da = some (.dK (kvT (outF mem (ins.take i)))) /\ H' go = some (.lst ((setG gs (ins.take i) (ds.length : Int)).map V.int)) /\ ∀ c u,c ≠ go -> c ≠ da -> H c = some u -> H' c = some u) ⟨none,rfl,by rw [List.take_zero,o0]; exact hda,hgo,fun _ _ _ _ e => e⟩ (fun i σ' H' _ ⟨_,_,_,_,e⟩ => qL_ (e _ _ (Ne.symm n3) (aJ hil hda (by intro z; cases z)) hil)) ?_ ?_
  ·rintro i y σ' H3 hi ⟨v,rfl,hd3,hg3,kp3⟩
   obtain ⟨q,rfl,hq⟩:=bw hi
   have qm:=hins q (mq_ hq)
   have qo : q ∈ outF mem (ins.take i):=by
    refine List.mem_filter.mpr ⟨qm.1,decide_eq_true fun z => ?_⟩
    obtain ⟨j,hj,ej⟩:=List.getElem_of_mem z
    rw [List.length_take] at hj
    rw [List.getElem_take] at ej
    have ql:=gi_ hq
    have:=(List.getElem_inj ndi).mp (ej.trans ql.2.symm)
    omega
   obtain ⟨vv,hvv⟩ : ∃ v,ff (kvT (outF mem (ins.take i))) (Sum.inl q) = some v:=by
    have h:=um (outF mem (ins.take i)) q
    rw [decide_eq_true qo] at h
    exact Option.isSome_iff_exists.mp h
   have et : ins.take (i + 1) = ins.take i ++ [q]:=by rw [List.take_add_one,hq]; rfl
   refine ⟨_,rfl,da,rfl,.inl ⟨_,.inl hd3⟩,_,rfl,_,Sum.inl q,vv,hd3,rfl,hvv,?_⟩
   rw [z8,EI,<- et]
   have hx3:=kp3 _ _ nxg nxd hx
   refine ⟨_,rfl,_,rfl,x,C,dx,_,_,rfl,(aj nxd).trans hx3,pc.cl,pc.ng,rfl,_,rfl,go,_,q,q.toNat,rfl,rfl,(aj ngd).trans hg3,?_,?_⟩
   ·rw [lm_,AO]
    have:=Hd (n:=gs.length) (z:=q.toNat) (by omega)
    rw [Int.toNat_of_nonneg qm.2.1] at this
    exact this
   ·refine ⟨_,rfl,by rw [aj (Ne.symm ngd),af],?_,fun c u c1 c2 e => by rw [aj c1,aj c2]; exact kp3 c u c1 c2 e⟩
    rw [af,et,EO,List.map_set]
  ·rintro σ' H3 ⟨v,rfl,hd3,hg3,kp3⟩
   rw [lm_,List.take_length] at hd3 hg3
   exact nxt _ _ ⟨v,rfl,hd3,hg3,kp3⟩
 rintro σ' H1 ⟨v,rfl,hd1,hg1,kp1⟩
 have hx1:=kp1 _ _ nxg nxd hx
 have hms1:=kp1 _ _ (Ne.symm n1) (aJ hms hda (by intro z; cases z)) hms
 have hil1:=kp1 _ _ (Ne.symm n3) (aJ hil hda (by intro z; cases z)) hil
 refine ⟨_,rfl,x,C,dx,_,_,rfl,hx1,pc.cl,pc.nm,rfl,.inl ⟨rfl,_,qL_ hms1⟩,_,rfl,il,rfl,⟨_,qL_ hil1⟩,?_⟩
 refine fG (K:=K) (xs:=ins.map V.int) (fun D i ys H' => Same H1 H' /\ ∃ ts,ys = ts.map V.ref /\ PairsV H' ts (kvT (ins.take i))) (fun D hD => ⟨aq hD _,[],rfl,.nil⟩) (fun D i ys H' _ ⟨e,_⟩ => qL_ (e _ _ hil1)) ?_ ?_
 ·rintro D i y ys H' Q' hD hi hy ⟨hs,ts,rfl,pv⟩ k'
  obtain ⟨q,rfl,hq⟩:=bw hi
  have il' : i < ins.length:=(gi_ hq).1
  refine ⟨_,rfl,(by show 2 <= sizeLine; decide),fun T hT => ?_⟩
  have sT:=aq hT (HO.tup [V.int q,V.bl true])
  have nD : D ≠ T:=av hy hT
  have lts : ts.length = i:=by
   rw [Paired.length pv]
   unfold kvT
   rw [lm_,List.length_take]
   omega
  have hyT : (upd H' T (HO.tup [V.int q,V.bl true])) D = some (.lst (ts.map V.ref)):=by rw [aj nD]; exact hy
  refine k' _ _ hyT (aB (by rw [lm_]; omega)) ⟨aw (aw hs (hs.free hT)) hD,ts ++ [T],by rw [List.map_append]; rfl,?_⟩
  rw [List.take_add_one,hq]
  have up : ∀ b xs,(upd H' T (HO.tup [V.int q,V.bl true])) b = some (.tup xs) -> (upd (upd H' T (HO.tup [V.int q,V.bl true])) D (.lst (ts.map V.ref ++ [V.ref T]))) b = some (.tup xs):=fun b xs e => by
   rw [aj (aJ e hyT (by intro z; cases z))]; exact e
  show PairsV _ _ (kvT (ins.take i ++ [q]))
  unfold kvT
  rw [List.map_append]
  exact Paired.snoc (PairsV.same pv fun b xs e => up b xs (sT _ _ e)) (up _ _ af)
 rintro L ys H2 fL hL ⟨s2,ts,rfl,pv⟩
 rw [lm_,List.take_length] at pv
 refine ⟨L,ts,_,rfl,hL,pv,fun N hN => ?_⟩
 rw [yg ndi]
 have s3:=s2.trans (aq hN (HO.dK (kvT ins)))
 obtain ⟨H3,eH3⟩ : ∃ H3,upd H2 N (HO.dK (kvT ins)) = H3:=⟨_,rfl⟩
 have hN3 : H3 N = some (.dK (kvT ins)):=by rw [<- eH3]; exact af
 rw [eH3] at s3 ⊢
 have fN : H1 N = none:=s2.free hN
 have hms3:=s3 _ _ hms1
 have nxm : x ≠ ms:=aJ hx hms (by intro z; cases z)
 refine ⟨ms,_,_,rfl,rfl,hms3,aB (by rw [lm_]; omega),?_⟩
 have nNm : N ≠ ms:=aJ hN3 hms3 (by intro z; cases z)
 have nxi : x ≠ iw:=aJ hx hiw (by intro z; cases z)
 have nim : iw ≠ ms:=aJ hiw hms (by intro z; cases z)
 have ndm : da ≠ ms:=aJ hda hms (by intro z; cases z)
 obtain ⟨H4,eH4⟩ : ∃ H4,upd H3 ms (HO.lst (ds.map V.ref ++ [V.ref N])) = H4:=⟨_,rfl⟩
 have kp4 : ∀ c u,c ≠ ms -> H1 c = some u -> H4 c = some u:=fun c u c1 e => by rw [<- eH4,aj c1]; exact s3 _ _ e
 have hms4 : H4 ms = some (.lst ((ds ++ [N]).map V.ref)):=by rw [<- eH4,af,List.map_append]; rfl
 have hN4 : H4 N = some (.dK (kvT ins)):=by rw [<- eH4,aj nNm]; exact hN3
 have hx4:=kp4 _ _ nxm hx1
 have hiw4:=kp4 _ _ nim (kp1 _ _ (aJ hiw hgo (by intro z; cases z)) (Ne.symm n7) hiw)
 have hwt4:=kp4 _ _ (Ne.symm n4) (kp1 _ _ (Ne.symm n2) (aJ hwt hda (by intro z; cases z)) hwt)
 have hda4:=kp4 _ _ ndm hd1
 have hgo4:=kp4 _ _ n1 hg1
 have hil4:=kp4 _ _ (Ne.symm n5) hil1
 rw [eH4]
 have niw : iw ≠ wt:=aJ hiw hwt (by intro z; cases z)
 have lo : (kvT (outF mem ins)).length = (outF mem ins).length:=by unfold kvT; rw [lm_]
 have fN0 : H N = none:=by
  cases e : H N with
  | none => rfl
  | some u =>
   have z1 : N = go \/ N = da:=Classical.byContradiction fun z => by
    have:=kp1 N u (fun a => z (.inl a)) (fun a => z (.inr a)) e
    rw [fN] at this
    cases this
   rcases z1 with z | z
   ·rw [z,hg1] at fN; cases fN
   ·rw [z,hd1] at fN; cases fN
 have fin : ∀ nw : Int,((g ∈ ks \/ ins.length <= (outF mem ins).length) -> nw = (ds.length : Int)) -> (¬ (g ∈ ks \/ ins.length <= (outF mem ins).length) -> nw = g) -> Q .non (upd (upd H4 wt (.lst ((ws ++ [nw]).map V.int))) iw (.dK (kvT (if nw ∈ ks then ks else ks ++ [nw])))):=fun nw h1 h2 => by
  have nNw : N ≠ wt:=aJ hN4 hwt4 (by intro z; cases z)
  have nNi : N ≠ iw:=fun z => by rw [z,hiw] at fN0; cases fN0
  refine k N nw _ fN0 ?_ ?_ ?_ ?_ ?_ af h1 h2 fun c u c1 c2 c3 c4 c5 e => ?_
  ·rw [aj nNi,aj nNw]; exact hN4
  ·rw [aj (Ne.symm nim),aj n4]; exact hms4
  ·rw [aj n7,aj (aJ hda hwt (by intro z; cases z))]; exact hda4
  ·rw [aj (aJ hgo hiw (by intro z; cases z)),aj n2]; exact hgo4
  ·rw [aj (Ne.symm niw),af]
  ·rw [aj c5,aj c4]; exact kp4 _ _ c2 (kp1 c u c1 c3 e)
 refine ⟨_,rfl,_,rfl,x,C,dx,_,_,rfl,hx4,pc.cl,pc.ni,rfl,iw,_,rfl,DGet.k (k:=Sum.inl g) hiw4,_,rfl,?_⟩
 rw [um]
 have yes : (g ∈ ks \/ ins.length <= (outF mem ins).length) -> Q .non (upd (upd H4 wt (.lst ((ws ++ [(ds.length : Int)]).map V.int))) iw (.dK (kvT (if (ds.length : Int) ∈ ks then ks else ks ++ [(ds.length : Int)])))):=fun h => fin _ (fun _ => rfl) (fun n => absurd h n)
 refine kX (fun c => ?_) (fun c => ?_)
 ·exact wR ⟨_,rfl,x,dx,_,rfl,hx4,rfl,_,rfl,x,go,ms,wt,iw,(ds.length : Int),ws,ks,rfl,⟨dx,hx4⟩,hwt4,hiw4,ndk,lw,lk,yes (.inl c)⟩
 ·refine ⟨_,rfl,il,_,rfl,.inl (qL_ hil4),_,rfl,da,_,rfl,hda4,_,_,rfl,rfl,_,rfl,kX (fun c2 => ?_) (fun c2 => ?_)⟩
  ·rw [lm_,lo] at c2
   exact ⟨_,rfl,x,dx,_,rfl,hx4,rfl,_,rfl,x,go,ms,wt,iw,(ds.length : Int),ws,ks,rfl,⟨dx,hx4⟩,hwt4,hiw4,ndk,lw,lk,yes (.inr (by omega))⟩
  ·rw [lm_,lo] at c2
   exact ⟨_,rfl,x,dx,_,rfl,hx4,rfl,_,rfl,x,go,ms,wt,iw,g,ws,ks,rfl,⟨dx,hx4⟩,hwt4,hiw4,ndk,lw,lk,fin g (fun h => absurd h (fun z => by
    rcases z with z | z
    ·exact c z
    ·exact c2 (by omega))) (fun _ => rfl)⟩
end
def ar (many : Nat) (q : Int) : Prop:=0 <= q /\ q < (many : Int)
structure Likes (many : Nat) (cols : List (Int -> Int)) (sg : Int -> Int) (R : Int -> Int -> Prop) : Prop where
 sgn : ∀ x y,R x y -> sg x = sg y
 led : ∀ x y,R x y -> ∀ c ∈ cols,R (c x) (c y)
structure Hop (many : Nat) (cols : List (Int -> Int)) (sg : Int -> Int) (R : Int -> Int -> Prop) (grp : Int -> Int) (W : Int -> Prop) : Prop where
 coarse : ∀ x y,ar many x -> ar many y -> R x y -> grp x = grp y
 signs : ∀ x y,ar many x -> ar many y -> grp x = grp y -> sg x = sg y
 cong : ∀ x y,ar many x -> ar many y -> grp x = grp y -> ∀ c ∈ cols,grp (c x) = grp (c y) \/ W (grp (c x)) \/ W (grp (c y))
structure HopS (many : Nat) (cols : List (Int -> Int)) (sg : Int -> Int) (R : Int -> Int -> Prop) (grp : Int -> Int) (W : Int -> Prop) (S : Int -> Prop) (k : Nat) : Prop where
 coarse : ∀ x y,ar many x -> ar many y -> R x y -> grp x = grp y
 signs : ∀ x y,ar many x -> ar many y -> grp x = grp y -> sg x = sg y
 whole : ∀ x y,ar many x -> ar many y -> R x y -> S x -> S y
 cong : ∀ x y,ar many x -> ar many y -> grp x = grp y -> ∀ (j : Nat) (c : Int -> Int),cols[j]? = some c ->
  grp (c x) = grp (c y) \/ W (grp (c x)) \/ W (grp (c y)) \/ (k <= j /\ ((S (c x) /\ ¬ S (c y)) \/ (S (c y) /\ ¬ S (c x))))
section
variable {many : Nat} {cols : List (Int -> Int)} {sg : Int -> Int} {R : Int -> Int -> Prop} {grp : Int -> Int} {W S : Int -> Prop} {k : Nat}
theorem Hop.pop (h : Hop many cols sg R grp W) (hc : ∀ x,ar many x -> ∀ c ∈ cols,ar many (c x)) (s : Int) : HopS many cols sg R grp (fun g => W g /\ g ≠ s) (fun q => grp q = s) 0 where
 coarse:=h.coarse
 signs:=h.signs
 whole:=fun x y hx hy r e => (h.coarse x y hx hy r).symm.trans e
 cong:=fun x y hx hy e j c hj => by
  have cm:=mq_ hj
  rcases Classical.em (grp (c x) = grp (c y)) with q | q
  ·exact .inl q
  rcases Classical.em (grp (c x) = s) with a | a
  ·exact .inr (.inr (.inr ⟨Nat.zero_le _,.inl ⟨a,fun b => q (a.trans b.symm)⟩⟩))
  rcases Classical.em (grp (c y) = s) with b | b
  ·exact .inr (.inr (.inr ⟨Nat.zero_le _,.inr ⟨b,a⟩⟩))
  rcases h.cong x y hx hy e c cm with z | z | z
  ·exact .inl z
  ·exact .inr (.inl ⟨z,a⟩)
  ·exact .inr (.inr (.inl ⟨z,b⟩))
theorem HopS.done (h : HopS many cols sg R grp W S cols.length) : Hop many cols sg R grp W where
 coarse:=h.coarse
 signs:=h.signs
 cong:=fun x y hx hy e c cm => by
  obtain ⟨j,hj⟩:=List.mem_iff_getElem?.mp cm
  rcases h.cong x y hx hy e j c hj with z | z | z | ⟨z,_⟩
  ·exact .inl z
  ·exact .inr (.inl z)
  ·exact .inr (.inr z)
  ·have:=(gi_ hj).1
   omega
theorem HopS.split (h : HopS many cols sg R grp W S k) (sym : ∀ x y,R x y -> R y x) (hc : ∀ x,ar many x -> ∀ c ∈ cols,ar many (c x)) {L : Int -> Prop} {b n : Int} {W' : Int -> Prop}
  (hL : ∀ x y,ar many x -> ar many y -> R x y -> L x -> L y) (nn : ∀ x,ar many x -> grp x ≠ n)
  (w1 : ∀ g,W g -> W' g) (w2 : W b -> W' n) (w3 : W' n \/ W' b) {grp' : Int -> Int} (g1 : ∀ x,ar many x -> grp x = b -> L x -> grp' x = n) (g2 : ∀ x,ar many x -> ¬ (grp x = b /\ L x) -> grp' x = grp x) :
  HopS many cols sg R grp' W' S k:=by
 have back : ∀ x y,ar many x -> ar many y -> grp' x = grp' y -> grp x = grp y /\ (grp x = b -> (L x ↔ L y)):=fun x y hx hy e => by
  rcases Classical.em (grp x = b /\ L x) with q | q
  ·rcases Classical.em (grp y = b /\ L y) with p | p
   ·exact ⟨q.1.trans p.1.symm,fun _ => ⟨fun _ => p.2,fun _ => q.2⟩⟩
   ·rw [g1 x hx q.1 q.2,g2 y hy p] at e
    exact absurd e.symm (nn y hy)
  ·rcases Classical.em (grp y = b /\ L y) with p | p
   ·rw [g2 x hx q,g1 y hy p.1 p.2] at e
    exact absurd e (nn x hx)
   ·rw [g2 x hx q,g2 y hy p] at e
    exact ⟨e,fun eb => ⟨fun lx => absurd ⟨eb,lx⟩ q,fun ly => absurd ⟨e.symm.trans eb,ly⟩ p⟩⟩
 have wait : ∀ x,ar many x -> W (grp x) -> W' (grp' x):=fun x hx w => by
  rcases Classical.em (grp x = b /\ L x) with q | q
  ·rw [g1 x hx q.1 q.2]
   exact w2 (q.1 ▸ w)
  ·rw [g2 x hx q]
   exact w1 _ w
 refine ⟨fun x y hx hy r => ?_,fun x y hx hy e => h.signs x y hx hy (back x y hx hy e).1,h.whole,fun x y hx hy e j c hj => ?_⟩
 ·have e:=h.coarse x y hx hy r
  rcases Classical.em (grp x = b /\ L x) with q | q
  ·rw [g1 x hx q.1 q.2,g1 y hy (e.symm.trans q.1) (hL x y hx hy r q.2)]
  ·have p : ¬ (grp y = b /\ L y):=fun p => q ⟨e.trans p.1,hL y x hy hx (sym x y r) p.2⟩
   rw [g2 x hx q,g2 y hy p,e]
 ·have cm:=mq_ hj
  have hcx:=hc x hx c cm
  have hcy:=hc y hy c cm
  rcases h.cong x y hx hy (back x y hx hy e).1 j c hj with z | z | z | z
  ·rcases Classical.em (grp (c x) = b /\ L (c x)) with q | q
   ·rcases Classical.em (grp (c y) = b /\ L (c y)) with p | p
    ·exact .inl (by rw [g1 _ hcx q.1 q.2,g1 _ hcy p.1 p.2])
    ·have ex:=g1 _ hcx q.1 q.2
     have ey:=g2 _ hcy p
     rcases w3 with a | a
     ·exact .inr (.inl (by rw [ex]; exact a))
     ·exact .inr (.inr (.inl (by rw [ey,<- z,q.1]; exact a)))
   ·rcases Classical.em (grp (c y) = b /\ L (c y)) with p | p
    ·have ex:=g2 _ hcx q
     have ey:=g1 _ hcy p.1 p.2
     rcases w3 with a | a
     ·exact .inr (.inr (.inl (by rw [ey]; exact a)))
     ·exact .inr (.inl (by rw [ex,z,p.1]; exact a))
    ·exact .inl (by rw [g2 _ hcx q,g2 _ hcy p,z])
  ·exact .inr (.inl (wait _ hcx z))
  ·exact .inr (.inr (.inl (wait _ hcy z)))
  ·exact .inr (.inr (.inr z))
theorem HopS.next (h : HopS many cols sg R grp W S k) {c : Int -> Int} (hk : cols[k]? = some c) (hn : ∀ x y,ar many x -> ar many y -> grp x = grp y -> S (c x) -> S (c y)) : HopS many cols sg R grp W S (k + 1) where
 coarse:=h.coarse
 signs:=h.signs
 whole:=h.whole
 cong:=fun x y hx hy e j c' hj => by
  rcases h.cong x y hx hy e j c' hj with z | z | z | ⟨kj,z⟩
  ·exact .inl z
  ·exact .inr (.inl z)
  ·exact .inr (.inr (.inl z))
  ·rcases Nat.lt_or_ge k j with l | l
   ·exact .inr (.inr (.inr ⟨l,z⟩))
   ·have ej : j = k:=by omega
    subst ej
    rw [hk] at hj
    cases hj
    rcases z with ⟨a,b⟩ | ⟨a,b⟩
    ·exact absurd (hn x y hx hy e a) b
    ·exact absurd (hn y x hy hx e.symm a) b
theorem Hop.stable (h : Hop many cols sg R grp W) (hw : ∀ x,ar many x -> ¬ W (grp x)) (hc : ∀ x,ar many x -> ∀ c ∈ cols,ar many (c x)) : ∀ x y,ar many x -> ar many y -> grp x = grp y -> ∀ c ∈ cols,grp (c x) = grp (c y):=fun x y hx hy e c cm => by
 rcases h.cong x y hx hy e c cm with z | z | z
 ·exact z
 ·exact absurd z (hw _ (hc x hx c cm))
 ·exact absurd z (hw _ (hc y hy c cm))
theorem Hop.single (inj : ∀ x y,ar many x -> ar many y -> grp x = grp y -> x = y) : ∀ x y,ar many x -> ar many y -> grp x = grp y -> ∀ c ∈ cols,grp (c x) = grp (c y):=fun x y hx hy e c _ => by rw [inj x y hx hy e]
end
theorem Hop.start {many : Nat} {cols : List (Int -> Int)} {sg : Int -> Int} {R : Int -> Int -> Prop} (l : Likes many cols sg R) {grp : Int -> Int} {W : Int -> Prop} (hg : ∀ x y,ar many x -> ar many y -> (grp x = grp y ↔ sg x = sg y)) (hw : ∀ x,ar many x -> W (grp x)) (hc : ∀ x,ar many x -> ∀ c ∈ cols,ar many (c x)) : Hop many cols sg R grp W where
 coarse:=fun x y hx hy r => (hg x y hx hy).mpr (l.sgn x y r)
 signs:=fun x y hx hy e => (hg x y hx hy).mp e
 cong:=fun x y hx hy _ c cm => .inr (.inl (hw _ (hc x hx c cm)))
theorem fM : ∀ {xs ys : LI},xs.Nodup -> (∀ x ∈ xs,x ∈ ys) -> xs.length <= ys.length
 | [],_,_,_ => Nat.zero_le _
 | x :: xs,ys,nd,h => by
  have n:=List.nodup_cons.mp nd
  have m:=h x List.mem_cons_self
  have i:=fM (xs:=xs) (ys:=ys.erase x) n.2 fun y hy => by
   have e : y ≠ x:=fun z => n.1 (z ▸ hy)
   exact (List.mem_erase_of_ne e).mpr (h y (List.mem_cons_of_mem _ hy))
  rw [List.length_erase_of_mem m] at i
  have:=List.length_pos_of_mem m
  rw [List.length_cons]
  omega
theorem BZ {xs ys : LI} (nd : xs.Nodup) (h : ∀ x ∈ xs,x ∈ ys) (l : ys.length <= xs.length) : ∀ y ∈ ys,y ∈ xs:=fun y hy => Classical.byContradiction fun z => by
 have:=fM (xs:=y :: xs) (ys:=ys) (List.nodup_cons.mpr ⟨z,nd⟩) fun q hq => by
  rcases List.mem_cons.mp hq with r | r
  ·rw [r]; exact hy
  ·exact h q r
 rw [List.length_cons] at this
 omega
theorem AM {n : Int} : ∀ {done gs : LI} {x : Nat},x < gs.length -> (∀ q ∈ done,0 <= q) -> (setG gs done n).getD x 0 = if (x : Int) ∈ done then n else gs.getD x 0
 | [],gs,x,_,_ => by rw [if_neg (by simp)]; rfl
 | q :: r,gs,x,hx,h => by
  have ih:=AM (gs:=gs.set q.toNat n) (n:=n) (done:=r) (x:=x) (by rw [List.length_set]; exact hx) fun p hp => h p (List.mem_cons_of_mem _ hp)
  show (setG (gs.set q.toNat n) r n).getD x 0 = _
  rw [ih]
  have q0:=h q List.mem_cons_self
  by_cases c : (x : Int) ∈ r
  ·rw [if_pos c,if_pos (List.mem_cons_of_mem _ c)]
  ·rw [if_neg c]
   by_cases d : (x : Int) = q
   ·rw [if_pos (by rw [d]; exact List.mem_cons_self)]
    have e : q.toNat = x:=by omega
    rw [e,List.getD_eq_getElem?_getD,List.getElem?_set_self hx]
    rfl
   ·rw [if_neg (fun z => (List.mem_cons.mp z).elim d c)]
    have e : q.toNat ≠ x:=by omega
    rw [List.getD_eq_getElem?_getD,List.getElem?_set_ne e,List.getD_eq_getElem?_getD]
def a8 (gs : LI) (q : Int) : Int:=gs.getD q.toNat 0
theorem AN {gs ins : LI} {n q : Int} (h0 : 0 <= q) (h1 : q < (gs.length : Int)) (hi : ∀ p ∈ ins,0 <= p) : a8 (setG gs ins n) q = if q ∈ ins then n else a8 gs q:=by
 have h:=AM (n:=n) (done:=ins) (gs:=gs) (x:=q.toNat) (by omega) hi
 rw [Int.toNat_of_nonneg h0] at h
 exact h
structure PtS (H : Hp) (C x go ms wt iw : Addr) (many : Nat) (gs : LI) (ds : List Addr) (ws : LI) : Prop where
 pt : PtAt H C x go ms wt iw
 go_ : H go = some (.lst (gs.map V.int))
 ms_ : H ms = some (.lst (ds.map V.ref))
 wt_ : H wt = some (.lst (ws.map V.int))
 iw_ : H iw = some (.dK (kvT ws))
 lg : gs.length = many
 val : ∀ q,ar many q -> 0 <= a8 gs q /\ a8 gs q < (ds.length : Int)
 mem : ∀ (i : Nat) (da : Addr),ds[i]? = some da -> ∃ mem : LI,H da = some (.dK (kvT mem)) /\ mem.Nodup /\ mem ≠ [] /\ ∀ q,q ∈ mem ↔ ar many q /\ a8 gs q = (i : Int)
 dn : ds.Nodup
 ndi : iw ∉ ds
 n1 : go ≠ ms
 n2 : go ≠ wt
 n3 : ms ≠ wt
 wn : ws.Nodup
 wv : ∀ g ∈ ws,0 <= g /\ g < (ds.length : Int)
section
variable {H H' : Hp} {C x go ms wt iw : Addr} {many : Nat} {gs ws : LI} {ds : List Addr}
theorem PtS.at_ (h : PtS H C x go ms wt iw many gs ds ws) {d : Addr} (hd : d ∈ ds) : ∃ mem : LI,H d = some (.dK (kvT mem)):=by
 obtain ⟨i,hi⟩:=List.mem_iff_getElem?.mp hd
 obtain ⟨mem,h1,_⟩:=h.mem i d hi
 exact ⟨mem,h1⟩
theorem PtS.same (h : PtS H C x go ms wt iw many gs ds ws) (s : Same H H') : PtS H' C x go ms wt iw many gs ds ws:=
 ⟨h.pt.same s,s _ _ h.go_,s _ _ h.ms_,s _ _ h.wt_,s _ _ h.iw_,h.lg,h.val,fun i da hi => by
  obtain ⟨mem,h1,h2⟩:=h.mem i da hi
  exact ⟨mem,s _ _ h1,h2⟩,h.dn,h.ndi,h.n1,h.n2,h.n3,h.wn,h.wv⟩
theorem PtS.few (h : PtS H C x go ms wt iw many gs ds ws) : ds.length <= many:=by
 have t:=fM (xs:=(List.range ds.length).map fun i : Nat => (i : Int)) (ys:=gs) (List.pairwise_map.mpr (List.nodup_range.imp fun {a b} n z => n (by
  have z' : (a : Int) = (b : Int):=z
  omega))) (fun g hg => by
  obtain ⟨i,hi,rfl⟩:=List.mem_map.mp hg
  have il:=List.mem_range.mp hi
  obtain ⟨mem,_,_,ne,iff⟩:=h.mem i _ (List.getElem?_eq_getElem il)
  obtain ⟨q,r,rfl⟩:=List.exists_cons_of_ne_nil ne
  obtain ⟨⟨q0,q1⟩,e⟩:=(iff q).mp List.mem_cons_self
  have l : q.toNat < gs.length:=by rw [h.lg]; omega
  unfold a8 at e
  rw [getD_at l] at e
  rw [<- e]
  exact List.getElem_mem l)
 rw [lm_,List.length_range,h.lg] at t
 exact t
theorem PtS.wfew (h : PtS H C x go ms wt iw many gs ds ws) : ws.length <= ds.length:=bN ds.length h.wn h.wv
theorem PtS.split {da E : Addr} {mem ins : LI} {g nw : Int} (h : PtS H C x go ms wt iw many gs ds ws) (g0 : 0 <= g) (hda0 : ds[g.toNat]? = some da) (hda : H da = some (.dK (kvT mem))) (hm : ∀ q,q ∈ mem ↔ ar many q /\ a8 gs q = g) (nm : mem.Nodup)
  (ndi : ins.Nodup) (hin : ∀ q ∈ ins,q ∈ mem) (hne : ins ≠ []) (lt : ins.length < mem.length) (fE : H E = none) (hE : H' E = some (.dK (kvT ins))) (hms : H' ms = some (.lst ((ds ++ [E]).map V.ref))) (hd' : H' da = some (.dK (kvT (outF mem ins))))
  (hgo : H' go = some (.lst ((setG gs ins (ds.length : Int)).map V.int))) (hwt : H' wt = some (.lst ((ws ++ [nw]).map V.int))) (hiw : H' iw = some (.dK (kvT (if nw ∈ ws then ws else ws ++ [nw])))) (hnw : nw ∉ ws) (nwv : nw = (ds.length : Int) \/ nw = g)
  (kp : ∀ c u,c ≠ go -> c ≠ ms -> c ≠ da -> c ≠ wt -> c ≠ iw -> H c = some u -> H' c = some u) : PtS H' C x go ms wt iw many (setG gs ins (ds.length : Int)) (ds ++ [E]) (ws ++ [nw]):=by
 have gl : g.toNat < ds.length:=(gi_ hda0).1
 have ip : ∀ p ∈ ins,0 <= p:=fun p hp => ((hm p).mp (hin p hp)).1.1
 have gr : ∀ q,ar many q -> a8 (setG gs ins (ds.length : Int)) q = if q ∈ ins then (ds.length : Int) else a8 gs q:=fun q hq => AN hq.1 (by rw [h.lg]; exact hq.2) ip
 have eE : E ∉ ds:=fun z => by
  obtain ⟨m,hm⟩:=h.at_ z
  rw [fE] at hm
  cases hm
 obtain ⟨dx,hx⟩:=h.pt.ob
 refine ⟨⟨dx,kp _ _ (aJ hx h.go_ (by intro z; cases z)) (aJ hx h.ms_ (by intro z; cases z)) (aJ hx hda (by intro z; cases z)) (aJ hx h.wt_ (by intro z; cases z)) (aJ hx h.iw_ (by intro z; cases z)) hx⟩,hgo,hms,hwt,by rw [if_neg hnw] at hiw; exact hiw,by rw [AO]; exact h.lg,fun q hq => ?_,fun i d hi => ?_,?_,?_,h.n1,h.n2,h.n3,pW h.wn hnw,fun p hp => ?_⟩
 ·rw [gr q hq,List.length_append,List.length_singleton]
  have v:=h.val q hq
  split <;> omega
 ·rcases snoc_cases hi with hi | ⟨rfl,rfl⟩
  ·have il:=(gi_ hi).1
   by_cases c : d = da
   ·subst c
    have ei : i = g.toNat:=by
     have e1:=(gi_ hi).2
     have e2:=(gi_ hda0).2
     exact (List.getElem_inj h.dn).mp (e1.trans e2.symm)
    refine ⟨outF mem ins,hd',nm.filter _,fun z => ?_,fun q => ?_⟩
    ·have all : ∀ q ∈ mem,q ∈ ins:=fun q hq => Classical.byContradiction fun n => by
      have : q ∈ outF mem ins:=List.mem_filter.mpr ⟨hq,decide_eq_true n⟩
      rw [z] at this
      cases this
     have:=fM nm all
     omega
    ·unfold outF
     rw [List.mem_filter,hm,ei,Int.toNat_of_nonneg g0]
     constructor
     ·rintro ⟨⟨h1,h2⟩,h3⟩
      exact ⟨h1,by rw [gr q h1,if_neg (of_decide_eq_true h3)]; exact h2⟩
     ·rintro ⟨h1,h2⟩
      rw [gr q h1] at h2
      by_cases n : q ∈ ins
      ·rw [if_pos n] at h2
       omega
      ·rw [if_neg n] at h2
       exact ⟨⟨h1,h2⟩,decide_eq_true n⟩
   ·obtain ⟨m2,h1,h2,h3,h4⟩:=h.mem i d hi
    refine ⟨m2,kp _ _ (aJ h1 h.go_ (by intro z; cases z)) (aJ h1 h.ms_ (by intro z; cases z)) c (aJ h1 h.wt_ (by intro z; cases z)) (fun z => h.ndi (z ▸ mq_ hi)) h1,h2,h3,fun q => ?_⟩
    have ni : (i : Int) ≠ g:=fun z => by
     have e : i = g.toNat:=by omega
     rw [e,hda0] at hi
     exact c (Option.some.inj hi).symm
    rw [h4]
    refine and_congr_right fun hq => ?_
    rw [gr q hq]
    by_cases n : q ∈ ins
    ·have e:=((hm q).mp (hin q n)).2
     rw [if_pos n,e]
     constructor <;> intro z <;> omega
    ·rw [if_neg n]
  ·refine ⟨ins,hE,ndi,hne,fun q => ?_⟩
   constructor
   ·intro hq
    have r:=((hm q).mp (hin q hq)).1
    exact ⟨r,by rw [gr q r,if_pos hq]⟩
   ·rintro ⟨hq,e⟩
    rw [gr q hq] at e
    by_cases n : q ∈ ins
    ·exact n
    ·rw [if_neg n] at e
     have:=h.val q hq
     omega
 ·refine List.nodup_append.mpr ⟨h.dn,List.nodup_cons.mpr ⟨by simp,List.nodup_nil⟩,fun a ha b hb => ?_⟩
  rw [List.mem_singleton.mp hb]
  exact fun z => eE (z ▸ ha)
 ·intro z
  rcases ma_.mp z with z | z
  ·exact h.ndi z
  ·have e:=List.mem_singleton.mp z
   rw [<- e,h.iw_] at fE
   cases fE
 ·rw [List.length_append,List.length_singleton]
  rcases ma_.mp hp with z | z
  ·have:=h.wv p z
   omega
  ·rw [List.mem_singleton.mp z]
   rcases nwv with e | e <;> omega
end
def GU (many : Nat) (L gs : LI) (n : Nat) (ws gs' ws' : LI) : Prop := ∃ b nw : Int,ws' = ws ++ [nw] /\ (nw = (n : Int) \/ nw = b) /\ (b ∈ ws -> nw = (n : Int)) /\ (∀ q,ar many q -> a8 gs q = b -> q ∈ L -> a8 gs' q = (n : Int)) /\ (∀ q,ar many q -> ¬ (a8 gs q = b /\ q ∈ L) -> a8 gs' q = a8 gs q)
def vZ (C : Addr) : Sp:=fun vs H Q _ => ∃ (x go ms wt iw ll : Addr) (many : Nat) (gs ws L : LI) (ds : List Addr) (J : LI -> Nat -> LI -> Prop),vs = [.ref x,.ref ll] /\ PtS H C x go ms wt iw many gs ds ws /\ many < 1000 /\ H ll = some (.lst (L.map V.int)) /\ (ll ≠ go /\ ll ≠ ms /\ ll ≠ wt) /\ L.Nodup /\ (∀ q ∈ L,ar many q) /\ J gs ds.length ws /\
 (∀ gs n ws gs' ws',J gs n ws -> (∀ q,ar many q -> 0 <= a8 gs q /\ a8 gs q < (n : Int)) -> GU many L gs n ws gs' ws' -> J gs' (n + 1) ws') /\
 ∀ (H' : Hp) (gs' ws' : LI) (more : List Addr),PtS H' C x go ms wt iw many gs' (ds ++ more) ws' -> J gs' (ds ++ more).length ws' -> (∀ a b,ar many a -> ar many b -> a8 gs' a = a8 gs' b -> a ∈ L -> b ∈ L) -> (∀ d ∈ more,H d = none) -> (∀ c u,c ≠ go -> c ≠ ms -> c ≠ wt -> c ≠ iw -> c ∉ ds -> H c = some u -> H' c = some u) -> Q .non H'
section
variable {P : Program} {w : World} {K : PySem.W.Frag} {mg : Str -> Option Value} {base : Heap} {f : Addr} {fd : FuncData} {dV : Value} {C : Addr}
theorem sc_Parted_part_by : FnScope ["self","leading","touched","here","group","inside"] ["self","leading"] (ah b8):=⟨rfl,rfl,rfl,by decide +kernel,rfl,by decide +kernel,by decide +kernel⟩
theorem EA (F : FunD K "part_by" "Parted.part_by" b8 dV f fd) (pc : PCls K C) (jJ : DefMe P w K mg base C "split_off" 2 ["self","group","inside"] (zh K C)) (aU : mg "len" = none) : FnOk P w K mg base CX0 3 f fd ["self","leading"] (vZ C):=by
 refine F.ok sc_Parted_part_by (fun vs H Q E h => ?_) (fun cdv A outer s H vs Q E hr h => ?_)
 ·obtain ⟨x,go,ms,wt,iw,ll,many,gs,ws,L,ds,J,rfl,_⟩:=h
  rfl
 obtain ⟨x,go,ms,wt,iw,ll,many,gs,ws,L,ds,J,rfl,S,n1000,hll,⟨l1,l2,l3⟩,ndL,hL,j0,jst,k⟩:=h
 have hu:=lI hr
 obtain ⟨dx,hx⟩:=S.pt.ob
 have fewL : L.length <= many:=bN many ndL hL
 have fewD:=S.few
 refine ⟨_,(ag (au (i:=2) sc_Parted_part_by.nd rfl (Or.inl rfl) lO)
   (ag (bu PassesOwn.never rfl (ck (pv 1)) (ax (i:=3) sc_Parted_part_by.nd rfl (Or.inl rfl)) (ao (bq (fj PySem.F.plainAttrs_list PySem.F.slot_list_append PySem.F.type_list_append bD (yY (pv 2) (aL eN (du (pv 0) rfl) (pv 3) (fun _ _ => rfl)) (bR ae) ⟨rfl,rfl,rfl,rfl⟩) (aa (pv 3) ae)))))
   (ao (bu PassesOwn.never rfl (Gg (Ck PySem.F.plainAttrs_dict PySem.F.slot_dict_items PySem.F.type_dict_items FE (pv 2))) (oE rfl (bE (ax (i:=4) sc_Parted_part_by.nd rfl (Or.inl rfl)) (bE (ax (i:=5) sc_Parted_part_by.nd rfl (Or.inl rfl)) iY))) (ao (bS (aS Ar (aA aD (by rfl) aU bG (aa (pv 5) ae)) (aA lZ (by rfl) aU bG (aa (aL eN (du (pv 0) rfl) (pv 4) (fun _ _ => rfl)) ae)) (aW _)) (ao (bq (Dv jJ hr (pv 0) (aa (pv 4) (aa (pv 5) ae))))) aX)))))),?_⟩
 refine fun B hB => ?_
 have s0:=aq hB (HO.dK [])
 try dsimp only [bB,dm]
 refine dR (t:=oX _ _ _) (fun σ' H' => ∃ (es : List (Int × Addr)) (v : OV),σ' = [some (.ref x),some (.ref ll),some (.ref B),v,none,none] /\ Same H H' /\ BackOk H H' B es (fun q ls => ls = L.filter fun h => decide (a8 gs h = q)) /\ ∀ e ∈ es,∃ h ∈ L,a8 gs h = e.1) ?_ (fun D' nxt => ?_)
 rotate_left
 ·have b0 : BackOk H (upd H B (.dK [])) B [] (fun q ls => ls = (L.take 0).filter fun h => decide (a8 gs h = q)):=⟨af,List.Pairwise.nil,List.Pairwise.nil,(fun e h => by cases h),(fun e h => by cases h),fun q _ => rfl⟩
  refine ⟨_,rfl,ll,rfl,⟨_,qL_ (s0 _ _ hll)⟩,?_⟩
  refine dz (K:=K) (xs:=L.map V.int) (fun i σ' H' => ∃ (es : List (Int × Addr)) (v : OV),σ' = [some (.ref x),some (.ref ll),some (.ref B),v,none,none] /\ Same H H' /\ BackOk H H' B es (fun q ls => ls = (L.take i).filter fun h => decide (a8 gs h = q)) /\ ∀ e ∈ es,∃ h ∈ L,a8 gs h = e.1) ⟨[],none,rfl,s0,b0,fun e h => by cases h⟩ (fun i σ' H' _ ⟨_,_,_,e,_⟩ => qL_ (e _ _ hll)) ?_ ?_
  ·rintro i y σ' H2 hi ⟨es,v,rfl,s2,b2,kr⟩
   obtain ⟨h,rfl,hh⟩:=bw hi
   have hm:=mq_ hh
   have il:=(gi_ hh).1
   have hin:=hL h hm
   have gv:=S.val h hin
   have at' : atI (gs.map V.int) h = some (.int (a8 gs h)):=cy hin.1 (by rw [S.lg]; exact hin.2)
   refine ⟨_,rfl,B,rfl,.inl ⟨_,.inl b2.at_⟩,_,rfl,x,C,dx,_,_,rfl,s2 _ _ hx,pc.cl,pc.ng,rfl,_,rfl,go,_,_,_,rfl,rfl,qL_ (s2 _ _ S.go_),at',(by show 0 <= sizeLine; decide),fun La hLa => ?_⟩
   have sL:=aq hLa (HO.lst [])
   have b3:=b2.same sL
   have nL : ∀ e ∈ es,e.2 ≠ La:=fun e he z => by
    obtain ⟨ls,h1,_⟩:=b2.lst e he
    rw [z,hLa] at h1
    cases h1
   have nLB : B ≠ La:=av b2.at_ hLa
   have fL : H La = none:=s2.free hLa
   have few:=bN ds.length b3.nd (fun q hq => by
    obtain ⟨e,he,rfl⟩:=List.mem_map.mp hq
    obtain ⟨p,hp,ep⟩:=kr e he
    rw [<- ep]
    exact S.val p (hL p hp))
   rw [lm_] at few
   have len : (kvL es).length < sizeLine:=aB (by unfold kvL; rw [lm_]; omega)
   have et : L.take (i + 1) = L.take i ++ [h]:=by rw [List.take_add_one,hh]; rfl
   have oth : ∀ (p : Int) (ls : LI),p ≠ a8 gs h -> (ls = (L.take i).filter fun h => decide (a8 gs h = p)) -> ls = (L.take (i + 1)).filter fun h => decide (a8 gs h = p):=fun p ls np z => by
    rw [et,List.filter_append,List.filter_cons_of_neg (by rw [decide_eq_false (Ne.symm np)]; decide),List.filter_nil,List.append_nil]
    exact z
   have grow : ∀ ls : LI,(ls = (L.take i).filter fun q => decide (a8 gs q = a8 gs h)) -> ls ++ [h] = (L.take (i + 1)).filter fun q => decide (a8 gs q = a8 gs h):=fun ls z => by
    have e1 : [h].filter (fun q => decide (a8 gs q = a8 gs h)) = [h]:=by simp
    rw [et,List.filter_append,e1,z]
   refine ⟨_,Sum.inl (a8 gs h),b3.at_,rfl,len,fun v hv => ?_,fun hn => ?_⟩
   ·obtain ⟨la,ls,rfl,hme,hla,hp⟩:=b3.get hv
    have pl : ls.length <= i:=by
     rw [hp]
     exact Nat.le_trans (List.length_filter_le _ _) (by rw [List.length_take]; omega)
    have lz : (ls.map V.int).length < sizeLine:=aB (by rw [lm_]; omega)
    refine ⟨.inl ⟨rfl,_,qL_ hla⟩,_,rfl,la,_,_,rfl,rfl,hla,lz,?_⟩
    exact ⟨es,_,rfl,aw (s2.trans sL) (b2.fresh _ hme),b3.old hme hla (grow ls hp) oth,kr⟩
   ·have hq : a8 gs h ∉ es.map Prod.fst:=fun z => by
     obtain ⟨e,he,ee⟩:=List.mem_map.mp z
     obtain ⟨jj,hjj⟩:=List.mem_iff_getElem?.mp he
     have:=vi b3.nd (q:=e.1) (a:=e.2) hjj
     rw [ee,hn] at this
     cases this
    have hL3 : (upd (upd H2 La (HO.lst [])) B (HO.dK (putK (kvL es) (Sum.inl (a8 gs h)) (V.ref La)))) La = some (.lst []):=by rw [aj (Ne.symm nLB),af]
    refine ⟨.inl ⟨rfl,_,qL_ hL3⟩,_,rfl,La,_,_,rfl,rfl,hL3,(by show 0 < sizeLine; decide),?_⟩
    refine ⟨es ++ [(a8 gs h,La)],_,rfl,aw (aw (s2.trans sL) hB) fL,b3.new hq af fL nL (grow [] (b3.non _ hq)) oth,fun e he => ?_⟩
    rcases ma_.mp he with z | z
    ·exact kr e z
    ·rw [List.mem_singleton.mp z]
     exact ⟨h,hm,rfl⟩
  ·rintro σ' H1 ⟨es,v,rfl,s1,b1,kr⟩
   rw [lm_,List.take_length] at b1
   exact nxt _ _ ⟨es,v,rfl,s1,b1,kr⟩
 rintro σ' H1 ⟨es,v,rfl,s1,b1,kr⟩
 refine ⟨_,rfl,.inr (.inr (.inl ⟨rfl,.inl ⟨_,b1.at_⟩⟩)),B,_,rfl,rfl,b1.at_,fun vw hvw => ?_⟩
 have nBv : B ≠ vw:=av b1.at_ hvw
 refine ⟨vw,B,kvL es,rfl,af,by rw [aj nBv]; exact b1.at_,fun o => ?_⟩
 have fvw : H vw = none:=s1.free hvw
 obtain ⟨H2,eH2⟩ : ∃ H2,upd (upd H1 vw (pd vw B)) B (.frz o (.dK (kvL es))) = H2:=⟨_,rfl⟩
 have s2 : Same H H2:=by rw [<- eH2]; exact aw (aw s1 fvw) hB
 have hB2 : H2 B = some (.frz o (.dK (kvL es))):=by rw [<- eH2,af]
 have ls2 : ∀ e ∈ es,H2 e.2 = some (.lst ((L.filter fun h => decide (a8 gs h = e.1)).map V.int)):=fun e he => by
  obtain ⟨ls,h1,h2⟩:=b1.lst e he
  rw [<- eH2,aj (aJ h1 b1.at_ (by intro z; cases z)),aj (av h1 hvw),h1,h2]
 rw [eH2]
 have ndk:=b1.nd
 have lk : (kvL es).length = es.length:=by unfold kvL; rw [lm_]
 refine DZ (o:=o) (kvs:=kvL es) (fun i σ' H' => ∃ (gs' ws' : LI) (more : List Addr) (v1 v2 v3 : OV),σ' = [some (.ref x),some (.ref ll),some (.ref B),v1,v2,v3] /\ PtS H' C x go ms wt iw many gs' (ds ++ more) ws' /\ J gs' (ds ++ more).length ws' /\ (∀ d ∈ more,H d = none) /\ H' B = some (.frz o (.dK (kvL es))) /\
   (∀ e ∈ es,H' e.2 = some (.lst ((L.filter fun h => decide (a8 gs h = e.1)).map V.int))) /\ (∀ c u,c ≠ go -> c ≠ ms -> c ≠ wt -> c ≠ iw -> c ∉ ds -> H c = some u -> H' c = some u) /\ (∀ q,ar many q -> a8 gs q ∉ (es.take i).map Prod.fst -> a8 gs' q = a8 gs q) /\
   (∀ a b,ar many a -> ar many b -> a8 gs' a = a8 gs' b -> a8 gs a = a8 gs b /\ (a8 gs a ∈ (es.take i).map Prod.fst -> (a ∈ L ↔ b ∈ L))))
  ⟨gs,ws,[],v,none,none,rfl,by rw [List.append_nil]; exact S.same s2,by rw [List.append_nil]; exact j0,(fun d hd => by cases hd),hB2,ls2,(fun c u _ _ _ _ _ e => s2 _ _ e),(fun _ _ _ => rfl),fun a b _ _ e => ⟨e,fun z => by rw [List.take_zero] at z; cases z⟩⟩
  (fun i σ' H' _ ⟨_,_,_,_,_,_,_,_,_,_,e,_⟩ => e) ?_ ?_
 ·rintro i p σ' H3 T hi ⟨gs',ws',more,v1,v2,v3,rfl,S3,j3,fm,hB3,ls3,kp3,ga,gb⟩ hT
  obtain ⟨e,he,rfl⟩ : ∃ e,es[i]? = some e /\ p = (Sum.inl e.1,V.ref e.2):=by
   unfold kvL at hi
   rw [List.getElem?_map] at hi
   obtain ⟨e,h1,h2⟩:=Option.map_eq_some_iff.mp hi
   exact ⟨e,h1,h2.symm⟩
  obtain ⟨b,il⟩:=e
  have hme:=mq_ he
  have ilt : i < es.length:=(gi_ he).1
  have sT:=aq hT (HO.tup [V.int b,V.ref il])
  refine ⟨T,_,rfl,qT_ af,rfl,_,_,rfl,_,_,rfl,rfl,?_⟩
  obtain ⟨H4,eH4⟩ : ∃ H4,upd H3 T (HO.tup [V.int b,V.ref il]) = H4:=⟨_,rfl⟩
  have sT' : Same H3 H4:=by rw [<- eH4]; exact sT
  have eH4' : upd H3 T (HO.tup [kV (Sum.inl b),V.ref il]) = H4:=eH4
  try rw [eH4]
  try rw [eH4']
  have S4:=S3.same sT'
  obtain ⟨dx4,hx4⟩:=S4.pt.ob
  obtain ⟨h0,h0m,e0⟩:=kr _ hme
  have bv:=S.val h0 (hL h0 h0m)
  rw [e0] at bv
  have bl : b.toNat < ds.length:=by omega
  have hda0 : (ds ++ more)[b.toNat]? = some ds[b.toNat]:=by rw [List.getElem?_append_left bl,List.getElem?_eq_getElem bl]
  obtain ⟨da,eda⟩ : ∃ da,ds[b.toNat] = da:=⟨_,rfl⟩
  rw [eda] at hda0
  obtain ⟨mem,hda,ndm,nem,hm⟩:=S4.mem b.toNat da hda0
  rw [Int.toNat_of_nonneg bv.1] at hm
  have at' : atI ((ds ++ more).map V.ref) b = some (.ref da):=jh bv.1 hda0
  have hil4:=sT' _ _ (ls3 _ hme)
  obtain ⟨ins,eins⟩ : ∃ ins,(L.filter fun h => decide (a8 gs h = b)) = ins:=⟨_,rfl⟩
  have hil : H4 il = some (.lst (ins.map V.int)):=by rw [<- eins]; exact hil4
  have insm : ∀ q,q ∈ ins ↔ q ∈ L /\ a8 gs q = b:=fun q => by
   rw [<- eins,List.mem_filter]
   exact and_congr_right fun _ => ⟨of_decide_eq_true,decide_eq_true⟩
  have notyet : b ∉ (es.take i).map Prod.fst:=fun z => by
   obtain ⟨e,h1,h2⟩:=List.mem_map.mp z
   obtain ⟨j,hj,ej⟩:=List.getElem_of_mem h1
   rw [List.length_take] at hj
   rw [List.getElem_take] at ej
   have e2:=(gi_ he).2
   have : (es.map Prod.fst)[j]'(by rw [lm_]; omega) = (es.map Prod.fst)[i]'(by rw [lm_]; omega):=by
    rw [List.getElem_map,List.getElem_map,ej,e2]
    exact h2
   have:=(List.getElem_inj ndk).mp this
   omega
  have insub : ∀ q ∈ ins,q ∈ mem:=fun q hq => by
   have h1:=(insm q).mp hq
   refine (hm q).mpr ⟨hL q h1.1,?_⟩
   rw [ga q (hL q h1.1) (by rw [h1.2]; exact notyet),h1.2]
  have ndins : ins.Nodup:=by rw [<- eins]; exact ndL.filter _
  have neins : ins ≠ []:=fun z => by
   have:=(insm h0).mpr ⟨h0m,e0⟩
   rw [z] at this
   cases this
  have etk : (es.take (i + 1)).map Prod.fst = (es.take i).map Prod.fst ++ [b]:=by rw [List.take_add_one,he,List.map_append]; rfl
  have lkm : (kvT mem).length = mem.length:=by unfold kvT; rw [lm_]
  have ngo:=S4.go_
  have nms:=S4.ms_
  have nwt:=S4.wt_
  have fil : H il = none:=b1.fresh _ hme
  have g1 : go ≠ il:=fun z => by rw [<- z,S.go_] at fil; cases fil
  have g2 : ms ≠ il:=fun z => by rw [<- z,S.ms_] at fil; cases fil
  have g3 : wt ≠ il:=fun z => by rw [<- z,S.wt_] at fil; cases fil
  have fewN:=S4.few
  have fewW:=S4.wfew
  have fewM : mem.length <= many:=bN many ndm fun q hq => ((hm q).mp hq).1
  have fewI : ins.length <= mem.length:=fM ndins insub
  refine ⟨_,rfl,il,_,rfl,.inl (qL_ hil),_,rfl,x,C,dx4,_,_,rfl,hx4,pc.cl,pc.nm,rfl,_,rfl,ms,_,_,_,rfl,rfl,qL_ nms,at',da,_,rfl,hda,_,_,rfl,rfl,_,rfl,kX (fun c => ?_) (fun c => ?_)⟩
  ·rw [lm_,lkm] at c
   have lt : ins.length < mem.length:=by omega
   have dsn : (ds ++ more).length < 1000:=by omega
   refine ⟨_,rfl,x,dx4,_,rfl,hx4,rfl,_,rfl,_,rfl,x,go,ms,wt,iw,da,il,b,gs',ws',ws',mem,ins,ds ++ more,rfl,⟨dx4,hx4⟩,ngo,nms,nwt,S4.iw_,S4.wn,⟨by omega,by omega,dsn,by omega⟩,bv.1,hda0,hda,hil,ndins,fun q hq => ?_,⟨S4.n1,S4.n2,g1,S4.n3,g2,g3,fun z => S4.ndi (z ▸ mq_ hda0)⟩,fun E nw H5 fE hE hms5 hda5 hgo5 hwt5 hiw5 hy hn kp5 => ?_⟩
   ·have h1:=(hm q).mp (insub q hq)
    exact ⟨insub q hq,h1.1.1,by rw [S4.lg]; exact h1.1.2⟩
   ·have nwv : nw = ((ds ++ more).length : Int) \/ nw = b:=by
     by_cases z : b ∈ ws' \/ ins.length <= (outF mem ins).length
     ·exact .inl (hy z)
     ·exact .inr (hn z)
    have nww : nw ∉ ws' := fun z => by
     by_cases y : b ∈ ws' \/ ins.length <= (outF mem ins).length
     ·have:=S4.wv nw z
      rw [hy y] at this
      omega
     ·rw [hn y] at z
      exact y (.inl z)
    have S5:=S4.split bv.1 hda0 hda hm ndm ndins insub neins lt fE hE hms5 hda5 hgo5 hwt5 hiw5 nww nwv kp5
    have ip : ∀ p ∈ ins,0 <= p:=fun p hp => ((hm p).mp (insub p hp)).1.1
    have gr : ∀ q,ar many q -> a8 (setG gs' ins ((ds ++ more).length : Int)) q = if q ∈ ins then ((ds ++ more).length : Int) else a8 gs' q:=fun q hq => AN hq.1 (by rw [S4.lg]; exact hq.2) ip
    have gh0 : a8 gs' h0 = b:=by rw [ga h0 (hL h0 h0m) (by rw [e0]; exact notyet),e0]
    have inb : ∀ q,ar many q -> (q ∈ ins ↔ a8 gs' q = b /\ q ∈ L):=fun q hq =>
     ⟨fun z => ⟨((hm q).mp (insub q z)).2,((insm q).mp z).1⟩,fun z => (insm q).mpr ⟨z.2,by
      rw [(gb q h0 hq (hL h0 h0m) (z.1.trans gh0.symm)).1]
      exact e0⟩⟩
    have fE0 : H E = none:=by
     cases e : H E with
     | none => rfl
     | some u =>
      have:=sT' _ _ (kp3 E u (fun z => by rw [z,ngo] at fE; cases fE) (fun z => by rw [z,nms] at fE; cases fE) (fun z => by rw [z,nwt] at fE; cases fE) (fun z => by rw [z,S4.iw_] at fE; cases fE) (fun z => by
       obtain ⟨m,hm⟩:=S4.at_ (List.mem_append_left _ z)
       rw [fE] at hm
       cases hm) e)
      rw [fE] at this
      cases this
    have hB4:=sT' _ _ hB3
    have dam : da ∈ ds:=eda ▸ List.getElem_mem bl
    refine ⟨setG gs' ins ((ds ++ more).length : Int),ws' ++ [nw],more ++ [E],_,_,_,rfl,by rw [<- List.append_assoc]; exact S5,?_,fun d hd => ?_,kp5 _ _ (aJ hB4 ngo (by intro z; cases z)) (aJ hB4 nms (by intro z; cases z)) (aJ hB4 hda (by intro z; cases z)) (aJ hB4 nwt (by intro z; cases z)) (aJ hB4 S4.iw_ (by intro z; cases z)) hB4,fun e he => ?_,fun c u c1 c2 c3 c4 c5 e => kp5 c u c1 c2 (fun z => c5 (z ▸ dam)) c3 c4 (sT' _ _ (kp3 c u c1 c2 c3 c4 c5 e)),fun q hq nq => ?_,fun a c ha hc e => ?_⟩
    ·have el : (ds ++ (more ++ [E])).length = (ds ++ more).length + 1:=by simp only [List.length_append,List.length_singleton]; omega
     rw [el]
     exact jst gs' _ ws' _ _ j3 S4.val ⟨b,nw,rfl,nwv,fun z => hy (.inl z),fun q hq e hl => by rw [gr q hq,if_pos ((inb q hq).mpr ⟨e,hl⟩)],fun q hq n => by rw [gr q hq,if_neg fun z => n ((inb q hq).mp z)]⟩
    ·rcases ma_.mp hd with z | z
     ·exact fm d z
     ·rw [List.mem_singleton.mp z]; exact fE0
    ·have fe:=b1.fresh e he
     have he4:=sT' _ _ (ls3 e he)
     exact kp5 _ _ (fun z => by rw [z,S.go_] at fe; cases fe) (fun z => by rw [z,S.ms_] at fe; cases fe) (aJ he4 hda (by intro z; cases z)) (fun z => by rw [z,S.wt_] at fe; cases fe) (aJ he4 S4.iw_ (by intro z; cases z)) he4
    ·rw [etk] at nq
     rw [gr q hq,if_neg fun z => nq (List.mem_append_right _ (by rw [((insm q).mp z).2]; exact List.mem_cons_self))]
     exact ga q hq fun z => nq (List.mem_append_left _ z)
    ·rw [gr a ha,gr c hc] at e
     by_cases ai : a ∈ ins
     ·by_cases ci : c ∈ ins
      ·have h1:=(insm a).mp ai
       have h2:=(insm c).mp ci
       exact ⟨h1.2.trans h2.2.symm,fun _ => ⟨fun _ => h2.1,fun _ => h1.1⟩⟩
      ·rw [if_pos ai,if_neg ci] at e
       have:=S4.val c hc
       omega
     ·by_cases ci : c ∈ ins
      ·rw [if_neg ai,if_pos ci] at e
       have:=S4.val a ha
       omega
      ·rw [if_neg ai,if_neg ci] at e
       have g:=gb a c ha hc e
       refine ⟨g.1,fun z => ?_⟩
       rw [etk] at z
       rcases ma_.mp z with z | z
       ·exact g.2 z
       ·have za:=List.mem_singleton.mp z
        exact ⟨fun h => absurd ((insm a).mpr ⟨h,za⟩) ai,fun h => absurd ((insm c).mpr ⟨h,g.1.symm.trans za⟩) ci⟩
  ·rw [lm_,lkm] at c
   have all:=BZ ndins insub (by omega)
   refine ⟨gs',ws',more,_,_,_,rfl,S4,j3,fm,sT' _ _ hB3,(fun e he => sT' _ _ (ls3 e he)),(fun c u c1 c2 c3 c4 c5 e => sT' _ _ (kp3 c u c1 c2 c3 c4 c5 e)),fun q hq nq => ?_,fun a c ha hc e => ?_⟩
   ·rw [etk] at nq
    exact ga q hq fun z => nq (List.mem_append_left _ z)
   ·have g:=gb a c ha hc e
    refine ⟨g.1,fun z => ?_⟩
    rw [etk] at z
    rcases ma_.mp z with z | z
    ·exact g.2 z
    ·have za:=List.mem_singleton.mp z
     have inL : ∀ q,ar many q -> a8 gs q = b -> q ∈ L:=fun q hq eq => ((insm q).mp (all q ((hm q).mpr ⟨hq,by rw [ga q hq (by rw [eq]; exact notyet),eq]⟩))).1
     exact ⟨fun _ => inL c hc (g.1.symm.trans za),fun _ => inL a ha za⟩
 ·rintro σ' H' ⟨gs',ws',more,v1,v2,v3,rfl,S3,j3,fm,hB3,ls3,kp3,ga,gb⟩
  rw [lk,List.take_length] at gb
  refine k H' gs' ws' more S3 j3 (fun a b ha hb e hm => ?_) fm kp3
  have g:=gb a b ha hb e
  refine (g.2 (Classical.byContradiction fun z => ?_)).mp hm
  have:=b1.non _ z
  have h2 : a ∈ L.filter fun h => decide (a8 gs h = a8 gs a):=List.mem_filter.mpr ⟨hm,decide_eq_true rfl⟩
  rw [<- this] at h2
  cases h2
end
def Reach (wide : Nat) (rows : LL) (q : Int) : Prop := ∃ row : LI,(∀ f ∈ row,0 <= f /\ f < (wide : Int)) /\ aM rows row 0 = q
theorem Reach.zero {wide : Nat} {rows : LL} : Reach wide rows 0:=⟨[],(fun f h => by cases h),rfl⟩
theorem Reach.step {wide : Nat} {rows : LL} {q f : Int} (h : Reach wide rows q) (f0 : 0 <= f) (f1 : f < (wide : Int)) : Reach wide rows (stepI rows q f):=by
 obtain ⟨row,hr,rfl⟩:=h
 refine ⟨row ++ [f],fun g hg => ?_,by rw [cq]; rfl⟩
 rcases ma_.mp hg with z | z
 ·exact hr g z
 ·rw [List.mem_singleton.mp z]; exact ⟨f0,f1⟩
theorem Reach.of {wide : Nat} {rows : LL} {S : Int -> Prop} (h0 : S 0) (hs : ∀ q,S q -> ∀ f,0 <= f -> f < (wide : Int) -> S (stepI rows q f)) {q : Int} (h : Reach wide rows q) : S q:=by
 obtain ⟨row,hr,rfl⟩:=h
 have go : ∀ (row : LI) (p : Int),(∀ f ∈ row,0 <= f /\ f < (wide : Int)) -> S p -> S (aM rows row p):=by
  intro row
  induction row with
  | nil => intro p _ hp; exact hp
  | cons f r ih => intro p hr hp; exact ih (stepI rows p f) (fun g hg => hr g (List.mem_cons_of_mem _ hg)) (hs p hp f (hr f List.mem_cons_self).1 (hr f List.mem_cons_self).2)
 exact go row 0 hr h0
def cD (s : LI) (x : Int) : LI:=if x ∈ s then s else s ++ [x]
def dk (rows : LL) (s : LI) (q : Int) : LI:=(rows.getD q.toNat []).foldl cD s
theorem Gr {s : LI} {x y : Int} (h : y ∈ s) : y ∈ cD s x:=by
 unfold cD
 split
 ·exact h
 ·exact List.mem_append_left _ h
theorem Gq (s : LI) (x : Int) : x ∈ cD s x:=by
 unfold cD
 split
 ·assumption
 ·exact List.mem_append_right _ List.mem_cons_self
theorem oN : ∀ (xs : LI) {s : LI} {y : Int},y ∈ s -> y ∈ xs.foldl cD s
 | [],_,_,h => h
 | x :: xs,_,_,h => oN xs (Gr h)
theorem vI : ∀ (xs : LI) {s : LI} {y : Int},y ∈ xs -> y ∈ xs.foldl cD s
 | [],_,_,h => by cases h
 | x :: xs,s,y,h => by
  rcases List.mem_cons.mp h with rfl | h
  ·exact oN xs (Gq s y)
  ·exact vI xs h
theorem l5 (rows : LL) : ∀ (qs : LI) {s : LI} {y : Int},y ∈ s -> y ∈ qs.foldl (dk rows) s
 | [],_,_,h => h
 | q :: qs,_,_,h => l5 rows qs (oN _ h)
theorem jt (rows : LL) : ∀ (qs : LI) {s : LI} {q y : Int},q ∈ qs -> y ∈ rows.getD q.toNat [] -> y ∈ qs.foldl (dk rows) s
 | [],_,_,_,h,_ => by cases h
 | p :: qs,s,q,y,h,hy => by
  rcases List.mem_cons.mp h with rfl | h
  ·exact l5 rows qs (vI _ hy)
  ·exact jt rows qs h hy
structure Bfs (many wide : Nat) (rows : LL) (qs : LI) : Prop where
 eq : qs = qs.foldl (dk rows) [0]
 nd : qs.Nodup
 inr : ∀ q ∈ qs,0 <= q /\ q < (many : Int)
 re : ∀ q,q ∈ qs ↔ Reach wide rows q
def sC (K : PySem.W.Frag) : Sp:=fun vs H Q _ => ∃ (m r g : Addr) (many wide : Nat) (rows : LL) (signs : LI),vs = [.ref m,.int 0] /\ MachAt H m r g wide rows signs /\ RowsOk many wide rows /\ (1 <= many /\ many <= 1000) /\
 ∀ (l : Addr) (H' : Hp) (qs : LI),Same H H' -> H' l = some (.lst (qs.map V.int)) -> Bfs many wide rows qs -> Q (.ref l) H'
structure Found (many wide : Nat) (rows : LL) (dn ks : LI) : Prop where
 eq : ks = dn.foldl (dk rows) [0]
 nd : ks.Nodup
 inr : ∀ q ∈ ks,0 <= q /\ q < (many : Int)
 re : ∀ q ∈ ks,Reach wide rows q
structure Part (many wide : Nat) (rows : LL) (dn : LI) (xs : LI) (ks : LI) : Prop where
 eq : ks = xs.foldl cD (dn.foldl (dk rows) [0])
 nd : ks.Nodup
 inr : ∀ q ∈ ks,0 <= q /\ q < (many : Int)
 re : ∀ q ∈ ks,Reach wide rows q
theorem Part.put {many wide : Nat} {rows : LL} {dn xs ks : LI} {q : Int} (F : Part many wide rows dn xs ks) (h : q ∉ ks) (q0 : 0 <= q) (q1 : q < (many : Int)) (r : Reach wide rows q) : Part many wide rows dn (xs ++ [q]) (ks ++ [q]) where
 eq:=by
  rw [List.foldl_append,<- F.eq]
  show _ = cD ks q
  unfold cD
  rw [if_neg h]
 nd:=List.nodup_append.mpr ⟨F.nd,by simp,fun a ha b hb e => h (by rw [<- List.mem_singleton.mp hb,<- e]; exact ha)⟩
 inr:=fun p hp => by
  rcases ma_.mp hp with z | z
  ·exact F.inr p z
  ·rw [List.mem_singleton.mp z]; exact ⟨q0,q1⟩
 re:=fun p hp => by
  rcases ma_.mp hp with z | z
  ·exact F.re p z
  ·rw [List.mem_singleton.mp z]; exact r
theorem Part.old {many wide : Nat} {rows : LL} {dn xs ks : LI} {q : Int} (F : Part many wide rows dn xs ks) (h : q ∈ ks) : Part many wide rows dn (xs ++ [q]) ks where
 eq:=by
  rw [List.foldl_append,<- F.eq]
  show _ = cD ks q
  unfold cD
  rw [if_pos h]
 nd:=F.nd
 inr:=F.inr
 re:=F.re
section
variable {P : Program} {w : World} {K : PySem.W.Frag} {mg : Str -> Option Value} {base : Heap} {f : Addr} {fd : FuncData} {dV : Value}
theorem sc_reached_rooms : FnScope ["machine","start","rows","reached","level","fresh","here","there"] ["machine","start"] (ah cg):=⟨rfl,rfl,rfl,by decide +kernel,rfl,by decide +kernel,by decide +kernel⟩
theorem Cd (F : FunD K "reached_rooms" "reached_rooms" cg dV f fd) (gR : mg "list" = none) : FnOk P w K mg base CX0 1 f fd ["machine","start"] (sC K):=by
 refine F.ok sc_reached_rooms (fun vs H Q E h => ?_) (fun cdv A outer s H vs Q E hr h => ?_)
 ·obtain ⟨m,r,g,many,wide,rows,signs,rfl,_⟩:=h
  rfl
 obtain ⟨m,r,g,many,wide,rows,signs,rfl,M,R,⟨n0,n1⟩,k⟩:=h
 obtain ⟨ras,hr',hA⟩:=M.rows
 have hu:=lI hr
 refine ⟨_,(ag (au (i:=2) sc_reached_rooms.nd rfl (Or.inl rfl) (aL aK (pv 0) ak (fun _ _ => rfl)))
   (ag (au (i:=3) sc_reached_rooms.nd rfl (Or.inl rfl) (Hx (Gm (pv 1) cC HE) rfl rfl (by intro z; cases z) (by decide)))
   (ag (au (i:=4) sc_reached_rooms.nd rfl (Or.inl rfl) (bR (aa (pv 1) ae)))
   (ag (jB PassesOwn.never (jC (pv 4) (fun _ => rfl)) (ag (au (i:=5) sc_reached_rooms.nd rfl (Or.inl rfl) (bR ae))
   (ag (bu PassesOwn.never rfl (ck (pv 4)) (ax (i:=6) sc_reached_rooms.nd rfl (Or.inl rfl)) (ao (bu PassesOwn.never rfl (kM (aL aK (pv 2) (pv 6) (fun _ _ => rfl))) (ax (i:=7) sc_reached_rooms.nd rfl (Or.inl rfl)) (ao (bS (Cu (yj hu (pv 7) (pv 3)) (by with_unfolding_all rfl)) (ag (uv hu (pv 3) (pv 7) cC rfl)
   (ao (bq (fj PySem.F.plainAttrs_list PySem.F.slot_list_append PySem.F.type_list_append bD (pv 5) (aa (pv 7) ae))))) aX)))))
   (ao (au (i:=4) sc_reached_rooms.nd rfl (Or.inl rfl) (pv 5))))))
   (ao (aI (a9 (uJ rfl) (by rfl) gR uh (aa (pv 3) ae)))))))),?_⟩
 refine ⟨_,rfl,m,_,_,_,rfl,rfl,qT_ M.tup,rfl,?_⟩
 refine fun D hD => ⟨_,rfl,af,[(Sum.inl 0,V.bl true)],rfl,by show 1 <= 15; decide,?_⟩
 rw [DD]
 have sD:=aq hD (HO.dK (kvT [0]))
 refine ⟨_,rfl,(by show 1 <= sizeLine; decide),fun W hW => ?_⟩
 have hWD : W ≠ D:=fun z => by rw [z,af] at hW; cases hW
 have hW0 : H W = none:=by rw [aj hWD] at hW; exact hW
 try dsimp only [bB]
 refine cZ (t:=lU _ _) (fun σ' H' => ∃ (ks : LI) (W : Addr) (v0 v1 v2 : OV),σ' = [some (.ref m),some (.int 0),some (.ref r),some (.ref D),some (.ref W),v0,v1,v2] /\ Same H H' /\ H' D = some (.dK (kvT ks)) /\ Found many wide rows ks ks) ?_ (fun nxt => ?_)
 rotate_left
 ·refine mw (fun mm σ' H' => ∃ (dn lv : LI) (W : Addr) (v0 v1 v2 : OV),mm = 2 * (many - (dn ++ lv).length) + lv.length /\ σ' = [some (.ref m),some (.int 0),some (.ref r),some (.ref D),some (.ref W),v0,v1,v2] /\ Same H H' /\ H' D = some (.dK (kvT (dn ++ lv))) /\ W ≠ D /\ H' W = some (.lst (lv.map V.int)) /\ Found many wide rows dn (dn ++ lv))
   ⟨_,[],[0],W,none,none,none,rfl,rfl,sD.trans (aq hW _),by rw [aj (Ne.symm hWD),af]; rfl,hWD,af,?_⟩ ?_
  ·refine ⟨rfl,by simp,fun q hq => by rw [List.nil_append] at hq; rw [List.mem_singleton.mp hq]; omega,fun q hq => by rw [List.nil_append] at hq; rw [List.mem_singleton.mp hq]; exact Reach.zero⟩
  rintro mm σ' H1 ⟨dn,lv,W,v0,v1,v2,rfl,rfl,s1,hD1,hWD,hW1,FD⟩
  by_cases en : lv = []
  ·subst en
   refine ⟨_,rfl,_,.inl ⟨_,qL_ hW1,rfl⟩,gH ?_⟩
   rw [List.append_nil] at hD1 FD
   exact nxt _ _ ⟨dn,W,v0,v1,v2,rfl,s1,hD1,FD⟩
  refine ⟨_,rfl,_,.inl ⟨_,qL_ hW1,rfl⟩,?_⟩
  have ne : (!(lv.map V.int).isEmpty) = true:=by
   cases lv with
   | nil => exact absurd rfl en
   | cons x r => rfl
  rw [ne]
  have kl:=bN many FD.nd FD.inr
  have lv1 : 1 <= lv.length:=by
   cases lv with
   | nil => exact absurd rfl en
   | cons x r => exact Nat.succ_le_succ (Nat.zero_le _)
  rw [List.length_append] at kl
  refine wR ⟨fun σ' H' => ∃ m',m' < 2 * (many - (dn ++ lv).length) + lv.length /\ ∃ (dn lv : LI) (W : Addr) (v0 v1 v2 : OV),m' = 2 * (many - (dn ++ lv).length) + lv.length /\ σ' = [some (.ref m),some (.int 0),some (.ref r),some (.ref D),some (.ref W),v0,v1,v2] /\ Same H H' /\ H' D = some (.dK (kvT (dn ++ lv))) /\ W ≠ D /\ H' W = some (.lst (lv.map V.int)) /\ Found many wide rows dn (dn ++ lv),fun σ' H' h => h,?_⟩
  refine ⟨(by show 0 <= sizeLine; decide),fun N hN => ?_⟩
  have hND : N ≠ D:=fun z => by rw [z,hD1] at hN; cases hN
  have hNW : N ≠ W:=fun z => by rw [z,hW1] at hN; cases hN
  have hN0 : H N = none:=s1.free hN
  try dsimp only [bB]
  refine ⟨_,rfl,W,rfl,⟨_,qL_ (by rw [aj (Ne.symm hNW)]; exact hW1)⟩,dz (K:=K) (xs:=lv.map V.int) (fun i σ' H' => ∃ (fr : LI) (v1 v2 : OV),
    σ' = [some (.ref m),some (.int 0),some (.ref r),some (.ref D),some (.ref W),some (.ref N),v1,v2] /\ Same H H' /\ H' D = some (.dK (kvT (dn ++ lv ++ fr))) /\ H' W = some (.lst (lv.map V.int)) /\ H' N = some (.lst (fr.map V.int)) /\ Found many wide rows (dn ++ lv.take i) (dn ++ lv ++ fr))
   ⟨[],v1,v2,rfl,s1.trans (aq hN _),by rw [aj (Ne.symm hND),List.append_nil]; exact hD1,by rw [aj (Ne.symm hNW)]; exact hW1,af,by rw [List.take_zero,List.append_nil,List.append_nil]; exact FD⟩ (fun i σ' H' _ ⟨_,_,_,_,_,_,e,_⟩ => qL_ e) ?_ ?_⟩
  ·rintro i x σ' H2 hi ⟨fr,v1,v2,rfl,s2,hD2,hW2,hN2,F2⟩
   obtain ⟨here,rfl,hz⟩:=bw hi
   have hil : i < lv.length:=(gi_ hz).1
   have hk : here ∈ dn ++ lv ++ fr:=List.mem_append_left _ (List.mem_append_right _ (mq_ hz))
   have hh:=F2.inr here hk
   have hre:=F2.re here hk
   have l1 : here.toNat < rows.length:=by rw [R.len]; omega
   obtain ⟨ra,e1,e2⟩:=hA.get l1
   have lr : rows[here.toNat].length = wide:=R.row _ (List.getElem_mem l1)
   refine ⟨_,rfl,_,rfl,r,_,_,_,rfl,rfl,qT_ (s2 _ _ hr'),jh hh.1 e1,ra,rfl,⟨_,qT_ (s2 _ _ e2)⟩,pK (K:=K) (xs:=rows[here.toNat].map V.int) (fun j σ' H' => ∃ (fr : LI) (v : OV),
     σ' = [some (.ref m),some (.int 0),some (.ref r),some (.ref D),some (.ref W),some (.ref N),some (.int here),v] /\ Same H H' /\ H' D = some (.dK (kvT (dn ++ lv ++ fr))) /\ H' W = some (.lst (lv.map V.int)) /\ H' N = some (.lst (fr.map V.int)) /\ Part many wide rows (dn ++ lv.take i) (rows[here.toNat].take j) (dn ++ lv ++ fr))
    ⟨fr,v2,rfl,s2,hD2,hW2,hN2,⟨F2.eq,F2.nd,F2.inr,F2.re⟩⟩ (fun i σ' H' _ ⟨_,_,_,e,_⟩ => qT_ (e _ _ e2)) ?_ ?_⟩
   ·rintro j x σ' H3 hj ⟨fr,v,rfl,s3,hD3,hW3,hN3,F3⟩
    obtain ⟨z,rfl,hz⟩:=bw hj
    have hjl : j < rows[here.toNat].length:=(gi_ hz).1
    have zin:=R.val _ (List.getElem_mem l1) z (mq_ hz)
    have kl3:=bN many F3.nd F3.inr
    rw [List.length_append,List.length_append] at kl3
    have stp : stepI rows here (j : Int) = z:=by
     unfold stepI
     rw [getD_at l1,Int.toNat_natCast,getD_at hjl]
     exact (gi_ hz).2
    have tk : rows[here.toNat].take (j + 1) = rows[here.toNat].take j ++ [z]:=by rw [List.take_add_one,hz]; rfl
    refine ⟨_,rfl,_,rfl,D,_,rfl,DGet.k (k:=Sum.inl z) hD3,_,rfl,?_⟩
    rw [um]
    refine sU (fun c => ?_) (fun c => ?_)
    ·refine ⟨_,rfl,_,rfl,D,_,rfl,DPut.k (k:=Sum.inl z) hD3 (aB (by unfold kvT; rw [lm_,List.length_append,List.length_append]; omega)),?_⟩
     rw [uk c]
     have hN4 : (upd H3 D (HO.dK (kvT (dn ++ lv ++ fr ++ [z])))) N = some (.lst (fr.map V.int)):=by rw [aj hND]; exact hN3
     refine ⟨_,rfl,.inl ⟨rfl,_,qL_ hN4⟩,_,rfl,N,_,_,rfl,rfl,hN4,Nat.lt_of_le_of_lt (show _ <= 2000 by rw [lm_]; omega) (by decide),?_⟩
     have F4:=F3.put c zin.1 zin.2 (by rw [<- stp]; exact hre.step (by omega) (by omega))
     refine ⟨fr ++ [z],_,rfl,aw (aw s3 hD) hN0,?_,?_,?_,?_⟩
     ·rw [aj (Ne.symm hND),af,List.append_assoc]
     ·rw [aj (Ne.symm hNW),aj hWD]; exact hW3
     ·rw [af,List.map_append]; rfl
     ·rw [tk,<- List.append_assoc]; exact F4
    ·refine ⟨fr,_,rfl,s3,hD3,hW3,hN3,?_⟩
     rw [tk]
     exact F3.old c
   ·rintro σ' H3 ⟨fr,v,rfl,s3,hD3,hW3,hN3,F3⟩
    rw [lm_,List.take_length] at F3
    refine ⟨fr,_,_,rfl,s3,hD3,hW3,hN3,⟨?_,F3.nd,F3.inr,F3.re⟩⟩
    have e9 : dn ++ lv.take (i + 1) = (dn ++ lv.take i) ++ [here]:=by rw [List.take_add_one,hz,List.append_assoc]; rfl
    rw [F3.eq,e9,List.foldl_append (l:=dn ++ lv.take i)]
    show _ = dk rows _ here
    unfold dk
    rw [getD_at l1]
  ·rintro σ' H3 ⟨fr,v1,v2,rfl,s3,hD3,hW3,hN3,F3⟩
   rw [lm_,List.take_length] at F3
   have kl3:=bN many F3.nd F3.inr
   rw [List.length_append,List.length_append] at kl3
   refine ⟨_,rfl,_,?_,dn ++ lv,fr,N,_,_,_,rfl,rfl,s3,hD3,hND,hN3,F3⟩
   rw [List.length_append,List.length_append]
   omega
 rintro σ' H1 ⟨ks,W,v0,v1,v2,rfl,s1,hD1,FD⟩
 refine ⟨_,rfl,D,_,rfl,hD1,fun l hl => ?_⟩
 have e : (kvT ks).map (fun q => kV q.1) = ks.map V.int:=by
  unfold kvT
  rw [List.map_map]
  rfl
 rw [e]
 have z0 : (0 : Int) ∈ ks:=by rw [FD.eq]; exact l5 rows ks List.mem_cons_self
 refine k l _ ks (s1.trans (aq hl _)) af ⟨FD.eq,FD.nd,FD.inr,fun q => ⟨FD.re q,fun h => ?_⟩⟩
 refine Reach.of (S:=fun q => q ∈ ks) z0 (fun p hp f f0 f1 => ?_) h
 have hp' := FD.inr p hp
 have l1 : p.toNat < rows.length:=by rw [R.len]; omega
 have lr : rows[p.toNat].length = wide:=R.row _ (List.getElem_mem l1)
 have hf : f.toNat < rows[p.toNat].length:=by omega
 rw [FD.eq]
 refine jt rows ks hp ?_
 unfold stepI
 rw [getD_at l1,getD_at hf]
 exact List.getElem_mem hf
end
def sgn (signs : LI) (x : Int) : Int:=signs.getD x.toNat 0
def InF (wide : Nat) (v : LI) : Prop := ∀ f ∈ v,0 <= f /\ f < (wide : Int)
def Agree (rows : LL) (wide : Nat) (signs : LI) (n : Nat) (a b : Int) : Prop := ∀ v,InF wide v -> v.length <= n -> sgn signs (aM rows v a) = sgn signs (aM rows v b)
theorem Agree.up {rows : LL} {wide : Nat} {signs : LI} {n : Nat} {a b : Int} (h0 : sgn signs a = sgn signs b) (h : ∀ f : Nat,f < wide -> Agree rows wide signs n (stepI rows a f) (stepI rows b f)) : Agree rows wide signs (n + 1) a b:=by
 intro v h1 h2
 cases v with
 | nil => exact h0
 | cons f v =>
  have hf:=h1 f List.mem_cons_self
  have q:=h f.toNat (by omega) v (fun g hg => h1 g (List.mem_cons_of_mem _ hg)) (by rw [List.length_cons] at h2; omega)
  rw [Int.toNat_of_nonneg hf.1] at q
  exact q
def AllAg (rows : LL) (wide : Nat) (signs : LI) (x y : Int) : Prop := ∀ n,Agree rows wide signs n x y
theorem AllAg.sgn {rows : LL} {wide : Nat} {signs : LI} {x y : Int} (h : AllAg rows wide signs x y) : My.sgn signs x = My.sgn signs y:=h 0 [] (fun f hf => by cases hf) (Nat.le_refl 0)
theorem AllAg.led {rows : LL} {wide : Nat} {signs : LI} {x y : Int} (h : AllAg rows wide signs x y) {f : Nat} (hf : f < wide) : AllAg rows wide signs (stepI rows x f) (stepI rows y f):=fun n v h1 h2 => by
 refine h (n + 1) ((f : Int) :: v) (fun g hg => ?_) (by rw [List.length_cons]; omega)
 rcases List.mem_cons.mp hg with z | z
 ·rw [z]
  exact ⟨by omega,by omega⟩
 ·exact h1 g z
def iE (c : LI) (q : Int) : Int:=c.getD q.toNat 0
structure ColsOk (many wide : Nat) (rows cols : LL) : Prop where
 of : ∀ c ∈ cols,∃ f : Nat,f < wide /\ ∀ q,ar many q -> iE c q = stepI rows q f
 all : ∀ f : Nat,f < wide -> ∃ c ∈ cols,∀ q,ar many q -> iE c q = stepI rows q f
theorem ColsOk.room {many wide : Nat} {rows cols : LL} (C : ColsOk many wide rows cols) (R : RowsOk many wide rows) : ∀ x,ar many x -> ∀ c ∈ cols.map iE,ar many (c x):=fun x hx c hc => by
 obtain ⟨l,hl,rfl⟩:=List.mem_map.mp hc
 obtain ⟨f,hf,e⟩:=C.of l hl
 rw [e x hx]
 exact cn R hx.1 hx.2 (by omega) (by omega)
theorem ColsOk.likes {many wide : Nat} {rows cols : LL} {signs : LI} (C : ColsOk many wide rows cols) (R : RowsOk many wide rows) : Likes many (cols.map iE) (My.sgn signs) (fun x y => ar many x /\ ar many y /\ AllAg rows wide signs x y) where
 sgn:=fun x y h => h.2.2.sgn
 led:=fun x y h c hc => by
  have h1:=C.room R x h.1 c hc
  have h2:=C.room R y h.2.1 c hc
  refine ⟨h1,h2,?_⟩
  obtain ⟨l,hl,rfl⟩:=List.mem_map.mp hc
  obtain ⟨f,hf,e⟩:=C.of l hl
  rw [e x h.1,e y h.2.1]
  exact h.2.2.led hf
theorem Dm {many wide : Nat} {rows cols : LL} {signs : LI} {grp : Int -> Int} {W : Int -> Prop} (C : ColsOk many wide rows cols) (R : RowsOk many wide rows)
  (h : Hop many (cols.map iE) (My.sgn signs) (fun x y => ar many x /\ ar many y /\ AllAg rows wide signs x y) grp W) (st : ∀ x y,ar many x -> ar many y -> grp x = grp y -> ∀ c ∈ cols.map iE,grp (c x) = grp (c y)) {x y : Int} (hx : ar many x) (hy : ar many y) :
  grp x = grp y ↔ AllAg rows wide signs x y:=by
 refine ⟨fun e n => ?_,fun a => h.coarse x y hx hy ⟨hx,hy,a⟩⟩
 induction n generalizing x y with
 | zero =>
  intro v _ h2
  have : v = []:=List.eq_nil_of_length_eq_zero (by omega)
  rw [this]
  exact h.signs x y hx hy e
 | succ n ih =>
  refine Agree.up (h.signs x y hx hy e) fun f hf => ?_
  obtain ⟨c,hc,ec⟩:=C.all f hf
  have hm : iE c ∈ cols.map iE:=List.mem_map.mpr ⟨c,hc,rfl⟩
  have q:=st x y hx hy e _ hm
  rw [ec x hx,ec y hy] at q
  exact ih (cn R hx.1 hx.2 (by omega) (by omega)) (cn R hy.1 hy.2 (by omega) (by omega)) q
def ba : Nat -> LI -> Option Nat
 | m,[] => some m
 | m,t :: r => if t = (m : Int) then ba (m + 1) r else if t < (m : Int) then ba m r else none
def bJ : Nat -> Nat -> LL -> Option Nat
 | _,m,[] => some m
 | q,m,r :: rs => if q < m then (ba m r).bind fun m' => bJ (q + 1) m' rs else none
def InOrder (rows : LL) : Prop:=bJ 0 1 rows = some rows.length
def Tells (wide : Nat) (rows rows' : LL) (signs signs' : LI) (a b : Int) : Prop := ∀ v,InF wide v -> sgn signs (aM rows v a) = sgn signs' (aM rows' v b)
def Apart (wide : Nat) (rows : LL) (signs : LI) : Prop := ∀ a b,ar rows.length a -> ar rows.length b -> AllAg rows wide signs a b -> a = b
section
variable {wide : Nat} {rows rows' : LL} {signs signs' : LI}
theorem Tells.led {a b : Int} (h : Tells wide rows rows' signs signs' a b) {f : Nat} (hf : f < wide) : Tells wide rows rows' signs signs' (stepI rows a f) (stepI rows' b f):=fun v hv =>
 h ((f : Int) :: v) fun g hg => by
  rcases List.mem_cons.mp hg with z | z
  ·rw [z]
   exact ⟨by omega,by omega⟩
  ·exact hv g z
theorem Tells.left {a b c : Int} (h : Tells wide rows rows' signs signs' a c) (h' : Tells wide rows rows' signs signs' b c) : AllAg rows wide signs a b:=fun n v hv _ => (h v hv).trans (h' v hv).symm
theorem Tells.right {a b c : Int} (h : Tells wide rows rows' signs signs' c a) (h' : Tells wide rows rows' signs signs' c b) : AllAg rows' wide signs' a b:=fun n v hv _ => (h v hv).symm.trans (h' v hv)
theorem vO (A : Apart wide rows signs) (A' : Apart wide rows' signs') : ∀ {r r' : LI} {m m1 m2 : Nat},r.length = r'.length -> (∀ i : Nat,i < m -> Tells wide rows rows' signs signs' i i) -> (m <= rows.length /\ m <= rows'.length) ->
  (∀ (j : Nat) (t t' : Int),r[j]? = some t -> r'[j]? = some t' -> ar rows.length t /\ ar rows'.length t' /\ Tells wide rows rows' signs signs' t t') -> ba m r = some m1 -> ba m r' = some m2 ->
  r = r' /\ m1 = m2 /\ (∀ i : Nat,i < m1 -> Tells wide rows rows' signs signs' i i) /\ m1 <= rows.length /\ m1 <= rows'.length
 | [],[],m,m1,m2,_,hB,hm,_,h1,h2 => by
  cases h1
  cases h2
  exact ⟨rfl,rfl,hB,hm.1,hm.2⟩
 | [],t' :: r',_,_,_,hl,_,_,_,_,_ => by cases hl
 | t :: r,[],_,_,_,hl,_,_,_,_,_ => by cases hl
 | t :: r,t' :: r',m,m1,m2,hl,hB,hm,hT,h1,h2 => by
  obtain ⟨ht,ht',tt⟩:=hT 0 t t' rfl rfl
  have hl' : r.length = r'.length:=Nat.succ.inj hl
  have hT' : ∀ (j : Nat) (u u' : Int),r[j]? = some u -> r'[j]? = some u' -> ar rows.length u /\ ar rows'.length u' /\ Tells wide rows rows' signs signs' u u' := fun j u u' a b => hT (j + 1) u u' a b
  have low : ∀ {x : Int},0 <= x -> x < (m : Int) -> ∃ i : Nat,i < m /\ x = (i : Int):=fun h0 h1 => ⟨_,by omega,(Int.toNat_of_nonneg h0).symm⟩
  have h1' : (if t = (m : Int) then ba (m + 1) r else if t < (m : Int) then ba m r else none) = some m1:=h1
  have h2' : (if t' = (m : Int) then ba (m + 1) r' else if t' < (m : Int) then ba m r' else none) = some m2:=h2
  by_cases c : t = (m : Int)
  ·by_cases c' : t' = (m : Int)
   ·rw [if_pos c] at h1'
    rw [if_pos c'] at h2'
    have hB' : ∀ i : Nat,i < m + 1 -> Tells wide rows rows' signs signs' i i:=fun i hi => by
     rcases Nat.lt_or_ge i m with z | z
     ·exact hB i z
     ·have : i = m:=by omega
      rw [this,<- c]
      rw [c'] at tt
      rw [c]
      rw [c] at tt
      exact tt
    obtain ⟨e1,e2⟩:=vO A A' hl' hB' ⟨by have:=ht.2; omega,by have:=ht'.2; omega⟩ hT' h1' h2'
    exact ⟨by rw [c,c',e1],e2⟩
   ·rw [if_neg c'] at h2'
    by_cases d : t' < (m : Int)
    ·obtain ⟨i,hi,rfl⟩:=low ht'.1 d
     have:=A t (i : Int) ht ⟨by omega,by omega⟩ (tt.left (hB i hi))
     omega
    ·rw [if_neg d] at h2'
     cases h2'
  ·rw [if_neg c] at h1'
   by_cases d : t < (m : Int)
   ·rw [if_pos d] at h1'
    obtain ⟨i,hi,rfl⟩:=low ht.1 d
    have e:=A' t' (i : Int) ht' ⟨by omega,by omega⟩ (tt.right (hB i hi))
    subst e
    rw [if_neg (by omega),if_pos d] at h2'
    obtain ⟨e1,e2⟩:=vO A A' hl' hB hm hT' h1' h2'
    exact ⟨by rw [e1],e2⟩
   ·rw [if_neg d] at h1'
    cases h1'
theorem yl (A : Apart wide rows signs) (A' : Apart wide rows' signs') (R : RowsOk rows.length wide rows) (R' : RowsOk rows'.length wide rows') : ∀ {rs rs' : LL} {q m : Nat},rs = rows.drop q -> rs' = rows'.drop q -> q <= rows.length -> q <= rows'.length ->
  (∀ i : Nat,i < m -> Tells wide rows rows' signs signs' i i) -> (m <= rows.length /\ m <= rows'.length) -> bJ q m rs = some rows.length -> bJ q m rs' = some rows'.length -> rs = rs' /\ rows.length = rows'.length /\ ∀ i : Nat,i < rows.length -> Tells wide rows rows' signs signs' i i
 | [],[],q,m,_,_,_,_,hB,_,h1,h2 => by
  have e1 : m = rows.length:=Option.some.inj h1
  have e2 : m = rows'.length:=Option.some.inj h2
  exact ⟨rfl,e1.symm.trans e2,fun i hi => hB i (by omega)⟩
 | [],r' :: rs',q,m,e,_,hq,_,_,_,h1,h2 => by
  have e1 : m = rows.length:=Option.some.inj h1
  have hl : rows.length <= q:=List.drop_eq_nil_iff.mp e.symm
  have h2' : (if q < m then (ba m r').bind fun m' => bJ (q + 1) m' rs' else none) = some rows'.length:=h2
  rw [if_neg (by omega)] at h2'
  cases h2'
 | r :: rs,[],q,m,_,e,_,hq,_,_,h1,h2 => by
  have e1 : m = rows'.length:=Option.some.inj h2
  have hl : rows'.length <= q:=List.drop_eq_nil_iff.mp e.symm
  have h1' : (if q < m then (ba m r).bind fun m' => bJ (q + 1) m' rs else none) = some rows.length:=h1
  rw [if_neg (by omega)] at h1'
  cases h1'
 | r :: rs,r' :: rs',q,m,e,e',hq,hq',hB,hm,h1,h2 => by
  have h1' : (if q < m then (ba m r).bind fun m' => bJ (q + 1) m' rs else none) = some rows.length:=h1
  have h2' : (if q < m then (ba m r').bind fun m' => bJ (q + 1) m' rs' else none) = some rows'.length:=h2
  by_cases c : q < m
  ·rw [if_pos c] at h1' h2'
   have l1 : q < rows.length:=by omega
   have l2 : q < rows'.length:=by omega
   have d1:=List.drop_eq_getElem_cons l1
   have d2:=List.drop_eq_getElem_cons l2
   rw [d1] at e
   rw [d2] at e'
   injection e with er es
   injection e' with er' es'
   cases o1 : ba m r with
   | none => rw [o1] at h1'; cases h1'
   | some m1 =>
    cases o2 : ba m r' with
    | none => rw [o2] at h2'; cases h2'
    | some m2 =>
     rw [o1] at h1'
     rw [o2] at h2'
     have hr:=R.row _ (List.getElem_mem l1)
     have hr' := R'.row _ (List.getElem_mem l2)
     have key : ∀ (j : Nat) (t t' : Int),r[j]? = some t -> r'[j]? = some t' -> ar rows.length t /\ ar rows'.length t' /\ Tells wide rows rows' signs signs' t t' := fun j t t' a b => by
      rw [er] at a
      rw [er'] at b
      have ja:=(gi_ a).1
      have jw : j < wide:=by omega
      have s1 : stepI rows (q : Int) (j : Int) = t:=by
       unfold stepI
       rw [Int.toNat_natCast,Int.toNat_natCast,getD_at l1,List.getD_eq_getElem?_getD,a]
       rfl
      have s2 : stepI rows' (q : Int) (j : Int) = t' := by
       unfold stepI
       rw [Int.toNat_natCast,Int.toNat_natCast,getD_at l2,List.getD_eq_getElem?_getD,b]
       rfl
      refine ⟨R.val _ (List.getElem_mem l1) t (mq_ a),R'.val _ (List.getElem_mem l2) t' (mq_ b),?_⟩
      have:=(hB q c).led jw
      rw [s1,s2] at this
      exact this
     obtain ⟨e1,e2,hB',k1,k2⟩:=vO A A' (by rw [er,er',hr,hr']) hB hm key o1 o2
     subst e2
     obtain ⟨f1,f2,f3⟩:=yl A A' R R' es es' l1 l2 hB' ⟨k1,k2⟩ h1' h2'
     exact ⟨by rw [e1,f1],f2,f3⟩
  ·rw [if_neg c] at h1'
   cases h1'
theorem Bi (A : Apart wide rows signs) (A' : Apart wide rows' signs') (R : RowsOk rows.length wide rows) (R' : RowsOk rows'.length wide rows') (n0 : 0 < rows.length) (n1 : 0 < rows'.length) (O : InOrder rows) (O' : InOrder rows') (ls : signs.length = rows.length) (ls' : signs'.length = rows'.length) (h : Tells wide rows rows' signs signs' 0 0) : rows = rows' /\ signs = signs' := by
 obtain ⟨e,el,hB⟩:=yl A A' R R' (rs:=rows) (rs' := rows') (q:=0) (m:=1) rfl rfl (Nat.zero_le _) (Nat.zero_le _) (fun i hi => by
  have : i = 0:=by omega
  rw [this]
  exact h) ⟨n0,n1⟩ O O'
 refine ⟨e,List.ext_getElem (by omega) fun i h1 h2 => ?_⟩
 have q:=hB i (by omega) [] (fun f hf => by cases hf)
 unfold sgn at q
 have q' : signs.getD ((i : Int)).toNat 0 = signs'.getD ((i : Int)).toNat 0:=q
 rw [Int.toNat_natCast,getD_at h1,getD_at h2] at q'
 exact q'
end
def aR (φ : Int -> Int) : Nat -> Nat
 | 0 => 0
 | m + 1 => if φ (m : Int) = (aR φ m : Int) then aR φ m + 1 else aR φ m
def bF (φ : Int -> Int) (n : Nat) : List Nat:=(List.range n).filter fun q => decide (φ (q : Int) = (aR φ q : Int))
def FirstNum (φ : Int -> Int) (n : Nat) : Prop := ∀ q : Nat,q < n -> 0 <= φ (q : Int) /\ φ (q : Int) <= (aR φ q : Int)
section
variable {φ : Int -> Int} {n : Nat}
theorem xV : ∀ {a b : Nat},a <= b -> aR φ a <= aR φ b:=by
 intro a b h
 induction h with
 | refl => exact Nat.le_refl _
 | @step m _ ih =>
  have e : aR φ (m + 1) = if φ (m : Int) = (aR φ m : Int) then aR φ m + 1 else aR φ m:=rfl
  refine Nat.le_trans ih ?_
  rw [e]
  by_cases c : φ (m : Int) = (aR φ m : Int)
  ·rw [if_pos c]; exact Nat.le_succ _
  ·rw [if_neg c]; exact Nat.le_refl _
theorem FirstNum.lt (h : FirstNum φ n) {t m : Nat} (ht : t < m) (hm : m <= n) : φ (t : Int) < (aR φ m : Int):=by
 have h1:=(h t (by omega)).2
 have h2:=xV (φ:=φ) (show t + 1 <= m from ht)
 have h3 : aR φ (t + 1) = if φ (t : Int) = (aR φ t : Int) then aR φ t + 1 else aR φ t:=rfl
 by_cases c : φ (t : Int) = (aR φ t : Int)
 ·rw [if_pos c] at h3
  omega
 ·rw [if_neg c] at h3
  omega
theorem iJ (φ : Int -> Int) : ∀ n,(bF φ n).length = aR φ n
 | 0 => rfl
 | n + 1 => by
  have ih:=iJ φ n
  unfold bF at ih ⊢
  rw [List.range_succ,List.filter_append,List.length_append,ih]
  show _ = if φ (n : Int) = (aR φ n : Int) then aR φ n + 1 else aR φ n
  by_cases c : φ (n : Int) = (aR φ n : Int)
  ·rw [if_pos c,List.filter_cons_of_pos (by exact decide_eq_true c)]
   rfl
  ·rw [if_neg c,List.filter_cons_of_neg (by rw [decide_eq_false c]; decide)]
   rfl
theorem y7 (F : FirstNum φ n) : ∀ {r : LI} {m m1 : Nat},m <= n -> (∀ t ∈ r,ar n t) -> ba m r = some m1 -> ba (aR φ m) (r.map φ) = some (aR φ m1) /\ m1 <= n /\ (∀ t ∈ r,t < (m1 : Int)) /\ m <= m1
 | [],m,m1,hm,_,h => by
  cases h
  exact ⟨rfl,hm,fun t ht => (by cases ht),Nat.le_refl _⟩
 | t :: r,m,m1,hm,hr,h => by
  have ht:=hr t List.mem_cons_self
  have hr' : ∀ u ∈ r,ar n u:=fun u hu => hr u (List.mem_cons_of_mem _ hu)
  have h' : (if t = (m : Int) then ba (m + 1) r else if t < (m : Int) then ba m r else none) = some m1:=h
  show (if φ t = (aR φ m : Int) then ba (aR φ m + 1) (r.map φ) else if φ t < (aR φ m : Int) then ba (aR φ m) (r.map φ) else none) = _ /\ _
  by_cases c : t = (m : Int)
  ·rw [if_pos c] at h'
   have mn : m < n:=by have:=ht.2; omega
   obtain ⟨e1,e2,e3,e4⟩:=y7 F (show m + 1 <= n from mn) hr' h'
   have e5 : ∀ u ∈ t :: r,u < (m1 : Int):=fun u hu => by
    rcases List.mem_cons.mp hu with z | z
    ·rw [z,c]; omega
    ·exact e3 u z
   have es : aR φ (m + 1) = if φ (m : Int) = (aR φ m : Int) then aR φ m + 1 else aR φ m:=rfl
   rw [c]
   by_cases d : φ (m : Int) = (aR φ m : Int)
   ·rw [if_pos d]
    rw [if_pos d] at es
    rw [es] at e1
    rw [c] at e5
    exact ⟨e1,e2,e5,by omega⟩
   ·rw [if_neg d] at es
    rw [if_neg d,if_pos (by have:=(F m mn).2; omega)]
    rw [es] at e1
    rw [c] at e5
    exact ⟨e1,e2,e5,by omega⟩
  ·rw [if_neg c] at h'
   by_cases d : t < (m : Int)
   ·rw [if_pos d] at h'
    obtain ⟨e1,e2,e3,e4⟩:=y7 F hm hr' h'
    have lt : φ t < (aR φ m : Int):=by
     have:=F.lt (t:=t.toNat) (m:=m) (by have:=ht.1; omega) hm
     rw [Int.toNat_of_nonneg ht.1] at this
     exact this
    rw [if_neg (by omega),if_pos lt]
    refine ⟨e1,e2,fun u hu => ?_,e4⟩
    rcases List.mem_cons.mp hu with z | z
    ·rw [z]; omega
    ·exact e3 u z
   ·rw [if_neg d] at h'
    cases h'
theorem y6 (F : FirstNum φ n) : ∀ {r : LI} {m m1 : Nat},m <= n -> (∀ t ∈ r,ar n t /\ φ t < (aR φ m : Int)) -> ba m r = some m1 -> aR φ m1 = aR φ m /\ m1 <= n /\ (∀ t ∈ r,t < (m1 : Int)) /\ m <= m1
 | [],m,m1,hm,_,h => by
  cases h
  exact ⟨rfl,hm,fun t ht => (by cases ht),Nat.le_refl _⟩
 | t :: r,m,m1,hm,hr,h => by
  have ht:=hr t List.mem_cons_self
  have h' : (if t = (m : Int) then ba (m + 1) r else if t < (m : Int) then ba m r else none) = some m1:=h
  by_cases c : t = (m : Int)
  ·rw [if_pos c] at h'
   have mn : m < n:=by have:=ht.1.2; omega
   have es : aR φ (m + 1) = aR φ m:=by
    show (if φ (m : Int) = (aR φ m : Int) then aR φ m + 1 else aR φ m) = _
    rw [if_neg (by have:=ht.2; rw [c] at this; omega)]
   obtain ⟨e1,e2,e3,e4⟩:=y6 F (show m + 1 <= n from mn) (fun u hu => by rw [es]; exact hr u (List.mem_cons_of_mem _ hu)) h'
   refine ⟨e1.trans es,e2,fun u hu => ?_,by omega⟩
   rcases List.mem_cons.mp hu with z | z
   ·rw [z,c]; omega
   ·exact e3 u z
  ·rw [if_neg c] at h'
   by_cases d : t < (m : Int)
   ·rw [if_pos d] at h'
    obtain ⟨e1,e2,e3,e4⟩:=y6 F hm (fun u hu => hr u (List.mem_cons_of_mem _ hu)) h'
    refine ⟨e1,e2,fun u hu => ?_,e4⟩
    rcases List.mem_cons.mp hu with z | z
    ·rw [z]; omega
    ·exact e3 u z
   ·rw [if_neg d] at h'
    cases h'
def cJ (φ : Int -> Int) (rows : LL) : Nat -> LL -> LL
 | _,[] => []
 | q,r :: rs => if φ (q : Int) = (aR φ q : Int) then r.map φ :: cJ φ rows (q + 1) rs else cJ φ rows (q + 1) rs
theorem vK {wide : Nat} {rows : LL} (F : FirstNum φ rows.length) (R : RowsOk rows.length wide rows) (cp : ∀ x y : Nat,x < rows.length -> y < rows.length -> φ (x : Int) = φ (y : Int) -> ∀ f : Nat,f < wide -> φ (stepI rows x f) = φ (stepI rows y f)) :
  ∀ {rs : LL} {q m k : Nat},rs = rows.drop q -> q <= rows.length -> m <= rows.length -> (∀ x : Nat,x < q -> ∀ f : Nat,f < wide -> stepI rows x f < (m : Int)) -> bJ q m rs = some k -> bJ (aR φ q) (aR φ m) (cJ φ rows q rs) = some (aR φ k)
 | [],q,m,k,_,_,_,_,h => by
  cases h
  rfl
 | r :: rs,q,m,k,e,hq,hm,old,h => by
  have h' : (if q < m then (ba m r).bind fun m' => bJ (q + 1) m' rs else none) = some k:=h
  by_cases c : q < m
  ·rw [if_pos c] at h'
   have l1 : q < rows.length:=by omega
   rw [List.drop_eq_getElem_cons l1] at e
   injection e with er es
   cases o1 : ba m r with
   | none => rw [o1] at h'; cases h'
   | some m1 =>
    rw [o1] at h'
    have hr:=R.row _ (List.getElem_mem l1)
    have hv : ∀ t ∈ r,ar rows.length t:=fun t ht => R.val _ (List.getElem_mem l1) t (er ▸ ht)
    have stp : ∀ f : Nat,f < wide -> stepI rows (q : Int) (f : Int) ∈ r:=fun f hf => by
     have lf : f < rows[q].length:=by omega
     have : stepI rows (q : Int) (f : Int) = rows[q][f]:=by
      unfold stepI
      rw [Int.toNat_natCast,Int.toNat_natCast,getD_at l1,getD_at lf]
     rw [this,er]
     exact List.getElem_mem lf
    have es' : aR φ (q + 1) = if φ (q : Int) = (aR φ q : Int) then aR φ q + 1 else aR φ q:=rfl
    have nxt : ∀ m1 : Nat,(∀ t ∈ r,t < (m1 : Int)) -> m <= m1 -> ∀ x : Nat,x < q + 1 -> ∀ f : Nat,f < wide -> stepI rows x f < (m1 : Int):=fun m1 e3 e4 x hx f hf => by
     rcases Nat.lt_or_ge x q with z | z
     ·have:=old x z f hf
      omega
     ·have : x = q:=by omega
      rw [this]
      exact e3 _ (stp f hf)
    by_cases d : φ (q : Int) = (aR φ q : Int)
    ·obtain ⟨e1,e2,e3,e4⟩:=y7 F hm hv o1
     have ih:=vK F R cp es l1 e2 (nxt m1 e3 e4) h'
     rw [es',if_pos d] at ih
     have lt : aR φ q < aR φ m:=by
      have:=F.lt c hm
      omega
     show bJ _ _ (if φ (q : Int) = (aR φ q : Int) then _ else _) = _
     rw [if_pos d]
     show (if aR φ q < aR φ m then (ba (aR φ m) (r.map φ)).bind fun m' => bJ (aR φ q + 1) m' (cJ φ rows (q + 1) rs) else none) = _
     rw [if_pos lt,e1]
     exact ih
    ·-- room q is like an earlier one
     have hl : φ (q : Int) < (aR φ q : Int):=by
      have:=(F q l1).2
      omega
     obtain ⟨x,hx,ex⟩ : ∃ x : Nat,x < q /\ φ (x : Int) = φ (q : Int):=by
      have : ∀ (b : Nat) (g : Int),0 <= g -> g < (aR φ b : Int) -> ∃ x : Nat,x < b /\ φ (x : Int) = g:=by
       intro b
       induction b with
       | zero => intro g g0 g1; exact absurd g1 (by show ¬ g < ((0 : Nat) : Int); omega)
       | succ b ih =>
        intro g g0 g1
        have eb : aR φ (b + 1) = if φ (b : Int) = (aR φ b : Int) then aR φ b + 1 else aR φ b:=rfl
        by_cases z : g < (aR φ b : Int)
        ·obtain ⟨x,h1,h2⟩:=ih g g0 z
         exact ⟨x,by omega,h2⟩
        ·by_cases y : φ (b : Int) = (aR φ b : Int)
         ·rw [eb,if_pos y] at g1
          exact ⟨b,Nat.lt_succ_self b,by omega⟩
         ·rw [eb,if_neg y] at g1
          exact absurd g1 z
      exact this q _ (F q l1).1 hl
     have hv' : ∀ t ∈ r,ar rows.length t /\ φ t < (aR φ m : Int):=fun t ht => by
      refine ⟨hv t ht,?_⟩
      obtain ⟨f,hf,et⟩:=List.getElem_of_mem (er ▸ ht)
      have fw : f < wide:=by omega
      have st : stepI rows (q : Int) (f : Int) = t:=by
       unfold stepI
       rw [Int.toNat_natCast,Int.toNat_natCast,getD_at l1,getD_at hf,et]
      have c1:=cp x q (by omega) l1 ex f fw
      rw [st] at c1
      rw [<- c1]
      have o:=old x hx f fw
      have rm:=cn R (show (0 : Int) <= (x : Int) by omega) (by omega) (show (0 : Int) <= (f : Int) by omega) (by omega)
      have:=F.lt (t:=(stepI rows x f).toNat) (m:=m) (by omega) hm
      rw [Int.toNat_of_nonneg rm.1] at this
      exact this
     obtain ⟨e1,e2,e3,e4⟩:=y6 F hm hv' o1
     have ih:=vK F R cp es l1 e2 (nxt m1 e3 e4) h'
     rw [es',if_neg d,e1] at ih
     show bJ _ _ (if φ (q : Int) = (aR φ q : Int) then _ else _) = _
     rw [if_neg d]
     exact ih
  ·rw [if_neg c] at h'
   cases h'
end
abbrev dd (s : LI) (v : Int) : LI:=PyProof.Rows.step_dedup s v
theorem js {s : LI} {v : Int} (h : v ∈ s) : dd s v = s:=by
 unfold dd PyProof.Rows.step_dedup
 simp [h]
theorem fI {s : LI} {v : Int} (h : v ∉ s) : dd s v = s ++ [v]:=by
 unfold dd PyProof.Rows.step_dedup
 simp [h]
theorem q5 : ∀ (ys s : LI),∃ zs,ys.foldl dd s = s ++ zs
 | [],s => ⟨[],by simp⟩
 | y :: ys,s => by
  by_cases c : y ∈ s
  ·obtain ⟨zs,e⟩:=q5 ys s
   exact ⟨zs,by rw [List.foldl_cons,js c,e]⟩
  ·obtain ⟨zs,e⟩:=q5 ys (s ++ [y])
   exact ⟨y :: zs,by rw [List.foldl_cons,fI c,e,List.append_assoc]; rfl⟩
theorem Ap (gs : LI) (m : Nat) : ∃ zs,bj gs = bj (gs.take m) ++ zs:=by
 obtain ⟨zs,e⟩:=q5 (gs.drop m) (bj (gs.take m))
 refine ⟨zs,?_⟩
 rw [<- e]
 show gs.foldl dd [] = (gs.drop m).foldl dd ((gs.take m).foldl dd [])
 rw [<- List.foldl_append,List.take_append_drop]
theorem hX {gs : LI} {m : Nat} {g : Int} (h : gs[m]? = some g) : bj (gs.take (m + 1)) = dd (bj (gs.take m)) g:=by
 unfold bj
 rw [List.take_add_one,h,List.foldl_append]
 rfl
def phi (gs : LI) (q : Int) : Int:=((bj gs).idxOf (gs.getD q.toNat 0) : Nat)
theorem G9 {xs zs : LI} {g : Int} (h : g ∈ xs) : (xs ++ zs).idxOf g = xs.idxOf g:=by rw [List.idxOf_append,if_pos h]
theorem uu {gs : LI} {m : Nat} {g : Int} (h : gs[m]? = some g) (ho : g ∈ bj (gs.take m)) : phi gs (m : Int) = ((bj (gs.take m)).idxOf g : Nat):=by
 obtain ⟨zs,e⟩:=Ap gs m
 unfold phi
 rw [Int.toNat_natCast,List.getD_eq_getElem?_getD,h,e]
 show (((bj (gs.take m) ++ zs).idxOf g : Nat) : Int) = _
 rw [G9 ho]
theorem ur {gs : LI} {m : Nat} {g : Int} (h : gs[m]? = some g) (ho : g ∉ bj (gs.take m)) : phi gs (m : Int) = ((bj (gs.take m)).length : Nat):=by
 obtain ⟨zs,e⟩:=Ap gs (m + 1)
 rw [hX h,fI ho] at e
 unfold phi
 rw [Int.toNat_natCast,List.getD_eq_getElem?_getD,h,e,List.append_assoc]
 show (((bj (gs.take m) ++ ([g] ++ zs)).idxOf g : Nat) : Int) = _
 rw [List.idxOf_append,if_neg ho]
 simp
theorem yz (gs : LI) : ∀ {m : Nat},m <= gs.length -> aR (phi gs) m = (bj (gs.take m)).length
 | 0,_ => rfl
 | m + 1,h => by
  have ih:=yz gs (m:=m) (by omega)
  have hg : gs[m]? = some gs[m]:=List.getElem?_eq_getElem (by omega)
  show (if phi gs (m : Int) = (aR (phi gs) m : Int) then aR (phi gs) m + 1 else aR (phi gs) m) = _
  rw [ih,hX hg]
  by_cases c : gs[m] ∈ bj (gs.take m)
  ·have e:=uu hg c
   have lt:=List.idxOf_lt_length_of_mem c
   rw [js c,if_neg (by omega)]
  ·have e:=ur hg c
   rw [fI c,if_pos e,List.length_append]
   rfl
theorem DW (gs : LI) : FirstNum (phi gs) gs.length:=fun q hq => by
 have hg : gs[q]? = some gs[q]:=List.getElem?_eq_getElem hq
 rw [yz gs (by omega)]
 by_cases c : gs[q] ∈ bj (gs.take q)
 ·have e:=uu hg c
  have lt:=List.idxOf_lt_length_of_mem c
  omega
 ·have e:=ur hg c
  omega
theorem Gb {gs : LI} {x y : Int} (hx : ar gs.length x) (hy : ar gs.length y) : phi gs x = phi gs y ↔ gs.getD x.toNat 0 = gs.getD y.toNat 0:=by
 have mem : ∀ {z : Int},ar gs.length z -> gs.getD z.toNat 0 ∈ bj gs:=fun {z} hz => by
  have l : z.toNat < gs.length:=by have:=hz.1; have:=hz.2; omega
  rw [getD_at l]
  exact once_mem.mpr (List.getElem_mem l)
 unfold phi
 constructor
 ·intro h
  have h' : (bj gs).idxOf (gs.getD x.toNat 0) = (bj gs).idxOf (gs.getD y.toNat 0):=by omega
  have lx:=List.idxOf_lt_length_of_mem (mem hx)
  have ly:=List.idxOf_lt_length_of_mem (mem hy)
  have ex : (bj gs)[(bj gs).idxOf (gs.getD x.toNat 0)] = gs.getD x.toNat 0:=List.getElem_idxOf lx
  have ey : (bj gs)[(bj gs).idxOf (gs.getD y.toNat 0)] = gs.getD y.toNat 0:=List.getElem_idxOf ly
  rw [<- ex,<- ey]
  congr 1
 ·intro h
  rw [h]
theorem lF {φ : Int -> Int} : ∀ {b : Nat} {g : Int},0 <= g -> g < (aR φ b : Int) -> ∃ x : Nat,x < b /\ φ (x : Int) = g /\ (aR φ x : Int) = g
 | 0,g,g0,g1 => absurd g1 (by show ¬ g < ((0 : Nat) : Int); omega)
 | b + 1,g,g0,g1 => by
  have eb : aR φ (b + 1) = if φ (b : Int) = (aR φ b : Int) then aR φ b + 1 else aR φ b:=rfl
  by_cases z : g < (aR φ b : Int)
  ·obtain ⟨x,h1,h2⟩:=lF g0 z
   exact ⟨x,by omega,h2⟩
  ·by_cases y : φ (b : Int) = (aR φ b : Int)
   ·rw [eb,if_pos y] at g1
    exact ⟨b,Nat.lt_succ_self b,by omega,by omega⟩
   ·rw [eb,if_neg y] at g1
    exact absurd g1 z
theorem rn {φ : Int -> Int} : ∀ {n q : Nat},q < n -> φ (q : Int) = (aR φ q : Int) -> (bF φ n)[aR φ q]? = some q
 | 0,q,h,_ => absurd h (Nat.not_lt_zero _)
 | n + 1,q,h,e => by
  have l:=iJ φ n
  unfold bF at l ⊢
  rw [List.range_succ,List.filter_append]
  rcases Nat.lt_or_ge q n with z | z
  ·have ih:=rn z e
   unfold bF at ih
   rw [List.getElem?_append_left (gi_ ih).1]
   exact ih
  ·have : q = n:=by omega
   subst this
   rw [List.getElem?_append_right (by omega),l,Nat.sub_self,List.filter_cons_of_pos (by exact decide_eq_true e)]
   rfl
theorem vJ {φ : Int -> Int} {rows : LL} : ∀ {rs : LL} {q : Nat},rs = rows.drop q -> q <= rows.length -> cJ φ rows q rs = ((List.range' q (rows.length - q)).filter fun i : Nat => decide (φ (i : Int) = (aR φ i : Int))).map fun i => (rows.getD i []).map φ
 | [],q,e,hq => by
  have hl : rows.length <= q:=List.drop_eq_nil_iff.mp e.symm
  rw [show rows.length - q = 0 from by omega]
  rfl
 | r :: rs,q,e,hq => by
  have l1 : q < rows.length:=by
   rcases Nat.lt_or_ge q rows.length with z | z
   ·exact z
   ·rw [List.drop_eq_nil_of_le z] at e
    cases e
  rw [List.drop_eq_getElem_cons l1] at e
  injection e with er es
  have ih:=vJ (φ:=φ) es l1
  rw [show rows.length - q = (rows.length - (q + 1)) + 1 from by omega,List.range'_succ]
  show (if φ (q : Int) = (aR φ q : Int) then r.map φ :: cJ φ rows (q + 1) rs else cJ φ rows (q + 1) rs) = _
  by_cases c : φ (q : Int) = (aR φ q : Int)
  ·rw [if_pos c,ih,List.filter_cons_of_pos (by exact decide_eq_true c),List.map_cons,getD_at l1,er]
  ·rw [if_neg c,ih,List.filter_cons_of_neg (by rw [decide_eq_false c]; decide)]
theorem qc {φ : Int -> Int} {rows : LL} : cJ φ rows 0 rows = (bF φ rows.length).map fun i => (rows.getD i []).map φ:=by
 have h:=vJ (φ:=φ) (rows:=rows) (rs:=rows) (q:=0) rfl (Nat.zero_le _)
 rw [h]
 unfold bF
 rw [List.range_eq_range',Nat.sub_zero]
structure LeastOf (wide : Nat) (rows rows' : LL) (signs signs' : LI) : Prop where
 ok : RowsOk rows'.length wide rows'
 pos : 0 < rows'.length
 sgn : signs'.length = rows'.length
 ord : InOrder rows'
 apart : Apart wide rows' signs'
 tells : Tells wide rows rows' signs signs' 0 0
section
variable {φ : Int -> Int} {wide : Nat} {rows : LL} {signs : LI}
theorem Gx (F : FirstNum φ rows.length) (R : RowsOk rows.length wide rows) (cp : ∀ x y : Nat,x < rows.length -> y < rows.length -> φ (x : Int) = φ (y : Int) -> ∀ f : Nat,f < wide -> φ (stepI rows x f) = φ (stepI rows y f)) {q : Int} (hq : ar rows.length q) {f : Nat} (hf : f < wide) :
  stepI (cJ φ rows 0 rows) (φ q) f = φ (stepI rows q f):=by
 obtain ⟨n,rfl⟩:=gP hq.1
 have hn : n < rows.length:=by have:=hq.2; omega
 have lt:=F.lt hn (Nat.le_refl _)
 obtain ⟨x,hx,e1,e2⟩:=lF (F n hn).1 lt
 have at' := rn hx (e1.trans e2.symm)
 have lr : (rows[x]).length = wide:=R.row _ (List.getElem_mem hx)
 have e3 : (cJ φ rows 0 rows).getD (φ (n : Int)).toNat [] = (rows[x]).map φ:=by
  rw [qc,<- e2,Int.toNat_natCast,List.getD_eq_getElem?_getD,List.getElem?_map,at']
  show (rows.getD x []).map φ = _
  rw [getD_at hx]
 have e4 : stepI rows (x : Int) (f : Int) = (rows[x])[f]'(by omega):=by
  unfold stepI
  rw [Int.toNat_natCast,Int.toNat_natCast,getD_at hx,getD_at (by omega)]
 rw [<- cp x n hx hn e1 f hf,e4]
 unfold stepI
 rw [e3,Int.toNat_natCast,List.getD_eq_getElem?_getD,List.getElem?_map,List.getElem?_eq_getElem (by omega)]
 rfl
theorem AE (F : FirstNum φ rows.length) (R : RowsOk rows.length wide rows) (cp : ∀ x y : Nat,x < rows.length -> y < rows.length -> φ (x : Int) = φ (y : Int) -> ∀ f : Nat,f < wide -> φ (stepI rows x f) = φ (stepI rows y f)) : ∀ {v : LI} {q : Int},InF wide v -> ar rows.length q -> aM (cJ φ rows 0 rows) v (φ q) = φ (aM rows v q)
 | [],q,_,_ => rfl
 | f :: v,q,hv,hq => by
  have hf:=hv f List.mem_cons_self
  obtain ⟨m,rfl⟩:=gP hf.1
  show aM _ v (stepI _ (φ q) (m : Int)) = φ (aM rows v (stepI rows q (m : Int)))
  rw [Gx F R cp hq (by omega)]
  exact AE F R cp (fun g hg => hv g (List.mem_cons_of_mem _ hg)) (cn R hq.1 hq.2 hf.1 hf.2)
theorem Fz (F : FirstNum φ rows.length) (R : RowsOk rows.length wide rows) (O : InOrder rows) (n0 : 0 < rows.length) (al : ∀ x y : Nat,x < rows.length -> y < rows.length -> (φ (x : Int) = φ (y : Int) ↔ AllAg rows wide signs x y)) :
  LeastOf wide rows (cJ φ rows 0 rows) signs ((bF φ rows.length).map fun q => signs.getD q 0):=by
 have cp : ∀ x y : Nat,x < rows.length -> y < rows.length -> φ (x : Int) = φ (y : Int) -> ∀ f : Nat,f < wide -> φ (stepI rows x f) = φ (stepI rows y f):=fun x y hx hy e f hf => by
  have a:=((al x y hx hy).mp e).led hf
  have rx:=cn R (show (0 : Int) <= (x : Int) by omega) (by omega) (show (0 : Int) <= (f : Int) by omega) (by omega)
  have ry:=cn R (show (0 : Int) <= (y : Int) by omega) (by omega) (show (0 : Int) <= (f : Int) by omega) (by omega)
  have h:=(al (stepI rows x f).toNat (stepI rows y f).toNat (by omega) (by omega)).mpr (by rw [Int.toNat_of_nonneg rx.1,Int.toNat_of_nonneg ry.1]; exact a)
  rw [Int.toNat_of_nonneg rx.1,Int.toNat_of_nonneg ry.1] at h
  exact h
 have ll : (cJ φ rows 0 rows).length = aR φ rows.length:=by rw [qc,lm_,iJ]
 have p0 : φ ((0 : Nat) : Int) = ((0 : Nat) : Int):=by
  have h:=F 0 n0
  have e : aR φ 0 = 0:=rfl
  rw [e] at h
  omega
 have c1 : aR φ 1 = 1:=by
  show (if φ ((0 : Nat) : Int) = ((aR φ 0 : Nat) : Int) then aR φ 0 + 1 else aR φ 0) = 1
  rw [if_pos (by rw [p0]; rfl)]
  rfl
 have cpos : 0 < aR φ rows.length:=by
  have:=xV (φ:=φ) (show 1 <= rows.length from n0)
  omega
 have sg : ∀ {q : Int},ar rows.length q -> sgn ((bF φ rows.length).map fun q => signs.getD q 0) (φ q) = sgn signs q:=fun {q} hq => by
  obtain ⟨n,rfl⟩:=gP hq.1
  have hn : n < rows.length:=by have:=hq.2; omega
  obtain ⟨x,hx,e1,e2⟩:=lF (F n hn).1 (F.lt hn (Nat.le_refl _))
  have at' := rn hx (e1.trans e2.symm)
  have a:=((al x n hx hn).mp e1).sgn
  rw [<- a]
  unfold sgn
  rw [<- e2,Int.toNat_natCast,Int.toNat_natCast,List.getD_eq_getElem?_getD,List.getElem?_map,at']
  rfl
 have tl : ∀ {q : Int},ar rows.length q -> Tells wide rows (cJ φ rows 0 rows) signs ((bF φ rows.length).map fun q => signs.getD q 0) q (φ q):=fun {q} hq v hv => by
  rw [AE F R cp hv hq,sg (bV R hv hq.1 hq.2)]
 refine ⟨⟨rfl,fun r hr => ?_,fun r hr v hv => ?_⟩,by omega,by rw [lm_,iJ,ll],?_,fun a b ha hb hab => ?_,?_⟩
 ·rw [qc] at hr
  obtain ⟨x,hx,rfl⟩:=List.mem_map.mp hr
  have xl:=List.mem_range.mp (List.mem_filter.mp hx).1
  rw [lm_,getD_at xl]
  exact R.row _ (List.getElem_mem xl)
 ·rw [qc] at hr
  obtain ⟨x,hx,rfl⟩:=List.mem_map.mp hr
  have xl:=List.mem_range.mp (List.mem_filter.mp hx).1
  obtain ⟨t,ht,rfl⟩:=List.mem_map.mp hv
  rw [getD_at xl] at ht
  have rt:=R.val _ (List.getElem_mem xl) t ht
  obtain ⟨n,rfl⟩:=gP rt.1
  have hn : n < rows.length:=by omega
  have h1:=(F n hn).1
  have h2:=F.lt hn (Nat.le_refl _)
  rw [ll]
  exact ⟨h1,h2⟩
 ·have h:=vK F R cp (rs:=rows) (q:=0) (m:=1) (k:=rows.length) rfl (Nat.zero_le _) n0 (fun x hx => absurd hx (Nat.not_lt_zero _)) O
  rw [c1] at h
  show bJ 0 1 _ = some _
  rw [ll]
  exact h
 ·rw [ll] at ha hb
  obtain ⟨x,hx,e1,_⟩:=lF ha.1 ha.2
  obtain ⟨y,hy,e2,_⟩:=lF hb.1 hb.2
  rw [<- e1,<- e2]
  refine (al x y hx hy).mpr fun n v hv hl => ?_
  rw [tl (q:=(x : Int)) ⟨by omega,by omega⟩ v hv,tl (q:=(y : Int)) ⟨by omega,by omega⟩ v hv,e1,e2]
  exact hab n v hv hl
 ·have h:=tl (q:=0) ⟨by omega,by omega⟩
  have z : φ 0 = 0:=p0
  rw [z] at h
  exact h
end
theorem mh : ∀ (r s : LI),∃ zs,r.foldl cD s = s ++ zs
 | [],s => ⟨[],by simp⟩
 | t :: r,s => by
  by_cases c : t ∈ s
  ·obtain ⟨zs,e⟩:=mh r s
   exact ⟨zs,by rw [List.foldl_cons,show cD s t = s from if_pos c,e]⟩
  ·obtain ⟨zs,e⟩:=mh r (s ++ [t])
   exact ⟨t :: zs,by rw [List.foldl_cons,show cD s t = s ++ [t] from if_neg c,e,List.append_assoc]; rfl⟩
theorem pL (rows : LL) : ∀ (qs s : LI),∃ zs,qs.foldl (dk rows) s = s ++ zs
 | [],s => ⟨[],by simp⟩
 | q :: qs,s => by
  obtain ⟨z1,e1⟩:=mh (rows.getD q.toNat []) s
  obtain ⟨z2,e2⟩:=pL rows qs (dk rows s q)
  refine ⟨z1 ++ z2,?_⟩
  rw [List.foldl_cons,e2]
  show (rows.getD q.toNat []).foldl cD s ++ z2 = _
  rw [e1,List.append_assoc]
def rho (qs : LI) (q : Int) : Int:=((qs.idxOf q : Nat) : Int)
theorem ym {qs : LI} : ∀ {r s zs : LI},qs = r.foldl cD s ++ zs -> ba s.length (r.map (rho qs)) = some (r.foldl cD s).length
 | [],s,zs,_ => rfl
 | t :: r,s,zs,e => by
  have e' : qs = r.foldl cD (cD s t) ++ zs:=e
  obtain ⟨ys,ey⟩:=mh r (cD s t)
  have ih:=ym e'
  show (if rho qs t = (s.length : Int) then ba (s.length + 1) (r.map (rho qs)) else if rho qs t < (s.length : Int) then ba s.length (r.map (rho qs)) else none) = some (r.foldl cD (cD s t)).length
  by_cases c : t ∈ s
  ·have ep : cD s t = s:=if_pos c
   rw [ep] at ih e' ey ⊢
   have ei : qs.idxOf t = s.idxOf t:=by rw [e',ey,List.append_assoc,List.idxOf_append,if_pos c]
   have lt:=List.idxOf_lt_length_of_mem c
   have er : rho qs t = ((s.idxOf t : Nat) : Int):=by unfold rho; rw [ei]
   rw [if_neg (by omega),if_pos (by omega)]
   exact ih
  ·have ep : cD s t = s ++ [t]:=if_neg c
   rw [ep] at ih e' ey ⊢
   have ei : qs.idxOf t = s.length:=by
    rw [e',ey,List.append_assoc,List.append_assoc,List.idxOf_append,if_neg c]
    simp
   have er : rho qs t = (s.length : Int):=by unfold rho; rw [ei]
   rw [if_pos er]
   rw [List.length_append,List.length_singleton] at ih
   exact ih
section
variable {many wide : Nat} {rows : LL} {qs : LI}
theorem vS (R : RowsOk many wide rows) (n0 : 0 < many) (eq : qs = qs.foldl (dk rows) [0]) (nd : qs.Nodup) (re : ∀ q ∈ qs,∃ row,InF wide row /\ aM rows row 0 = q) :
  ∀ {ps : LI} {k : Nat},ps = qs.drop k -> k <= qs.length -> bJ k ((qs.take k).foldl (dk rows) [0]).length (ps.map fun q => (rows.getD q.toNat []).map (rho qs)) = some qs.length
 | [],k,e,hk => by
  have hl : qs.length <= k:=List.drop_eq_nil_iff.mp e.symm
  show some _ = some _
  rw [List.take_of_length_le hl,<- eq]
 | p :: ps,k,e,hk => by
  have l1 : k < qs.length:=by
   rcases Nat.lt_or_ge k qs.length with z | z
   ·exact z
   ·rw [List.drop_eq_nil_of_le z] at e
    cases e
  have e0:=e
  rw [List.drop_eq_getElem_cons l1] at e
  injection e with ep es
  obtain ⟨s,hs⟩ : ∃ s,(qs.take k).foldl (dk rows) [0] = s:=⟨_,rfl⟩
  have all : qs = (p :: ps).foldl (dk rows) s:=by
   rw [<- hs,<- List.foldl_append,e0,List.take_append_drop]
   exact eq
  obtain ⟨zs,ez⟩:=pL rows (p :: ps) s
  rw [<- all] at ez
  have ks : k < s.length:=by
   rcases Nat.lt_or_ge k s.length with z | z
   ·exact z
   ·have sub : ∀ q ∈ s,q ∈ qs.take k:=fun q hq => by
     have : s = qs.take s.length:=by
      have h : (s ++ zs).take s.length = s:=List.take_left' rfl
      rw [<- ez] at h
      exact h.symm
     rw [this] at hq
     exact (List.take_prefix_take_left z).subset hq
    have cl : ∀ q ∈ s,∀ f : Int,0 <= f -> f < (wide : Int) -> ar many q -> stepI rows q f ∈ s:=fun q hq f f0 f1 hr => by
     rw [<- hs]
     refine jt rows (qs.take k) (sub q hq) ?_
     have lq : q.toNat < rows.length:=by have:=R.len; have:=hr.1; have:=hr.2; omega
     have lf : f.toNat < rows[q.toNat].length:=by rw [R.row _ (List.getElem_mem lq)]; omega
     unfold stepI
     rw [getD_at lq,getD_at lf]
     exact List.getElem_mem lf
    have z0 : (0 : Int) ∈ s:=by rw [<- hs]; exact l5 rows _ List.mem_cons_self
    have wk : ∀ (row : LI) (q : Int),InF wide row -> ar many q -> q ∈ s -> aM rows row q ∈ s:=fun row => by
     induction row with
     | nil => intro q _ _ h; exact h
     | cons f row ih =>
      intro q hf hr h
      have h0:=hf f List.mem_cons_self
      exact ih _ (fun g hg => hf g (List.mem_cons_of_mem _ hg)) (cn R hr.1 hr.2 h0.1 h0.2) (cl q h f h0.1 h0.2 hr)
    have lq : qs[k] ∈ s:=by
     obtain ⟨row,hf,ew⟩:=re qs[k] (List.getElem_mem l1)
     rw [<- ew]
     exact wk row 0 hf ⟨by omega,by omega⟩ z0
    have ht:=sub _ lq
    obtain ⟨i,hi,ei⟩:=List.getElem_of_mem ht
    rw [List.length_take] at hi
    rw [List.getElem_take] at ei
    have:=(List.getElem_inj nd).mp ei
    omega
  show (if k < ((qs.take k).foldl (dk rows) [0]).length then (ba ((qs.take k).foldl (dk rows) [0]).length ((rows.getD p.toNat []).map (rho qs))).bind fun m' => bJ (k + 1) m' (ps.map fun q => (rows.getD q.toNat []).map (rho qs)) else none) = _
  rw [hs,if_pos ks]
  obtain ⟨ys,ey⟩:=pL rows ps (dk rows s p)
  have all2 : qs = (rows.getD p.toNat []).foldl cD s ++ ys:=by
   rw [all]
   exact ey
  rw [ym all2]
  have ih:=vS R n0 eq nd re es l1
  have et : (qs.take (k + 1)).foldl (dk rows) [0] = dk rows s p:=by
   rw [List.take_add_one,List.getElem?_eq_getElem l1,List.foldl_append,hs,<- ep]
   rfl
  rw [et] at ih
  exact ih
theorem CF (R : RowsOk many wide rows) (inr : ∀ q ∈ qs,ar many q) {q : Int} (hq : q ∈ qs) {f : Nat} (hf : f < wide) : stepI (qs.map fun q => (rows.getD q.toNat []).map (rho qs)) (rho qs q) f = rho qs (stepI rows q f):=by
 have li:=List.idxOf_lt_length_of_mem hq
 have hr:=inr q hq
 have lq : q.toNat < rows.length:=by have:=R.len; have:=hr.1; have:=hr.2; omega
 have lf : f < rows[q.toNat].length:=by rw [R.row _ (List.getElem_mem lq)]; exact hf
 have ei : qs[qs.idxOf q]? = some q:=by rw [List.getElem?_eq_getElem li,List.getElem_idxOf li]
 have e3 : (qs.map fun q => (rows.getD q.toNat []).map (rho qs)).getD (rho qs q).toNat [] = (rows[q.toNat]).map (rho qs):=by
  unfold rho
  rw [Int.toNat_natCast,List.getD_eq_getElem?_getD,List.getElem?_map,ei]
  show (rows.getD q.toNat []).map _ = _
  rw [getD_at lq]
 unfold stepI
 rw [e3,Int.toNat_natCast,getD_at lq,getD_at lf,List.getD_eq_getElem?_getD,List.getElem?_map,List.getElem?_eq_getElem lf]
 rfl
theorem GH (R : RowsOk many wide rows) (eq : qs = qs.foldl (dk rows) [0]) (inr : ∀ q ∈ qs,ar many q) {q f : Int} (hq : q ∈ qs) (f0 : 0 <= f) (f1 : f < (wide : Int)) : stepI rows q f ∈ qs:=by
 rw [eq]
 refine jt rows qs hq ?_
 have hr:=inr q hq
 have lq : q.toNat < rows.length:=by have:=R.len; have:=hr.1; have:=hr.2; omega
 have lf : f.toNat < rows[q.toNat].length:=by rw [R.row _ (List.getElem_mem lq)]; omega
 unfold stepI
 rw [getD_at lq,getD_at lf]
 exact List.getElem_mem lf
theorem vT (R : RowsOk many wide rows) (eq : qs = qs.foldl (dk rows) [0]) (inr : ∀ q ∈ qs,ar many q) : ∀ {v : LI} {q : Int},InF wide v -> q ∈ qs -> aM (qs.map fun q => (rows.getD q.toNat []).map (rho qs)) v (rho qs q) = rho qs (aM rows v q) /\ aM rows v q ∈ qs
 | [],q,_,hq => ⟨rfl,hq⟩
 | f :: v,q,hv,hq => by
  have hf:=hv f List.mem_cons_self
  obtain ⟨m,rfl⟩:=gP hf.1
  have hs:=GH R eq inr hq hf.1 hf.2
  have ih:=vT R eq inr (fun g hg => hv g (List.mem_cons_of_mem _ hg)) hs
  have st:=CF R inr hq (f:=m) (by omega)
  show aM _ v (stepI _ (rho qs q) (m : Int)) = rho qs (aM rows v (stepI rows q (m : Int))) /\ aM rows v (stepI rows q (m : Int)) ∈ qs
  rw [st]
  exact ih
theorem AU {signs : LI} (R : RowsOk many wide rows) (n0 : 0 < many) (eq : qs = qs.foldl (dk rows) [0]) (nd : qs.Nodup) (inr : ∀ q ∈ qs,ar many q) (re : ∀ q ∈ qs,∃ row,InF wide row /\ aM rows row 0 = q) :
  RowsOk qs.length wide (qs.map fun q => (rows.getD q.toNat []).map (rho qs)) /\ InOrder (qs.map fun q => (rows.getD q.toNat []).map (rho qs)) /\ 0 < qs.length /\ Tells wide rows (qs.map fun q => (rows.getD q.toNat []).map (rho qs)) signs (qs.map fun q => signs.getD q.toNat 0) 0 0:=by
 obtain ⟨zs,ez⟩:=pL rows qs [0]
 rw [<- eq] at ez
 have z0 : (0 : Int) ∈ qs:=by rw [ez]; exact List.mem_cons_self
 have r0 : rho qs 0 = 0:=by
  unfold rho
  rw [ez]
  simp
 refine ⟨⟨List.length_map _,fun r hr => ?_,fun r hr v hv => ?_⟩,?_,List.length_pos_of_mem z0,fun v hv => ?_⟩
 ·obtain ⟨q,hq,rfl⟩:=List.mem_map.mp hr
  have h:=inr q hq
  have lq : q.toNat < rows.length:=by have:=R.len; have:=h.1; have:=h.2; omega
  rw [lm_,getD_at lq]
  exact R.row _ (List.getElem_mem lq)
 ·obtain ⟨q,hq,rfl⟩:=List.mem_map.mp hr
  have h:=inr q hq
  have lq : q.toNat < rows.length:=by have:=R.len; have:=h.1; have:=h.2; omega
  obtain ⟨t,ht,rfl⟩:=List.mem_map.mp hv
  have tm : t ∈ qs:=by rw [eq]; exact jt rows qs hq ht
  have:=List.idxOf_lt_length_of_mem tm
  unfold rho
  omega
 ·have h:=vS R n0 eq nd re (ps:=qs) (k:=0) rfl (Nat.zero_le _)
  show bJ 0 1 _ = some _
  rw [lm_]
  exact h
 ·have h:=vT R eq inr hv z0
  rw [r0] at h
  rw [h.1]
  obtain ⟨w,ew⟩ : ∃ w,aM rows v 0 = w:=⟨_,rfl⟩
  have hw:=h.2
  rw [ew] at hw ⊢
  have li:=List.idxOf_lt_length_of_mem hw
  unfold sgn rho
  rw [Int.toNat_natCast,List.getD_eq_getElem?_getD (l:=qs.map _),List.getElem?_map,List.getElem?_eq_getElem li,List.getElem_idxOf li]
  rfl
end
theorem Tells.trans {wide : Nat} {r1 r2 r3 : LL} {s1 s2 s3 : LI} {a b c : Int} (h : Tells wide r1 r2 s1 s2 a b) (h' : Tells wide r2 r3 s2 s3 b c) : Tells wide r1 r3 s1 s3 a c:=fun v hv => (h v hv).trans (h' v hv)
theorem Tells.symm {wide : Nat} {r1 r2 : LL} {s1 s2 : LI} {a b : Int} (h : Tells wide r1 r2 s1 s2 a b) : Tells wide r2 r1 s2 s1 b a:=fun v hv => (h v hv).symm
theorem LeastOf.of {wide : Nat} {rows rs rows' : LL} {signs ss signs' : LI} (h : LeastOf wide rs rows' ss signs') (t : Tells wide rows rs signs ss 0 0) : LeastOf wide rows rows' signs signs' :=
 ⟨h.ok,h.pos,h.sgn,h.ord,h.apart,t.trans h.tells⟩
theorem LeastOf.one {wide : Nat} {r1 r2 a b : LL} {s1 s2 sa sb : LI} (h1 : LeastOf wide r1 a s1 sa) (h2 : LeastOf wide r2 b s2 sb) (t : Tells wide r1 r2 s1 s2 0 0) : a = b /\ sa = sb:=
 Bi h1.apart h2.apart h1.ok h2.ok h1.pos h2.pos h1.ord h2.ord h1.sgn h2.sgn ((h1.tells.symm.trans t).trans h2.tells)
theorem LeastOf.self {wide : Nat} {rows : LL} {signs : LI} (R : RowsOk rows.length wide rows) (n0 : 0 < rows.length) (ls : signs.length = rows.length) (O : InOrder rows) (A : Apart wide rows signs) : LeastOf wide rows rows signs signs:=
 ⟨R,n0,ls,O,A,fun _ _ => rfl⟩
theorem z9 {many wide : Nat} {rows : LL} {signs qs gs : LI} (R : RowsOk many wide rows) (n0 : 0 < many) (eq : qs = qs.foldl (dk rows) [0]) (nd : qs.Nodup) (inr : ∀ q ∈ qs,ar many q) (re : ∀ q ∈ qs,∃ row,InF wide row /\ aM rows row 0 = q) (lg : gs.length = qs.length)
  (hg : ∀ x y : Nat,x < qs.length -> y < qs.length -> (gs.getD x 0 = gs.getD y 0 ↔ AllAg (qs.map fun q => (rows.getD q.toNat []).map (rho qs)) wide (qs.map fun q => signs.getD q.toNat 0) x y)) :
  LeastOf wide rows (cJ (phi gs) (qs.map fun q => (rows.getD q.toNat []).map (rho qs)) 0 (qs.map fun q => (rows.getD q.toNat []).map (rho qs))) signs ((bF (phi gs) qs.length).map fun q => (qs.map fun q => signs.getD q.toNat 0).getD q 0):=by
 obtain ⟨R1,O1,p1,t1⟩:=AU (signs:=signs) R n0 eq nd inr re
 have el : (qs.map fun q => (rows.getD q.toNat []).map (rho qs)).length = qs.length:=List.length_map _
 have F:=DW gs
 have h:=Fz (φ:=phi gs) (wide:=wide) (rows:=qs.map fun q => (rows.getD q.toNat []).map (rho qs)) (signs:=qs.map fun q => signs.getD q.toNat 0) (by rw [el,<- lg]; exact F) (by rw [el]; exact R1) O1 (by rw [el]; exact p1) (fun x y hx hy => by
  rw [el] at hx hy
  rw [Gb ⟨by omega,by omega⟩ ⟨by omega,by omega⟩,Int.toNat_natCast,Int.toNat_natCast]
  exact hg x y hx hy)
 rw [el] at h
 exact h.of t1
def kvN (xs : LI) (k : Nat) : List (Key × V):=(xs.zipIdx k).map fun p => (Sum.inl p.1,V.int (p.2 : Int))
theorem kA (xs : LI) (k : Nat) : (kvN xs k).length = xs.length:=by
 unfold kvN
 rw [lm_,List.length_zipIdx]
theorem me : ∀ (xs : LI) (k : Nat) (g : Int),ff (kvN xs k) (Sum.inl g) = if g ∈ xs then some (.int ((k + xs.idxOf g : Nat) : Int)) else none
 | [],k,g => by rw [if_neg (by simp)]; rfl
 | x :: xs,k,g => by
  have ih:=me xs (k + 1) g
  have e0 : kvN (x :: xs) k = (Sum.inl x,V.int (k : Int)) :: kvN xs (k + 1):=rfl
  by_cases e : x = g
  ·subst e
   rw [e0,jI rfl,if_pos List.mem_cons_self,List.idxOf_cons]
   simp
  ·rw [e0,iQ (fun z => e (Sum.inl.inj z)),ih]
   have m : g ∈ x :: xs ↔ g ∈ xs:=by simp [Ne.symm e]
   by_cases c : g ∈ xs
   ·have i : (x :: xs).idxOf g = xs.idxOf g + 1:=by rw [List.idxOf_cons,show (x == g) = false from beq_false_of_ne e]; rfl
    rw [if_pos c,if_pos (m.mpr c),i]
    congr 3
    omega
   ·rw [if_neg c,if_neg fun z => c (m.mp z)]
theorem yM {xs : LI} {g : Int} (h : g ∉ xs) : putK (kvN xs 0) (Sum.inl g) (V.int (xs.length : Int)) = kvN (xs ++ [g]) 0:=by
 unfold putK
 rw [if_neg (by
  intro z
  obtain ⟨p,hp,e⟩:=List.any_eq_true.mp z
  obtain ⟨k,hk,rfl⟩:=List.mem_map.mp hp
  have e' := Sum.inl.inj (of_decide_eq_true e)
  have m : k.1 ∈ xs:=by
   obtain ⟨i,hi,ei⟩:=List.getElem_of_mem hk
   rw [List.getElem_zipIdx] at ei
   rw [<- ei]
   exact List.getElem_mem _
  exact h (e' ▸ m))]
 unfold kvN
 rw [List.zipIdx_append,List.map_append,Nat.zero_add]
 rfl
theorem oB : ∀ (gs s : LI),s.Nodup -> (gs.foldl dd s).Nodup
 | [],s,h => h
 | g :: gs,s,h => by
  rw [List.foldl_cons]
  by_cases c : g ∈ s
  ·rw [js c]; exact oB gs s h
  ·rw [fI c]; exact oB gs _ (pW h c)
theorem Hv (gs : LI) : (bj gs).Nodup:=oB gs [] List.nodup_nil
theorem dW : ∀ (gs s : LI),(gs.foldl dd s).length <= s.length + gs.length
 | [],s => Nat.le_refl _
 | g :: gs,s => by
  rw [List.foldl_cons]
  by_cases c : g ∈ s
  ·rw [js c]
   have:=dW gs s
   rw [List.length_cons]
   omega
  ·rw [fI c]
   have:=dW gs (s ++ [g])
   rw [List.length_append,List.length_singleton] at this
   rw [List.length_cons]
   omega
theorem p6 (gs : LI) : (bj gs).length <= gs.length:=by
 have:=dW gs []
 rw [List.length_nil,Nat.zero_add] at this
 exact this
def dv (gs : LI) : LI:=(List.range gs.length).map fun i : Nat => phi gs i
theorem p7 {gs : LI} {q : Int} (h0 : 0 <= q) (h1 : q < (gs.length : Int)) : a8 (dv gs) q = phi gs q:=by
 unfold a8 dv
 have l : q.toNat < gs.length:=by omega
 rw [getD_at (by rw [lm_,List.length_range]; exact l),List.getElem_map,List.getElem_range,Int.toNat_of_nonneg h0]
theorem Gd {gs : LI} {q : Int} (h0 : 0 <= q) (h1 : q < (gs.length : Int)) : 0 <= phi gs q /\ phi gs q < ((bj gs).length : Int):=by
 have l : q.toNat < gs.length:=by omega
 have m : gs.getD q.toNat 0 ∈ bj gs:=by rw [getD_at l]; exact once_mem.mpr (List.getElem_mem l)
 have:=List.idxOf_lt_length_of_mem m
 unfold phi
 omega
theorem Ge {gs : LI} {j : Nat} (h : j < (bj gs).length) : ∃ q : Int,ar gs.length q /\ phi gs q = (j : Int):=by
 have m : (bj gs)[j] ∈ gs:=once_mem.mp (List.getElem_mem h)
 obtain ⟨i,hi,e⟩:=List.getElem_of_mem m
 refine ⟨(i : Int),⟨by omega,by omega⟩,?_⟩
 unfold phi
 rw [Int.toNat_natCast,getD_at hi,e]
 have l:=List.idxOf_lt_length_of_mem (List.getElem_mem h)
 have q:=(List.getElem_inj (Hv gs)).mp (List.getElem_idxOf l)
 rw [q]
theorem Dy (col : LI) (q : Int) : (cx col q).Nodup:=by
 unfold cx
 refine List.pairwise_map.mpr ((List.nodup_range.filter _).imp fun {a b} n z => n ?_)
 have z' : (a : Int) = (b : Int):=z
 omega
def v9 (C : Addr) : Sp:=fun vs H Q _ => ∃ (x dx g : Addr) (signs : LI),vs = [.ref x,.ref g] /\ H x = some (.ins C dx []) /\ H g = some (.tup (signs.map V.int)) /\ signs.length < 1000 /\
 ∀ (H' : Hp) (go ms wt iw : Addr) (ds : List Addr),(∀ b u,b ≠ x -> H b = some u -> H' b = some u) -> H go = none -> H ms = none -> H wt = none -> H iw = none -> (∀ d ∈ ds,H d = none) -> PtS H' C x go ms wt iw signs.length (dv signs) ds ((List.range ds.length).map fun i : Nat => (i : Int)) -> Q .non H'
section
variable {P : Program} {w : World} {K : PySem.W.Frag} {mg : Str -> Option Value} {base : Heap} {f : Addr} {fd : FuncData} {dV : Value} {C : Addr}
theorem sc_Parted___init__ : FnScope ["self","signs","numbers","group_of","members","here","group"] ["self","signs"] (ah bh):=⟨rfl,rfl,rfl,by decide +kernel,rfl,by decide +kernel,by decide +kernel⟩
theorem bk_Parted___init___0 : BlkScope ["self","signs","numbers","group_of","members","here","group"] (ah bh) ["sign","numbers"] [none,some 2] { kind:=ScopeKind.function,names:=[(".0",NameKind.local),("sign",NameKind.local),("len",NameKind.globalImplicit),("numbers",NameKind.free)],isGenerator:=false,isCoroutine:=false,more:=[] }:=⟨rfl,by decide +kernel,by decide +kernel,by decide +kernel,by decide +kernel,rfl,by decide +kernel⟩
theorem bk_Parted___init___1 : BlkScope ["self","signs","numbers","group_of","members","here","group"] (ah bh) ["sign"] [none] { kind:=ScopeKind.function,names:=[(".0",NameKind.local),("sign",NameKind.local)],isGenerator:=false,isCoroutine:=false,more:=[] }:=⟨rfl,by decide +kernel,by decide +kernel,by decide +kernel,by decide +kernel,rfl,by decide +kernel⟩
theorem bk_Parted___init___2 : BlkScope ["self","signs","numbers","group_of","members","here","group"] (ah bh) ["group"] [none] { kind:=ScopeKind.function,names:=[(".0",NameKind.local),("group",NameKind.local)],isGenerator:=false,isCoroutine:=false,more:=[] }:=⟨rfl,by decide +kernel,by decide +kernel,by decide +kernel,by decide +kernel,rfl,by decide +kernel⟩
theorem Ca (F : FunD K "__init__" "Parted.__init__" bh dV f fd) (pc : PCls K C) (aU : mg "len" = none) (gR : mg "list" = none) (aH : mg "range" = none) (gQ : mg "dict" = none) (bZ : mg "enumerate" = none) : FnOk P w K mg base CX0 1 f fd ["self","signs"] (v9 C):=by
 refine F.ok sc_Parted___init__ (fun vs H Q E h => ?_) (fun cdv A outer s H vs Q E hr h => ?_)
 ·obtain ⟨x,dx,g,signs,rfl,_⟩:=h
  rfl
 obtain ⟨x,dx,g,signs,rfl,hx,hg,ln,k⟩:=h
 have hu:=lI hr
 refine ⟨_,(ag (au (i:=2) sc_Parted___init__.nd rfl (Or.inr rfl) lO)
   (ag (fQ (i:=3) rfl sc_Parted___init__.nd rfl (Or.inl rfl) bk_Parted___init___0 (kM (pv 1)) (fun _ _ _ _ => (ax (i:=0) bk_Parted___init___0.nd rfl (Or.inl rfl))) (fun _ _ _ _ => (yY (pv 1) (pv 0) (aA lZ (by rfl) aU bG (aa (pv 1) ae)) ⟨rfl,rfl,rfl,rfl⟩)))
   (ag (fQ (i:=4) rfl sc_Parted___init__.nd rfl (Or.inl rfl) bk_Parted___init___1 (HB (pv 2)) (fun _ _ _ _ => (ax (i:=0) bk_Parted___init___1.nd rfl (Or.inl rfl))) (fun _ _ _ _ => lO))
   (ag (bu PassesOwn.never rfl (vF rfl bZ (aa (pv 3) ae)) (oE rfl (bE (ax (i:=5) sc_Parted___init__.nd rfl (Or.inl rfl)) (bE (ax (i:=6) sc_Parted___init__.nd rfl (Or.inl rfl)) iY))) (ao (uv hu (aL eN (pv 4) (pv 6) (fun _ _ => rfl)) (pv 5) cC rfl)))
   (ag (y3 (pv 0) (pv 3) rfl)
   (ag (y3 (pv 0) (pv 4) rfl)
   (ag (y3 (pv 0) (Cm rfl rfl gR rfl aH (aa (aA aD (by rfl) aU bG (aa (pv 4) ae)) ae)) rfl)
   (ao (y3 (pv 0) (a9 (k9 rfl) (by rfl) gQ ug (aa (dG rfl bk_Parted___init___2 (bA rfl aH (aa (aA aD (by rfl) aU bG (aa (pv 4) ae)) ae)) (fun _ _ _ _ => (ax (i:=0) bk_Parted___init___2.nd rfl (Or.inl rfl))) (fun _ _ _ _ => (iM (aa (pv 0) (aa cC ae))))) ae)) rfl))))))))),?_⟩
 refine fun Nd hNd => ?_
 have s0:=aq hNd (HO.dK [])
 have pl : (dv signs).length = signs.length:=by unfold dv; rw [lm_,List.length_range]
 try dsimp only [bB,dm]
 refine dR (t:=ue _ _) (fun σ' H' => ∃ go : Addr,σ' = [some (.ref x),some (.ref g),some (.ref Nd),some (.ref go),none,none,none] /\ Same H H' /\ H go = none /\ H' go = some (.lst ((dv signs).map V.int)) /\ H' Nd = some (.dK (kvN (bj signs) 0))) ?_ (fun D' nxt => ?_)
 rotate_left
 ·refine ⟨_,rfl,g,rfl,⟨_,qT_ (s0 _ _ hg)⟩,?_⟩
  refine pC (K:=K) (xs:=signs.map V.int) (fun D i ys H' => Same H H' /\ H' Nd = some (.dK (kvN (bj (signs.take i)) 0)) /\ ys = ((List.range i).map fun j : Nat => phi signs j).map V.int) (fun D hD => ⟨aw s0 (s0.free hD),by rw [aj (av af hD),af]; rfl,rfl⟩) (fun D i ys H' _ ⟨e,_⟩ => qT_ (e _ _ hg)) ?_ ?_
  ·rintro D i y ys H2 Q' hD hi hy ⟨s2,hN2,rfl⟩ k'
   obtain ⟨sg,rfl,hs⟩:=bw hi
   have il:=(gi_ hs).1
   have ol:=p6 (signs.take i)
   rw [List.length_take] at ol
   have nND : Nd ≠ D:=aJ hN2 hy (by intro z; cases z)
   have fD : H D = none:=s0.free hD
   refine ⟨_,rfl,Nd,rfl,.inl ⟨_,.inl hN2⟩,_,rfl,_,rfl,Nd,_,rfl,hN2,_,Sum.inl sg,hN2,rfl,aB (by rw [kA]; omega),fun v hv => ?_,fun hn => ?_⟩
   ·rw [me] at hv
    by_cases c : sg ∈ bj (signs.take i)
    ·rw [if_pos c,Nat.zero_add] at hv
     have ev:=(Option.some.inj hv).symm
     subst ev
     refine k' _ _ hy (aB (by rw [lm_,lm_,List.length_range]; omega)) ⟨aw s2 fD,by rw [aj nND,hN2,hX hs,js c],?_⟩
     rw [List.range_succ,List.map_append,List.map_append,<- uu hs c]
     rfl
    ·rw [if_neg c] at hv
     cases hv
   ·rw [me] at hn
    by_cases c : sg ∈ bj (signs.take i)
    ·rw [if_pos c] at hn
     cases hn
    ·rw [kA]
     refine k' _ _ (by rw [aj (Ne.symm nND)]; exact hy) (aB (by rw [lm_,lm_,List.length_range]; omega)) ⟨aw (aw s2 hNd) fD,by rw [aj nND,af,yM c,hX hs,fI c],?_⟩
     rw [List.range_succ,List.map_append,List.map_append,<- ur hs c]
     rfl
  ·rintro D ys H2 hD hy ⟨s2,hN2,rfl⟩
   rw [lm_,List.take_length] at hN2
   rw [lm_] at hy
   exact nxt _ _ ⟨D,rfl,s2,s0.free hD,hy,hN2⟩
 rintro σ' H1 ⟨go,rfl,s1,fgo,hgo1,hN1⟩
 have ol:=p6 signs
 refine dR (t:=ue _ _) (fun σ' H' => ∃ (ms : Addr) (as : List Addr),σ' = [some (.ref x),some (.ref g),some (.ref Nd),some (.ref go),some (.ref ms),none,none] /\ Same H H' /\ H' go = some (.lst ((dv signs).map V.int)) /\ H ms = none /\ H' ms = some (.lst (as.map V.ref)) /\ as.length = (bj signs).length /\ as.Nodup /\ ms ≠ go /\ (∀ a ∈ as,H a = none /\ H' a = some (.dK []))) ?_ (fun D' nxt => ?_)
 rotate_left
 ·refine ⟨_,rfl,Nd,_,rfl,.inl ⟨hN1,fun o => ?_⟩⟩
  obtain ⟨H2,eH2⟩ : ∃ H2,upd H1 Nd (.frz o (.dK (kvN (bj signs) 0))) = H2:=⟨_,rfl⟩
  have s2 : Same H H2:=by rw [<- eH2]; exact aw s1 hNd
  have hN2 : H2 Nd = some (.frz o (.dK (kvN (bj signs) 0))):=by rw [<- eH2,af]
  have hgo2 : H2 go = some (.lst ((dv signs).map V.int)):=by rw [<- eH2,aj (aJ hgo1 hN1 (by intro z; cases z))]; exact hgo1
  rw [eH2]
  refine DK (o:=o) (kvs:=kvN (bj signs) 0) (fun D i ys H' => Same H2 H' /\ ∃ as : List Addr,ys = as.map V.ref /\ as.length = i /\ as.Nodup /\ (∀ a ∈ as,H2 a = none /\ H' a = some (.dK []))) (fun D hD => ⟨aq hD _,[],rfl,rfl,List.nodup_nil,fun a h => by cases h⟩) (fun D i ys H' _ ⟨e,_⟩ => e _ _ hN2) ?_ ?_
  ·rintro D i p ys H3 Q' hD hi hy ⟨s3,as,rfl,la,nd,ha⟩ k'
   have il:=(gi_ hi).1
   rw [kA] at il
   refine fun d hd => ?_
   have nDd : D ≠ d:=av hy hd
   have nda : d ∉ as:=fun z => by rw [(ha d z).2] at hd; cases hd
   refine k' _ _ (by rw [aj nDd]; exact hy) (aB (by rw [lm_]; omega)) ⟨aw (aw s3 (s3.free hd)) hD,as ++ [d],by rw [List.map_append]; rfl,by rw [List.length_append,List.length_singleton,la],?_,fun a h => ?_⟩
   ·exact List.nodup_append.mpr ⟨nd,by simp,fun a ha b hb e => nda (by rw [<- List.mem_singleton.mp hb,<- e]; exact ha)⟩
   ·rcases ma_.mp h with z | z
    ·obtain ⟨h1,h2⟩:=ha a z
     exact ⟨h1,by rw [aj (aJ h2 hy (by intro z; cases z)),aj (fun y : a = d => nda (y ▸ z))]; exact h2⟩
    ·rw [List.mem_singleton.mp z]
     exact ⟨s3.free hd,by rw [aj (Ne.symm nDd),af]⟩
  ·rintro D ys H3 hD hy ⟨s3,as,rfl,la,nd,ha⟩
   rw [kA] at la
   exact nxt _ _ ⟨D,as,rfl,s2.trans s3,s3 _ _ hgo2,s2.free hD,hy,la,nd,Ne.symm (av hgo2 hD),fun a h => ⟨s2.free (ha a h).1,(ha a h).2⟩⟩
 rintro σ' H2 ⟨ms,as,rfl,s2,hgo2,fms,hms2,la,nda,nmg,ha2⟩
 refine dR (t:=oX _ _ _) (fun σ' H' => ∃ (v1 v2 : OV),σ' = [some (.ref x),some (.ref g),some (.ref Nd),some (.ref go),some (.ref ms),v1,v2] /\ Same H H' /\ H' go = some (.lst ((dv signs).map V.int)) /\ H' ms = some (.lst (as.map V.ref)) /\ ∀ (j : Nat) (a : Addr),as[j]? = some a -> H' a = some (.dK (kvT (cx (dv signs) (j : Int))))) ?_ (fun D' nxt => ?_)
 rotate_left
 ·refine ⟨_,rfl,go,rfl,⟨_,qL_ hgo2⟩,xY (K:=K) (xs:=(dv signs).map V.int) (fun i σ' H' => ∃ (v1 v2 : OV),σ' = [some (.ref x),some (.ref g),some (.ref Nd),some (.ref go),some (.ref ms),v1,v2] /\ Same H H' /\ H' go = some (.lst ((dv signs).map V.int)) /\ H' ms = some (.lst (as.map V.ref)) /\ ∀ (j : Nat) (a : Addr),as[j]? = some a -> H' a = some (.dK (kvT (cx ((dv signs).take i) (j : Int)))))
   ⟨none,none,rfl,s2,hgo2,hms2,fun j a h => (ha2 a (mq_ h)).2⟩ (fun i σ' H' _ ⟨_,_,_,_,e,_⟩ => qL_ e) ?_ ?_⟩
  ·rintro i y σ' H3 T hi ⟨v1,v2,rfl,s3,hgo3,hms3,ha3⟩ hT
   obtain ⟨t,rfl,ht⟩:=bw hi
   have il:=(gi_ ht).1
   rw [pl] at il
   have et : t = phi signs (i : Int):=by
    have e:=(gi_ ht).2
    rw [<- e]
    unfold dv
    rw [List.getElem_map,List.getElem_range]
   have tv:=Gd (gs:=signs) (q:=(i : Int)) (by omega) (by omega)
   rw [<- et] at tv
   have tl : t.toNat < as.length:=by omega
   have sT:=aq hT (HO.tup [V.int i,V.int t])
   obtain ⟨H4,eH4⟩ : ∃ H4,upd H3 T (HO.tup [V.int i,V.int t]) = H4:=⟨_,rfl⟩
   have hT4 : H4 T = some (.tup [V.int i,V.int t]):=by rw [<- eH4]; exact af
   rw [eH4] at sT ⊢
   obtain ⟨a,ea⟩ : ∃ a,as[t.toNat]? = some a:=⟨_,List.getElem?_eq_getElem tl⟩
   have ha4:=sT _ _ (ha3 _ _ ea)
   have tn : ((t.toNat : Nat) : Int) = t:=Int.toNat_of_nonneg tv.1
   rw [tn] at ha4
   have lp : ((dv signs).take i).length = i:=by rw [List.length_take]; omega
   have notin : (i : Int) ∉ cx ((dv signs).take i) t:=fun z => by
    have h1:=(preI_mem.mp z).1.2
    rw [lp] at h1
    omega
   have pln:=AB ((dv signs).take i) t
   refine ⟨T,_,rfl,qT_ hT4,rfl,_,_,rfl,_,_,rfl,rfl,?_⟩
   refine ⟨_,rfl,_,rfl,ms,_,_,_,rfl,rfl,qL_ (sT _ _ hms3),jh tv.1 ea,_,rfl,a,_,rfl,DPut.k (k:=Sum.inl (i : Int)) ha4 (aB (by unfold kvT; rw [lm_]; omega)),?_⟩
   rw [uk notin]
   have fa : H a = none:=(ha2 a (mq_ ea)).1
   have hgo4:=sT _ _ hgo3
   have hms4:=sT _ _ hms3
   refine ⟨_,_,rfl,aw (s3.trans sT) fa,by rw [aj (aJ hgo4 ha4 (by intro z; cases z))]; exact hgo4,by rw [aj (aJ hms4 ha4 (by intro z; cases z))]; exact hms4,fun j b hb => ?_⟩
   have et2 : (dv signs).take (i + 1) = (dv signs).take i ++ [t]:=by rw [List.take_add_one,ht]; rfl
   rw [et2,sd,lp]
   by_cases c : b = a
   ·subst c
    have ej : j = t.toNat:=by
     have e1:=(gi_ hb)
     have e2:=(gi_ ea)
     exact (List.getElem_inj nda).mp (e1.2.trans e2.2.symm)
    rw [af,ej,tn,if_pos rfl]
   ·have nj : t ≠ (j : Int):=fun z => by
     have e : t.toNat = j:=by omega
     rw [e,hb] at ea
     exact c (Option.some.inj ea)
    rw [aj c,if_neg nj,List.append_nil]
    exact sT _ _ (ha3 j b hb)
  ·rintro σ' H3 ⟨v1,v2,rfl,s3,hgo3,hms3,ha3⟩
   rw [lm_,List.take_length] at ha3
   exact nxt _ _ ⟨v1,v2,rfl,s3,hgo3,hms3,ha3⟩
 rintro σ' H3 ⟨v1,v2,rfl,s3,hgo3,hms3,ha3⟩
 have fa : ∀ a ∈ as,H a = none:=fun a h => (ha2 a h).1
 refine ⟨_,rfl,_,rfl,x,C,dx,[],rfl,s3 _ _ hx,pc.cl,pc.ng,by decide,?_⟩
 refine ⟨_,rfl,_,rfl,x,C,dx,_,rfl,af,pc.cl,pc.nm,by show (1 : Nat) < 1000; decide,?_⟩
 rw [DD]
 obtain ⟨H4,eH4⟩ : ∃ H4,upd H3 x (HO.ins C dx (jD "members" (V.ref ms) (jD "group_of" (V.ref go) []))) = H4:=⟨_,rfl⟩
 have k4 : ∀ b u,b ≠ x -> H b = some u -> H4 b = some u:=fun b u n h => by rw [<- eH4,aj n]; exact s3 _ _ h
 have x4 : H4 x = some (.ins C dx [("group_of",.ref go),("members",.ref ms)]):=by rw [<- eH4,af]; rfl
 have nxa : ∀ b : Addr,H b = none -> x ≠ b:=fun b h => av hx h
 have hgo4 : H4 go = some (.lst ((dv signs).map V.int)):=by rw [<- eH4,aj (Ne.symm (nxa _ fgo))]; exact hgo3
 have hms4 : H4 ms = some (.lst (as.map V.ref)):=by rw [<- eH4,aj (Ne.symm (nxa _ fms))]; exact hms3
 have ha4 : ∀ (j : Nat) (a : Addr),as[j]? = some a -> H4 a = some (.dK (kvT (cx (dv signs) (j : Int)))):=fun j a h => by
  rw [<- eH4,aj (Ne.symm (nxa _ (fa a (mq_ h))))]; exact ha3 j a h
 have f4 : ∀ {b},H4 b = none -> H b = none:=fun {b} h => by
  rcases Decidable.em (b = x) with z | z
  ·subst z; rw [x4] at h; cases h
  ·cases e : H b with
   | none => rfl
   | some u => rw [k4 b u z e] at h; cases h
 rw [eH4]
 have lm : (as.map V.ref).length = as.length:=List.length_map _
 refine ⟨_,rfl,ms,_,rfl,.inl (qL_ hms4),(as.map V.ref).length,rfl,small (by rw [lm]; omega),fun wt hwt => ?_⟩
 rw [lm]
 have nxw : x ≠ wt:=av x4 hwt
 refine ⟨_,rfl,x,C,dx,_,rfl,by rw [aj nxw]; exact x4,pc.cl,pc.nw,by show (2 : Nat) < 1000; decide,?_⟩
 obtain ⟨H5,eH5⟩ : ∃ H5,upd (upd H4 wt (HO.lst ((List.range as.length).map fun i : Nat => V.int i))) x (HO.ins C dx (jD "waiting" (V.ref wt) [("group_of",.ref go),("members",.ref ms)])) = H5:=⟨_,rfl⟩
 have k5 : ∀ b u,b ≠ x -> H4 b = some u -> H5 b = some u:=fun b u n h => by rw [<- eH5,aj n,aj (av h hwt)]; exact h
 have x5 : H5 x = some (.ins C dx [("group_of",.ref go),("members",.ref ms),("waiting",.ref wt)]):=by rw [<- eH5,af]; rfl
 have hwt5 : H5 wt = some (.lst (((List.range as.length).map fun i : Nat => (i : Int)).map V.int)):=by rw [<- eH5,aj (Ne.symm nxw),af,List.map_map]; rfl
 have hgo5:=k5 _ _ (Ne.symm (nxa _ fgo)) hgo4
 have hms5:=k5 _ _ (Ne.symm (nxa _ fms)) hms4
 have f5 : ∀ {b},H5 b = none -> H4 b = none:=fun {b} h => by
  rcases Decidable.em (b = x) with z | z
  ·subst z; rw [x5] at h; cases h
  ·cases e : H4 b with
   | none => rfl
   | some u => rw [k5 b u z e] at h; cases h
 rw [eH5]
 obtain ⟨ns,ens⟩ : ∃ ns : LI,((List.range as.length).map fun i : Nat => (i : Int)) = ns:=⟨_,rfl⟩
 have lns : ns.length = as.length:=by rw [<- ens,lm_,List.length_range]
 have ndn : ns.Nodup:=by
  rw [<- ens]
  refine List.pairwise_map.mpr (List.nodup_range.imp fun {a b} n z => n ?_)
  have z' : (a : Int) = (b : Int):=z
  omega
 refine ⟨_,rfl,ms,_,rfl,.inl (qL_ hms5),_,rfl,by rw [lm]; omega,by rw [lm]; omega,?_⟩
 refine iG (fun D i ys H' => Same H5 H' /\ ∃ ts,ys = ts.map V.ref /\ PairsV H' ts (kvT (ns.take i))) (fun D hD => ⟨aq hD _,[],rfl,.nil⟩) ?_ ?_
 ·rintro D i ys H' Q' hD hi hy ⟨hs,ts,rfl,pv⟩ k'
  rw [Int.toNat_natCast,lm] at hi
  have hq : ns[i]? = some (i : Int):=by
   rw [<- ens,List.getElem?_map,List.getElem?_range hi]
   rfl
  refine ⟨_,rfl,(by show 2 <= sizeLine; decide),fun T hT => ?_⟩
  rw [Int.zero_add]
  have sT:=aq hT (HO.tup [V.int i,V.bl true])
  have nD : D ≠ T:=av hy hT
  have lts : ts.length = i:=by
   rw [Paired.length pv]
   unfold kvT
   rw [lm_,List.length_take]
   omega
  have hyT : (upd H' T (HO.tup [V.int i,V.bl true])) D = some (.lst (ts.map V.ref)):=by rw [aj nD]; exact hy
  refine k' _ _ hyT (aB (by rw [lm_]; omega)) ⟨aw (aw hs (hs.free hT)) hD,ts ++ [T],by rw [List.map_append]; rfl,?_⟩
  rw [List.take_add_one,hq]
  have up : ∀ b xs,(upd H' T (HO.tup [V.int i,V.bl true])) b = some (.tup xs) -> (upd (upd H' T (HO.tup [V.int i,V.bl true])) D (.lst (ts.map V.ref ++ [V.ref T]))) b = some (.tup xs):=fun b xs e => by
   rw [aj (aJ e hyT (by intro z; cases z))]; exact e
  show PairsV _ _ (kvT (ns.take i ++ [(i : Int)]))
  unfold kvT
  rw [List.map_append]
  exact Paired.snoc (PairsV.same pv fun b xs e => up b xs (sT _ _ e)) (up _ _ af)
 rintro L ys H6 fL hL ⟨s6,ts,rfl,pv⟩
 rw [Int.toNat_natCast,lm,<- lns,List.take_length] at pv
 refine ⟨L,ts,_,rfl,hL,pv,fun iw hiw => ?_⟩
 rw [yg ndn]
 have nxi : x ≠ iw:=av (s6 _ _ x5) hiw
 refine ⟨_,rfl,x,C,dx,_,rfl,by rw [aj nxi]; exact s6 _ _ x5,pc.cl,pc.ni,by show (3 : Nat) < 1000; decide,?_⟩
 have fiw : H5 iw = none:=s6.free hiw
 have kz : ∀ b u,b ≠ x -> H5 b = some u -> (upd (upd H6 iw (HO.dK (kvT ns))) x (HO.ins C dx (jD "is_waiting" (V.ref iw) [("group_of",.ref go),("members",.ref ms),("waiting",.ref wt)]))) b = some u:=fun b u n h => by
  rw [aj n,aj (av h fiw)]; exact s6 _ _ h
 have ha5 : ∀ (j : Nat) (a : Addr),as[j]? = some a -> H5 a = some (.dK (kvT (cx (dv signs) (j : Int)))):=fun j a h => k5 _ _ (Ne.symm (nxa _ (fa a (mq_ h)))) (ha4 j a h)
 refine k _ go ms wt iw as (fun b u n h => kz _ _ n (k5 _ _ n (k4 _ _ n h))) fgo fms (f4 hwt) (f4 (f5 fiw)) fa ?_
 have nw4 : wt ≠ x:=Ne.symm nxw
 refine ⟨⟨dx,by rw [af]; rfl⟩,kz _ _ (Ne.symm (nxa _ fgo)) hgo5,kz _ _ (Ne.symm (nxa _ fms)) hms5,by rw [ens]; rw [ens] at hwt5; exact kz _ _ nw4 hwt5,by rw [ens,aj (Ne.symm nxi),af],pl,fun q hq => ?_,fun j a h => ?_,nda,fun z => ?_,Ne.symm nmg,?_,?_,by rw [ens]; exact ndn,fun p hp => ?_⟩
 ·rw [p7 hq.1 hq.2,la]
  exact Gd hq.1 hq.2
 ·have jl:=(gi_ h).1
  refine ⟨cx (dv signs) (j : Int),kz _ _ (Ne.symm (nxa _ (fa a (mq_ h)))) (ha5 j a h),Dy _ _,fun z => ?_,fun q => ?_⟩
  ·obtain ⟨q,hq,e⟩:=Ge (gs:=signs) (j:=j) (by omega)
   have : q ∈ cx (dv signs) (j : Int):=preI_mem.mpr ⟨⟨hq.1,by rw [pl]; exact hq.2⟩,by
    have:=p7 hq.1 hq.2
    unfold a8 at this
    rw [this,e]⟩
   rw [z] at this
   cases this
  ·rw [preI_mem,pl]
   rfl
 ·obtain ⟨j,hj⟩:=List.mem_iff_getElem?.mp z
  have:=ha5 j iw hj
  rw [fiw] at this
  cases this
 ·exact av hgo4 hwt
 ·exact av hms4 hwt
 ·rw [ens] at hp
  rw [<- ens] at hp
  obtain ⟨i,hi,rfl⟩:=List.mem_map.mp hp
  have:=List.mem_range.mp hi
  omega
end
theorem Gs (acc : List (List Key × V)) (a k : List Key) (v : V) : k ∈ (putK acc a v).map Prod.fst ↔ k ∈ acc.map Prod.fst \/ k = a:=by
 unfold putK
 by_cases c : (acc.any fun kv => decide (kv.fst = a)) = true
 ·rw [if_pos c,List.map_map]
  have e : acc.map (Prod.fst ∘ fun kv => if kv.fst = a then (kv.fst,v) else kv) = acc.map Prod.fst:=List.map_congr_left fun kv _ => by
   show (if kv.fst = a then (kv.fst,v) else kv).fst = kv.fst
   split <;> rfl
  rw [e]
  obtain ⟨kv,h1,h2⟩:=List.any_eq_true.mp c
  have h3 : a ∈ acc.map Prod.fst:=List.mem_map.mpr ⟨kv,h1,of_decide_eq_true h2⟩
  exact ⟨.inl,fun z => z.elim id fun z => z ▸ h3⟩
 ·rw [if_neg c,List.map_append,List.mem_append]
  exact or_congr Iff.rfl List.mem_singleton
theorem vx : ∀ (kvs acc : List (List Key × V)) (k : List Key),k ∈ (gO acc kvs).map Prod.fst ↔ k ∈ acc.map Prod.fst \/ k ∈ kvs.map Prod.fst
 | [],acc,k => ⟨.inl,fun z => z.elim id fun z => by cases z⟩
 | p :: kvs,acc,k => by
  show k ∈ (gO (putK acc p.1 p.2) kvs).map Prod.fst ↔ _
  rw [vx kvs,Gs,or_assoc]
  exact or_congr Iff.rfl (List.mem_cons (a:=k) (b:=p.1) (l:=kvs.map Prod.fst)).symm
theorem Dn {x y : LI} (e : x.map (Sum.inl : Int -> Key) = y.map Sum.inl) : x = y:=by
 have h:=congrArg (List.map fun k : Key => Sum.elim id (fun _ => (0 : Int)) k) e
 rw [List.map_map,List.map_map] at h
 have f : ((fun k : Key => Sum.elim id (fun _ => (0 : Int)) k) ∘ (Sum.inl : Int -> Key)) = id:=rfl
 rw [f,List.map_id,List.map_id] at h
 exact h
theorem yc {H : Hp} : ∀ {bs : List Addr} {kvs : List (List Key × V)},C1 H bs kvs -> (∀ k ∈ kvs.map Prod.fst,∃ c : LI,k = c.map Sum.inl) -> ∃ cols : LL,RowsAt H bs cols /\ kvs.map Prod.fst = cols.map fun c => c.map Sum.inl
 | [],[],.nil,_ => ⟨[],.nil,rfl⟩
 | _,_,.cons (a:=b) (b:=p) (l₁:=bs) (l₂:=kvs) h t,q => by
  obtain ⟨cols,h1,h2⟩:=yc t fun k hk => q k (List.mem_cons_of_mem _ hk)
  obtain ⟨c,e⟩:=q p.1 List.mem_cons_self
  refine ⟨c :: cols,.cons ?_ h1,by rw [List.map_cons,List.map_cons,h2,e]⟩
  rw [e,List.map_map] at h
  exact h
theorem wQ {H : Hp} {bs : List Addr} {cols0 : LL} (h : C1 H bs (gO [] (cols0.map fun c => (c.map Sum.inl,V.bl true)))) : ∃ cols : LL,RowsAt H bs cols /\ cols.length <= cols0.length /\ ∀ c,c ∈ cols ↔ c ∈ cols0:=by
 have mem : ∀ k,k ∈ (gO [] (cols0.map fun c => ((c.map Sum.inl : List Key),V.bl true))).map Prod.fst ↔ ∃ c ∈ cols0,k = c.map Sum.inl:=fun k => by
  rw [vx,List.map_map]
  constructor
  ·rintro (z | z)
   ·cases z
   ·obtain ⟨c,h1,h2⟩:=List.mem_map.mp z
    exact ⟨c,h1,h2.symm⟩
  ·rintro ⟨c,h1,h2⟩
   exact .inr (List.mem_map.mpr ⟨c,h1,h2.symm⟩)
 obtain ⟨cols,h1,h2⟩:=yc h fun k hk => let ⟨c,_,e⟩:=(mem k).mp hk; ⟨c,e⟩
 refine ⟨cols,h1,?_,fun c => ?_⟩
 ·have e1:=congrArg List.length h2
  have e2:=jd (cols0.map fun c => ((c.map Sum.inl : List Key),V.bl true)) []
  rw [lm_,lm_] at e1
  rw [lm_,List.length_nil] at e2
  omega
 have m:=mem (c.map Sum.inl)
 rw [h2] at m
 constructor
 ·intro hc
  obtain ⟨c',h3,e⟩:=m.mp (List.mem_map.mpr ⟨c,hc,rfl⟩)
  rw [Dn e]
  exact h3
 ·intro hc
  obtain ⟨c',h3,e⟩:=List.mem_map.mp (m.mpr ⟨c,hc,rfl⟩)
  rw [<- Dn e]
  exact h3
theorem E6 {many wide : Nat} {rows : LL} (R : RowsOk many wide rows) (f : Nat) {q : Int} (hq : ar many q) : iE (rows.map fun r => r.getD f 0) q = stepI rows q f:=by
 have l : q.toNat < rows.length:=by have:=hq.1; have:=hq.2; rw [R.len]; omega
 unfold iE stepI
 rw [getD_at (by rw [lm_]; exact l),List.getElem_map,Int.toNat_natCast,getD_at l]
theorem GZ {many wide : Nat} {rows cols : LL} (R : RowsOk many wide rows) (h : ∀ c,c ∈ cols ↔ c ∈ pB rows wide) : ColsOk many wide rows cols where
 of:=fun c hc => by
  obtain ⟨f,hf,rfl⟩:=List.mem_map.mp ((h c).mp hc)
  exact ⟨f,List.mem_range.mp hf,fun q hq => E6 R f hq⟩
 all:=fun f hf => ⟨_,(h _).mpr (List.mem_map.mpr ⟨f,List.mem_range.mpr hf,rfl⟩),fun q hq => E6 R f hq⟩
theorem C9 {many wide : Nat} {rows : LL} (R : RowsOk many wide rows) {c : LI} (h : c ∈ pB rows wide) : c.length = many /\ ∀ t ∈ c,0 <= t /\ t < (many : Int):=by
 obtain ⟨f,hf,rfl⟩:=List.mem_map.mp h
 have fl:=List.mem_range.mp hf
 refine ⟨by rw [lm_,R.len],fun t ht => ?_⟩
 obtain ⟨r,hr,rfl⟩:=List.mem_map.mp ht
 have lr:=R.row r hr
 rw [getD_at (by omega)]
 exact R.val r hr _ (List.getElem_mem _)
theorem AA {many : Nat} {col : LI} (l : col.length = many) {q x : Int} : x ∈ cx col q ↔ ar many x /\ iE col x = q:=by
 rw [preI_mem,l]
 rfl
theorem yF (col : LI) : ∀ {ms : LI},ms.Nodup -> (ms.flatMap (cx col)).Nodup
 | [],_ => List.nodup_nil
 | m :: ms,h => by
  have n:=List.nodup_cons.mp h
  rw [List.flatMap_cons]
  refine List.nodup_append.mpr ⟨Dy col m,yF col n.2,fun a ha b hb e => ?_⟩
  obtain ⟨m',h1,h2⟩:=List.mem_flatMap.mp hb
  have e1:=(preI_mem.mp ha).2
  have e2:=(preI_mem.mp h2).2
  rw [<- e,e1] at e2
  exact n.1 (e2 ▸ h1)
theorem zW {many : Nat} {col ms : LI} (l : col.length = many) {x : Int} : x ∈ ms.flatMap (cx col) ↔ ar many x /\ iE col x ∈ ms:=by
 rw [List.mem_flatMap]
 constructor
 ·rintro ⟨m,h1,h2⟩
  have h3:=(AA l).mp h2
  exact ⟨h3.1,h3.2 ▸ h1⟩
 ·rintro ⟨h1,h2⟩
  exact ⟨_,h2,(AA l).mpr ⟨h1,rfl⟩⟩
theorem HopS.mono {many : Nat} {cols : List (Int -> Int)} {sg : Int -> Int} {R : Int -> Int -> Prop} {grp : Int -> Int} {W W' S : Int -> Prop} {k : Nat} (h : HopS many cols sg R grp W S k) (w : ∀ g,W g -> W' g) : HopS many cols sg R grp W' S k:=
 ⟨h.coarse,h.signs,h.whole,fun x y hx hy e j c hj => by
  rcases h.cong x y hx hy e j c hj with z | z | z | z
  ·exact .inl z
  ·exact .inr (.inl (w _ z))
  ·exact .inr (.inr (.inl (w _ z)))
  ·exact .inr (.inr (.inr z))⟩
theorem AllAg.symm {rows : LL} {wide : Nat} {signs : LI} {x y : Int} (h : AllAg rows wide signs x y) : AllAg rows wide signs y x:=fun n v h1 h2 => (h n v h1 h2).symm
theorem PtS.pop {H : Hp} {C x go ms wt iw l : Addr} {many : Nat} {gs ws0 mem : LI} {ds : List Addr} {s : Int} (h : PtS H C x go ms wt iw many gs ds (ws0 ++ [s])) (hl : H l = none) :
  PtS (upd (upd (upd H wt (.lst (ws0.map V.int))) iw (.dK (kvT ((ws0 ++ [s]).filter fun k => decide (k ≠ s))))) l (.lst (mem.map V.int))) C x go ms wt iw many gs ds ws0:=by
 have nd:=List.nodup_append.mp h.wn
 have ef : (ws0 ++ [s]).filter (fun k => decide (k ≠ s)) = ws0:=by
  rw [List.filter_append,List.filter_cons_of_neg (by simp),List.filter_nil,List.append_nil]
  exact List.filter_eq_self.mpr fun k hk => decide_eq_true fun z => nd.2.2 k hk s List.mem_cons_self z
 rw [ef]
 have nl : ∀ c u,H c = some u -> c ≠ l:=fun c u e => av e hl
 have kp : ∀ c u,c ≠ wt -> c ≠ iw -> H c = some u -> (upd (upd (upd H wt (.lst (ws0.map V.int))) iw (.dK (kvT ws0))) l (.lst (mem.map V.int))) c = some u:=fun c u c1 c2 e => by rw [aj (nl c u e),aj c2,aj c1]; exact e
 obtain ⟨dx,hx⟩:=h.pt.ob
 have nwi : wt ≠ iw:=aJ h.wt_ h.iw_ (by intro z; cases z)
 refine ⟨⟨dx,kp _ _ (aJ hx h.wt_ (by intro z; cases z)) (aJ hx h.iw_ (by intro z; cases z)) hx⟩,kp _ _ h.n2 (aJ h.go_ h.iw_ (by intro z; cases z)) h.go_,kp _ _ h.n3 (aJ h.ms_ h.iw_ (by intro z; cases z)) h.ms_,by rw [aj (nl _ _ h.wt_),aj nwi,af],by rw [aj (nl _ _ h.iw_),af],h.lg,h.val,fun i d hi => ?_,h.dn,h.ndi,h.n1,h.n2,h.n3,nd.1,fun g hg => h.wv g (List.mem_append_left _ hg)⟩
 obtain ⟨m,h1,h2⟩:=h.mem i d hi
 exact ⟨m,kp _ _ (aJ h1 h.wt_ (by intro z; cases z)) (fun z => h.ndi (z ▸ mq_ hi)) h1,h2⟩
theorem PtS.alone {H : Hp} {C x go ms wt iw : Addr} {many : Nat} {gs ws : LI} {ds : List Addr} (h : PtS H C x go ms wt iw many gs ds ws) (e : ds.length = many) : ∀ a b,ar many a -> ar many b -> a8 gs a = a8 gs b -> a = b:=fun a b ha hb eg => Classical.byContradiction fun ne => by
 have la : a.toNat < gs.length:=by have:=ha.1; have:=ha.2; rw [h.lg]; omega
 have lb : b.toNat < gs.length:=by have:=hb.1; have:=hb.2; rw [h.lg]; omega
 have nab : a.toNat ≠ b.toNat:=by have:=ha.1; have:=hb.1; omega
 unfold a8 at eg
 rw [getD_at la,getD_at lb] at eg
 have t:=fM (xs:=(List.range ds.length).map fun i : Nat => (i : Int)) (ys:=gs.eraseIdx b.toNat) (List.pairwise_map.mpr (List.nodup_range.imp fun {a b} n z => n (by
  have z' : (a : Int) = (b : Int):=z
  omega))) (fun g hg => by
  obtain ⟨i,hi,rfl⟩:=List.mem_map.mp hg
  have il:=List.mem_range.mp hi
  obtain ⟨mem,_,_,nn,iff⟩:=h.mem i _ (List.getElem?_eq_getElem il)
  obtain ⟨q,r,rfl⟩:=List.exists_cons_of_ne_nil nn
  obtain ⟨⟨q0,q1⟩,eq⟩:=(iff q).mp List.mem_cons_self
  have lq : q.toNat < gs.length:=by rw [h.lg]; omega
  unfold a8 at eq
  rw [getD_at lq] at eq
  rw [List.mem_eraseIdx_iff_getElem]
  by_cases c : q.toNat = b.toNat
  ·refine ⟨a.toNat,la,nab,?_⟩
   rw [eg,<- eq]
   congr 1
   exact c.symm
  ·exact ⟨q.toNat,lq,c,eq⟩)
 rw [lm_,List.length_range,List.length_eraseIdx_of_lt lb,h.lg,e] at t
 have:=hb.1
 have:=hb.2
 omega
def GJ (K : PySem.W.Frag) : Sp:=fun vs H Q _ => ∃ (m r g : Addr) (many wide : Nat) (rows : LL) (signs : LI),vs = [.ref m] /\ MachAt H m r g wide rows signs /\ RowsOk many wide rows /\ signs.length = many /\ many < 1000 /\ wide <= 1000 /\
 ∀ (go : Addr) (gs : LI) (H' : Hp),Same H H' -> H go = none -> H' go = some (.lst (gs.map V.int)) -> gs.length = many -> (∀ x y,ar many x -> ar many y -> (a8 gs x = a8 gs y ↔ AllAg rows wide signs x y)) -> Q (.ref go) H'
def GR (H : Hp) : List Addr -> LL -> Prop:=Paired fun B col => ∃ H0 es,BackOk H0 H B es (fun q ls => ls = cx col q)
section
variable {P : Program} {w : World} {K : PySem.W.Frag} {mg : Str -> Option Value} {base : Heap} {f : Addr} {fd : FuncData} {dV : Value} {C : Addr}
theorem sc_unparted_groups : FnScope ["machine","distinct","backs","parted","splitter","back","leading","here"] ["machine"] (ah bz):=⟨rfl,rfl,rfl,by decide +kernel,rfl,by decide +kernel,by decide +kernel⟩
theorem bk_unparted_groups_0 : BlkScope ["machine","distinct","backs","parted","splitter","back","leading","here"] (ah bz) ["column"] [none] { kind:=ScopeKind.function,names:=[(".0",NameKind.local),("column",NameKind.local)],isGenerator:=false,isCoroutine:=false,more:=[] }:=⟨rfl,by decide +kernel,by decide +kernel,by decide +kernel,by decide +kernel,rfl,by decide +kernel⟩
theorem bk_unparted_groups_1 : BlkScope ["machine","distinct","backs","parted","splitter","back","leading","here"] (ah bz) ["column"] [none] { kind:=ScopeKind.function,names:=[(".0",NameKind.local),("column",NameKind.local),("back_of",NameKind.globalImplicit)],isGenerator:=false,isCoroutine:=false,more:=[] }:=⟨rfl,by decide +kernel,by decide +kernel,by decide +kernel,by decide +kernel,rfl,by decide +kernel⟩
theorem IM (F : FunD K "unparted_groups" "unparted_groups" bz dV f fd) (pc : PCls K C) (jO : DefOk P w K mg base "columns_of" 1 ["machine"] [] (CG K)) (qr : DefOk P w K mg base "back_of" 1 ["column"] [] (zc K)) (qq : DefMk P w K mg base "Parted" C 1 ["self","signs"] (v9 C))
  (mS : DefMe P w K mg base C "is_done" 1 ["self"] (vW K C)) (fk : DefMe P w K mg base C "next_splitter" 1 ["self"] (ze C)) (mT : DefMe P w K mg base C "part_by" 3 ["self","leading"] (vZ C)) (gR : mg "list" = none) (gQ : mg "dict" = none) : FnOk P w K mg base CX0 4 f fd ["machine"] (GJ K):=by
 refine F.ok sc_unparted_groups (fun vs H Q E h => ?_) (fun cdv A outer s H vs Q E hr h => ?_)
 ·obtain ⟨m,r,g,many,wide,rows,signs,rfl,_⟩:=h
  rfl
 obtain ⟨m,r,g,many,wide,rows,signs,rfl,M,R,ls,n1,w1,k⟩:=h
 have hu:=lI hr
 have hu2:=Fn hr
 refine ⟨_,(ag (au (i:=1) sc_unparted_groups.nd rfl (Or.inl rfl) (a9 (Bh rfl) (by rfl) gR uh (aa (a9 ((yy rfl hu2)) (by rfl) gQ ug (aa (dG rfl bk_unparted_groups_0 (ck (aV jO hr (aa (pv 0) ae))) (fun _ _ _ _ => (ax (i:=0) bk_unparted_groups_0.nd rfl (Or.inl rfl))) (fun _ _ _ _ => (iM (aa (pv 0) (aa cC ae))))) ae)) ae)))
   (ag (fQ (i:=2) rfl sc_unparted_groups.nd rfl (Or.inl rfl) bk_unparted_groups_1 (ck (pv 1)) (fun _ _ _ _ => (ax (i:=0) bk_unparted_groups_1.nd rfl (Or.inl rfl))) (fun _ _ _ _ => (aV qr hr (aa (pv 0) ae))))
   (ag (au (i:=3) sc_unparted_groups.nd rfl (Or.inl rfl) (IW qq hr (aa (aL aK (pv 0) ak (fun _ _ => rfl)) ae)))
   (ag (jB PassesOwn.never (PW.pt (se ((jC (du (pv 3) rfl) (fun _ => rfl))) (mi (fS (fc (F9 mS hr (pv 3))))))) (ag (au (i:=4) sc_unparted_groups.nd rfl (Or.inl rfl) (F9 fk hr (pv 3)))
   (ao (bu PassesOwn.never rfl (ck (pv 2)) (ax (i:=5) sc_unparted_groups.nd rfl (Or.inl rfl)) (ag (au (i:=6) sc_unparted_groups.nd rfl (Or.inl rfl) (bR ae))
   (ag (bu PassesOwn.never rfl (ck (pv 4)) (ax (i:=7) sc_unparted_groups.nd rfl (Or.inl rfl)) (ao (bq (fj PySem.F.plainAttrs_list PySem.F.slot_list_extend PySem.F.type_list_extend BW (pv 6) (aa (F8 hu (pv 5) (pv 7) (iM ae) ⟨rfl,rfl,rfl,rfl⟩) ae)))))
   (ao (bq (Dv mT hr (pv 3) (aa (pv 6) ae))))))))))
   (ao (aI (du (pv 3) rfl))))))),?_⟩
 try dsimp only [bB,dm]
 refine dR (t:=ue _ _) (fun σ' H' => ∃ (dl : Addr) (bs : List Addr) (cols : LL),σ' = [some (.ref m),some (.ref dl),none,none,none,none,none,none] /\ Same H H' /\ H' dl = some (.lst (bs.map V.ref)) /\ RowsAt H' bs cols /\ cols.length <= wide /\ ∀ c,c ∈ cols ↔ c ∈ pB rows wide) ?_ (fun D' nxt => ?_)
 rotate_left
 ·refine ⟨_,rfl,m,r,g,many,wide,rows,signs,rfl,M,R,⟨by omega,w1⟩,fun l cs H1 s1 hl1 A1 => ?_⟩
  refine ⟨l,rfl,⟨_,qL_ hl1⟩,?_⟩
  have lc : (pB rows wide).length = wide:=by unfold pB; rw [lm_,List.length_range]
  refine fG (K:=K) (xs:=cs.map V.ref) (fun D i ys H' => Same H1 H' /\ ∃ ts,ys = ts.map V.ref /\ A6 H' ts (((pB rows wide).take i).map fun c => (c.map Sum.inl,V.bl true))) (fun D hD => ⟨aq hD _,[],rfl,.nil⟩) (fun D i ys H' _ ⟨e,_⟩ => qL_ (e _ _ hl1)) ?_ ?_
  ·rintro D i y ys H2 Q' hD hi hy ⟨s2,ts,rfl,pv⟩ k'
   have jl : i < (pB rows wide).length:=by
    have:=(gi_ hi).1
    rw [lm_,A1.length] at this
    exact this
   obtain ⟨ca,e1,e2⟩:=A1.get jl
   have ey : y = .ref ca:=by rw [List.getElem?_map,e1] at hi; exact (Option.some.inj hi).symm
   subst ey
   refine ⟨_,rfl,(by show 2 <= sizeLine; decide),fun T hT => ?_⟩
   have sT:=aq hT (HO.tup [V.ref ca,V.bl true])
   have nD : D ≠ T:=av hy hT
   have lts : ts.length = i:=by
    rw [Paired.length pv,lm_,List.length_take]
    omega
   have hyT : (upd H2 T (HO.tup [V.ref ca,V.bl true])) D = some (.lst (ts.map V.ref)):=by rw [aj nD]; exact hy
   refine k' _ _ hyT (aB (by rw [lm_]; omega)) ⟨aw (aw s2 (s2.free hT)) hD,ts ++ [T],by rw [List.map_append]; rfl,?_⟩
   have up : ∀ b xs,(upd H2 T (HO.tup [V.ref ca,V.bl true])) b = some (.tup xs) -> (upd (upd H2 T (HO.tup [V.ref ca,V.bl true])) D (.lst (ts.map V.ref ++ [V.ref T]))) b = some (.tup xs):=fun b xs e => by
    rw [aj (aJ e hyT (by intro z; cases z))]; exact e
   rw [List.take_add_one,List.getElem?_eq_getElem jl,List.map_append]
   refine Paired.snoc (Paired.mapP pv fun t p h => ?_) ⟨ca,up _ _ af,?_⟩
   ·obtain ⟨b,h1,h2⟩:=h
    exact ⟨b,up _ _ (sT _ _ h1),up _ _ (sT _ _ h2)⟩
   ·rw [List.map_map]
    exact up _ _ (sT _ _ (s2 _ _ e2))
  ·rintro D ys H2 hD hy ⟨s2,ts,rfl,pv⟩
   rw [lm_,A1.length,List.take_length] at pv
   refine ⟨D,ts,_,rfl,hy,pv,fun dd hdd => ?_⟩
   have s3:=aq hdd (HO.dT (gO [] ((pB rows wide).map fun c => (c.map Sum.inl,V.bl true))))
   refine ⟨dd,_,rfl,af,fun dl bs hdl kt => ?_⟩
   obtain ⟨cols,c1,c3,c2⟩:=wQ kt
   rw [lc] at c3
   have s4:=aq hdl (HO.lst (bs.map V.ref))
   exact nxt _ _ ⟨dl,bs,cols,rfl,((s1.trans s2).trans s3).trans s4,af,c1.same fun b xs e => s4 _ _ e,c3,c2⟩
 rintro σ' H1 ⟨dl,bs,cols,rfl,s1,hdl1,A1,lcw,hc⟩
 have CO:=GZ R hc
 refine dR (t:=ue _ _) (fun σ' H' => ∃ (bl : Addr) (Bs : List Addr),σ' = [some (.ref m),some (.ref dl),some (.ref bl),none,none,none,none,none] /\ Same H H' /\ H' bl = some (.lst (Bs.map V.ref)) /\ GR H' Bs cols) ?_ (fun D' nxt => ?_)
 rotate_left
 ·refine ⟨_,rfl,dl,rfl,⟨_,qL_ hdl1⟩,?_⟩
  refine fG (K:=K) (xs:=bs.map V.ref) (fun D i ys H' => Same H1 H' /\ ∃ Bs,ys = Bs.map V.ref /\ Paired (fun B col => ∃ H0 es,(∃ u,H0 D = some u) /\ BackOk H0 H' B es (fun q ls => ls = cx col q)) Bs (cols.take i)) (fun D hD => ⟨aq hD _,[],rfl,.nil⟩) (fun D i ys H' _ ⟨e,_⟩ => qL_ (e _ _ hdl1)) ?_ ?_
  ·rintro D i y ys H2 Q' hD hi hy ⟨s2,Bs,rfl,pv⟩ k'
   have jl : i < cols.length:=by
    have:=(gi_ hi).1
    rw [lm_,A1.length] at this
    exact this
   obtain ⟨ca,e1,e2⟩:=A1.get jl
   have ey : y = .ref ca:=by rw [List.getElem?_map,e1] at hi; exact (Option.some.inj hi).symm
   subst ey
   have ci:=C9 R ((hc _).mp (List.getElem_mem jl))
   have lB : Bs.length = i:=by
    rw [Paired.length pv,List.length_take]
    omega
   refine ⟨_,rfl,ca,many,cols[i],rfl,s2 _ _ e2,by omega,by omega,ci.2,fun B es H3 s3 fB bo => ?_⟩
   have hy3:=s3 _ _ hy
   refine k' _ _ hy3 (aB (by rw [lm_]; omega)) ⟨aw (s2.trans s3) hD,Bs ++ [B],by rw [List.map_append]; rfl,?_⟩
   have keep : ∀ (H0 : Hp) (B' : Addr) (es' : List (Int × Addr)) (col : LI),(∃ u,H0 D = some u) -> BackOk H0 H3 B' es' (fun q ls => ls = cx col q) -> BackOk H0 (upd H3 D (.lst (Bs.map V.ref ++ [V.ref B]))) B' es' (fun q ls => ls = cx col q):=fun H0 B' es' col hu bo' => bo'.keep (aj (aJ bo'.at_ hy3 (by intro z; cases z))) fun e he => aj fun z => by
    obtain ⟨u,hu⟩:=hu
    have:=bo'.fresh e he
    rw [z,hu] at this
    cases this
   rw [List.take_add_one,List.getElem?_eq_getElem jl]
   exact Paired.snoc (Paired.mapP pv fun B' col h => let ⟨H0,es',hu,b⟩:=h; ⟨H0,es',hu,keep H0 B' es' col hu (b.same s3)⟩) ⟨H2,es,⟨_,hy⟩,keep H2 B es cols[i] ⟨_,hy⟩ bo⟩
  ·rintro D ys H2 hD hy ⟨s2,Bs,rfl,pv⟩
   rw [lm_,A1.length,List.take_length] at pv
   exact nxt _ _ ⟨D,Bs,rfl,s1.trans s2,hy,Paired.mapP pv fun B col h => let ⟨H0,es,_,b⟩:=h; ⟨H0,es,b⟩⟩
 rintro σ' Hb ⟨bl,Bs,rfl,sb,hbl,BA⟩
 have lBs : Bs.length = cols.length:=Paired.length BA
 refine ⟨_,rfl,m,_,_,_,rfl,rfl,qT_ (sb _ _ M.tup),rfl,fun x dx hx hdx ne => ?_⟩
 have up : ∀ b u,Hb b = some u -> (upd (upd Hb dx (HO.own x)) x (HO.ins C dx [])) b = some u:=fun b u h => by rw [aj (av h hx),aj (av h hdx)]; exact h
 refine ⟨x,dx,g,signs,rfl,af,up _ _ (sb _ _ M.sgn),by omega,fun H1 go ms wt iw ds0 kk f1 f2 f3 f4 f5 S1 => ⟨rfl,?_⟩⟩
 have s1' : Same Hb H1:=fun b u h => kk b u (av h hx) (up b u h)
 have fr : ∀ {b},(upd (upd Hb dx (HO.own x)) x (HO.ins C dx [])) b = none -> Hb b = none:=fun {b} h => by
  cases e : Hb b with
  | none => rfl
  | some u => rw [up b u e] at h; cases h
 rw [ls] at S1
 obtain ⟨RR,eRR⟩ : ∃ RR : Int -> Int -> Prop,(fun x y => ar many x /\ ar many y /\ AllAg rows wide signs x y) = RR:=⟨_,rfl⟩
 have lk:=CO.likes (signs:=signs) R
 rw [eRR] at lk
 have room:=CO.room R
 have sym : ∀ x y,RR x y -> RR y x:=fun x y h => by rw [<- eRR] at h ⊢; exact ⟨h.2.1,h.1,h.2.2.symm⟩
 have fg:=fr f1
 have fms:=fr f2
 have fw:=fr f3
 have fi:=fr f4
 have hop0 : Hop many (cols.map iE) (My.sgn signs) RR (a8 (dv signs)) (fun g => g ∈ (List.range ds0.length).map fun i : Nat => (i : Int)):=by
  refine Hop.start lk (fun a b ha hb => ?_) (fun a ha => ?_) room
  ·have la : ar signs.length a:=by rw [ls]; exact ha
   have lb : ar signs.length b:=by rw [ls]; exact hb
   rw [p7 la.1 la.2,p7 lb.1 lb.2]
   exact Gb la lb
  ·have v:=S1.val a ha
   exact List.mem_map.mpr ⟨(a8 (dv signs) a).toNat,List.mem_range.mpr (by omega),Int.toNat_of_nonneg v.1⟩
 try dsimp only [bB,dm]
 refine dR (t:=lU _ _) (fun σ' H' => ∃ (gs ws : LI) (ds : List Addr) (v4 v5 v6 v7 : OV),σ' = [some (.ref m),some (.ref dl),some (.ref bl),some (.ref x),v4,v5,v6,v7] /\ Same Hb H' /\ PtS H' C x go ms wt iw many gs ds ws /\ ∀ a b,ar many a -> ar many b -> (a8 gs a = a8 gs b ↔ AllAg rows wide signs a b)) ?_ (fun D' nxt => ?_)
 rotate_left
 ·refine mw (fun mm σ' H' => ∃ (gs ws : LI) (ds : List Addr) (v4 v5 v6 v7 : OV),mm = 2 * many + ws.length - 2 * ds.length /\ σ' = [some (.ref m),some (.ref dl),some (.ref bl),some (.ref x),v4,v5,v6,v7] /\ Same Hb H' /\ PtS H' C x go ms wt iw many gs ds ws /\ (∀ d ∈ ds,Hb d = none) /\ Hop many (cols.map iE) (My.sgn signs) RR (a8 gs) (fun g => g ∈ ws))
   ⟨_,dv signs,_,ds0,none,none,none,none,rfl,rfl,s1',S1,fun d hd => fr (f5 d hd),hop0⟩ ?_
  rintro mm σ' H2 ⟨gs,ws,ds,v4,v5,v6,v7,emm,rfl,s2,S2,fd2,hop⟩
  obtain ⟨dx2,hx2⟩:=S2.pt.ob
  have few2:=S2.few
  rw [<- eRR] at hop
  by_cases en : ws = []
  ·subst en
   refine ⟨_,rfl,x,C,dx2,_,_,rfl,hx2,pc.cl,pc.nw,rfl,_,.inl ⟨_,qL_ S2.wt_,rfl⟩,gH (gH ?_)⟩
   exact nxt _ _ ⟨gs,[],ds,v4,v5,v6,v7,rfl,s2,S2,fun a b ha hb => Dm CO R hop (hop.stable (fun _ _ z => by cases z) room) ha hb⟩
  refine ⟨_,rfl,x,C,dx2,_,_,rfl,hx2,pc.cl,pc.nw,rfl,_,.inl ⟨_,qL_ S2.wt_,rfl⟩,?_⟩
  have ne' : (!(ws.map V.int).isEmpty) = true:=by
   cases ws with
   | nil => exact absurd rfl en
   | cons a r => rfl
  rw [ne']
  refine wR ⟨_,rfl,x,dx2,_,rfl,hx2,rfl,x,go,ms,wt,iw,gs,ds,rfl,S2.pt,S2.go_,S2.ms_,_,rfl,sU (fun c => ?_) (fun c => ?_)⟩
  ·refine ⟨fun σ' H' => ∃ m',m' < mm /\ ∃ (gs ws : LI) (ds : List Addr) (v4 v5 v6 v7 : OV),m' = 2 * many + ws.length - 2 * ds.length /\ σ' = [some (.ref m),some (.ref dl),some (.ref bl),some (.ref x),v4,v5,v6,v7] /\ Same Hb H' /\ PtS H' C x go ms wt iw many gs ds ws /\ (∀ d ∈ ds,Hb d = none) /\ Hop many (cols.map iE) (My.sgn signs) RR (a8 gs) (fun g => g ∈ ws),fun _ _ h => h,?_⟩
   rw [eRR] at hop
   obtain ⟨ws0,s,ews⟩ : ∃ ws0 s,ws = ws0 ++ [s]:=⟨ws.dropLast,ws.getLast en,(List.dropLast_concat_getLast en).symm⟩
   subst ews
   have sv:=S2.wv s (List.mem_append_right _ List.mem_cons_self)
   have sl' : s.toNat < ds.length:=by omega
   obtain ⟨da,hda0⟩ : ∃ da,ds[s.toNat]? = some da:=⟨_,List.getElem?_eq_getElem sl'⟩
   obtain ⟨mem,hda,ndm,nem,hm⟩:=S2.mem s.toNat da hda0
   rw [Int.toNat_of_nonneg sv.1] at hm
   have fewM : mem.length <= many:=bN many ndm fun q hq => ((hm q).mp hq).1
   refine ⟨_,rfl,x,dx2,_,rfl,hx2,rfl,x,go,ms,wt,iw,da,s,ws0,ws0 ++ [s],mem,ds,rfl,S2.pt,S2.wt_,S2.iw_,List.mem_append_right _ List.mem_cons_self,S2.ms_,sv.1,hda0,S2.n3,hda,(fun z => S2.ndi (z ▸ mq_ hda0)),by omega,fun sl hsl => ?_⟩
   have S3:=S2.pop (mem:=mem) hsl
   obtain ⟨H3,eH3⟩ : ∃ H3,upd (upd (upd H2 wt (HO.lst (ws0.map V.int))) iw (HO.dK (kvT ((ws0 ++ [s]).filter fun k => decide (k ≠ s))))) sl (HO.lst (mem.map V.int)) = H3:=⟨_,rfl⟩
   have ne3 : ∀ c u,Hb c = some u -> c ≠ go /\ c ≠ ms /\ c ≠ wt /\ c ≠ iw:=fun c u e => ⟨fun z => (by rw [z,fg] at e; cases e),fun z => (by rw [z,fms] at e; cases e),fun z => (by rw [z,fw] at e; cases e),fun z => (by rw [z,fi] at e; cases e)⟩
   have s3 : Same Hb H3:=fun c u e => by
    have n:=ne3 c u e
    rw [<- eH3,aj (av (s2 _ _ e) hsl),aj n.2.2.2,aj n.2.2.1]
    exact s2 _ _ e
   have hsl3 : H3 sl = some (.lst (mem.map V.int)):=by rw [<- eH3,af]
   rw [eH3] at S3 ⊢
   have q1 : sl ≠ go:=fun z => by rw [z,S2.go_] at hsl; cases hsl
   have q2 : sl ≠ ms:=fun z => by rw [z,S2.ms_] at hsl; cases hsl
   have q3 : sl ≠ wt:=fun z => by rw [z,S2.wt_] at hsl; cases hsl
   have hs0 : HopS many (cols.map iE) (My.sgn signs) RR (a8 gs) (fun g => g ∈ ws0) (fun q => a8 gs q = s) 0:=(hop.pop room s).mono fun g h => by
    rcases ma_.mp h.1 with z | z
    ·exact z
    ·exact absurd (List.mem_singleton.mp z) h.2
   refine ⟨_,rfl,bl,rfl,⟨_,qL_ (s3 _ _ hbl)⟩,?_⟩
   refine dz (K:=K) (xs:=Bs.map V.ref) (fun k σ' H' => ∃ (gs' ws' : LI) (ds' : List Addr) (v5 v6 v7 : OV),σ' = [some (.ref m),some (.ref dl),some (.ref bl),some (.ref x),some (.ref sl),v5,v6,v7] /\ Same Hb H' /\ PtS H' C x go ms wt iw many gs' ds' ws' /\ (∀ d ∈ ds',Hb d = none) /\ H' sl = some (.lst (mem.map V.int)) /\ HopS many (cols.map iE) (My.sgn signs) RR (a8 gs') (fun g => g ∈ ws') (fun q => a8 gs q = s) k /\ (ws'.length : Int) - 2 * (ds'.length : Int) <= (ws0.length : Int) - 2 * (ds.length : Int))
    ⟨gs,ws0,ds,_,_,_,rfl,s3,S3,fd2,hsl3,hs0,Int.le_refl _⟩ (fun i σ' H' _ ⟨_,_,_,_,_,_,_,e,_⟩ => qL_ (e _ _ hbl)) ?_ ?_
   ·rintro k y σ' H4 hk ⟨gs',ws',ds',v5,v6,v7,rfl,s4,S4,fd4,hsl4,hs4,me4⟩
    have kl : k < cols.length:=by
     have:=(gi_ hk).1
     rw [lm_] at this
     omega
    obtain ⟨B,hB,H0,es,bo⟩:=gd BA (List.getElem?_eq_getElem kl)
    have ey : y = .ref B:=by rw [List.getElem?_map,hB] at hk; exact (Option.some.inj hk).symm
    subst ey
    obtain ⟨col,ecol⟩ : ∃ col,cols[k] = col:=⟨_,rfl⟩
    rw [ecol] at bo
    have hcm : col ∈ cols:=ecol ▸ List.getElem_mem kl
    have ci:=C9 R ((hc _).mp hcm)
    have hkc : (cols.map iE)[k]? = some (iE col):=by rw [List.getElem?_map,List.getElem?_eq_getElem kl,ecol]; rfl
    have cmm:=mq_ hkc
    have lm : ∀ {x : Int},x ∈ mem.flatMap (cx col) ↔ ar many x /\ iE col x ∈ mem:=fun {x} => zW ci.1
    obtain ⟨dx4,hx4⟩:=S4.pt.ob
    refine ⟨(by show 0 <= sizeLine; decide),fun La hLa => ?_⟩
    have sLa:=aq hLa (HO.lst [])
    try dsimp only [bB,dm]
    refine dR (t:=oX _ _ _) (fun σ' H' => ∃ v7 : OV,σ' = [some (.ref m),some (.ref dl),some (.ref bl),some (.ref x),some (.ref sl),some (.ref B),some (.ref La),v7] /\ Same H4 H' /\ H' La = some (.lst ((mem.flatMap (cx col)).map V.int))) ?_ (fun D'' nxt' => ?_)
    rotate_left
    ·refine ⟨_,rfl,sl,rfl,⟨_,qL_ (sLa _ _ hsl4)⟩,?_⟩
     refine dz (K:=K) (xs:=mem.map V.int) (fun i σ' H' => ∃ v7 : OV,σ' = [some (.ref m),some (.ref dl),some (.ref bl),some (.ref x),some (.ref sl),some (.ref B),some (.ref La),v7] /\ Same H4 H' /\ H' La = some (.lst (((mem.take i).flatMap (cx col)).map V.int))) ⟨_,rfl,sLa,af⟩ (fun i σ' H' _ ⟨_,_,e,_⟩ => qL_ (e _ _ hsl4)) ?_ ?_
     ·rintro i y σ' H5 hi ⟨v7,rfl,s5,hL5⟩
      obtain ⟨q,rfl,hq⟩:=bw hi
      have b5:=bo.same (s4.trans s5)
      refine ⟨_,rfl,.inl ⟨rfl,_,qL_ hL5⟩,_,rfl,B,rfl,.inl ⟨_,.inl b5.at_⟩,_,rfl,(by show 0 <= sizeLine; decide),fun t0 ht0 => ?_⟩
      have st0:=aq ht0 (HO.tup [])
      have b6:=b5.same st0
      refine ⟨_,DGet.k (k:=Sum.inl q) b6.at_,?_⟩
      have hL6:=st0 _ _ hL5
      have et : (mem.take (i + 1)).flatMap (cx col) = (mem.take i).flatMap (cx col) ++ cx col q:=by
       rw [List.take_add_one,hq,List.flatMap_append]
       show _ ++ [q].flatMap (cx col) = _
       rw [List.flatMap_cons,List.flatMap_nil,List.append_nil]
      have len : (((mem.take i).flatMap (cx col)).map V.int).length + ((cx col q).map V.int).length <= sizeLine:=by
       have nd:=yF col (ms:=mem.take (i + 1)) ((List.take_sublist _ _).nodup ndm)
       have fw' := bN many nd fun z hz => ((zW ci.1).mp hz).1
       rw [et,List.length_append] at fw'
       rw [lm_,lm_]
       exact small (by omega)
      cases hv : ff (kvL es) (Sum.inl q) with
      | none =>
       have hq' : q ∉ es.map Prod.fst:=fun z => by
        obtain ⟨e,he,ee⟩:=List.mem_map.mp z
        obtain ⟨jj,hjj⟩:=List.mem_iff_getElem?.mp he
        have:=vi b6.nd (q:=e.1) (a:=e.2) hjj
        rw [ee,hv] at this
        cases this
       have e0:=b6.non _ hq'
       rw [<- e0] at et
       rw [<- e0] at len
       refine .inr ⟨La,t0,_,[],rfl,rfl,hL6,af,len,?_⟩
       exact ⟨_,rfl,aw (s5.trans st0) hLa,by rw [af,et,List.map_append]; rfl⟩
      | some v =>
       obtain ⟨la,ls',rfl,hm',hla,hp⟩:=b6.get hv
       rw [<- hp] at et
       rw [<- hp] at len
       refine .inl ⟨La,la,_,_,rfl,rfl,hL6,hla,len,?_⟩
       exact ⟨_,rfl,aw (s5.trans st0) hLa,by rw [af,et,List.map_append]⟩
     ·rintro σ' H5 ⟨v7,rfl,s5,hL5⟩
      rw [lm_,List.take_length] at hL5
      exact nxt' _ _ ⟨v7,rfl,s5,hL5⟩
    rintro σ' H5 ⟨v7,rfl,s5,hL5⟩
    have S5:=S4.same s5
    have memS : ∀ q,ar many q -> (q ∈ mem ↔ a8 gs q = s):=fun q hq => ⟨fun z => ((hm q).mp z).2,fun z => (hm q).mpr ⟨hq,z⟩⟩
    have inL : ∀ a,ar many a -> (a ∈ mem.flatMap (cx col) ↔ a8 gs (iE col a) = s):=fun a ha => by
     rw [lm,memS _ (room a ha _ cmm)]
     exact ⟨fun z => z.2,fun z => ⟨ha,z⟩⟩
    refine ⟨_,rfl,x,dx4,_,rfl,s5 _ _ hx4,rfl,_,rfl,x,go,ms,wt,iw,La,many,gs',ws',mem.flatMap (cx col),ds',fun gs1 n1 ws1 => HopS many (cols.map iE) (My.sgn signs) RR (a8 gs1) (fun g => g ∈ ws1) (fun q => a8 gs q = s) k /\ (ws1.length : Int) - 2 * (n1 : Int) <= (ws0.length : Int) - 2 * (ds.length : Int),rfl,S5,n1,hL5,⟨fun z => (by rw [z,S4.go_] at hLa; cases hLa),fun z => (by rw [z,S4.ms_] at hLa; cases hLa),fun z => (by rw [z,S4.wt_] at hLa; cases hLa)⟩,yF col ndm,fun q hq => (lm.mp hq).1,⟨hs4,me4⟩,?_,?_⟩
    ·rintro gs1 n1 ws1 gs2 ws2 ⟨h1,h2⟩ val ⟨b,nw,rfl,e1,e2,e3,e4⟩
     refine ⟨h1.split sym room (L:=fun a => a ∈ mem.flatMap (cx col)) (b:=b) (n:=(n1 : Int)) (fun a c ha hc' r hl => ?_) (fun a ha z => ?_) (fun g hg => List.mem_append_left _ hg) (fun hb => ?_) ?_ e3 e4,?_⟩
     ·rw [inL a ha] at hl
      rw [inL c hc']
      exact h1.whole _ _ (room a ha _ cmm) (room c hc' _ cmm) (lk.led a c r _ cmm) hl
     ·have:=val a ha
      omega
     ·rw [<- e2 hb]
      exact List.mem_append_right _ List.mem_cons_self
     ·rcases e1 with e1 | e1
      ·exact .inl (by rw [<- e1]; exact List.mem_append_right _ List.mem_cons_self)
      ·exact .inr (by rw [<- e1]; exact List.mem_append_right _ List.mem_cons_self)
     ·rw [List.length_append,List.length_singleton]
      omega
    ·intro H6 gs6 ws6 more S6 j6 nc fm kp
     have s6 : Same Hb H6:=fun c u e => by
      have n:=ne3 c u e
      exact kp c u n.1 n.2.1 n.2.2.1 n.2.2.2 (fun z => by rw [fd4 c z] at e; cases e) (s5 _ _ (s4 _ _ e))
     have hsl5:=s5 _ _ hsl4
     refine ⟨gs6,ws6,ds' ++ more,_,_,_,rfl,s6,S6,fun d hd => ?_,kp sl _ q1 q2 q3 (aJ hsl5 S5.iw_ (by intro z; cases z)) (fun z => ?_) hsl5,j6.1.next hkc fun a c ha hc' e h => ?_,j6.2⟩
     ·rcases ma_.mp hd with z | z
      ·exact fd4 d z
      ·have:=fm d z
       cases e : Hb d with
       | none => rfl
       | some u => rw [s5 _ _ (s4 _ _ e)] at this; cases this
     ·obtain ⟨mm',hmm⟩:=S5.at_ z
      rw [hsl5] at hmm
      cases hmm
     ·exact (inL c hc').mp (nc a c ha hc' e ((inL a ha).mpr h))
   ·rintro σ' H4 ⟨gs',ws',ds',v5,v6,v7,rfl,s4,S4,fd4,hsl4,hs4,me4⟩
    have few4:=S4.few
    rw [lm_,lBs] at hs4
    have lcm : cols.length = (cols.map iE).length:=(List.length_map _).symm
    rw [lcm] at hs4
    refine ⟨_,?_,gs',ws',ds',_,_,_,_,rfl,rfl,s4,S4,fd4,hs4.done⟩
    rw [emm,List.length_append,List.length_singleton]
    omega
  ·refine nxt _ _ ⟨gs,ws,ds,v4,v5,v6,v7,rfl,s2,S2,fun a b ha hb => Dm CO R hop (Hop.single (S2.alone (by rw [c,S2.lg]))) ha hb⟩
 rintro σ' H2 ⟨gs,ws,ds,v4,v5,v6,v7,rfl,s2,S2,fin⟩
 obtain ⟨dx2,hx2⟩:=S2.pt.ob
 exact ⟨_,rfl,x,C,dx2,_,_,rfl,hx2,pc.cl,pc.ng,rfl,k go gs H2 (sb.trans s2) (sb.free fg) S2.go_ S2.lg fin⟩
end
def zk (K : PySem.W.Frag) : Sp:=fun vs H Q E => uz K Jv vs H Q E \/ uz K Jw vs H Q E
theorem vj (xs : LI) (g : Int) : kvN (xs ++ [g]) 0 = kvN xs 0 ++ [(Sum.inl g,V.int (xs.length : Int))]:=by
 unfold kvN
 rw [List.zipIdx_append,List.map_append,Nat.zero_add]
 rfl
theorem yf {qs : LI} (nd : qs.Nodup) : ∀ i,cW [] (kvN (qs.take i) 0) = kvN (qs.take i) 0
 | 0 => by rw [List.take_zero]; rfl
 | i + 1 => by
  have ih:=yf nd i
  cases e : qs[i]? with
  | none =>
   rw [List.take_add_one,e]
   show cW [] (kvN (qs.take i ++ []) 0) = kvN (qs.take i ++ []) 0
   rw [List.append_nil]
   exact ih
  | some g =>
   have et : qs.take (i + 1) = qs.take i ++ [g]:=by rw [List.take_add_one,e]; rfl
   have il:=gi_ e
   have hg : g ∉ qs.take i:=fun z => by
    obtain ⟨j,hj,ej⟩:=List.getElem_of_mem z
    rw [List.length_take] at hj
    rw [List.getElem_take] at ej
    have:=(List.getElem_inj nd).mp (ej.trans il.2.symm)
    omega
   rw [et]
   show cW [] (kvN (qs.take i ++ [g]) 0) = _
   have m : cW [] (kvN (qs.take i) 0 ++ [(Sum.inl g,V.int ((qs.take i).length : Int))]) = putK (cW [] (kvN (qs.take i) 0)) (Sum.inl g) (V.int ((qs.take i).length : Int)):=by
    unfold cW
    rw [List.foldl_append]
    rfl
   rw [vj,m,ih,yM hg,vj]
theorem sS (φ : Int -> Int) (n : Nat) : bF φ (n + 1) = bF φ n ++ (if φ (n : Int) = (aR φ n : Int) then [n] else []):=by
 unfold bF
 rw [List.range_succ,List.filter_append]
 congr 1
 by_cases c : φ (n : Int) = (aR φ n : Int)
 ·rw [if_pos c,List.filter_cons_of_pos (by exact decide_eq_true c)]; rfl
 ·rw [if_neg c,List.filter_cons_of_neg (by rw [decide_eq_false c]; decide)]; rfl
theorem DX {φ : Int -> Int} {n q : Nat} (h : q ∈ bF φ n) : q < n:=List.mem_range.mp (List.mem_filter.mp h).1
theorem qe {many wide : Nat} {rows : LL} (R : RowsOk many wide rows) {q t : Int} (h0 : 0 <= q) (h1 : q < (many : Int)) (ht : t ∈ rows.getD q.toNat []) : ∃ f : Nat,f < wide /\ t = stepI rows q f:=by
 have l : q.toNat < rows.length:=by rw [R.len]; omega
 rw [getD_at l] at ht
 obtain ⟨f,hf,e⟩:=List.getElem_of_mem ht
 have lr:=R.row _ (List.getElem_mem l)
 refine ⟨f,by omega,?_⟩
 unfold stepI
 rw [getD_at l,Int.toNat_natCast,getD_at hf,e]
def ux (K : PySem.W.Frag) : Sp:=fun vs H Q _ => ∃ (m r g : Addr) (many wide : Nat) (rows : LL) (signs : LI),vs = [.ref m] /\ MachAt H m r g wide rows signs /\ RowsOk many wide rows /\ signs.length = many /\ (1 <= many /\ many < 1000) /\ wide <= 1000 /\
 ∀ (m' r' g' : Addr) (rows' : LL) (signs' : LI) (H' : Hp),Same H H' -> MachAt H' m' r' g' wide rows' signs' -> LeastOf wide rows rows' signs signs' -> Q (.ref m') H'
section
variable {P : Program} {w : World} {K : PySem.W.Frag} {mg : Str -> Option Value} {base : Heap} {f : Addr} {fd : FuncData} {dV : Value}
theorem FX (F : FunD K "with_rooms" "with_rooms" bO dV f fd) (aO : mg "tuple" = none) : FnOk P w K mg base CX0 1 f fd ["machine","kept","numbers"] (zk K):=FnOk.or (ED F aO) (EF F aO)
theorem sc_least : FnScope ["machine","reached","small","numbers","firsts","groups","here","group"] ["machine"] (ah iZ):=⟨rfl,rfl,rfl,by decide +kernel,rfl,by decide +kernel,by decide +kernel⟩
theorem bk_least_0 : BlkScope ["machine","reached","small","numbers","firsts","groups","here","group"] (ah iZ) ["number","here"] [none,none] { kind:=ScopeKind.function,names:=[(".0",NameKind.local),("number",NameKind.local),("here",NameKind.local)],isGenerator:=false,isCoroutine:=false,more:=[] }:=⟨rfl,by decide +kernel,by decide +kernel,by decide +kernel,by decide +kernel,rfl,by decide +kernel⟩
theorem bk_least_1 : BlkScope ["machine","reached","small","numbers","firsts","groups","here","group"] (ah iZ) ["group","numbers"] [none,some 3] { kind:=ScopeKind.function,names:=[(".0",NameKind.local),("group",NameKind.local),("numbers",NameKind.free)],isGenerator:=false,isCoroutine:=false,more:=[] }:=⟨rfl,by decide +kernel,by decide +kernel,by decide +kernel,by decide +kernel,rfl,by decide +kernel⟩
theorem FP (F : FunD K "least" "least" iZ dV f fd) (d3 : DefOk P w K mg base "reached_rooms" 1 ["machine","start"] [.int 0] (sC K)) (gU : DefOk P w K mg base "with_rooms" 1 ["machine","kept","numbers"] [] (zk K)) (d4 : DefOk P w K mg base "unparted_groups" 4 ["machine"] [] (GJ K))
  (bZ : mg "enumerate" = none) (gQ : mg "dict" = none) (aU : mg "len" = none) : FnOk P w K mg base CX0 5 f fd ["machine"] (ux K):=by
 refine F.ok sc_least (fun vs H Q E h => ?_) (fun cdv A outer s H vs Q E hr h => ?_)
 ·obtain ⟨m,r,g,many,wide,rows,signs,rfl,_⟩:=h
  rfl
 obtain ⟨m,r,g,many,wide,rows,signs,rfl,M,R,ls,⟨n0,n1⟩,w1,k⟩:=h
 have hu:=lI hr
 refine yw (aZ (PSW.mk (au (i:=1) sc_least.nd rfl (Or.inl rfl) (aV d3 hr (aa (pv 0) ae))))
   (aZ (PSW.mk (au (i:=2) sc_least.nd rfl (Or.inl rfl) (aV gU hr (aa (pv 0) (aa (pv 1) (aa (a9 (k9 rfl) (by rfl) gQ ug (aa (dG rfl bk_least_0 (vF rfl bZ (aa (pv 1) ae)) (fun _ _ _ _ => (HA K (n:=2) rfl (bE (ax (i:=0) bk_least_0.nd rfl (Or.inl rfl)) (bE (ax (i:=1) bk_least_0.nd rfl (Or.inl rfl)) iY)))) (fun _ _ _ _ => (iM (aa (pv 1) (aa (pv 0) ae))))) ae)) ae))))))
   (aZ (PSW.mk (au (i:=3) sc_least.nd rfl (Or.inr rfl) lO))
   (aZ (PSW.mk (au (i:=4) sc_least.nd rfl (Or.inl rfl) (bR ae)))
   (aZ (PSW.mk (au (i:=5) sc_least.nd rfl (Or.inl rfl) (aV d4 hr (aa (pv 2) ae))))
   (aZ (PSW.mk (bu PassesOwn.never rfl (vF rfl bZ (aa (pv 5) ae)) (oE rfl (bE (ax (i:=6) sc_least.nd rfl (Or.inl rfl)) (bE (ax (i:=7) sc_least.nd rfl (Or.inl rfl)) iY))) (ao (bS (Cu (yj hu (pv 7) (pv 3)) (by with_unfolding_all rfl)) (ag (uv hu (pv 3) (pv 7) (aA lZ (by rfl) aU bG (aa (pv 3) ae)) rfl)
   (ao (bq (fj PySem.F.plainAttrs_list PySem.F.slot_list_append PySem.F.type_list_append bD (pv 4) (aa (pv 6) ae))))) aX))))
   (sG (PSW.mk (aI (aV gU hr (aa (pv 2) (aa (pv 4) (aa (dG rfl bk_least_1 (ck (pv 5)) (fun _ _ _ _ => (ax (i:=0) bk_least_1.nd rfl (Or.inl rfl))) (fun _ _ _ _ => (Du hu (pv 1) (pv 0) (fun _ _ => rfl)))) ae))))))))))))) ?_
 refine ⟨_,rfl,m,r,g,many,wide,rows,signs,rfl,M,R,⟨n0,by omega⟩,fun l H1 qs s1 hl1 bf => ?_⟩
 have few:=bN many bf.nd bf.inr
 have reF : ∀ q ∈ qs,∃ row,InF wide row /\ aM rows row 0 = q:=fun q hq => (bf.re q).mp hq
 obtain ⟨R1,O1,p1,t1⟩:=AU (signs:=signs) R (by omega) bf.eq bf.nd (fun q hq => bf.inr q hq) reF
 try dsimp only [bB,dm]
 refine dR (t:=ue _ _) (fun σ' H' => ∃ m1 r1 g1 : Addr,σ' = [some (.ref m),some (.ref l),some (.ref m1),none,none,none,none,none] /\ Same H H' /\ MachAt H' m1 r1 g1 wide (bI rows (rho qs) qs) (bL signs qs)) ?_ (fun D' nxt => ?_)
 rotate_left
 ·refine ⟨_,rfl,_,rfl,_,rfl,l,rfl,⟨_,qL_ hl1⟩,?_⟩
  refine Bl (K:=K) (xs:=qs.map V.int) (fun D i ys H' => Same H1 H' /\ ∃ ts,ys = ts.map V.ref /\ PairsV H' ts (kvN (qs.take i) 0)) (fun T σ H Q i x h q => ⟨T,[.int i,x],rfl,qT_ h,rfl,.int i,[x],rfl,x,[],rfl,rfl,q⟩) (fun D hD => ⟨aq hD _,[],rfl,.nil⟩) (fun D i ys H' _ ⟨e,_⟩ => qL_ (e _ _ hl1)) ?_ ?_
  ·rintro D i y ys H2 T0 Q' hD hi hy ⟨s2,ts,rfl,pv⟩ hT0 k'
   obtain ⟨q,rfl,hq⟩:=bw hi
   have il:=(gi_ hq).1
   have sT0:=aq hT0 (HO.tup [V.int i,V.int q])
   refine ⟨_,rfl,_,rfl,(by show 2 <= sizeLine; decide),fun T hT => ?_⟩
   have sT:=aq hT (HO.tup [V.int q,V.int i])
   obtain ⟨H3,eH3⟩ : ∃ H3,upd (upd H2 T0 (HO.tup [V.int i,V.int q])) T (HO.tup [V.int q,V.int i]) = H3:=⟨_,rfl⟩
   have hT3 : H3 T = some (.tup [V.int q,V.int i]):=by rw [<- eH3,af]
   rw [eH3] at sT ⊢
   have s3:=sT0.trans sT
   have hy3:=s3 _ _ hy
   have lts : ts.length = i:=by
    rw [Paired.length pv,kA,List.length_take]
    omega
   refine k' _ _ hy3 (aB (by rw [lm_]; omega)) ⟨aw (s2.trans s3) hD,ts ++ [T],by rw [List.map_append]; rfl,?_⟩
   have up : ∀ b xs,H3 b = some (.tup xs) -> (upd H3 D (.lst (ts.map V.ref ++ [V.ref T]))) b = some (.tup xs):=fun b xs e => by
    rw [aj (aJ e hy3 (by intro z; cases z))]; exact e
   have et : qs.take (i + 1) = qs.take i ++ [q]:=by rw [List.take_add_one,hq]; rfl
   have ll : (qs.take i).length = i:=by rw [List.length_take]; omega
   rw [et,vj,ll]
   exact Paired.snoc (PairsV.same pv fun b xs e => up b xs (s3 _ _ e)) (up _ _ hT3)
  ·rintro L ys H2 fL hL ⟨s2,ts,rfl,pv⟩
   rw [lm_,List.take_length] at pv
   refine ⟨L,ts,_,rfl,hL,pv,fun D hD => ?_⟩
   have mk:=yf bf.nd qs.length
   rw [List.take_length] at mk
   rw [mk]
   have s3:=s2.trans (aq hD (HO.dK (kvN qs 0)))
   refine .inl ⟨m,l,D,r,g,many,wide,rows,signs,qs,rho qs,rfl,M.same fun b xs e => s3 _ _ (s1 _ _ e),R,ls,⟨by omega,w1⟩,s3 _ _ hl1,by omega,bf.inr,⟨_,af,fun q hq t ht => ?_⟩,fun m1 r1 g1 H3 s4 M3 => ?_⟩
   ·have qi:=bf.inr q hq
    obtain ⟨f,hf,e⟩:=qe R qi.1 qi.2 ht
    have tq : t ∈ qs:=(bf.re t).mpr (by rw [e]; exact ((bf.re q).mp hq).step (by omega) (by omega))
    rw [me,if_pos tq,Nat.zero_add]
    rfl
   ·exact nxt _ _ ⟨m1,r1,g1,rfl,(s1.trans s3).trans s4,M3⟩
 rintro σ' H2 ⟨m1,r1,g1,rfl,s2,M2⟩
 refine fun Nn hNn => ⟨(by show 0 <= sizeLine; decide),fun Fa hFa => ?_⟩
 obtain ⟨H3,eH3⟩ : ∃ H3,upd (upd H2 Nn (HO.dK [])) Fa (HO.lst []) = H3:=⟨_,rfl⟩
 have s3 : Same H2 H3:=by rw [<- eH3]; exact (aq hNn _).trans (aq hFa _)
 have nNF : Nn ≠ Fa:=av af hFa
 have hN3 : H3 Nn = some (.dK []):=by rw [<- eH3,aj nNF,af]
 have hF3 : H3 Fa = some (.lst []):=by rw [<- eH3,af]
 have fN : H Nn = none:=s2.free hNn
 have fF : H Fa = none:=s2.free ((aq hNn (HO.dK [])).free hFa)
 rw [eH3]
 have lsg : (bL signs qs).length = qs.length:=by unfold bL; rw [lm_]
 have R1' : RowsOk qs.length wide (bI rows (rho qs) qs):=R1
 refine ⟨_,rfl,m1,r1,g1,qs.length,wide,_,_,rfl,M2.same fun b xs e => s3 _ _ e,R1',lsg,by omega,w1,fun go gs H4 s4 fgo hgo lg hg => ?_⟩
 have sH4 : Same H2 H4:=s3.trans s4
 have M4:=M2.same fun b xs e => sH4 _ _ e
 try dsimp only [bB,dm]
 refine dR (t:=oX _ _ _) (fun σ' H' => ∃ v6 v7 : OV,σ' = [some (.ref m),some (.ref l),some (.ref m1),some (.ref Nn),some (.ref Fa),some (.ref go),v6,v7] /\ (∀ c u,c ≠ Nn -> c ≠ Fa -> H4 c = some u -> H' c = some u) /\ H' Nn = some (.dK (kvN (bj gs) 0)) /\ H' Fa = some (.lst (((bF (phi gs) gs.length).map fun i : Nat => (i : Int)).map V.int))) ?_ (fun D' nxt => ?_)
 rotate_left
 ·have ngN : go ≠ Nn:=aJ hgo (s4 _ _ hN3) (by intro z; cases z)
  have ngF : go ≠ Fa:=fun z => by rw [z,hF3] at fgo; cases fgo
  refine ⟨_,rfl,go,rfl,⟨_,qL_ hgo⟩,xY (K:=K) (xs:=gs.map V.int) (fun i σ' H' => ∃ v6 v7 : OV,σ' = [some (.ref m),some (.ref l),some (.ref m1),some (.ref Nn),some (.ref Fa),some (.ref go),v6,v7] /\ (∀ c u,c ≠ Nn -> c ≠ Fa -> H4 c = some u -> H' c = some u) /\ H' Nn = some (.dK (kvN (bj (gs.take i)) 0)) /\ H' Fa = some (.lst (((bF (phi gs) i).map fun i : Nat => (i : Int)).map V.int)))
   ⟨none,none,rfl,fun _ _ _ _ e => e,s4 _ _ hN3,s4 _ _ hF3⟩ (fun i σ' H' _ ⟨_,_,_,e,_⟩ => qL_ (e _ _ ngN ngF hgo)) ?_ ?_⟩
  ·rintro i y σ' H5 T hi ⟨v6,v7,rfl,kp5,hN5,hF5⟩ hT
   obtain ⟨gg,rfl,hgg⟩:=bw hi
   have il:=(gi_ hgg).1
   have sT:=aq hT (HO.tup [V.int i,V.int gg])
   obtain ⟨H6,eH6⟩ : ∃ H6,upd H5 T (HO.tup [V.int i,V.int gg]) = H6:=⟨_,rfl⟩
   have hT6 : H6 T = some (.tup [V.int i,V.int gg]):=by rw [<- eH6]; exact af
   rw [eH6] at sT ⊢
   have hN6:=sT _ _ hN5
   have hF6:=sT _ _ hF5
   have ol:=p6 (gs.take i)
   rw [List.length_take] at ol
   have cp:=yz gs (m:=i) (by omega)
   have fl:=iJ (phi gs) i
   refine ⟨T,_,rfl,qT_ hT6,rfl,_,_,rfl,_,_,rfl,rfl,?_⟩
   refine ⟨_,rfl,_,rfl,Nn,_,rfl,DGet.k (k:=Sum.inl gg) hN6,_,rfl,?_⟩
   rw [me]
   by_cases c : gg ∈ bj (gs.take i)
   ·rw [if_pos c]
    refine gH ⟨_,_,rfl,fun c' u c1 c2 e => sT _ _ (kp5 c' u c1 c2 e),by rw [hN6,hX hgg,js c],?_⟩
    have ph:=uu hgg c
    have lt:=List.idxOf_lt_length_of_mem c
    rw [hF6,sS,if_neg (by rw [ph,cp]; omega),List.append_nil]
   ·rw [if_neg c]
    refine wR ⟨_,rfl,Nn,_,rfl,hN6,_,rfl,_,rfl,Nn,_,rfl,DPut.k (k:=Sum.inl gg) hN6 (aB (by rw [kA]; omega)),?_⟩
    rw [kA,yM c]
    have nFN : Fa ≠ Nn:=Ne.symm nNF
    have ph:=ur hgg c
    refine ⟨_,rfl,.inl ⟨rfl,_,qL_ (by rw [aj nFN]; exact hF6)⟩,_,rfl,Fa,_,_,rfl,rfl,(by rw [aj nFN]; exact hF6),aB (by rw [lm_,lm_,fl,cp]; omega),?_⟩
    refine ⟨_,_,rfl,fun c' u c1 c2 e => by rw [aj c2,aj c1]; exact sT _ _ (kp5 c' u c1 c2 e),by rw [aj nNF,af,hX hgg,fI c],?_⟩
    rw [af,sS,if_pos (by rw [ph,cp]),List.map_append,List.map_append]
    rfl
  ·rintro σ' H5 ⟨v6,v7,rfl,kp5,hN5,hF5⟩
   rw [lm_,List.take_length] at hN5
   rw [lm_] at hF5
   exact nxt _ _ ⟨v6,v7,rfl,kp5,hN5,hF5⟩
 rintro σ' H5 ⟨v6,v7,rfl,kp5,hN5,hF5⟩
 have s5 : Same H H5:=fun c u e => kp5 c u (fun z => by rw [z,fN] at e; cases e) (fun z => by rw [z,fF] at e; cases e) (sH4 _ _ (s2 _ _ e))
 have M5 : MachAt H5 m1 r1 g1 wide (bI rows (rho qs) qs) (bL signs qs):=M4.same fun b xs e => kp5 b _ (aJ e (s4 _ _ hN3) (by intro z; cases z)) (aJ e (s4 _ _ hF3) (by intro z; cases z)) e
 have hgo5 : H5 go = some (.lst (gs.map V.int)):=kp5 _ _ (aJ hgo (s4 _ _ hN3) (by intro z; cases z)) (fun z => by rw [z,hF3] at fgo; cases fgo) hgo
 have plg : (dv gs).length = gs.length:=by unfold dv; rw [lm_,List.length_range]
 refine ⟨_,rfl,_,rfl,_,rfl,go,rfl,⟨_,qL_ hgo5⟩,?_⟩
 refine fG (K:=K) (xs:=gs.map V.int) (fun D i ys H' => Same H5 H' /\ ys = ((dv gs).take i).map V.int) (fun D hD => ⟨aq hD _,rfl⟩) (fun D i ys H' _ ⟨e,_⟩ => qL_ (e _ _ hgo5)) ?_ ?_
 ·rintro D i y ys H6 Q' hD hi hy ⟨s6,rfl⟩ k'
  obtain ⟨gg,rfl,hgg⟩:=bw hi
  have il:=(gi_ hgg).1
  have om : gg ∈ bj gs:=once_mem.mpr (mq_ hgg)
  have ph : phi gs (i : Int) = (((bj gs).idxOf gg : Nat) : Int):=by
   unfold phi
   rw [Int.toNat_natCast,List.getD_eq_getElem?_getD,hgg]
   rfl
  have dg : DGet H6 Nn (.int gg) (some (.int (phi gs (i : Int)))):=by
   have d:=DGet.k (k:=Sum.inl gg) (s6 _ _ hN5)
   rw [me,if_pos om,Nat.zero_add,<- ph] at d
   exact d
  have hp : (dv gs)[i]? = some (phi gs (i : Int)):=by
   unfold dv
   rw [List.getElem?_map,List.getElem?_range il]
   rfl
  refine ⟨_,rfl,_,rfl,Nn,_,rfl,dg,k' _ _ hy (aB (by rw [lm_,List.length_take]; omega)) ⟨aw s6 hD,?_⟩⟩
  rw [List.take_add_one,hp,List.map_append]
  rfl
 ·rintro L ys H6 fL hL ⟨s6,rfl⟩
  rw [lm_,<- plg,List.take_length] at hL
  have fi : ∀ q ∈ (bF (phi gs) gs.length).map (fun i : Nat => (i : Int)),0 <= q /\ q < (qs.length : Int):=fun q hq => by
   obtain ⟨i,hi,rfl⟩:=List.mem_map.mp hq
   have:=DX hi
   omega
  have flen : ((bF (phi gs) gs.length).map fun i : Nat => (i : Int)).length <= 1000:=by
   rw [lm_]
   have:=List.length_filter_le (fun q : Nat => decide (phi gs (q : Int) = (aR (phi gs) q : Int))) (List.range gs.length)
   rw [List.length_range] at this
   unfold bF
   omega
  refine .inr ⟨m1,Fa,L,r1,g1,qs.length,wide,_,_,_,phi gs,rfl,M5.same fun b xs e => s6 _ _ e,R1',lsg,⟨by omega,w1⟩,s6 _ _ hF5,flen,fi,⟨dv gs,hL,fun q hq t ht => ?_⟩,fun m' r' g' H7 s7 M7 => ?_⟩
  ·have qi:=fi q hq
   obtain ⟨f,hf,e⟩:=qe R1' qi.1 qi.2 ht
   have tv:=cn R1' qi.1 qi.2 (f:=(f : Int)) (by omega) (by omega)
   rw [<- e] at tv
   have tv1 : t < (gs.length : Int):=by rw [lg]; exact tv.2
   refine ⟨⟨tv.1,by rw [plg]; exact tv1⟩,?_⟩
   have:=p7 (gs:=gs) tv.1 tv1
   unfold a8 at this
   exact this.symm
  ·refine k m' r' g' _ _ H7 ((s5.trans s6).trans s7) M7 ?_
   have L:=z9 (signs:=signs) (gs:=gs) R (by omega) bf.eq bf.nd (fun q hq => bf.inr q hq) reF lg (fun x y hx hy => by
    have h:=hg (x : Int) (y : Int) ⟨by omega,by omega⟩ ⟨by omega,by omega⟩
    unfold a8 at h
    rw [Int.toNat_natCast,Int.toNat_natCast] at h
    exact h)
   have el : (qs.map fun q => (rows.getD q.toNat []).map (rho qs)).length = gs.length:=by rw [lm_,lg]
   rw [qc,el,<- lg] at L
   have e1 : bI (bI rows (rho qs) qs) (phi gs) ((bF (phi gs) gs.length).map fun i : Nat => (i : Int)) = (bF (phi gs) gs.length).map fun i => ((qs.map fun q => (rows.getD q.toNat []).map (rho qs)).getD i []).map (phi gs):=by
    unfold bI
    rw [List.map_map]
    rfl
   have e2 : bL (bL signs qs) ((bF (phi gs) gs.length).map fun i : Nat => (i : Int)) = (bF (phi gs) gs.length).map fun q => (qs.map fun q => signs.getD q.toNat 0).getD q 0:=by
    unfold bL
    rw [List.map_map]
    rfl
   rw [e1,e2]
   exact L
end
def cw (b : Int) : LI -> Int
 | [] => 0
 | p :: r => p + b * cw b r
def iW (m : Int) : LI -> LI
 | [] => []
 | p :: r => p % m :: p / m :: iW m r
def InB (b : Int) (ps : LI) : Prop := ∀ p ∈ ps,0 <= p /\ p < b
theorem InB.nil {b : Int} : InB b []:=fun p h => by cases h
theorem InB.cons {b p : Int} {r : LI} (h0 : 0 <= p) (h1 : p < b) (h : InB b r) : InB b (p :: r):=fun x hx => by
 rcases List.mem_cons.mp hx with z | z
 ·rw [z]; exact ⟨h0,h1⟩
 ·exact h x z
theorem InB.tail {b p : Int} {r : LI} (h : InB b (p :: r)) : InB b r:=fun x hx => h x (List.mem_cons_of_mem _ hx)
theorem rq (m : Int) : ∀ ps : LI,(iW m ps).length = 2 * ps.length
 | [] => rfl
 | p :: r => by simp only [iW,List.length_cons,rq m r]; omega
theorem zY {m : Int} (hm : 0 < m) : ∀ {ps : LI},InB (m * m) ps -> InB m (iW m ps)
 | [],_ => InB.nil
 | p :: r,h => by
  have hp:=h p List.mem_cons_self
  have d0 : 0 <= p / m:=Int.ediv_nonneg hp.1 (Int.le_of_lt hm)
  have d1 : p / m < m:=Int.ediv_lt_of_lt_mul hm hp.2
  exact InB.cons (Int.emod_nonneg p (by omega)) (Int.emod_lt_of_pos p hm) (InB.cons d0 d1 (zY hm h.tail))
theorem xZ (m : Int) : ∀ ps : LI,cw m (iW m ps) = cw (m * m) ps
 | [] => rfl
 | p :: r => by
  have e:=Int.emod_add_mul_ediv p m
  simp only [iW,cw,xZ m r]
  rw [Int.mul_add,<- Int.add_assoc,e,Int.mul_assoc]
theorem pM (m : Int) : ∀ (ps : LI) (x : Int),iW m (ps ++ [x]) = iW m ps ++ [x % m,x / m]
 | [],x => rfl
 | p :: r,x => by simp only [List.cons_append,iW,pM m r x]
theorem tw {b : Int} (hb : 0 <= b) : ∀ {ps : LI},InB b ps -> 0 <= cw b ps
 | [],_ => Int.le_refl 0
 | p :: r,h => Int.add_nonneg (h p List.mem_cons_self).1 (Int.mul_nonneg hb (tw hb h.tail))
theorem lV (b : Int) : ∀ (ps qs : LI),cw b (ps ++ qs) = cw b ps + b ^ ps.length * cw b qs
 | [],qs => by simp [cw]
 | p :: r,qs => by
  simp only [List.cons_append,cw,lV b r qs,List.length_cons]
  rw [Int.mul_add,Int.pow_succ,Int.add_assoc,<- Int.mul_assoc,Int.mul_comm b (b ^ r.length)]
theorem yo (b : Int) (ps : LI) (x : Int) : cw b (ps ++ [x]) = cw b ps + x * b ^ ps.length:=by
 rw [lV]
 simp [cw,Int.mul_comm]
def pw (w : Int) : Nat -> Int
 | 0 => w
 | i + 1 => pw w i * pw w i
theorem y4 {w : Int} (h : 2 <= w) : ∀ i,2 <= pw w i
 | 0 => h
 | i + 1 => by
  have q:=y4 h i
  have:=Int.mul_le_mul q q (by decide) (by omega)
  show 2 <= pw w i * pw w i
  omega
theorem Ia {w : Int} (h : 2 <= w) (i : Nat) : pw w i < pw w (i + 1):=by
 have q:=y4 h i
 have:=Int.mul_le_mul q (Int.le_refl (pw w i)) (by omega) (by omega)
 show pw w i < pw w i * pw w i
 omega
theorem HZ {w : Int} (h : 2 <= w) : ∀ i : Nat,(2 : Int) ^ (2 ^ i) <= pw w i
 | 0 => by simpa [pw] using h
 | i + 1 => by
  have q:=HZ h i
  have e : (2 : Int) ^ (2 ^ (i + 1)) = 2 ^ (2 ^ i) * 2 ^ (2 ^ i):=by
   rw [Nat.pow_succ,Nat.mul_two,Int.pow_add]
  rw [e]
  have p0 : (0 : Int) <= 2 ^ (2 ^ i):=Int.le_of_lt (Int.pow_pos (by decide))
  exact Int.mul_le_mul q q p0 (Int.le_trans p0 q)
def NB : Int:=2 ^ 1100
theorem A4 : NB * NB < BIG:=by decide +kernel
theorem A5 : 2 < NB:=by decide +kernel
theorem Gu {w n : Int} {t : Nat} (h : 2 <= w) (hp : pw w t <= n) (hn : n < NB) : 2 ^ t < 1100:=by
 have q:=HZ h t
 have q2 : (2 : Int) ^ (2 ^ t) < 2 ^ 1100:=Int.lt_of_le_of_lt (Int.le_trans q hp) hn
 have q3 : (2 : Nat) ^ (2 ^ t) < 2 ^ 1100:=by exact_mod_cast q2
 exact (Nat.pow_lt_pow_iff_right (by decide)).mp q3
def pws (w : Int) (t : Nat) : LI:=(List.range t).map (pw w)
theorem Gv (w : Int) (t : Nat) : pws w (t + 1) = pws w t ++ [pw w t]:=by
 unfold pws
 rw [List.range_succ,List.map_append]
 rfl
theorem uw (w : Int) (t : Nat) : (pws w t).length = t:=by simp [pws]
theorem HF {w : Int} {t i : Nat} (h : i < t) : (pws w t)[i]? = some (pw w i):=by simp [pws,h]
structure Figs (w n : Int) (ds : LI) : Prop where
 inb : InB w ds
 val : cw w ds = n
 top : ∀ d,ds.getLast? = some d -> d ≠ 0
theorem vn (ds : LI) : ds = [] \/ ∃ r x,ds = r ++ [x]:=by
 rcases List.eq_nil_or_concat ds with h | ⟨r,x,h⟩
 ·exact .inl h
 ·exact .inr ⟨r,x,by simpa using h⟩
def zj : Sp:=fun vs H Q _ => ∃ z : Int,vs = [.int z] /\ Q (.bl true) H
def CH : Sp:=fun vs H Q _ => ∃ z y : Int,vs = [.int z,.int y] /\ Q (.bl (decide (y <= z))) H
def CI : Sp:=fun vs H Q _ => ∃ (z y : Int) (x : Str),vs = [.int z,.int y,.str x] /\ y <= z /\ Q .non H
def vV (K : PySem.W.Frag) : Sp:=fun vs H Q _ => ∃ (a : Addr) (m : Int) (ps : LI),vs = [.ref a,.int m] /\ SqL K H a (ps.map V.int) /\ ps.length <= 5000 /\ (0 < m /\ m < BIG) /\
 ∀ (l : Addr) (H' : Hp),Same H H' -> H l = none -> H' l = some (.lst ((iW m ps).map V.int)) -> Q (.ref l) H'
def sx (K : PySem.W.Frag) : Sp:=fun vs H Q _ => ∃ n w : Int,vs = [.int n,.int w] /\ (0 <= n /\ n < NB) /\ (2 <= w /\ w < NB) /\
 ∀ (t : Addr) (H' : Hp) (ds : LI),Same H H' -> H' t = some (.tup (ds.map V.int)) -> Figs w n ds -> ds.length <= 5000 -> Q (.ref t) H'
section
variable {P : Program} {w : World} {K : PySem.W.Frag} {mg : Str -> Option Value} {base : Heap} {f : Addr} {fd : FuncData} {dV : Value}
theorem AL : FnScope ["thing"] ["thing"] (ah fU):=⟨rfl,rfl,rfl,by decide +kernel,rfl,by decide +kernel,by decide +kernel⟩
theorem si : FnScope ["thing","least"] ["thing","least"] (ah cf):=⟨rfl,rfl,rfl,by decide +kernel,rfl,by decide +kernel,by decide +kernel⟩
theorem xD : FnScope ["thing","least","called"] ["thing","least","called"] (ah dj):=⟨rfl,rfl,rfl,by decide +kernel,rfl,by decide +kernel,by decide +kernel⟩
theorem sc_figures : FnScope ["number","wide","powers","power","parts","middle"] ["number","wide"] (ah h7):=⟨rfl,rfl,rfl,by decide +kernel,rfl,by decide +kernel,by decide +kernel⟩
theorem sc_halved : FnScope ["parts","middle","halves","part"] ["parts","middle"] (ah jE):=⟨rfl,rfl,rfl,by decide +kernel,rfl,by decide +kernel,by decide +kernel⟩
theorem An (F : FunD K "is_whole" "is_whole" fU dV f fd) (az : mg "isinstance" = none) (qp : mg "int" = none) (sH : mg "bool" = none) : FnOk P w K mg base CX0 1 f fd ["thing"] zj:=by
 refine F.ok AL (fun vs H Q E h => ?_) (fun cdv A outer s H vs Q E hr h => ?_)
 ·obtain ⟨z,rfl,_⟩:=h
  rfl
 obtain ⟨z,rfl,q⟩:=h
 refine ⟨_,(ao (aI (Cj (aA ir (by rfl) az aQ (aa (pv 0) (aa (iX (v:=.ty "int") rfl qp Be rfl) ae))) (Cn (IX (aA ir (by rfl) az aQ (aa (pv 0) (aa (iX (v:=.ty "bool") rfl sH C5 rfl) ae)))))))),?_⟩
 refine ⟨_,rfl,_,_,_,_,rfl,TyOf.int z,lL K,_,rfl,wR ?_⟩
 exact ⟨_,rfl,_,_,_,_,rfl,TyOf.int z,ky K,_,rfl,q⟩
theorem Hr (F : FunD K "is_whole_from" "is_whole_from" cf dV f fd) (mV : DefOk P w K mg base "is_whole" 1 ["thing"] [] zj) : FnOk P w K mg base CX0 2 f fd ["thing","least"] CH:=by
 refine F.ok si (fun vs H Q E h => ?_) (fun cdv A outer s H vs Q E hr h => ?_)
 ·obtain ⟨z,y,rfl,_⟩:=h
  rfl
 obtain ⟨z,y,rfl,q⟩:=h
 refine ⟨_,(ao (aI (Cj (aV mV hr (aa (pv 0) ae)) (Cn (hV FZ (pv 0) (pv 1) (aW _)))))),?_⟩
 exact ⟨_,rfl,z,rfl,_,rfl,wR ⟨_,rfl,_,rfl,_,_,rfl,rfl,q⟩⟩
theorem Hs (F : FunD K "need_whole" "need_whole" dj dV f fd) (gj : DefOk P w K mg base "is_whole_from" 2 ["thing","least"] [] CH) : FnOk P w K mg base CX0 3 f fd ["thing","least","called"] CI:=by
 refine F.ok xD (fun vs H Q E h => ?_) (fun cdv A outer s H vs Q E hr h => ?_)
 ·obtain ⟨z,y,x,rfl,_⟩:=h
  rfl
 obtain ⟨z,y,x,rfl,hy,q⟩:=h
 refine ⟨_,(ao (bS (fS (fc (aV gj hr (aa (pv 0) (aa (pv 1) ae))))) (ao AD) aX)),?_⟩
 refine ⟨_,rfl,_,rfl,z,y,rfl,_,rfl,JI hy ?_⟩
 exact q
theorem Eu (F : FunD K "halved" "halved" jE dV f fd) : FnOk P w K mg base CX0 1 f fd ["parts","middle"] (vV K):=by
 refine F.ok sc_halved (fun vs H Q E h => ?_) (fun cdv A outer s H vs Q E hr h => ?_)
 ·obtain ⟨a,m,ps,rfl,_⟩:=h
  rfl
 obtain ⟨a,m,ps,rfl,hS,hl,⟨m0,m1⟩,k⟩:=h
 refine ⟨_,(ag (au (i:=2) sc_halved.nd rfl (Or.inl rfl) (bR ae))
   (ag (bu PassesOwn.never rfl (ck (pv 0)) (ax (i:=3) sc_halved.nd rfl (Or.inl rfl)) (ag (bq (fj PySem.F.plainAttrs_list PySem.F.slot_list_append PySem.F.type_list_append bD (pv 2) (aa (ay bc (pv 3) (pv 1)) ae)))
   (ao (bq (fj PySem.F.plainAttrs_list PySem.F.slot_list_append PySem.F.type_list_append bD (pv 2) (aa (ay FY (pv 3) (pv 1)) ae))))))
   (ao (aI (pv 2))))),?_⟩
 refine ⟨(by show 0 <= sizeLine; decide),fun l hl0 => ?_⟩
 refine ⟨_,rfl,a,rfl,⟨_,(aq hl0 _).seq hS⟩,dz (K:=K) (xs:=ps.map V.int) (fun i σ' H' => ∃ v,σ' = [some (.ref a),some (.int m),some (.ref l),v] /\ Same H H' /\ H' l = some (.lst ((iW m (ps.take i)).map V.int)))
  ⟨none,rfl,aq hl0 _,af⟩ (fun i σ' H' _ ⟨_,_,s,_⟩ => s.seq hS) ?_ ?_⟩
 ·rintro i y σ' H' hi ⟨v,rfl,s1,h1⟩
  obtain ⟨z,rfl,hz⟩:=bw hi
  have hi' : i < ps.length:=(gi_ hz).1
  have l1 : ((iW m (ps.take i)).map V.int).length <= 10000:=by
   rw [lm_,rq,List.length_take]
   omega
  have big : 10002 < sizeLine:=by decide
  refine ⟨_,rfl,.inl ⟨rfl,_,qL_ h1⟩,_,rfl,_,rfl,_,_,rfl,rfl,m0,l,_,_,rfl,rfl,h1,by omega,?_⟩
  refine ⟨_,rfl,.inl ⟨rfl,_,qL_ af⟩,_,rfl,_,rfl,_,_,rfl,rfl,⟨m0,m1⟩,l,_,_,rfl,rfl,af,by rw [List.length_append]; simp only [List.length_singleton]; omega,?_⟩
  refine ⟨_,rfl,aw (aw s1 hl0) hl0,?_⟩
  rw [af,List.take_add_one,hz]
  show _ = some (HO.lst ((iW m (ps.take i ++ [z])).map V.int))
  rw [pM,List.map_append,List.append_assoc]
  rfl
 ·rintro σ' H' ⟨v,rfl,s1,h1⟩
  rw [lm_,List.take_length] at h1
  exact ⟨_,rfl,k l H' s1 hl0 h1⟩
theorem B8 (F : FunD K "figures" "figures" h7 dV f fd) (gT : DefOk P w K mg base "need_whole" 3 ["thing","least","called"] [] CI) (uA : DefOk P w K mg base "halved" 1 ["parts","middle"] [] (vV K))
  (oZ : mg "reversed" = none) (aO : mg "tuple" = none) : FnOk P w K mg base CX0 4 f fd ["number","wide"] (sx K):=by
 refine F.ok sc_figures (fun vs H Q E h => ?_) (fun cdv A outer s H vs Q E hr h => ?_)
 ·obtain ⟨n,w,rfl,_⟩:=h
  rfl
 obtain ⟨n,wd,rfl,⟨n0,n1⟩,⟨w0,w1⟩,k⟩:=h
 have hbig : ∀ {x y : Int},0 <= x -> x < NB -> 0 <= y -> y < NB -> x * y < BIG:=fun {x y} hx hx' hy hy' =>
  Int.lt_of_le_of_lt (Int.mul_le_mul (Int.le_of_lt hx') (Int.le_of_lt hy') hy (Int.le_trans hx (Int.le_of_lt hx'))) A4
 have nbig : ∀ {x : Int},0 <= x -> x < NB -> x < BIG:=fun {x} hx hx' => by
  have:=A5
  have:=A4
  have q : NB * 1 <= NB * NB:=Int.mul_le_mul (Int.le_refl _) (by omega) (by decide) (by omega)
  omega
 refine ⟨_,(ag (bq (aV gT hr (aa (pv 0) (aa ak (aa Co ae)))))
   (ag (bq (aV gT hr (aa (pv 1) (aa ak (aa Co ae)))))
   (ag (au (i:=2) sc_figures.nd rfl (Or.inl rfl) (bR ae))
   (ag (au (i:=3) sc_figures.nd rfl (Or.inl rfl) (pv 1))
   (ag (jB PassesOwn.never (aS F1 (pv 3) (pv 0) (aW _)) (ag (bq (fj PySem.F.plainAttrs_list PySem.F.slot_list_append PySem.F.type_list_append bD (pv 2) (aa (pv 3) ae)))
   (ao (au (i:=3) sc_figures.nd rfl (Or.inl rfl) (ay Ds (pv 3) (pv 3))))))
   (ag (au (i:=4) sc_figures.nd rfl (Or.inl rfl) (bR (aa (pv 0) ae)))
   (ag (bu PassesOwn.never rfl (Ja rfl oZ (aa (pv 2) ae)) (ax (i:=5) sc_figures.nd rfl (Or.inl rfl)) (ao (au (i:=4) sc_figures.nd rfl (Or.inl rfl) (aV uA hr (aa (pv 4) (aa (pv 5) ae))))))
   (ag (jB PassesOwn.never (PW.pt (se (jC (pv 4) (fun _ => rfl)) (mi (aS eY (aL eN (pv 4) (JN Js ak) (fun _ _ => rfl)) ak (aW _))))) (ao (bq (Ck PySem.F.plainAttrs_list PySem.F.slot_list_pop PySem.F.type_list_pop FF (pv 4)))))
   (ao (aI (a9 a7 (by rfl) aO bP (aa (pv 4) ae)))))))))))),?_⟩
 refine ⟨_,rfl,n,0,_,rfl,n0,?_⟩
 refine ⟨_,rfl,wd,2,_,rfl,w0,?_⟩
 refine ⟨(by show 0 <= sizeLine; decide),fun L hL => ?_⟩
 refine ⟨_,rfl,?_⟩
 try dsimp only [bB]
 refine cZ (t:=lU _ _) (fun σ' H' => ∃ t : Nat,σ' = [some (.int n),some (.int wd),some (.ref L),some (.int (pw wd t)),none,none] /\ Same H H' /\ H' L = some (.lst ((pws wd t).map V.int)) /\ n < pw wd t /\ (t = 0 \/ pw wd (t - 1) <= n)) ?_ (fun nxt => ?_)
 rotate_left
 ·refine mw (fun m σ' H' => ∃ t : Nat,m = (n + 1 - pw wd t).toNat /\ σ' = [some (.int n),some (.int wd),some (.ref L),some (.int (pw wd t)),none,none] /\ Same H H' /\ H' L = some (.lst ((pws wd t).map V.int)) /\ (t = 0 \/ pw wd (t - 1) <= n))
   ⟨_,0,rfl,rfl,aq hL _,af,.inl rfl⟩ ?_
  rintro m σ' H' ⟨t,rfl,rfl,s1,h1,ht⟩
  refine ⟨_,rfl,_,rfl,_,_,rfl,rfl,_,rfl,kX (fun c => ?_) (fun c => ?_)⟩
  ·have c' : pw wd t <= n:=c
   have p2:=y4 w0 t
   have few:=Gu w0 c' n1
   have lt2 : t < 2 ^ t:=Nat.lt_two_pow_self
   have plt:=Ia w0 t
   refine ⟨fun σ' H' => ∃ m',m' < (n + 1 - pw wd t).toNat /\ ∃ t : Nat,m' = (n + 1 - pw wd t).toNat /\ σ' = [some (.int n),some (.int wd),some (.ref L),some (.int (pw wd t)),none,none] /\ Same H H' /\ H' L = some (.lst ((pws wd t).map V.int)) /\ (t = 0 \/ pw wd (t - 1) <= n),fun σ' H' h => h,?_⟩
   refine ⟨_,rfl,.inl ⟨rfl,_,qL_ h1⟩,_,rfl,L,_,_,rfl,rfl,h1,?_,?_⟩
   ·rw [lm_,uw]
    have big : (1101 : Nat) < sizeLine:=by decide
    omega
   refine ⟨_,rfl,_,rfl,_,_,rfl,rfl,⟨⟨by omega,nbig (by omega) (by omega)⟩,⟨by omega,nbig (by omega) (by omega)⟩⟩,_,?_,t + 1,rfl,rfl,aw s1 hL,?_,.inr c'⟩
   ·show (n + 1 - pw wd (t + 1)).toNat < _
    omega
   ·rw [af,Gv,List.map_append]
    rfl
  ·exact nxt _ _ ⟨t,rfl,s1,h1,by omega,ht⟩
 rintro σ' H1 ⟨t,rfl,s1,h1,hn,ht⟩
 have few : 2 ^ t <= 2200:=by
  rcases ht with z | z
  ·rw [z]; decide
  ·rcases t with _ | t
   ·decide
   ·have:=Gu w0 z n1
    rw [Nat.pow_succ]
    simp only [Nat.add_sub_cancel] at this
    omega
 refine ⟨_,rfl,(by show 1 <= sizeLine; decide),fun D0 hD0 => ?_⟩
 have s2:=s1.trans (aq hD0 (HO.lst [V.int n]))
 have nL : L ≠ D0:=av h1 hD0
 try dsimp only [bB]
 refine cZ (t:=oX _ _ _) (fun σ' H' => ∃ (D : Addr) (v : OV) (ps : LI),σ' = [some (.int n),some (.int wd),some (.ref L),some (.int (pw wd t)),some (.ref D),v] /\ Same H H' /\ H D = none /\ H' D = some (.lst (ps.map V.int)) /\ InB wd ps /\ cw wd ps = n /\ ps.length <= 2200) ?_ (fun nxt => ?_)
 rotate_left
 ·refine ⟨_,rfl,L,_,rfl,qL_ (by rw [aj nL]; exact h1),G7 (K:=K) (xs:=(pws wd t).map V.int) (fun i σ' H' => ∃ (D : Addr) (v : OV) (ps : LI),σ' = [some (.int n),some (.int wd),some (.ref L),some (.int (pw wd t)),some (.ref D),v] /\ Same H1 H' /\ H1 D = none /\ H' D = some (.lst (ps.map V.int)) /\ InB (pw wd (t - i)) ps /\ cw (pw wd (t - i)) ps = n /\ ps.length = 2 ^ i)
   ⟨D0,none,[n],rfl,aq hD0 _,hD0,af,InB.cons n0 hn InB.nil,by simp [cw],rfl⟩ (fun i σ' H' _ ⟨_,_,_,_,s,_⟩ => qL_ (s _ _ h1)) ?_ ?_⟩
  ·rintro i y σ' H' hi hy ⟨D,v,ps,rfl,s3,fD,hD,hin,hval,hlen⟩
   rw [lm_,uw] at hi
   rw [lm_,uw] at hy
   have e1 : t - i = (t - 1 - i) + 1:=by omega
   have e2 : t - (i + 1) = t - 1 - i:=by omega
   obtain ⟨z,rfl,hz⟩:=bw hy
   rw [HF (show t - 1 - i < t by omega)] at hz
   cases hz
   rw [e1] at hin hval
   have hp:=y4 w0 (t - 1 - i)
   have hle : pw wd (t - 1 - i) <= n:=by
    rcases ht with z | z
    ·omega
    ·have mono : ∀ a b : Nat,pw wd a <= pw wd (a + b):=fun a b => by
      induction b with
      | zero => exact Int.le_refl _
      | succ b ih => exact Int.le_trans ih (Int.le_of_lt (Ia w0 (a + b)))
     have:=mono (t - 1 - i) i
     rw [show t - 1 - i + i = t - 1 by omega] at this
     omega
   have li : 2 ^ i <= 2 ^ t:=Nat.pow_le_pow_right (by decide) (by omega)
   refine ⟨_,rfl,_,rfl,D,_,ps,rfl,qL_ hD,by omega,⟨by omega,nbig (by omega) (by omega)⟩,fun l H'' s4 fl hl => ?_⟩
   refine ⟨l,_,iW (pw wd (t - 1 - i)) ps,rfl,s3.trans s4,s3.free fl,hl,?_,?_,?_⟩
   ·rw [e2]; exact zY (by omega) hin
   ·rw [e2,xZ]; exact hval
   ·rw [rq,hlen,Nat.pow_succ]; omega
  ·rintro σ' H' ⟨D,v,ps,rfl,s3,fD,hD,hin,hval,hlen⟩
   rw [lm_,uw] at hin hval hlen
   rw [Nat.sub_self] at hin hval
   exact nxt _ _ ⟨D,v,ps,rfl,s1.trans s3,s1.free fD,hD,hin,hval,by omega⟩
 rintro σ' H2 ⟨D,v,ps,rfl,s3,fD,hD,hin,hval,hlen⟩
 try dsimp only [bB]
 refine cZ (t:=lU _ _) (fun σ' H' => ∃ ps : LI,σ' = [some (.int n),some (.int wd),some (.ref L),some (.int (pw wd t)),some (.ref D),v] /\ Same H H' /\ H' D = some (.lst (ps.map V.int)) /\ Figs wd n ps /\ ps.length <= 2200) ?_ (fun nxt => ?_)
 rotate_left
 ·refine mw (fun m σ' H' => ∃ ps : LI,m = ps.length /\ σ' = [some (.int n),some (.int wd),some (.ref L),some (.int (pw wd t)),some (.ref D),v] /\ Same H H' /\ H' D = some (.lst (ps.map V.int)) /\ InB wd ps /\ cw wd ps = n /\ ps.length <= 2200) ⟨_,ps,rfl,rfl,s3,hD,hin,hval,hlen⟩ ?_
  rintro m σ' H' ⟨ps,rfl,rfl,s4,h4,hin,hval,hlen⟩
  rcases vn ps with rfl | ⟨r,x,rfl⟩
  ·refine ⟨_,rfl,_,.inl ⟨_,qL_ h4,rfl⟩,gH (gH ?_)⟩
   exact nxt _ _ ⟨[],rfl,s4,h4,⟨hin,hval,fun d h => by cases h⟩,hlen⟩
  ·have ix : atI ((r ++ [x]).map V.int) (-1) = some (.int x):=by
    rw [List.map_append]
    exact E2 _ _
   refine ⟨_,rfl,_,.inl ⟨_,qL_ h4,rfl⟩,?_⟩
   have ne : (!((r ++ [x]).map V.int).isEmpty) = true:=by simp
   rw [ne]
   refine wR ⟨_,rfl,_,rfl,D,_,_,_,rfl,rfl,qL_ h4,ix,rfl,_,rfl,nQ (fun c => ?_) (fun c => ?_)⟩
   ·have hr : cw wd r = n:=by
     rw [yo,c,Int.zero_mul,Int.add_zero] at hval
     exact hval
    refine ⟨fun σ' H' => ∃ m',m' < (r ++ [x]).length /\ ∃ ps : LI,m' = ps.length /\ σ' = [some (.int n),some (.int wd),some (.ref L),some (.int (pw wd t)),some (.ref D),v] /\ Same H H' /\ H' D = some (.lst (ps.map V.int)) /\ InB wd ps /\ cw wd ps = n /\ ps.length <= 2200,fun σ' H' h => h,?_⟩
    refine ⟨_,rfl,.inl ⟨rfl,_,qL_ h4⟩,D,_,V.int x,rfl,rfl,h4,by simp,?_⟩
    ·refine ⟨r.length,by simp,r,rfl,rfl,aw s4 fD,?_,fun p hp => hin p (List.mem_append_left _ hp),hr,?_⟩
     ·rw [af,List.map_append]
      show some (HO.lst ((r.map V.int ++ [V.int x]).dropLast)) = _
      rw [List.dropLast_concat]
     ·rw [List.length_append] at hlen
      omega
   ·exact nxt _ _ ⟨r ++ [x],rfl,s4,h4,⟨hin,hval,fun d h => by
     rw [List.getLast?_concat] at h
     cases h
     exact c⟩,hlen⟩
 rintro σ' H3 ⟨ps,rfl,s4,h4,FG,hlen⟩
 refine ⟨_,rfl,D,_,rfl,.inl ⟨qL_ h4,fun T hT => ?_⟩⟩
 exact k T _ ps (s4.trans (aq hT _)) af FG (by omega)
end
def CJ (K : PySem.W.Frag) : Sp:=fun vs H Q _ => ∃ (m r g b : Addr) (st : Int) (many wide : Nat) (rows : LL) (signs ns : LI),vs = [.ref m,.ref b,.int st] /\ MachAt H m r g wide rows signs /\ RowsOk many wide rows /\
 (SqL K H b (ns.map V.int) \/ SqT K H b (ns.map V.int)) /\ (∀ z ∈ ns,0 <= z /\ z < (wide : Int)) /\ (0 <= st /\ st < (many : Int)) /\ Q (.int (aM rows ns st)) H
def CL (K : PySem.W.Frag) : Sp:=fun vs H Q _ => ∃ (m r g b : Addr) (many wide : Nat) (rows : LL) (signs ns : LI),vs = [.ref m,.ref b] /\ MachAt H m r g wide rows signs /\ RowsOk many wide rows /\ signs.length = many /\ 1 <= many /\
 (SqL K H b (ns.map V.int) \/ SqT K H b (ns.map V.int)) /\ (∀ z ∈ ns,0 <= z /\ z < (wide : Int)) /\ Q (.int (signs.getD (aM rows ns 0).toNat 0)) H
theorem take_all {ns : LI} : ns.take ns.length = ns:=List.take_length
theorem HV {ns : LI} {i : Nat} {P : Int -> Prop} (h : ∀ z ∈ ns,P z) : ∀ z ∈ ns.take i,P z:=fun z hz => h z (List.mem_of_mem_take hz)
section
variable {P : Program} {w : World} {K : PySem.W.Frag} {mg : Str -> Option Value} {base : Heap} {f : Addr} {fd : FuncData} {dV : Value}
theorem sc_room : FnScope ["machine","row","start","rows","here","figure"] ["machine","row","start"] (ah sf):=⟨rfl,rfl,rfl,by decide +kernel,rfl,by decide +kernel,by decide +kernel⟩
theorem HJ : FnScope ["machine","row"] ["machine","row"] (ah sh):=⟨rfl,rfl,rfl,by decide +kernel,rfl,by decide +kernel,by decide +kernel⟩
theorem Ht (F : FunD K "room" "room" sf dV f fd) : FnOk P w K mg base CX0 1 f fd ["machine","row","start"] (CJ K):=by
 refine F.ok sc_room (fun vs H Q E h => ?_) (fun cdv A outer s H vs Q E hr h => ?_)
 ·obtain ⟨m,r,g,b,st,many,wide,rows,signs,ns,rfl,_⟩:=h
  rfl
 obtain ⟨m,r,g,b,st,many,wide,rows,signs,ns,rfl,M,R,hb,hin,⟨s0,s1⟩,q⟩:=h
 obtain ⟨hm,⟨ras,hr',hA⟩,hg⟩:=M
 have inv : ∀ i (z : Int),ns[i]? = some z -> ∃ (ra : Addr) (rr : LI),atI (ras.map V.ref) (aM rows (ns.take i) st) = some (.ref ra) /\ H ra = some (.tup (rr.map V.int)) /\ atI (rr.map V.int) z = some (.int (aM rows (ns.take (i + 1)) st)):=fun i z hz => by
  have w0:=bV R (ns:=ns.take i) (h:=st) (HV hin) s0 s1
  have hz' := hin z (mq_ hz)
  obtain ⟨ra,rr,e1,e2,e3⟩:=lQ hA R w0.1 w0.2 hz'.1 hz'.2
  exact ⟨ra,rr,e1,e2,by rw [CY hz]; exact e3⟩
 rcases hb with hb | hb
 ·refine ⟨_,(ag (au (i:=3) sc_room.nd rfl (Or.inl rfl) (aL aK (pv 0) ak (fun _ _ => rfl)))
   (ag (au (i:=4) sc_room.nd rfl (Or.inl rfl) (pv 2))
   (ag (bu PassesOwn.never rfl (ck (pv 1)) (ax (i:=5) sc_room.nd rfl (Or.inl rfl)) (ao (au (i:=4) sc_room.nd rfl (Or.inl rfl) (aL aK (aL aK (pv 3) (pv 4) (fun _ _ => rfl)) (pv 5) (fun _ _ => rfl)))))
   (ao (aI (pv 4)))))),?_⟩
  refine ⟨_,rfl,m,_,_,_,rfl,rfl,qT_ hm,rfl,?_⟩
  refine ⟨_,rfl,?_⟩
  refine ⟨_,rfl,b,rfl,⟨_,hb⟩,dz (K:=K) (xs:=ns.map V.int) (fun i σ' H' => ∃ v,σ' = [some (.ref m),some (.ref b),some (.int st),some (.ref r),some (.int (aM rows (ns.take i) st)),v] /\ H' = H) ⟨none,rfl,rfl⟩ (fun i σ' H' _ ⟨_,_,e⟩ => by rw [e]; exact hb) ?_ ?_⟩
  ·rintro i y σ' H' hi ⟨v,rfl,rfl⟩
   obtain ⟨z,rfl,hz⟩:=bw hi
   obtain ⟨ra,rr,e1,e2,e3⟩:=inv i z hz
   exact ⟨_,rfl,_,rfl,r,_,_,_,rfl,rfl,qT_ hr',e1,_,rfl,ra,_,_,_,rfl,rfl,qT_ e2,e3,_,rfl,rfl⟩
  ·rintro σ' H' ⟨v,rfl,rfl⟩
   refine ⟨_,rfl,?_⟩
   rw [lm_,take_all]
   exact q
 ·refine ⟨_,(ag (au (i:=3) sc_room.nd rfl (Or.inl rfl) (aL aK (pv 0) ak (fun _ _ => rfl)))
   (ag (au (i:=4) sc_room.nd rfl (Or.inl rfl) (pv 2))
   (ag (bu PassesOwn.never rfl (kM (pv 1)) (ax (i:=5) sc_room.nd rfl (Or.inl rfl)) (ao (au (i:=4) sc_room.nd rfl (Or.inl rfl) (aL aK (aL aK (pv 3) (pv 4) (fun _ _ => rfl)) (pv 5) (fun _ _ => rfl)))))
   (ao (aI (pv 4)))))),?_⟩
  refine ⟨_,rfl,m,_,_,_,rfl,rfl,qT_ hm,rfl,?_⟩
  refine ⟨_,rfl,?_⟩
  refine ⟨_,rfl,b,rfl,⟨_,hb⟩,pK (K:=K) (xs:=ns.map V.int) (fun i σ' H' => ∃ v,σ' = [some (.ref m),some (.ref b),some (.int st),some (.ref r),some (.int (aM rows (ns.take i) st)),v] /\ H' = H) ⟨none,rfl,rfl⟩ (fun i σ' H' _ ⟨_,_,e⟩ => by rw [e]; exact hb) ?_ ?_⟩
  ·rintro i y σ' H' hi ⟨v,rfl,rfl⟩
   obtain ⟨z,rfl,hz⟩:=bw hi
   obtain ⟨ra,rr,e1,e2,e3⟩:=inv i z hz
   exact ⟨_,rfl,_,rfl,r,_,_,_,rfl,rfl,qT_ hr',e1,_,rfl,ra,_,_,_,rfl,rfl,qT_ e2,e3,_,rfl,rfl⟩
  ·rintro σ' H' ⟨v,rfl,rfl⟩
   refine ⟨_,rfl,?_⟩
   rw [lm_,take_all]
   exact q
theorem Hu (F : FunD K "told" "told" sh dV f fd) (uB : DefOk P w K mg base "room" 1 ["machine","row","start"] [.int 0] (CJ K)) : FnOk P w K mg base CX0 2 f fd ["machine","row"] (CL K):=by
 refine F.ok HJ (fun vs H Q E h => ?_) (fun cdv A outer s H vs Q E hr h => ?_)
 ·obtain ⟨m,r,g,b,many,wide,rows,signs,ns,rfl,_⟩:=h
  rfl
 obtain ⟨m,r,g,b,many,wide,rows,signs,ns,rfl,M,R,hl,h1,hb,hin,q⟩:=h
 have w0:=bV R (ns:=ns) (h:=0) hin (by omega) (by omega)
 refine ⟨_,(ao (aI (aL aK (aL aK (pv 0) ak (fun _ _ => rfl)) (aV uB hr (aa (pv 0) (aa (pv 1) ae))) (fun _ _ => rfl)))),?_⟩
 refine ⟨_,rfl,m,_,_,_,rfl,rfl,qT_ M.tup,rfl,_,rfl,_,rfl,m,r,g,b,0,many,wide,rows,signs,ns,rfl,M,R,hb,hin,⟨by omega,by omega⟩,?_⟩
 exact ⟨g,_,_,_,rfl,rfl,qT_ M.sgn,cy w0.1 (by omega),q⟩
end
theorem Cy : FnScope ["machine","number"] ["machine","number"] (ah h8):=⟨rfl,rfl,rfl,by decide +kernel,rfl,by decide +kernel,by decide +kernel⟩
def CK (K : PySem.W.Frag) (turn : LI -> LI) : Sp:=fun vs H Q _ => ∃ (m r g : Addr) (n : Int) (many wide : Nat) (rows : LL) (signs : LI),vs = [.ref m,.int n] /\ MachAt H m r g wide rows signs /\ RowsOk many wide rows /\ signs.length = many /\ 1 <= many /\
 (0 <= n /\ n < NB) /\ (2 <= (wide : Int) /\ (wide : Int) < NB) /\ ∀ (H' : Hp) (ds : LI),Same H H' -> Figs wide n ds -> Q (.int (signs.getD (aM rows (turn ds) 0).toNat 0)) H'
section
variable {P : Program} {w : World} {K : PySem.W.Frag} {mg : Str -> Option Value} {base : Heap} {f : Addr} {fd : FuncData} {dV : Value} {C : Addr}
theorem Cg (F : FunD K "sign_at" "sign_at" h8 dV f fd) (A0 : DefOk P w K mg base "told" 2 ["machine","row"] [] (CL K)) (qt : DefOk P w K mg base "figures" 4 ["number","wide"] [] (sx K)) :
  FnOk P w K mg base CX0 5 f fd ["machine","number"] (CK K id):=by
 refine F.ok Cy (fun vs H Q E h => ?_) (fun cdv A outer s H vs Q E hr h => ?_)
 ·obtain ⟨m,r,g,n,many,wide,rows,signs,rfl,_⟩:=h
  rfl
 obtain ⟨m,r,g,n,many,wide,rows,signs,rfl,M,R,hl,h1,hn,hw,k⟩:=h
 refine ⟨_,(ao (aI (aV A0 hr (aa (pv 0) (aa (aV qt hr (aa (pv 1) (aa (aL aK (pv 0) ak (fun _ _ => rfl)) ae))) ae))))),?_⟩
 refine ⟨_,rfl,_,rfl,_,rfl,m,_,_,_,rfl,rfl,qT_ M.tup,rfl,n,wide,rfl,hn,hw,fun t H' ds s1 ht F' hl' => ?_⟩
 exact ⟨m,r,g,t,many,wide,rows,signs,ds,rfl,M.same fun b xs e => s1 _ _ e,R,hl,h1,.inr (qT_ ht),F'.inb,k H' ds s1 F'⟩
end
theorem zU {w : Int} (hw : 2 <= w) : ∀ {ds es : LI} {n : Int},Figs w n ds -> Figs w n es -> ds = es
 | [],[],_,_,_ => rfl
 | [],e :: es,n,h,h' => by
  exfalso
  have z : cw w (e :: es) = 0:=h'.val.trans h.val.symm
  exact no_zero hw h' z
 | d :: ds,[],n,h,h' => by
  exfalso
  have z : cw w (d :: ds) = 0:=h.val.trans h'.val.symm
  exact no_zero hw h z
 | d :: ds,e :: es,n,h,h' => by
  have hd:=h.inb d List.mem_cons_self
  have he:=h'.inb e List.mem_cons_self
  have v1 : d + w * cw w ds = n:=h.val
  have v2 : e + w * cw w es = n:=h'.val
  have e1 : n % w = d:=by rw [<- v1,Int.add_mul_emod_self_left]; exact Int.emod_eq_of_lt hd.1 hd.2
  have e2 : n % w = e:=by rw [<- v2,Int.add_mul_emod_self_left]; exact Int.emod_eq_of_lt he.1 he.2
  have ede : d = e:=e1.symm.trans e2
  have ev : cw w ds = cw w es:=by
   have : w * cw w ds = w * cw w es:=by omega
   exact Int.eq_of_mul_eq_mul_left (by omega) this
  have t1 : Figs w (cw w ds) ds:=⟨h.inb.tail,rfl,fun x hx => by
   cases ds with
   | nil => cases hx
   | cons a r => exact h.top x (by rw [List.getLast?_cons_cons]; exact hx)⟩
  have t2 : Figs w (cw w ds) es:=⟨h'.inb.tail,ev.symm,fun x hx => by
   cases es with
   | nil => cases hx
   | cons a r => exact h'.top x (by rw [List.getLast?_cons_cons]; exact hx)⟩
  rw [ede,zU hw t1 t2]
where
 no_zero {w : Int} (hw : 2 <= w) : ∀ {es : LI} {e n : Int},Figs w n (e :: es) -> cw w (e :: es) = 0 -> False
 | [],e,n,h,z => by
  have : e + w * 0 = 0:=z
  exact h.top e rfl (by omega)
 | a :: r,e,n,h,z => by
  have hz : e + w * cw w (a :: r) = 0:=z
  have he:=h.inb e List.mem_cons_self
  have hv:=tw (by omega : (0 : Int) <= w) h.inb.tail
  have : 0 <= w * cw w (a :: r):=Int.mul_nonneg (by omega) hv
  have z2 : w * cw w (a :: r) = 0:=by omega
  have z3 : cw w (a :: r) = 0:=by
   rcases Int.mul_eq_zero.mp z2 with q | q
   ·omega
   ·exact q
  exact no_zero hw (es:=r) (e:=a) (n:=cw w (a :: r)) ⟨h.inb.tail,rfl,fun x hx => h.top x (by rw [List.getLast?_cons_cons]; exact hx)⟩ z3
def gB (w : Nat) : Nat -> Nat -> LI
 | 0,_ => []
 | k + 1,F => ((F % w : Nat) : Int) :: gB w k (F / w)
theorem zM (w : Nat) : ∀ (k F : Nat),(gB w k F).length = k
 | 0,_ => rfl
 | k + 1,F => by rw [gB,List.length_cons,zM]
theorem pI {w : Nat} (w1 : 1 <= w) : ∀ (k F : Nat),InF w (gB w k F)
 | 0,_ => fun f hf => by cases hf
 | k + 1,F => fun f hf => by
  have:=Nat.mod_lt F (show 0 < w by omega)
  rcases List.mem_cons.mp (show f ∈ ((F % w : Nat) : Int) :: gB w k (F / w) from hf) with z | z
  ·rw [z]; omega
  ·exact pI w1 k _ f z
theorem q9 (w : Nat) : ∀ (k F : Nat),gB w (k + 1) F = gB w k F ++ [((F / w ^ k % w : Nat) : Int)]
 | 0,F => by simp [gB]
 | k + 1,F => by
  rw [gB,q9 w k (F / w),gB,List.cons_append,Nat.div_div_eq_div_mul,Nat.pow_succ,Nat.mul_comm w (w ^ k)]
theorem zN (w : Nat) : ∀ (k F : Nat),gB w k (F % w ^ k) = gB w k F
 | 0,_ => rfl
 | k + 1,F => by
  rw [gB,gB,Nat.pow_succ,Nat.mul_comm (w ^ k) w,Nat.mod_mul_right_mod,Nat.mod_mul_right_div_self,zN w k (F / w)]
theorem we {rows : LL} {v : LI} {f h : Int} : aM rows (v ++ [f]) h = stepI rows (aM rows v h) f:=by
 rw [cq]
 rfl
def vN (rows : LL) (w : Nat) (L : LI) : LI:=(List.range w).flatMap fun f : Nat => L.map fun h => stepI rows h (f : Int)
theorem zV {α : Type} {g : Nat -> List α} {n : Nat} (hg : ∀ i,(g i).length = n) (d : α) : ∀ (w f i : Nat),f < w -> i < n -> ((List.range w).flatMap g).getD (f * n + i) d = (g f).getD i d
 | 0,_,_,h,_ => absurd h (Nat.not_lt_zero _)
 | w + 1,f,i,hf,hi => by
  have ll : ∀ w : Nat,((List.range w).flatMap g).length = w * n:=fun w => by
   induction w with
   | zero => simp
   | succ w ih => rw [List.range_succ,List.flatMap_append,List.length_append,ih,List.flatMap_singleton,hg,Nat.succ_mul]
  rw [List.range_succ,List.flatMap_append,List.flatMap_singleton]
  by_cases c : f = w
  ·subst c
   rw [List.getD_eq_getElem?_getD,List.getElem?_append_right (by rw [ll]; omega),ll,Nat.add_sub_cancel_left,<- List.getD_eq_getElem?_getD]
  ·have lt : f * n + i < w * n:=Nat.lt_of_lt_of_le (by rw [Nat.succ_mul]; omega : f * n + i < (f + 1) * n) (Nat.mul_le_mul_right n (by omega))
   rw [List.getD_eq_getElem?_getD,List.getElem?_append_left (by rw [ll]; exact lt),<- List.getD_eq_getElem?_getD]
   exact zV hg d w f i (by omega) hi
theorem AI (rows : LL) (w : Nat) (L : LI) : (vN rows w L).length = w * L.length:=by
 unfold vN
 induction w with
 | zero => simp
 | succ w ih => rw [List.range_succ,List.flatMap_append,List.length_append,ih,List.flatMap_singleton,lm_,Nat.succ_mul]
def rdK (rows : LL) (w : Nat) (h : Int) : Nat -> LI
 | 0 => [h]
 | k + 1 => vN rows w (rdK rows w h k)
theorem kO (rows : LL) (w : Nat) (h : Int) : ∀ k,(rdK rows w h k).length = w ^ k
 | 0 => rfl
 | k + 1 => by rw [rdK,AI,kO,Nat.pow_succ,Nat.mul_comm]
theorem y8 (rows : LL) {w : Nat} (w1 : 1 <= w) (h : Int) : ∀ (k F : Nat),F < w ^ k -> (rdK rows w h k).getD F 0 = aM rows (gB w k F) h
 | 0,F,hF => by
  have e : F = 0:=by rw [Nat.pow_zero] at hF; omega
  subst e
  rfl
 | k + 1,F,hF => by
  have wp : 0 < w ^ k:=Nat.pow_pos (by omega)
  have hf : F / w ^ k < w:=Nat.div_lt_of_lt_mul (by rw [<- Nat.pow_succ]; exact hF)
  have hi : F % w ^ k < w ^ k:=Nat.mod_lt _ wp
  have eF : F = F / w ^ k * w ^ k + F % w ^ k:=by
   have:=Nat.div_add_mod F (w ^ k)
   rw [Nat.mul_comm] at this
   exact this.symm
  have g:=zV (g:=fun f : Nat => (rdK rows w h k).map fun x => stepI rows x (f : Int)) (n:=w ^ k) (fun i => by rw [lm_,kO]) 0 w (F / w ^ k) (F % w ^ k) hf hi
  rw [<- eF] at g
  have lt : F % w ^ k < (rdK rows w h k).length:=by rw [kO]; exact hi
  show (vN rows w (rdK rows w h k)).getD F 0 = _
  unfold vN
  rw [g,List.getD_eq_getElem?_getD,List.getElem?_map,List.getElem?_eq_getElem lt]
  show stepI rows (rdK rows w h k)[F % w ^ k] _ = _
  rw [<- getD_at (d:=0) lt,y8 rows w1 h k _ hi,zN,q9,we,Nat.mod_eq_of_lt hf]
def gf (w k : Nat) (rows : LL) : LL:=(List.range rows.length).map fun h : Nat => rdK rows w (h : Int) k
theorem EM (w k : Nat) (rows : LL) : (gf w k rows).length = rows.length:=by
 unfold gf
 rw [lm_,List.length_range]
theorem GA {w k : Nat} {rows : LL} {h : Nat} (hh : h < rows.length) : (gf w k rows).getD h [] = rdK rows w (h : Int) k:=by
 unfold gf
 rw [getD_at (by rw [lm_,List.length_range]; exact hh),List.getElem_map,List.getElem_range]
theorem vM {w k : Nat} {rows : LL} (w1 : 1 <= w) {h F : Int} (hh : 0 <= h /\ h < (rows.length : Int)) (hF : 0 <= F /\ F < ((w ^ k : Nat) : Int)) : stepI (gf w k rows) h F = aM rows (gB w k F.toNat) h:=by
 have e:=GA (w:=w) (k:=k) (rows:=rows) (h:=h.toNat) (by omega)
 rw [Int.toNat_of_nonneg hh.1] at e
 have g:=y8 rows w1 h k F.toNat (by omega)
 rw [<- e] at g
 exact g
theorem vL {w k : Nat} {rows : LL} (w1 : 1 <= w) (R : RowsOk rows.length w rows) : RowsOk rows.length (w ^ k) (gf w k rows):=by
 refine ⟨EM _ _ _,fun r hr => ?_,fun r hr v hv => ?_⟩
 ·obtain ⟨h,_,rfl⟩:=List.mem_map.mp hr
  exact kO _ _ _ _
 ·obtain ⟨h,hh,rfl⟩:=List.mem_map.mp hr
  have hl:=List.mem_range.mp hh
  obtain ⟨F,hF,rfl⟩:=List.getElem_of_mem hv
  rw [kO] at hF
  rw [<- getD_at (d:=0),y8 rows w1 _ k F hF]
  exact bV R (pI w1 k F) (by omega) (by omega)
def DV (w k : Nat) (v : LI) : LI:=v.flatMap fun F => gB w k F.toNat
theorem Dj {w k : Nat} (w1 : 1 <= w) (v : LI) : InF w (DV w k v):=fun f hf => by
 obtain ⟨F,_,h⟩:=List.mem_flatMap.mp hf
 exact pI w1 k _ f h
theorem kN {w k : Nat} {rows : LL} (w1 : 1 <= w) (R : RowsOk rows.length w rows) : ∀ (v : LI) (h : Int),InF (w ^ k) v -> (0 <= h /\ h < (rows.length : Int)) -> aM (gf w k rows) v h = aM rows (DV w k v) h
 | [],_,_,_ => rfl
 | F :: v,h,hv,hh => by
  show aM (gf w k rows) v (stepI (gf w k rows) h F) = aM rows (gB w k F.toNat ++ DV w k v) h
  rw [vM w1 hh (hv F List.mem_cons_self),cq]
  exact kN w1 R v _ (fun g hg => hv g (List.mem_cons_of_mem _ hg)) (bV R (pI w1 k _) hh.1 hh.2)
theorem AG {w k : Nat} {rows rows' : LL} {signs signs' : LI} (w1 : 1 <= w) (R : RowsOk rows.length w rows) (R' : RowsOk rows'.length w rows') (n0 : 0 < rows.length) (n1 : 0 < rows'.length) (h : Tells w rows rows' signs signs' 0 0) : Tells (w ^ k) (gf w k rows) (gf w k rows') signs signs' 0 0:=fun v hv => by
 rw [kN w1 R v 0 hv ⟨by omega,by omega⟩,kN w1 R' v 0 hv ⟨by omega,by omega⟩]
 exact h _ (Dj w1 v)
theorem zO (w : Nat) : ∀ (k F : Nat),cw (w : Int) (gB w k F) = ((F % w ^ k : Nat) : Int)
 | 0,F => by rw [Nat.pow_zero,Nat.mod_one]; rfl
 | k + 1,F => by
  show ((F % w : Nat) : Int) + (w : Int) * cw (w : Int) (gB w k (F / w)) = _
  rw [zO w k (F / w),Nat.pow_succ,Nat.mul_comm (w ^ k) w,Nat.mod_mul]
  push_cast
  rfl
theorem zT {w k : Nat} : ∀ {v : LI},InF (w ^ k) v -> cw (w : Int) (DV w k v) = cw ((w ^ k : Nat) : Int) v
 | [],_ => rfl
 | F :: v,hv => by
  have hF:=hv F List.mem_cons_self
  show cw (w : Int) (gB w k F.toNat ++ DV w k v) = F + ((w ^ k : Nat) : Int) * cw ((w ^ k : Nat) : Int) v
  rw [lV,zO,zM,zT fun g hg => hv g (List.mem_cons_of_mem _ hg),Nat.mod_eq_of_lt (by omega),Int.toNat_of_nonneg hF.1]
  push_cast
  rfl
theorem xX {w : Int} (hw : 2 <= w) : ∀ (n : Nat) (e : LI),e.length = n -> InB w e -> ∃ (ds : LI) (z : Nat),Figs w (cw w e) ds /\ e = ds ++ List.replicate z 0
 | 0,e,l,_ => by
  have : e = []:=List.eq_nil_of_length_eq_zero l
  subst this
  exact ⟨[],0,⟨InB.nil,rfl,fun x hx => by cases hx⟩,rfl⟩
 | n + 1,e,l,h => by
  rcases vn e with rfl | ⟨r,x,rfl⟩
  ·cases l
  ·by_cases c : x = 0
   ·subst c
    have hr : InB w r:=fun y hy => h y (List.mem_append_left _ hy)
    obtain ⟨ds,z,f,e⟩:=xX hw n r (by rw [List.length_append,List.length_singleton] at l; omega) hr
    refine ⟨ds,z + 1,?_,?_⟩
    ·rw [yo,Int.zero_mul,Int.add_zero]
     exact f
    ·rw [List.replicate_succ',<- List.append_assoc,<- e]
   ·refine ⟨r ++ [x],0,⟨h,rfl,fun y hy => ?_⟩,by simp⟩
    rw [List.getLast?_append,List.getLast?_singleton] at hy
    have : x = y:=Option.some.inj hy
    rw [<- this]
    exact c
theorem wg {many wide : Nat} {rows : LL} {signs : LI} (R : RowsOk many wide rows) (w1 : 1 <= wide) (st : ∀ q : Int,0 <= q -> q < (many : Int) -> sgn signs (stepI rows q 0) = sgn signs q) : ∀ (z : Nat) (q : Int),0 <= q -> q < (many : Int) -> sgn signs (aM rows (List.replicate z 0) q) = sgn signs q
 | 0,_,_,_ => rfl
 | z + 1,q,q0,q1 => by
  rw [List.replicate_succ]
  show sgn signs (aM rows (List.replicate z 0) (stepI rows q 0)) = _
  have:=cn R q0 q1 (f:=0) (by decide) (by omega)
  rw [wg R w1 st z _ this.1 this.2,st q q0 q1]
theorem AH {w k : Nat} {rows rows' : LL} {signs signs' ds es : LI} {n : Int} (w2 : 2 <= w) (R : RowsOk rows.length w rows) (n0 : 0 < rows.length) (T : Tells (w ^ k) (gf w k rows) rows' signs signs' 0 0) (st : ∀ q : Int,0 <= q -> q < (rows.length : Int) -> sgn signs (stepI rows q 0) = sgn signs q)
  (hd : Figs (w : Int) n ds) (he : Figs ((w ^ k : Nat) : Int) n es) : sgn signs' (aM rows' es 0) = sgn signs (aM rows ds 0):=by
 have ie : InF (w ^ k) es:=he.inb
 rw [<- T es ie,kN (by omega) R es 0 ie ⟨by omega,by omega⟩]
 obtain ⟨ds',z,f,e⟩:=xX (w:=(w : Int)) (by omega) _ (DV w k es) rfl (Dj (by omega) es)
 rw [zT ie,he.val] at f
 have:=zU (by omega) f hd
 subst this
 have wi:=bV R (ns:=ds') (h:=0) f.inb (by omega) (by omega)
 rw [e,cq,wg R (by omega) st z _ wi.1 wi.2]
theorem Au {q m k : Nat} {r : LI} {rs : LL} (h : bJ q m (r :: rs) = some k) : q < m /\ ∃ m1,ba m r = some m1 /\ bJ (q + 1) m1 rs = some k:=by
 unfold bJ at h
 by_cases c : q < m
 ·rw [if_pos c] at h
  cases e : ba m r with
  | none => rw [e] at h; cases h
  | some m1 => rw [e] at h; exact ⟨c,m1,rfl,h⟩
 ·rw [if_neg c] at h
  cases h
theorem sF {rows : LL} {v : LI} {f : Int} : aM rows (v ++ [f]) 0 = stepI rows (aM rows v 0) f:=by
 rw [cq]
 rfl
theorem oC {P : Int -> Prop} : ∀ {r : LI} {m m1 : Nat},ba m r = some m1 -> (∀ i : Nat,i < m -> P (i : Int)) -> (∀ t ∈ r,P t) -> ∀ i : Nat,i < m1 -> P (i : Int)
 | [],m,m1,h,hm,_ => by
  have e : m = m1:=Option.some.inj h
  subst e
  exact hm
 | t :: r,m,m1,h,hm,ht => by
  have h' : (if t = (m : Int) then ba (m + 1) r else if t < (m : Int) then ba m r else none) = some m1:=h
  have ht' : ∀ t ∈ r,P t:=fun x hx => ht x (List.mem_cons_of_mem _ hx)
  by_cases c : t = (m : Int)
  ·rw [if_pos c] at h'
   refine oC h' (fun i hi => ?_) ht'
   by_cases d : i = m
   ·rw [d,<- c]; exact ht t List.mem_cons_self
   ·exact hm i (by omega)
  ·rw [if_neg c] at h'
   by_cases d : t < (m : Int)
   ·rw [if_pos d] at h'
    exact oC h' hm ht'
   ·rw [if_neg d] at h'
    cases h'
theorem tu {P : Int -> Prop} : ∀ {rs : LL} {q m k : Nat},bJ q m rs = some k -> (∀ i : Nat,i < m -> P (i : Int)) -> (∀ (j : Nat) (r : LI),rs[j]? = some r -> P ((q + j : Nat) : Int) -> ∀ t ∈ r,P t) -> ∀ i : Nat,i < k -> P (i : Int)
 | [],q,m,k,h,hm,_ => by
  have e : m = k:=Option.some.inj h
  subst e
  exact hm
 | r :: rs,q,m,k,h,hm,hr => by
  obtain ⟨c,m1,o1,o2⟩:=Au h
  refine tu o2 (oC o1 hm (hr 0 r rfl (hm q c))) fun j r' hj hp => hr (j + 1) r' hj ?_
  rw [show q + (j + 1) = q + 1 + j by omega]
  exact hp
theorem InOrder.reached {wide : Nat} {rows : LL} (R : RowsOk rows.length wide rows) (O : InOrder rows) : ∀ i : Nat,i < rows.length -> ∃ v,InF wide v /\ aM rows v 0 = (i : Int):=by
 refine tu (P:=fun q => ∃ v,InF wide v /\ aM rows v 0 = q) O (fun i hi => ⟨[],(fun f hf => by cases hf),by rw [show i = 0 by omega]; rfl⟩) ?_
 rintro j r hj ⟨v,hv,e⟩ t ht
 rw [Nat.zero_add] at e
 obtain ⟨f,hf,ef⟩:=List.getElem_of_mem ht
 have lr : r.length = wide:=R.row r (mq_ hj)
 refine ⟨v ++ [(f : Int)],fun g hg => ?_,?_⟩
 ·rcases ma_.mp hg with z | z
  ·exact hv g z
  ·rw [List.mem_singleton.mp z]; omega
 ·rw [sF,e]
  have er : rows.getD j [] = r:=by rw [List.getD_eq_getElem?_getD,hj]; rfl
  unfold stepI
  rw [Int.toNat_natCast,Int.toNat_natCast,er,getD_at hf,ef]
theorem LeastOf.signs {C : Int -> Prop} {many wide : Nat} {rows rows' : LL} {signs signs' : LI} (h : LeastOf wide rows rows' signs signs') (R : RowsOk many wide rows) (m0 : 1 <= many) (ls : signs.length = many) (hs : ∀ z ∈ signs,C z) : ∀ z ∈ signs',C z:=fun z hz => by
 obtain ⟨i,hi,e⟩:=List.getElem_of_mem hz
 obtain ⟨v,hv,ew⟩:=h.ord.reached h.ok i (by rw [<- h.sgn]; exact hi)
 have t:=h.tells v hv
 rw [ew] at t
 have w0:=bV R hv (h:=0) (by omega) (by omega)
 unfold My.sgn at t
 rw [Int.toNat_natCast,getD_at hi,e,getD_at (by omega)] at t
 rw [<- t]
 exact hs _ (List.getElem_mem _)
theorem Tells.on {wide : Nat} {rows rows' : LL} {signs signs' : LI} {a b : Int} {v : LI} (h : Tells wide rows rows' signs signs' a b) (hv : InF wide v) : Tells wide rows rows' signs signs' (aM rows v a) (aM rows' v b):=fun u hu => by
 have:=h (v ++ u) fun f hf => by
  rcases ma_.mp hf with z | z
  ·exact hv f z
  ·exact hu f z
 rw [cq,cq] at this
 exact this
theorem LeastOf.few {many wide : Nat} {rows rows' : LL} {signs signs' : LI} (h : LeastOf wide rows rows' signs signs') (R : RowsOk many wide rows) (m0 : 1 <= many) : rows'.length <= many:=by
 have ex : ∀ i : Nat,∃ p : Int,i < rows'.length -> (0 <= p /\ p < (many : Int)) /\ Tells wide rows rows' signs signs' p (i : Int):=fun i => by
  by_cases c : i < rows'.length
  ·obtain ⟨v,hv,ew⟩:=h.ord.reached h.ok i c
   refine ⟨aM rows v 0,fun _ => ⟨bV R hv (by omega) (by omega),?_⟩⟩
   have:=Tells.on h.tells hv
   rw [ew] at this
   exact this
  ·exact ⟨0,fun z => absurd z c⟩
 obtain ⟨F,hF⟩:=Classical.axiomOfChoice ex
 have nd : ((List.range rows'.length).map F).Nodup:=List.pairwise_map.mpr (List.nodup_range.imp_of_mem fun {a b} ha hb ne z => ne (by
  have ia:=List.mem_range.mp ha
  have ib:=List.mem_range.mp hb
  have ta:=(hF a ia).2
  have tb:=(hF b ib).2
  rw [z] at ta
  have:=h.apart (a : Int) (b : Int) ⟨by omega,by omega⟩ ⟨by omega,by omega⟩ (Tells.right ta tb)
  omega))
 have:=bN many nd fun q hq => by
  obtain ⟨i,hi,rfl⟩:=List.mem_map.mp hq
  exact (hF i (List.mem_range.mp hi)).1
 rw [lm_,List.length_range] at this
 exact this
theorem x8 {K : PySem.W.Frag} {H : Hp} : ∀ r : LI,Paired (EqD K H 0) (r.map V.int) (r.map V.int)
 | [] => .nil
 | i :: r => .cons ⟨i,rfl,rfl⟩ (x8 r)
theorem AK {K : PySem.W.Frag} {H : Hp} : ∀ {rows : LL} {as bs : List Addr},RowsAt H as rows -> RowsAt H bs rows -> Paired (EqD K H 1) (as.map V.ref) (bs.map V.ref)
 | [],as,bs,h,h' => by
  cases h
  cases h'
  exact .nil
 | r :: rows,as,bs,h,h' => by
  cases h with
  | cons h t =>
   cases h' with
   | cons h' t' => exact .cons (.inr ⟨_,_,_,_,rfl,rfl,qT_ h,qT_ h',x8 r⟩) (AK t t')
theorem x6 {K : PySem.W.Frag} {H : Hp} : ∀ r : LI,Paired (EqD K H 1) (r.map V.int) (r.map V.int)
 | [] => .nil
 | i :: r => .cons (.inl ⟨i,rfl,rfl⟩) (x6 r)
theorem MachAt.eqD {K : PySem.W.Frag} {H : Hp} {m r g m' r' g' : Addr} {wide : Nat} {rows : LL} {signs : LI} (M : MachAt H m r g wide rows signs) (M' : MachAt H m' r' g' wide rows signs) : Paired (EqD K H 2) [.int wide,.ref r,.ref g] [.int wide,.ref r',.ref g']:=by
 obtain ⟨ras,h1,h2⟩:=M.rows
 obtain ⟨ras',h1',h2'⟩:=M'.rows
 exact .cons (.inl ⟨_,rfl,rfl⟩) (.cons (.inr ⟨_,_,_,_,rfl,rfl,qT_ h1,qT_ h1',AK h2 h2'⟩) (.cons (.inr ⟨_,_,_,_,rfl,rfl,qT_ M.sgn,qT_ M'.sgn,x6 signs⟩) .nil))
def uy : Sp:=fun vs H Q _ => ∃ b t : Nat,vs = [.int b,.int t] /\ 1 <= b /\ (t : Int) < 100000 /\ (b : Int) ^ t < NB /\ Q (.int ((b ^ t : Nat) : Int)) H
def wb (K : PySem.W.Frag) : Sp:=fun vs H Q _ => ∃ (r l : Addr) (many wide : Nat) (ras : List Addr) (rows : LL) (L : LI),vs = [.ref r,.ref l,.int wide] /\ H r = some (.tup (ras.map V.ref)) /\ RowsAt H ras rows /\ RowsOk many wide rows /\ H l = some (.lst (L.map V.int)) /\ (∀ h ∈ L,0 <= h /\ h < (many : Int)) /\ (wide <= 1000 /\ wide * L.length <= 1000 /\ L.length <= 1000) /\
 ∀ (l' : Addr) (H' : Hp),Same H H' -> H' l' = some (.lst ((vN rows wide L).map V.int)) -> Q (.ref l') H'
def wa (K : PySem.W.Frag) : Sp:=fun vs H Q _ => ∃ (m r g : Addr) (wide k : Nat) (rows : LL) (signs : LI),vs = [.ref m,.int k] /\ MachAt H m r g wide rows signs /\ RowsOk rows.length wide rows /\ signs.length = rows.length /\ (1 <= rows.length /\ rows.length < 1000) /\ (2 <= wide /\ wide <= 1000) /\ wide ^ k <= 1000 /\
 ∀ (m' r' g' : Addr) (rows' : LL) (signs' : LI) (H' : Hp),Same H H' -> MachAt H' m' r' g' (wide ^ k) rows' signs' -> LeastOf (wide ^ k) (gf wide k rows) rows' signs signs' -> Q (.ref m') H'
def mj (C : Addr) : Sp:=fun vs H Q E => ∃ (m : Addr) (r g : V) (b t : Nat),vs = [.ref m,.int t] /\ H m = some (.tup [.int b,r,g]) /\ 1 <= b /\ (t : Int) < 100000 /\ (b : Int) ^ t < NB /\ 1000 < b ^ t /\ E (.ref C) none H
theorem yk (rows : LL) (w : Nat) (L : LI) : vN rows (w + 1) L = vN rows w L ++ L.map fun h => stepI rows h (w : Int):=by
 unfold vN
 rw [List.range_succ,List.flatMap_append,List.flatMap_singleton]
theorem GC {many w : Nat} {rows : LL} (R : RowsOk many w rows) {h : Int} (hh : 0 <= h /\ h < (many : Int)) : ∀ k,∀ x ∈ rdK rows w h k,0 <= x /\ x < (many : Int)
 | 0,x,hx => by rw [List.mem_singleton.mp hx]; exact hh
 | k + 1,x,hx => by
  obtain ⟨f,hf,hx'⟩:=List.mem_flatMap.mp hx
  obtain ⟨y,hy,rfl⟩:=List.mem_map.mp hx'
  have i:=GC R hh k y hy
  have:=List.mem_range.mp hf
  exact cn R i.1 i.2 (by omega) (by omega)
theorem fO {w k i : Nat} (w1 : 1 <= w) (h : i <= k) : w ^ i <= w ^ k:=Nat.pow_le_pow_right w1 h
theorem two_le_pow {w k : Nat} (w2 : 2 <= w) : k <= w ^ k:=Nat.le_of_lt (Nat.lt_pow_self (by omega))
section
variable {P : Program} {w : World} {K : PySem.W.Frag} {mg : Str -> Option Value} {base : Heap} {f : Addr} {fd : FuncData} {dV : Value} {C : Addr}
theorem sc_power_of : FnScope ["base","times","power","turn"] ["base","times"] (ah fV):=⟨rfl,rfl,rfl,by decide +kernel,rfl,by decide +kernel,by decide +kernel⟩
theorem sc_read_on : FnScope ["rows","reached","wide","farther","figure"] ["rows","reached","wide"] (ah fW):=⟨rfl,rfl,rfl,by decide +kernel,rfl,by decide +kernel,by decide +kernel⟩
theorem bk_read_on_0 : BlkScope ["rows","reached","wide","farther","figure"] (ah fW) ["here","figure","rows"] [none,some 4,some 0] { kind:=ScopeKind.function,names:=[(".0",NameKind.local),("here",NameKind.local),("figure",NameKind.free),("rows",NameKind.free)],isGenerator:=false,isCoroutine:=false,more:=[] }:=⟨rfl,by decide +kernel,by decide +kernel,by decide +kernel,by decide +kernel,rfl,by decide +kernel⟩
theorem sc_raised : FnScope ["machine","power","wide","small","rows","raised_rows","here","reached","turn"] ["machine","power"] (ah iP):=⟨rfl,rfl,rfl,by decide +kernel,rfl,by decide +kernel,by decide +kernel⟩
theorem FT (F : FunD K "power_of" "power_of" fV dV f fd) (aH : mg "range" = none) : FnOk P w K mg base CX0 1 f fd ["base","times"] uy:=by
 refine F.ok sc_power_of (fun vs H Q E h => ?_) (fun cdv A outer s H vs Q E hr h => ?_)
 ·obtain ⟨b,t,rfl,_⟩:=h
  rfl
 obtain ⟨b,t,rfl,b1,t1,bt,k⟩:=h
 have nbig : ∀ {x : Int},0 <= x -> x < NB -> x < BIG:=fun {x} hx hx' => by
  have:=A5
  have:=A4
  have q : NB * 1 <= NB * NB:=Int.mul_le_mul (Int.le_refl _) (by omega) (by decide) (by omega)
  omega
 have pe : ∀ i : Nat,(b : Int) ^ i = ((b ^ i : Nat) : Int):=fun i => by push_cast; rfl
 have le : ∀ i : Nat,i <= t -> ((b ^ i : Nat) : Int) < NB:=fun i hi => by
  have:=fO b1 hi
  rw [pe] at bt
  omega
 refine ⟨_,(ag (au (i:=2) sc_power_of.nd rfl (Or.inl rfl) ak)
   (ag (bu PassesOwn.never rfl (bA rfl aH (aa (pv 1) ae)) (ax (i:=3) sc_power_of.nd rfl (Or.inl rfl)) (ao (au (i:=2) sc_power_of.nd rfl (Or.inl rfl) (ay Ds (pv 2) (pv 0)))))
   (ao (aI (pv 2))))),?_⟩
 refine ⟨_,rfl,(t : Int),rfl,by omega,by omega,b4 (fun i σ' H' => ∃ v,σ' = [some (.int b),some (.int t),some (.int ((b ^ i : Nat) : Int)),v] /\ H' = H) ⟨none,rfl,rfl⟩ ?_ ?_⟩
 ·rintro i σ' H' hi ⟨v,rfl,rfl⟩
  rw [Int.toNat_natCast] at hi
  have l0:=le i (by omega)
  have lb : (b : Int) < NB:=by
   have:=le 1 (by omega)
   rw [Nat.pow_one] at this
   exact this
  refine ⟨_,rfl,_,rfl,_,_,rfl,rfl,⟨⟨by omega,nbig (by omega) l0⟩,⟨by omega,nbig (by omega) lb⟩⟩,some (.int (0 + (i : Int))),?_,rfl⟩
  rw [Nat.pow_succ]
  push_cast
  rfl
 ·rintro σ' H' ⟨v,rfl,rfl⟩
  rw [Int.toNat_natCast]
  exact ⟨_,rfl,k⟩
theorem Ce (F : FunD K "read_on" "read_on" fW dV f fd) (aH : mg "range" = none) : FnOk P w K mg base CX0 1 f fd ["rows","reached","wide"] (wb K):=by
 refine F.ok sc_read_on (fun vs H Q E h => ?_) (fun cdv A outer s H vs Q E hr h => ?_)
 ·obtain ⟨r,l,many,wide,ras,rows,L,rfl,_⟩:=h
  rfl
 obtain ⟨r,l,many,wide,ras,rows,L,rfl,hr',hA,R,hl,hL,⟨w1,ll,l1⟩,k⟩:=h
 refine ⟨_,(ag (au (i:=3) sc_read_on.nd rfl (Or.inl rfl) (bR ae))
   (ag (bu PassesOwn.never rfl (bA rfl aH (aa (pv 2) ae)) (ax (i:=4) sc_read_on.nd rfl (Or.inr rfl)) (ao (bq (fj PySem.F.plainAttrs_list PySem.F.slot_list_extend PySem.F.type_list_extend yh (pv 3) (aa (dG rfl bk_read_on_0 (ck (pv 1)) (fun _ _ _ _ => (ax (i:=0) bk_read_on_0.nd rfl (Or.inl rfl))) (fun _ _ _ _ => (aL (pO K) (aL (pO K) (pv 2) (pv 0) (fun _ _ => rfl)) (pv 1) (fun _ _ => rfl)))) ae)))))
   (ao (aI (pv 3))))),?_⟩
 refine ⟨(by show 0 <= sizeLine; decide),fun D hD => ?_⟩
 have sD:=aq hD (HO.lst [])
 refine ⟨_,rfl,(wide : Int),rfl,by omega,by omega,b4 (fun i σ' H' => ∃ v,σ' = [some (.ref r),some (.ref l),some (.int wide),some (.ref D),v] /\ Same H H' /\ H' D = some (.lst ((vN rows i L).map V.int))) ⟨none,rfl,sD,af⟩ ?_ ?_⟩
 ·rintro i σ' H1 hi ⟨v,rfl,s1,hD1⟩
  rw [Int.toNat_natCast] at hi
  rw [Int.zero_add]
  have li : (vN rows i L).length + L.length <= 1000:=by
   have h1:=AI rows (i + 1) L
   rw [yk,List.length_append,lm_] at h1
   have:=Nat.mul_le_mul_right L.length (show i + 1 <= wide by omega)
   omega
  have hl1:=s1 _ _ hl
  refine ⟨_,rfl,.inl ⟨rfl,_,qL_ hD1⟩,_,rfl,l,rfl,⟨_,qL_ hl1⟩,?_⟩
  refine fG (K:=K) (xs:=L.map V.int) (fun B j ys H' => Same H1 H' /\ ys = ((L.take j).map fun h => stepI rows h (i : Int)).map V.int) (fun B hB => ⟨aq hB _,rfl⟩) (fun B j ys H' _ ⟨e,_⟩ => qL_ (e _ _ hl1)) ?_ ?_
  ·rintro B j y ys H2 Q' hB hj hy ⟨s2,rfl⟩ k'
   obtain ⟨x,rfl,hx⟩:=bw hj
   have jl:=(gi_ hx).1
   have xi:=hL x (mq_ hx)
   have s12:=s1.trans s2
   obtain ⟨ra,rr,e1,e2,e3⟩:=lQ (hA.same fun b xs e => s12 _ _ e) R xi.1 xi.2 (show (0 : Int) <= (i : Int) by omega) (show (i : Int) < (wide : Int) by omega)
   refine ⟨_,rfl,_,rfl,r,_,_,_,rfl,rfl,qT_ (s12 _ _ hr'),e1,_,rfl,ra,_,_,_,rfl,rfl,qT_ e2,e3,k' _ _ hy (aB (by rw [lm_,lm_,List.length_take]; omega)) ⟨aw s2 hB,?_⟩⟩
   rw [List.take_add_one,hx,List.map_append,List.map_append]
   rfl
  ·rintro B ys H2 hB hy ⟨s2,rfl⟩
   rw [lm_,List.take_length] at hy
   have hD2:=s2 _ _ hD1
   refine ⟨D,B,_,_,rfl,rfl,hD2,hy,?_,?_⟩
   ·rw [lm_,lm_,lm_]
    exact Nat.le_trans li (by decide)
   ·exact ⟨_,rfl,aw (s1.trans s2) hD,by rw [af,yk,List.map_append]⟩
 ·rintro σ' H1 ⟨v,rfl,s1,hD1⟩
  rw [Int.toNat_natCast] at hD1
  exact ⟨_,rfl,k D H1 s1 hD1⟩
theorem EB (F : FunD K "raised" "raised" iP dV f fd) (fq : DefOk P w K mg base "power_of" 1 ["base","times"] [] uy) (jP : DefOk P w K mg base "least" 5 ["machine"] [] (ux K)) (qu : DefOk P w K mg base "read_on" 1 ["rows","reached","wide"] [] (wb K)) {t1 : Tok} (dS : mg "MOST_WIDE" = some (.int 1000 t1)) (aH : mg "range" = none) (aU : mg "len" = none) (aO : mg "tuple" = none) : FnOk P w K mg base CX0 6 f fd ["machine","power"] (wa K):=by
 refine F.ok sc_raised (fun vs H Q E h => ?_) (fun cdv A outer s H vs Q E hr h => ?_)
 ·obtain ⟨m,r,g,wide,k,rows,signs,rfl,_⟩:=h
  rfl
 obtain ⟨m,r,g,wide,kk,rows,signs,rfl,M,R,ls,⟨n0,n1⟩,⟨w2,ww⟩,wk,k⟩:=h
 have kb:=two_le_pow (k:=kk) w2
 have wp : ((wide ^ kk : Nat) : Int) <= 1000:=by omega
 have nb : (wide : Int) ^ kk < NB:=by
  have e : (wide : Int) ^ kk = ((wide ^ kk : Nat) : Int):=by push_cast; rfl
  rw [e]
  exact Int.lt_of_le_of_lt wp (by decide +kernel)
 refine yw (aZ (PSW.mk (au (i:=2) sc_raised.nd rfl (Or.inl rfl) (aV fq hr (aa (aL aK (pv 0) ak (fun _ _ => rfl)) (aa (pv 1) ae)))))
   (aZ (PSW.mk (bS (aS Aq (pv 2) (eZ (v:=.int 1000) rfl dS ⟨_,rfl⟩) (aW _)) (ao AD) aX))
   (aZ (PSW.mk (au (i:=3) sc_raised.nd rfl (Or.inl rfl) (aV jP hr (aa (pv 0) ae))))
   (aZ (PSW.mk (au (i:=4) sc_raised.nd rfl (Or.inl rfl) (aL aK (pv 3) ak (fun _ _ => rfl))))
   (aZ (PSW.mk (au (i:=5) sc_raised.nd rfl (Or.inl rfl) (bR ae)))
   (aZ (PSW.mk (bu PassesOwn.never rfl (bA rfl aH (aa (aA aD (by rfl) aU bG (aa (pv 4) ae)) ae)) (ax (i:=6) sc_raised.nd rfl (Or.inl rfl)) (ag (au (i:=7) sc_raised.nd rfl (Or.inl rfl) (bR (aa (pv 6) ae)))
   (ag (bu PassesOwn.never rfl (bA rfl aH (aa (pv 1) ae)) (ax (i:=8) sc_raised.nd rfl (Or.inl rfl)) (ao (au (i:=7) sc_raised.nd rfl (Or.inl rfl) (aV qu hr (aa (pv 4) (aa (pv 7) (aa (aL aK (pv 0) ak (fun _ _ => rfl)) ae)))))))
   (ao (bq (fj PySem.F.plainAttrs_list PySem.F.slot_list_append PySem.F.type_list_append bD (pv 5) (aa (a9 a7 (by rfl) aO bP (aa (pv 7) ae)) ae))))))))
   (sG (J8 (KD jP hr (mv (Ih (mv (PEW.mk (pv 2)) (mv (PEW.mk (a9 a7 (by rfl) aO bP (aa (pv 5) ae))) (mv (PEW.mk (aL aK (pv 3) ak (fun _ _ => rfl))) CW)))) CW)))))))))) ?_
 refine ⟨_,rfl,m,_,_,_,rfl,rfl,qT_ M.tup,rfl,_,rfl,wide,kk,rfl,by omega,by omega,nb,?_⟩
 refine ⟨_,rfl,_,_,rfl,rfl,_,rfl,kX (fun z => by omega) (fun _ => ?_)⟩
 refine ⟨_,rfl,m,r,g,rows.length,wide,rows,signs,rfl,M,R,ls,⟨n0,n1⟩,ww,fun m1 r1 g1 rows1 signs1 H1 s1 M1 L1 => ?_⟩
 obtain ⟨ras1,hr1,hA1⟩:=M1.rows
 have lras : ras1.length = rows1.length:=hA1.length
 have few:=L1.few R n0
 refine ⟨_,rfl,m1,_,_,_,rfl,rfl,qT_ M1.tup,rfl,?_⟩
 refine ⟨(by show 0 <= sizeLine; decide),fun RR hRR => ?_⟩
 have sR:=aq hRR (HO.lst [])
 try dsimp only [bB,dm,List.set]
 refine dR (t:=oX _ _ _) (fun σ' H' => ∃ (as : List Addr) (v6 v7 v8 : OV),σ' = [some (.ref m),some (.int kk),some (.int ((wide ^ kk : Nat) : Int)),some (.ref m1),some (.ref r1),some (.ref RR),v6,v7,v8] /\ Same H1 H' /\ H' RR = some (.lst (as.map V.ref)) /\ RowsAt H' as (gf wide kk rows1)) ?_ (fun D' nxt => ?_)
 rotate_left
 ·refine ⟨_,rfl,r1,_,rfl,.inr (qT_ (sR _ _ hr1)),_,rfl,by rw [lm_]; omega,by rw [lm_]; omega,?_⟩
  rw [lm_,lras]
  refine b4 (fun i σ' H' => ∃ (as : List Addr) (v6 v7 v8 : OV),σ' = [some (.ref m),some (.int kk),some (.int ((wide ^ kk : Nat) : Int)),some (.ref m1),some (.ref r1),some (.ref RR),v6,v7,v8] /\ Same H1 H' /\ H' RR = some (.lst (as.map V.ref)) /\ RowsAt H' as ((List.range i).map fun h : Nat => rdK rows1 wide (h : Int) kk)) ⟨[],none,none,none,rfl,sR,af,.nil⟩ ?_ ?_
  ·rintro i σ' H2 hi ⟨as,v6,v7,v8,rfl,s2,hR2,A2⟩
   rw [Int.toNat_natCast] at hi
   rw [Int.zero_add]
   have las : as.length = i:=by rw [A2.length,lm_,List.length_range]
   refine ⟨_,rfl,(by show 1 <= sizeLine; decide),fun l0 hl0 => ?_⟩
   have s0:=aq hl0 (HO.lst [V.int (i : Int)])
   try dsimp only [bB,dm,List.set]
   refine dR (t:=oX _ _ _) (fun σ' H' => ∃ (l : Addr) (v8 : OV),σ' = [some (.ref m),some (.int kk),some (.int ((wide ^ kk : Nat) : Int)),some (.ref m1),some (.ref r1),some (.ref RR),some (.int i),some (.ref l),v8] /\ Same H2 H' /\ H' l = some (.lst ((rdK rows1 wide (i : Int) kk).map V.int))) ?_ (fun D' nxt => ?_)
   rotate_left
   ·refine ⟨_,rfl,(kk : Int),rfl,by omega,by omega,?_⟩
    refine b4 (fun j σ' H' => ∃ (l : Addr) (v8 : OV),σ' = [some (.ref m),some (.int kk),some (.int ((wide ^ kk : Nat) : Int)),some (.ref m1),some (.ref r1),some (.ref RR),some (.int i),some (.ref l),v8] /\ Same H2 H' /\ H' l = some (.lst ((rdK rows1 wide (i : Int) j).map V.int))) ⟨l0,v8,rfl,s0,af⟩ ?_ ?_
    ·rintro j σ' H3 hj ⟨l,v8,rfl,s3,hl3⟩
     rw [Int.toNat_natCast] at hj
     have s13:=s2.trans s3
     have lj : wide * (rdK rows1 wide (i : Int) j).length <= 1000:=by
      rw [kO,Nat.mul_comm,<- Nat.pow_succ]
      exact Nat.le_trans (fO (by omega) (by omega)) wk
     have lj2 : (rdK rows1 wide (i : Int) j).length <= 1000:=by
      rw [kO]
      exact Nat.le_trans (fO (by omega) (by omega)) wk
     refine ⟨_,rfl,_,rfl,_,rfl,m,_,_,_,rfl,rfl,qT_ (s13 _ _ (s1 _ _ M.tup)),rfl,r1,l,rows1.length,wide,ras1,rows1,_,rfl,s13 _ _ hr1,hA1.same (fun b xs e => s13 _ _ e),L1.ok,hl3,GC L1.ok ⟨by omega,by omega⟩ j,⟨ww,lj,lj2⟩,fun l' H4 s4 hl4 => ?_⟩
     exact ⟨l',_,rfl,s3.trans s4,hl4⟩
    ·rintro σ' H3 ⟨l,v8,rfl,s3,hl3⟩
     rw [Int.toNat_natCast] at hl3
     exact nxt _ _ ⟨l,_,rfl,s3,hl3⟩
   rintro σ' H3 ⟨l,v8,rfl,s3,hl3⟩
   have hR3:=s3 _ _ hR2
   refine ⟨_,rfl,.inl ⟨rfl,_,qL_ hR3⟩,_,rfl,l,_,rfl,.inl ⟨qL_ hl3,fun T hT => ?_⟩⟩
   have nR : RR ≠ T:=av hR3 hT
   have sT:=aq hT (HO.tup ((rdK rows1 wide (i : Int) kk).map V.int))
   refine ⟨RR,_,_,rfl,rfl,sT _ _ hR3,aB (by rw [lm_]; omega),?_⟩
   have up : ∀ b xs,(upd H3 T (.tup ((rdK rows1 wide (i : Int) kk).map V.int))) b = some (.tup xs) -> (upd (upd H3 T (.tup ((rdK rows1 wide (i : Int) kk).map V.int))) RR (.lst (as.map V.ref ++ [V.ref T]))) b = some (.tup xs):=fun b xs e => by
    rw [aj (aJ e (sT _ _ hR3) (by intro z; cases z))]
    exact e
   refine ⟨as ++ [T],_,_,_,rfl,aw ((s2.trans s3).trans sT) hRR,by rw [af,List.map_append]; rfl,?_⟩
   rw [List.range_succ,List.map_append]
   exact RowsAt.snoc (A2.same fun b xs e => up _ _ (sT _ _ (s3 _ _ e))) (up _ _ af)
  ·rintro σ' H2 ⟨as,v6,v7,v8,rfl,s2,hR2,A2⟩
   rw [Int.toNat_natCast] at A2
   exact nxt _ _ ⟨as,_,_,_,rfl,s2,hR2,A2⟩
 rintro σ' H2 ⟨as,v6,v7,v8,rfl,s2,hR2,A2⟩
 refine ⟨_,rfl,_,rfl,RR,_,rfl,.inl ⟨qL_ hR2,fun rt hrt => ?_⟩⟩
 have s3:=aq hrt (HO.tup (as.map V.ref))
 have s23:=s2.trans s3
 refine ⟨_,rfl,m1,_,_,_,rfl,rfl,qT_ (s23 _ _ M1.tup),rfl,(by show 3 <= sizeLine; decide),fun mm hmm => ?_⟩
 have s4:=aq hmm (HO.tup [V.int ((wide ^ kk : Nat) : Int),V.ref rt,V.ref g1])
 refine ⟨mm,rt,g1,rows1.length,wide ^ kk,gf wide kk rows1,signs1,rfl,⟨af,⟨as,s4 _ _ af,A2.same fun b xs e => s4 _ _ (s3 _ _ e)⟩,s4 _ _ (s23 _ _ M1.sgn)⟩,vL (by omega) L1.ok,L1.sgn,⟨L1.pos,by omega⟩,wk,fun m' r' g' rows' signs' H5 s5 M5 L5 => ?_⟩
 exact k m' r' g' rows' signs' H5 (((s1.trans s23).trans s4).trans s5) M5 (L5.of (AG (by omega) R L1.ok (by omega) L1.pos L1.tells))
theorem Cc (F : FunD K "raised" "raised" iP dV f fd) (fq : DefOk P w K mg base "power_of" 1 ["base","times"] [] uy) {t1 : Tok} (dS : mg "MOST_WIDE" = some (.int 1000 t1)) (dU : mg "TooWide" = some (.ref C)) (q_TooWide : PySem.W.excIn K C VEm "ValueError.__new__" = true) : FnOk P w K mg base (CX1 P w) 6 f fd ["machine","power"] (mj C):=by
 refine F.okX sc_raised (fun vs H Q E h => ?_) (fun cdv A outer s H vs Q E hr h => ?_)
 ·obtain ⟨m,r,g,b,t,rfl,_⟩:=h
  rfl
 obtain ⟨m,r,g,b,t,rfl,hm,b1,t1,nb,big,q⟩:=h
 refine ⟨_,(ag (au (i:=2) sc_raised.nd rfl (Or.inl rfl) (JL fq hr (aa (aL aK (pv 0) ak (fun _ _ => rfl)) (aa (pv 1) ae))))
   (Gp (bS (aS Aq (pv 2) (eZ (v:=.int 1000) rfl dS ⟨_,rfl⟩) (aW _)) (ao (Gn q_TooWide rfl dU HW (aa Co ae))) aX))),?_⟩
 refine ⟨_,rfl,m,_,_,_,rfl,rfl,qT_ hm,rfl,_,rfl,b,t,rfl,b1,t1,nb,?_⟩
 refine ⟨_,rfl,_,_,rfl,rfl,_,rfl,kX (fun _ => ?_) (fun z => by omega)⟩
 exact ⟨(by show 1 <= 8; decide),q⟩
end
def su (K : PySem.W.Frag) : Sp:=fun vs H Q _ => ∃ (a : Addr) (k : Int) (ns : LI),vs = [.ref a,.int k] /\ SqL K H a (ns.map V.int) /\ ns.length <= 63 /\ 0 <= k /\ k < 2147483648 /\
 ∀ v : Int,0 <= v -> v < 2147483629 -> Q (.int v) H
def zi (K : PySem.W.Frag) : Sp:=fun vs H Q _ => ∃ (a p : Addr) (at_ way q f many wide half : Int) (ns : LI),vs = [.ref a,.int at_,.ref p,.int way] /\ SqL K H a (ns.map V.int) /\ ns.length <= 63 /\
 H p = some (.lst [.int q,.int f,.int many,.int wide,.int half]) /\ (0 <= at_ /\ at_ < 1000000) /\ (0 <= q /\ q < many) /\ (0 <= f /\ f < wide) /\ many <= 1000 /\ wide <= 1000 /\ (1 <= half /\ half <= many) /\
 ∀ v : Int,0 <= v -> v < many -> Q (.int v) H
def zg (K : PySem.W.Frag) : Sp:=fun vs H Q _ => ∃ (a : Addr) (at_ many half way : Int) (ns : LI),vs = [.ref a,.int at_,.int many,.int half,.int way] /\ SqL K H a (ns.map V.int) /\ ns.length <= 63 /\
 (0 <= at_ /\ at_ < 1000000) /\ (1 <= many /\ many <= 1000) /\ (1 <= half /\ half <= many) /\
 ∀ (p : Addr) (H' : Hp) (signs : LI),Same H H' -> H' p = some (.tup (signs.map V.int)) -> (signs.length : Int) = many -> (∀ z ∈ signs,0 <= z /\ z < 1000000) -> Q (.ref p) H'
def lR (K : PySem.W.Frag) : Sp:=fun vs H Q _ => ∃ (a : Addr) (at_ : Int) (many wide : Nat) (ns : LI),vs = [.ref a,.int at_,.int many,.int wide] /\ SqL K H a (ns.map V.int) /\ ns.length <= 63 /\
 (0 <= at_ /\ at_ < 100000) /\ (1 <= many /\ many <= 1000) /\ (1 <= wide /\ wide <= 1000) /\
 ∀ (m r g : Addr) (H' : Hp) (rows : LL) (signs : LI),Same H H' -> MachAt H' m r g wide rows signs -> RowsOk many wide rows -> signs.length = many -> (∀ z ∈ signs,0 <= z /\ z < 1000000) -> Q (.ref m) H'
section
variable {P : Program} {w : World} {K : PySem.W.Frag} {mg : Str -> Option Value} {base : Heap} {f : Addr} {fd : FuncData} {dV : Value}
theorem sc__law_draw : FnScope ["_law_script","_law_k","_law_cell"] ["_law_script","_law_k"] (ah cY):=⟨rfl,rfl,rfl,by decide +kernel,rfl,by decide +kernel,by decide +kernel⟩
theorem sc__law_there : FnScope ["_law_script","_law_at","_law_place","_law_way","_law_q","_law_f","_law_many","_law_wide","_law_half","_law_number","_law_there_here"] ["_law_script","_law_at","_law_place","_law_way"] (ah di):=⟨rfl,rfl,rfl,by decide +kernel,rfl,by decide +kernel,by decide +kernel⟩
theorem sc__law_signs : FnScope ["_law_script","_law_at","_law_many","_law_half","_law_way","_law_menu","_law_found","_law_q","_law_pick"] ["_law_script","_law_at","_law_many","_law_half","_law_way"] (ah cK):=⟨rfl,rfl,rfl,by decide +kernel,rfl,by decide +kernel,by decide +kernel⟩
theorem bk__law_signs_0 : BlkScope ["_law_script","_law_at","_law_many","_law_half","_law_way","_law_menu","_law_found","_law_q","_law_pick"] (ah cK) ["_law_k","_law_at","_law_script"] [none,some 1,some 0] { kind:=ScopeKind.function,names:=[(".0",NameKind.local),("_law_k",NameKind.local),("_law_draw",NameKind.globalImplicit),("_law_at",NameKind.free),("_law_script",NameKind.free)],isGenerator:=false,isCoroutine:=false,more:=[] }:=⟨rfl,by decide +kernel,by decide +kernel,by decide +kernel,by decide +kernel,rfl,by decide +kernel⟩
theorem sc__law_machine_of : FnScope ["_law_script","_law_at","_law_many","_law_wide","_law_way","_law_half","_law_rows","_law_q","_law_row"] ["_law_script","_law_at","_law_many","_law_wide"] (ah bK):=⟨rfl,rfl,rfl,by decide +kernel,rfl,by decide +kernel,by decide +kernel⟩
theorem bk__law_machine_of_0 : BlkScope ["_law_script","_law_at","_law_many","_law_wide","_law_way","_law_half","_law_rows","_law_q","_law_row"] (ah bK) ["_law_f","_law_at","_law_half","_law_many","_law_q","_law_script","_law_way","_law_wide"] [none,some 1,some 5,some 2,some 7,some 0,some 4,some 3] { kind:=ScopeKind.function,names:=[(".0",NameKind.local),("_law_f",NameKind.local),("_law_there",NameKind.globalImplicit),("_law_at",NameKind.free),("_law_half",NameKind.free),("_law_many",NameKind.free),("_law_q",NameKind.free),("_law_script",NameKind.free),("_law_way",NameKind.free),("_law_wide",NameKind.free)],isGenerator:=false,isCoroutine:=false,more:=[] }:=⟨rfl,by decide +kernel,by decide +kernel,by decide +kernel,by decide +kernel,rfl,by decide +kernel⟩
theorem Hq (F : FunD K "_law_draw" "_law_draw" cY dV f fd) (aU : mg "len" = none) : FnOk P w K mg base CX0 1 f fd ["_law_script","_law_k"] (su K):=by
 refine F.ok sc__law_draw (fun vs H Q E h => ?_) (fun cdv A outer s H vs Q E hr h => ?_)
 ·obtain ⟨a,k,ns,rfl,_⟩:=h
  rfl
 obtain ⟨a,k,ns,rfl,hS,h63,h0,h1,q⟩:=h
 have hl : (ns.map V.int).length = ns.length:=List.length_map _
 refine ⟨_,(ag (au (i:=2) sc__law_draw.nd rfl (Or.inl rfl) (ay aY (ay cX ak (pv 1)) ak))
   (ag (bS (aS Aq (aA aD (by rfl) aU bG (aa (pv 0) ae)) ak (aW _)) (ao (au (i:=2) sc__law_draw.nd rfl (Or.inl rfl) (ay aY (ay aY (ay bc (aL eN (pv 0) (ay bc (pv 1) (aA aD (by rfl) aU bG (aa (pv 0) ae))) (fun _ _ => rfl)) ak) (ay cX (ay mf (pv 1) (aA aD (by rfl) aU bG (aa (pv 0) ae))) ak)) ak))) aX)
   (ag (au (i:=2) sc__law_draw.nd rfl (Or.inl rfl) (ay bc (ay aY (ay aY (ay cX (pv 2) ak) (ay cX (ay cX (pv 1) (pv 1)) ak)) ak) ak))
   (ao (aI (ay bc (ay cX (pv 2) (pv 2)) ak)))))),?_⟩
 have fin : ∀ c : Int,(-(2 ^ 64) < k /\ k < 2 ^ 64) -> Q (.int (((c * 48271 + k * k * 16807 + 3) % 2147483647) * ((c * 48271 + k * k * 16807 + 3) % 2147483647) % 2147483629)) H:=fun c _ => q _ (Int.emod_nonneg _ (by decide)) (Int.emod_lt_of_pos _ (by decide))
 have hk : -(2 ^ 64) < k /\ k < 2 ^ 64:=⟨by omega,by omega⟩
 have hc : ∀ c : Int,-(2 ^ 64) < (c * 48271 + k * k * 16807 + 3) % 2147483647 /\ (c * 48271 + k * k * 16807 + 3) % 2147483647 < 2 ^ 64:=fun c => by
  have a1:=Int.emod_nonneg (c * 48271 + k * k * 16807 + 3) (show (2147483647 : Int) ≠ 0 by decide)
  have a2:=Int.emod_lt_of_pos (c * 48271 + k * k * 16807 + 3) (show (0 : Int) < 2147483647 by decide)
  exact ⟨by omega,by omega⟩
 refine ⟨_,rfl,_,_,rfl,rfl,.inl ⟨by decide,by decide⟩,_,_,rfl,rfl,?_⟩
 refine ⟨_,rfl,a,_,rfl,.inl hS,_,_,rfl,rfl,_,rfl,?_⟩
 refine Hc (fun c => ?_) (fun c => ?_)
 ·have c' : (0 : Int) < (((ns.map V.int).length : Nat) : Int):=of_decide_eq_true c
  rw [hl] at c'
  have c2 : (0 : Int) < (((ns.map V.int).length : Nat) : Int):=by rw [hl]; exact c'
  have c3 : (((ns.map V.int).length : Nat) : Int) < 1073741824:=by rw [hl]; omega
  have m0:=Int.emod_nonneg k (show (((ns.map V.int).length : Nat) : Int) ≠ 0 by omega)
  have m1:=Int.emod_lt_of_pos k c2
  refine ⟨_,rfl,_,rfl,_,rfl,a,_,rfl,.inl hS,_,_,rfl,rfl,c2,a,_,_,_,rfl,rfl,hS,cy m0 (by rw [hl] at m1; rw [hl]; exact m1),_,_,rfl,rfl,(by show (0 : Int) < 2147483629; decide),
   _,rfl,_,rfl,a,_,rfl,.inl hS,_,_,rfl,rfl,⟨c2,c3⟩,_,_,rfl,rfl,.inr ⟨by decide,by decide⟩,_,_,rfl,rfl,_,_,rfl,rfl,?_⟩
  refine ⟨_,rfl,_,_,rfl,rfl,.inr ⟨by decide,by decide⟩,_,rfl,_,rfl,_,_,rfl,rfl,.inl hk,_,_,rfl,rfl,.inr ⟨by decide,by decide⟩,_,_,rfl,rfl,_,_,rfl,rfl,_,_,rfl,rfl,(by show (0 : Int) < 2147483647; decide),?_⟩
  exact ⟨_,rfl,_,rfl,_,_,rfl,rfl,.inl (hc _),_,_,rfl,rfl,(by show (0 : Int) < 2147483629; decide),fin _ hk⟩
 ·refine ⟨_,rfl,_,_,rfl,rfl,.inr ⟨by decide,by decide⟩,_,rfl,_,rfl,_,_,rfl,rfl,.inl hk,_,_,rfl,rfl,.inr ⟨by decide,by decide⟩,_,_,rfl,rfl,_,_,rfl,rfl,_,_,rfl,rfl,(by show (0 : Int) < 2147483647; decide),?_⟩
  exact ⟨_,rfl,_,rfl,_,_,rfl,rfl,.inl (hc _),_,_,rfl,rfl,(by show (0 : Int) < 2147483629; decide),fin _ hk⟩
theorem FW (F : FunD K "_law_there" "_law_there" di dV f fd) (aC : DefOk P w K mg base "_law_draw" 1 ["_law_script","_law_k"] [] (su K)) (yq : mg "min" = none) :
  FnOk P w K mg base CX0 2 f fd ["_law_script","_law_at","_law_place","_law_way"] (zi K):=by
 refine F.ok sc__law_there (fun vs H Q E h => ?_) (fun cdv A outer s H vs Q E hr h => ?_)
 ·obtain ⟨a,p,at_,way,q,f,many,wide,half,ns,rfl,_⟩:=h
  rfl
 obtain ⟨a,p,at_,way,q,f',many,wide,half,ns,rfl,hS,h63,hp,⟨at0,at1⟩,⟨q0,q1⟩,⟨f0,f1⟩,hm,hw,⟨ha0,ha1⟩,k⟩:=h
 have sm : ∀ {x : Int},0 <= x -> x <= 1000000 -> -(2 ^ 64) < x /\ x < 2 ^ 64:=fun h h' => ⟨by omega,by omega⟩
 have hqw:=FH q0 (show q <= 1000 by omega) (show 0 <= wide by omega) hw
 have w1 : 0 < wide:=by omega
 have hh1 : 0 < half:=by omega
 have m1 : 0 < many:=by omega
 refine ⟨_,(ag (y1 (pv 2) (IZ rfl (bE (ax (i:=4) sc__law_there.nd rfl (Or.inl rfl)) (bE (ax (i:=5) sc__law_there.nd rfl (Or.inl rfl)) (bE (ax (i:=6) sc__law_there.nd rfl (Or.inl rfl)) (bE (ax (i:=7) sc__law_there.nd rfl (Or.inl rfl)) (bE (ax (i:=8) sc__law_there.nd rfl (Or.inl rfl)) iY)))))))
   (ag (au (i:=9) sc__law_there.nd rfl (Or.inl rfl) (aV aC hr (aa (pv 0) (aa (ay aY (ay aY (pv 1) (ay cX (pv 4) (pv 7))) (pv 5)) ae))))
   (ag (bS (PW.pt (se (aS eY (pv 3) ak (aW _)) (mi (aS eY (pv 5) (ay bc (ay cX (pv 4) ak) (pv 7)) (aW _))))) (ao (aI (aA (xS rfl) (by rfl) yq E3 (aa (ay aY (pv 4) ak) (aa (ay F6 (pv 6) ak) ae))))) aX)
   (ag (bS (aS eY (pv 3) ak (aW _)) (ao (aI (ay bc (pv 9) (ay aY (pv 4) ak)))) aX)
   (ag (bS (aS eY (pv 3) ak (aW _)) (ao (aI (ay bc (ay aY (ay cX (pv 4) (pv 7)) (pv 5)) (pv 6)))) aX)
   (ag (bS (aS eY (pv 3) ak (aW _)) (ag (au (i:=10) sc__law_there.nd rfl (Or.inl rfl) (ay bc (aV aC hr (aa (pv 0) (aa (ay aY (ay aY (pv 1) (ay cX (ay bc (pv 4) (pv 8)) (pv 7))) (pv 5)) ae))) (pv 8)))
   (ag (bS (PW.pt (se (aS eY (ay bc (ay mf (pv 9) ak) ak) ak (aW _)) (mi (aS Ar (ay aY (pv 10) (pv 8)) (pv 6) (aW _))))) (ao (aI (ay aY (pv 10) (pv 8)))) aX)
   (ao (aI (pv 10))))) aX)
   (ag (bS (PW.pt (se (aS eY (pv 3) ak (aW _)) (mi (aS Ar (pv 4) (pv 8) (aW _))))) (ao (aI (ay bc (pv 9) (pv 8)))) aX)
   (ao (aI (ay bc (pv 9) (pv 6))))))))))),?_⟩
 refine ⟨_,rfl,p,_,rfl,qL_ hp,rfl,_,_,rfl,_,_,rfl,_,_,rfl,_,_,rfl,_,_,rfl,rfl,?_⟩
 refine ⟨_,rfl,_,rfl,_,rfl,_,rfl,_,_,rfl,rfl,.inl (sm q0 (by omega)),_,_,rfl,rfl,_,rfl,_,_,rfl,rfl,a,_,ns,rfl,hS,h63,by omega,by omega,fun nu n0 n1 => ?_⟩
 have r1:=cA (a:=nu) (b:=q + 1) (by omega)
 have r2:=cA (a:=q * wide + f') (b:=many) m1
 have r4:=cA (a:=nu) (b:=half) hh1
 have r5:=cA (a:=nu) (b:=many) m1
 have r6:=cA (a:=q) (b:=half) hh1
 have hqh:=FH r6.1 (show q % half <= 1000 by omega) (show 0 <= wide by omega) hw
 refine ⟨_,rfl,rfl,_,rfl,nQ (fun c1 => ?_) (fun c1 => ?_)⟩
 ·refine ⟨_,rfl,_,rfl,_,_,rfl,rfl,.inr ⟨by decide,by decide⟩,_,rfl,_,_,rfl,rfl,w1,rfl,_,rfl,nQ (fun c2 => ?_) (fun c2 => ?_)⟩
  ·refine ⟨_,rfl,_,_,rfl,rfl,_,rfl,_,_,rfl,rfl,_,_,rfl,?_⟩
   refine k _ ?_ ?_
   ·split <;> omega
   ·split <;> omega
  ·refine ⟨_,rfl,rfl,_,rfl,nQ (fun c3 => ?_) (fun c3 => absurd c1 c3)⟩
   exact ⟨_,rfl,_,rfl,_,_,rfl,rfl,_,_,rfl,rfl,(by omega),k _ r1.1 (by omega)⟩
 ·refine gH ?_
  refine ⟨_,rfl,rfl,_,rfl,nQ (fun c3 => absurd c3 c1) (fun c3 => ?_)⟩
  refine ⟨_,rfl,rfl,_,rfl,nQ (fun c4 => ?_) (fun c4 => ?_)⟩
  ·exact ⟨_,rfl,_,rfl,_,_,rfl,rfl,.inl (sm q0 (by omega)),_,rfl,_,_,rfl,rfl,_,rfl,_,_,rfl,rfl,m1,k _ r2.1 r2.2⟩
  refine ⟨_,rfl,rfl,_,rfl,nQ (fun c5 => ?_) (fun c5 => ?_)⟩
  ·refine ⟨_,rfl,_,rfl,_,rfl,_,rfl,_,_,rfl,rfl,hh1,_,rfl,_,_,rfl,rfl,.inl (sm r6.1 (by omega)),_,_,rfl,rfl,_,rfl,_,_,rfl,rfl,a,_,ns,rfl,hS,h63,by omega,by omega,fun th t0 t1 => ?_⟩
   have r7:=cA (a:=th) (b:=half) hh1
   refine ⟨_,rfl,_,_,rfl,rfl,hh1,?_⟩
   refine ⟨_,rfl,_,_,rfl,rfl,⟨by decide,by decide⟩,_,_,rfl,rfl,(by show (0 : Int) < 2; decide),rfl,_,rfl,nQ (fun c6 => ?_) (fun c6 => ?_)⟩
   ·refine ⟨_,rfl,_,rfl,_,_,rfl,rfl,_,rfl,_,_,rfl,rfl,_,rfl,kX (fun c7 => ?_) (fun c7 => ?_)⟩
    ·exact ⟨_,rfl,_,rfl,_,_,rfl,rfl,k _ (by omega) c7⟩
    ·exact ⟨_,rfl,k _ r7.1 (by omega)⟩
   ·refine gH ?_
    exact ⟨_,rfl,k _ r7.1 (by omega)⟩
  refine ⟨_,rfl,rfl,_,rfl,nQ (fun c6 => ?_) (fun c6 => ?_)⟩
  ·refine ⟨_,rfl,_,rfl,_,_,rfl,rfl,_,rfl,kX (fun c7 => ?_) (fun c7 => ?_)⟩
   ·exact ⟨_,rfl,_,rfl,_,_,rfl,rfl,hh1,k _ r4.1 (by omega)⟩
   ·exact ⟨_,rfl,_,rfl,_,_,rfl,rfl,m1,k _ r5.1 r5.2⟩
  ·refine gH ?_
   exact ⟨_,rfl,_,rfl,_,_,rfl,rfl,m1,k _ r5.1 r5.2⟩
theorem FU (F : FunD K "_law_signs" "_law_signs" cK dV f fd) (aC : DefOk P w K mg base "_law_draw" 1 ["_law_script","_law_k"] [] (su K)) (aH : mg "range" = none) (qp : mg "int" = none) (aO : mg "tuple" = none) :
  FnOk P w K mg base CX0 2 f fd ["_law_script","_law_at","_law_many","_law_half","_law_way"] (zg K):=by
 refine F.ok sc__law_signs (fun vs H Q E h => ?_) (fun cdv A outer s H vs Q E hr h => ?_)
 ·obtain ⟨a,at_,many,half,way,ns,rfl,_⟩:=h
  rfl
 obtain ⟨a,at_,many,half,way,ns,rfl,hS,h63,⟨at0,at1⟩,⟨m0,m1⟩,⟨ha0,ha1⟩,k⟩:=h
 refine ⟨_,(ag (fQ (i:=5) rfl sc__law_signs.nd rfl (Or.inl rfl) bk__law_signs_0 (bA rfl aH (aa ak ae)) (fun _ _ _ _ => (ax (i:=0) bk__law_signs_0.nd rfl (Or.inl rfl))) (fun _ _ _ _ => (ay bc (aV aC hr (aa (pv 2) (aa (ay aY (pv 1) (pv 0)) ae))) ak)))
   (ag (bS (aS eY (ay bc (aV aC hr (aa (pv 0) (aa (ay aY (pv 1) ak) ae))) ak) ak (aW _)) (ao (au (i:=5) sc__law_signs.nd rfl (Or.inl rfl) (bR (aa ak (aa ak (aa ak ae)))))) aX)
   (ag (au (i:=6) sc__law_signs.nd rfl (Or.inl rfl) (bR ae))
   (ag (bu PassesOwn.never rfl (bA rfl aH (aa (pv 2) ae)) (ax (i:=7) sc__law_signs.nd rfl (Or.inl rfl)) (ag (au (i:=8) sc__law_signs.nd rfl (Or.inl rfl) (ay bc (aV aC hr (aa (pv 0) (aa (ay aY (ay aY (pv 1) ak) (pv 7)) ae))) ak))
   (ag (bS (aS eY (pv 4) ak (aW _)) (ao (au (i:=8) sc__law_signs.nd rfl (Or.inl rfl) (a9 DJ (by rfl) qp Be (aa (hV eY (pv 7) (ay F6 (pv 2) ak) (aW _)) ae)))) aX)
   (ag (bS (aS eY (pv 4) ak (aW _)) (ao (au (i:=8) sc__law_signs.nd rfl (Or.inl rfl) (ay bc (aV aC hr (aa (pv 0) (aa (ay aY (ay aY (pv 1) ak) (ay bc (pv 7) (pv 3))) ae))) ak))) aX)
   (ao (bq (fj PySem.F.plainAttrs_list PySem.F.slot_list_append PySem.F.type_list_append bD (pv 6) (aa (aL eN (pv 5) (pv 8) (fun _ _ => rfl)) ae))))))))
   (ao (aI (a9 a7 (by rfl) aO bP (aa (pv 6) ae)))))))),?_⟩
 refine ⟨3,rfl,by decide,by decide,?_⟩
 refine iG (n:=3) (fun D i ys H' => Same H H' /\ ys.length = i /\ IntsIn 0 1000000 ys) (fun D hD => ⟨aq hD _,rfl,IntsIn.nil⟩) ?_ ?_
 ·rintro D i ys H' Q' hD hi hy ⟨hs,hl,hall⟩ k'
  refine ⟨_,rfl,_,rfl,_,rfl,_,_,rfl,rfl,a,_,ns,rfl,hs.seq hS,h63,by omega,by omega,fun v v0 v1 => ?_⟩
  have r:=cA (a:=v) (b:=1000000) (by decide)
  refine ⟨_,_,rfl,rfl,(by show (0 : Int) < 1000000; decide),k' _ H' hy (aB (by omega)) ⟨aw hs hD,by simp [hl],hall.snoc r.1 r.2⟩⟩
 rintro M ys H1 hM0 hM ⟨hs1,hl1,hall1⟩
 try dsimp only [bB]
 refine cZ (t:=CN _ _ _) (fun σ' H' => ∃ M ys,σ' = [some (.ref a),some (.int at_),some (.int many),some (.int half),some (.int way),some (.ref M),none,none,none] /\ H M = none /\ Same H H' /\ H' M = some (.lst ys) /\ ys.length = 3 /\ IntsIn 0 1000000 ys) ?_ (fun nxt => ?_)
 rotate_left
 ·refine ⟨_,rfl,_,rfl,_,_,rfl,rfl,a,_,ns,rfl,hs1.seq hS,h63,by omega,by omega,fun v v0 v1 => ?_⟩
  refine ⟨_,_,rfl,rfl,(by show (0 : Int) < 2; decide),rfl,_,rfl,nQ (fun c => ?_) (fun c => ?_)⟩
  ·refine ⟨(by show 3 <= sizeLine; decide),fun M2 hM2 => ?_⟩
   have fr : H M2 = none:=hs1.free hM2
   refine nxt _ _ ⟨M2,_,rfl,fr,hs1.trans (aq hM2 _),af,rfl,?_⟩
   exact ((IntsIn.nil.snoc (v:=0) (by decide) (by decide)).snoc (v:=1) (by decide) (by decide)).snoc (v:=1) (by decide) (by decide)
  ·exact nxt _ _ ⟨M,ys,rfl,hM0,hs1,hM,hl1,hall1⟩
 rintro σ' H2 ⟨M,ys,rfl,hM0,hs2,hM2,hl2,hall2⟩
 obtain ⟨menu,rfl,hmenu⟩:=hall2.ints
 rw [lm_] at hl2
 refine ⟨(by show 0 <= sizeLine; decide),fun Fo hFo => ?_⟩
 have fr : H Fo = none:=hs2.free hFo
 have nMF : M ≠ Fo:=av hM2 hFo
 refine ⟨_,rfl,many,rfl,by omega,by omega,b4 (fun i σ' H' => ∃ (fs : List V) (v1 v2 : OV),σ' = [some (.ref a),some (.int at_),some (.int many),some (.int half),some (.int way),some (.ref M),some (.ref Fo),v1,v2] /\ Same H H' /\ H' M = some (.lst (menu.map V.int)) /\ H' Fo = some (.lst fs) /\ fs.length = i /\ IntsIn 0 1000000 fs)
  ⟨[],none,none,rfl,aw hs2 fr,by rw [aj nMF]; exact hM2,af,rfl,IntsIn.nil⟩ ?_ ?_⟩
 ·rintro i σ' H3 hi ⟨fs,v1,v2,rfl,hs3,hM3,hF3,hl3,hall3⟩
  have hq : (0 : Int) <= 0 + (i : Int) /\ (0 : Int) + (i : Int) < many:=by omega
  have r6:=cA (a:=0 + (i : Int)) (b:=half) (by omega)
  try dsimp only [bB]
  refine cZ (t:=ue _ _) (fun σ'' H' => ∃ pk : Int,σ'' = [some (.ref a),some (.int at_),some (.int many),some (.int half),some (.int way),some (.ref M),some (.ref Fo),some (.int (0 + i)),some (.int pk)] /\ H' = H3 /\ 0 <= pk /\ pk < 3) ?_ (fun nxt => ?_)
  rotate_left
  ·refine ⟨_,rfl,_,rfl,_,_,rfl,rfl,_,rfl,_,_,rfl,rfl,a,_,ns,rfl,hs3.seq hS,h63,by omega,by omega,fun v v0 v1 => ?_⟩
   have r:=cA (a:=v) (b:=3) (by decide)
   exact ⟨_,_,rfl,rfl,(by show (0 : Int) < 3; decide),nxt _ _ ⟨_,rfl,rfl,r.1,r.2⟩⟩
  rintro σ'' H4 ⟨pk,rfl,rfl,p0,p1⟩
  try dsimp only [bB]
  refine cZ (t:=CN _ _ _) (fun σ'' H' => ∃ pk : Int,σ'' = [some (.ref a),some (.int at_),some (.int many),some (.int half),some (.int way),some (.ref M),some (.ref Fo),some (.int (0 + i)),some (.int pk)] /\ H' = H4 /\ 0 <= pk /\ pk < 3) ?_ (fun nxt => ?_)
  rotate_left
  ·refine ⟨_,rfl,rfl,_,rfl,nQ (fun c => ?_) (fun c => ?_)⟩
   ·refine ⟨_,rfl,_,rfl,_,_,rfl,rfl,rfl,.inr ⟨_,rfl,nxt _ _ ⟨_,rfl,rfl,?_,?_⟩⟩⟩
    ·split <;> decide
    ·split <;> decide
   ·exact nxt _ _ ⟨pk,rfl,rfl,p0,p1⟩
  rintro σ'' H5 ⟨pk,rfl,rfl,p0,p1⟩
  try dsimp only [bB]
  refine cZ (t:=CN _ _ _) (fun σ'' H' => ∃ pk : Int,σ'' = [some (.ref a),some (.int at_),some (.int many),some (.int half),some (.int way),some (.ref M),some (.ref Fo),some (.int (0 + i)),some (.int pk)] /\ H' = H5 /\ 0 <= pk /\ pk < 3) ?_ (fun nxt => ?_)
  rotate_left
  ·refine ⟨_,rfl,rfl,_,rfl,nQ (fun c => ?_) (fun c => ?_)⟩
   ·refine ⟨_,rfl,_,rfl,_,_,rfl,rfl,_,rfl,_,rfl,_,_,rfl,rfl,(by omega),_,_,rfl,rfl,a,_,ns,rfl,hs3.seq hS,h63,by omega,by omega,fun v v0 v1 => ?_⟩
    have r:=cA (a:=v) (b:=3) (by decide)
    exact ⟨_,_,rfl,rfl,(by show (0 : Int) < 3; decide),nxt _ _ ⟨_,rfl,rfl,r.1,r.2⟩⟩
   ·exact nxt _ _ ⟨pk,rfl,rfl,p0,p1⟩
  rintro σ'' H6 ⟨pk,rfl,rfl,p0,p1⟩
  have hp : pk.toNat < menu.length:=by omega
  refine ⟨_,rfl,.inl ⟨rfl,_,qL_ hF3⟩,_,rfl,_,rfl,M,_,_,_,rfl,rfl,qL_ hM3,cy p0 (by omega),Fo,_,_,rfl,rfl,hF3,aB (by omega),?_⟩
  have hz:=hmenu _ (List.getElem_mem hp)
  refine ⟨_,_,_,rfl,aw hs3 fr,by rw [aj nMF]; exact hM3,af,by simp [hl3],?_⟩
  rw [getD_at hp]
  exact hall3.snoc hz.1 hz.2
 ·rintro σ' H3 ⟨fs,v1,v2,rfl,hs3,hM3,hF3,hl3,hall3⟩
  refine ⟨_,rfl,Fo,_,rfl,.inl ⟨qL_ hF3,fun p hp => ?_⟩⟩
  obtain ⟨signs,rfl,hz⟩:=hall3.ints
  rw [lm_] at hl3
  exact k p _ signs (hs3.trans (aq hp _)) af (by omega) hz
theorem xu (F : FunD K "_law_machine_of" "_law_machine_of" bK dV f fd) (aC : DefOk P w K mg base "_law_draw" 1 ["_law_script","_law_k"] [] (su K))
  (jN : DefOk P w K mg base "_law_there" 2 ["_law_script","_law_at","_law_place","_law_way"] [] (zi K)) (jM : DefOk P w K mg base "_law_signs" 2 ["_law_script","_law_at","_law_many","_law_half","_law_way"] [] (zg K))
  (aH : mg "range" = none) (aO : mg "tuple" = none) :
  FnOk P w K mg base CX0 3 f fd ["_law_script","_law_at","_law_many","_law_wide"] (lR K):=by
 refine F.ok sc__law_machine_of (fun vs H Q E h => ?_) (fun cdv A outer s H vs Q E hr h => ?_)
 ·obtain ⟨a,at_,many,wide,ns,rfl,_⟩:=h
  rfl
 obtain ⟨a,at_,many,wide,ns,rfl,hS,h63,⟨at0,at1⟩,⟨n0,n1⟩,⟨k0,k1⟩,k⟩:=h
 refine ⟨_,(ag (au (i:=4) sc__law_machine_of.nd rfl (Or.inr rfl) (ay bc (aV aC hr (aa (pv 0) (aa (pv 1) ae))) ak))
   (ag (au (i:=5) sc__law_machine_of.nd rfl (Or.inr rfl) (ay mf (ay aY (pv 2) ak) ak))
   (ag (au (i:=6) sc__law_machine_of.nd rfl (Or.inl rfl) (bR ae))
   (ag (bu PassesOwn.never rfl (bA rfl aH (aa (pv 2) ae)) (ax (i:=7) sc__law_machine_of.nd rfl (Or.inr rfl)) (ag (fQ (i:=8) rfl sc__law_machine_of.nd rfl (Or.inl rfl) bk__law_machine_of_0 (bA rfl aH (aa (pv 3) ae)) (fun _ _ _ _ => (ax (i:=0) bk__law_machine_of_0.nd rfl (Or.inl rfl))) (fun _ _ _ _ => (aV jN hr (aa (pv 5) (aa (ay aY (pv 1) ak) (aa (bR (aa (pv 4) (aa (pv 0) (aa (pv 3) (aa (pv 7) (aa (pv 2) ae)))))) (aa (pv 6) ae)))))))
   (ao (bq (fj PySem.F.plainAttrs_list PySem.F.slot_list_append PySem.F.type_list_append bD (pv 6) (aa (a9 a7 (by rfl) aO bP (aa (pv 8) ae)) ae))))))
   (ao (aI (iM (aa (pv 3) (aa (a9 a7 (by rfl) aO bP (aa (pv 6) ae)) (aa (aV jM hr (aa (pv 0) (aa (ay aY (pv 1) ak) (aa (pv 2) (aa (pv 5) (aa (pv 4) ae)))))) ae)))))))))),?_⟩
 try dsimp only [bB]
 refine cZ (t:=ue _ _) (fun σ' H'' => ∃ way : Int,σ' = [some (.ref a),some (.int at_),some (.int many),some (.int wide),some (.int way),none,none,none,none] /\ H'' = H) ?_ (fun nxt => ?_)
 rotate_left
 ·refine ⟨_,rfl,_,rfl,a,_,ns,rfl,hS,h63,by omega,by omega,fun v v0 v1 => ?_⟩
  exact ⟨_,_,rfl,rfl,(by show (0 : Int) < 6; decide),nxt _ _ ⟨_,rfl,rfl⟩⟩
 rintro σ' H' ⟨way,rfl,rfl⟩
 try dsimp only [bB]
 refine cZ (t:=ue _ _) (fun σ' H'' => ∃ half : Int,σ' = [some (.ref a),some (.int at_),some (.int many),some (.int wide),some (.int way),some (.int half),none,none,none] /\ H'' = H' /\ 1 <= half /\ half <= (many : Int)) ?_ (fun nxt => ?_)
 rotate_left
 ·exact ⟨_,rfl,_,_,rfl,rfl,_,_,rfl,rfl,⟨by decide,by decide⟩,nxt _ _ ⟨_,rfl,rfl,by omega,by omega⟩⟩
 rintro σ' H' ⟨half,rfl,rfl,g0,g1⟩
 refine ⟨(by show 0 <= sizeLine; decide),fun R hR => ?_⟩
 refine ⟨_,rfl,(many : Int),rfl,by omega,by omega,b4 (fun i σ' H'' => ∃ (ras : List Addr) (rws : LL) (v1 v2 : OV),
   σ' = [some (.ref a),some (.int at_),some (.int many),some (.int wide),some (.int way),some (.int half),some (.ref R),v1,v2] /\ Same H' H'' /\ H'' R = some (.lst (ras.map V.ref)) /\ RowsAt H'' ras rws /\ (∀ r ∈ rws,r.length = wide) /\ (∀ r ∈ rws,∀ v ∈ r,0 <= v /\ v < (many : Int)) /\ rws.length = i)
  ⟨[],[],none,none,rfl,aq hR _,af,.nil,(fun r h => by cases h),(fun r h => by cases h),rfl⟩ ?_ ?_⟩
 ·rintro i σ' H3 hi ⟨ras,rws,v1,v2,rfl,hs3,hR3,hA3,hl3,hv3,hn3⟩
  have hi' : (i : Int) < many:=by omega
  have lenR : ras.length = i:=by rw [hA3.length]; exact hn3
  refine ⟨_,rfl,(wide : Int),rfl,by omega,by omega,?_⟩
  refine iG (fun D j ys H'' => Same H3 H'' /\ ys.length = j /\ IntsIn 0 many ys) (fun D hD => ⟨aq hD _,rfl,IntsIn.nil⟩) ?_ ?_
  ·rintro D j ys H4 Q' hD hj hy ⟨hs4,hl4,hall4⟩ k'
   have hj' : (j : Int) < wide:=by omega
   refine ⟨_,rfl,_,rfl,_,_,rfl,rfl,_,rfl,_,rfl,_,rfl,_,rfl,_,rfl,(by show 5 <= sizeLine; decide),fun pl hpl => ?_⟩
   have nD : D ≠ pl:=av hy hpl
   refine ⟨_,rfl,a,pl,_,way,_,_,_,_,half,ns,rfl,(hs3.trans (hs4.trans (aq hpl _))).seq hS,h63,af,⟨by omega,by omega⟩,⟨by omega,by omega⟩,⟨by omega,by omega⟩,by omega,by omega,⟨g0,g1⟩,fun v v0 v1 => ?_⟩
   have n3 : H3 pl = none:=hs4.free hpl
   exact k' _ _ (by rw [aj nD]; exact hy) (aB (by omega)) ⟨aw (aw hs4 n3) hD,by simp [hl4],hall4.snoc v0 v1⟩
  rintro W ys H4 hW0 hW ⟨hs4,hl4,hall4⟩
  obtain ⟨row,rfl,hrow⟩:=hall4.ints
  rw [lm_] at hl4
  have hR4:=hs4 _ _ hR3
  refine ⟨_,rfl,.inl ⟨rfl,_,qL_ hR4⟩,_,rfl,W,_,rfl,.inl ⟨qL_ hW,fun tp htp => ?_⟩⟩
  have nR : R ≠ tp:=av hR4 htp
  have fR : H' R = none:=hR
  refine ⟨R,_,_,rfl,rfl,by rw [aj nR]; exact hR4,aB (by rw [lm_]; omega),?_⟩
  have sT : ∀ b xs,H3 b = some (.tup xs) -> (upd (upd H4 tp (.tup (row.map V.int))) R (.lst (ras.map V.ref ++ [V.ref tp]))) b = some (.tup xs):=fun b xs e => by
   have e4:=hs4 _ _ e
   rw [aj (aJ e4 hR4 (by intro z; cases z)),aj (av e4 htp)]
   exact e4
  refine ⟨ras ++ [tp],rws ++ [row],_,_,rfl,aw (aw (hs3.trans hs4) ((hs3.trans hs4).free htp)) fR,?_,RowsAt.snoc (hA3.same sT) ?_,?_,?_,by simp [hn3]⟩
  ·rw [af,List.map_append]; rfl
  ·rw [aj (Ne.symm nR),af]
  ·intro r hr'
   rcases ma_.mp hr' with z | z
   ·exact hl3 r z
   ·rw [List.mem_singleton.mp z]; omega
  ·intro r hr'
   rcases ma_.mp hr' with z | z
   ·exact hv3 r z
   ·rw [List.mem_singleton.mp z]; exact hrow
 ·rintro σ' H3 ⟨ras,rws,v1,v2,rfl,hs3,hR3,hA3,hl3,hv3,hn3⟩
  refine ⟨_,rfl,_,rfl,R,_,rfl,.inl ⟨qL_ hR3,fun rt hrt => ?_⟩⟩
  have s4 : Same H' (upd H3 rt (.tup (ras.map V.ref))):=hs3.trans (aq hrt _)
  refine ⟨_,rfl,_,rfl,_,_,rfl,rfl,_,rfl,_,rfl,_,rfl,a,_,_,half,way,ns,rfl,s4.seq hS,h63,⟨by omega,by omega⟩,⟨by omega,by omega⟩,⟨g0,g1⟩,fun g H5 signs hs5 hg hlen hz => ?_⟩
  refine ⟨(by show 3 <= sizeLine; decide),fun m hm => ?_⟩
  have s6:=aq hm (HO.tup [V.int wide,V.ref rt,V.ref g])
  have s5' : Same H3 H5:=(aq hrt _).trans hs5
  refine k m rt g _ rws signs (s4.trans (hs5.trans s6)) ⟨af,⟨ras,s6 _ _ (hs5 _ _ af),(hA3.same fun b xs e => s6 _ _ (s5' _ _ e))⟩,s6 _ _ hg⟩ ⟨by omega,hl3,hv3⟩ (by omega) hz
end
def Dg (ns : LI) (k : Int) : Int:=if (0 : Int) < (((ns.map V.int).length : Nat) : Int) then ns.getD (k % (((ns.map V.int).length : Nat) : Int)).toNat 0 % 2147483629 + k / (((ns.map V.int).length : Nat) : Int) * 7349 + 1 else 2 * k + 1
def sQ (ns : LI) (k : Int) : Int:=((Dg ns k * 48271 + k * k * 16807 + 3) % 2147483647) * ((Dg ns k * 48271 + k * k * 16807 + 3) % 2147483647) % 2147483629
def zd (K : PySem.W.Frag) : Sp:=fun vs H Q _ => ∃ (a : Addr) (k : Int) (ns : LI),vs = [.ref a,.int k] /\ SqL K H a (ns.map V.int) /\ ns.length <= 63 /\ 0 <= k /\ k < 2147483648 /\ Q (.int (sQ ns k)) H
section
variable {P : Program} {w : World} {K : PySem.W.Frag} {mg : Str -> Option Value} {base : Heap} {f : Addr} {fd : FuncData} {dV : Value}
theorem FO (F : FunD K "_law_draw" "_law_draw" cY dV f fd) (aU : mg "len" = none) : FnOk P w K mg base CX0 1 f fd ["_law_script","_law_k"] (zd K):=by
 refine F.ok sc__law_draw (fun vs H Q E h => ?_) (fun cdv A outer s H vs Q E hr h => ?_)
 ·obtain ⟨a,k,ns,rfl,_⟩:=h
  rfl
 obtain ⟨a,k,ns,rfl,hS,h63,h0,h1,q⟩:=h
 have hl : (ns.map V.int).length = ns.length:=List.length_map _
 refine ⟨_,(ag (au (i:=2) sc__law_draw.nd rfl (Or.inl rfl) (ay aY (ay cX ak (pv 1)) ak))
   (ag (bS (aS Aq (aA aD (by rfl) aU bG (aa (pv 0) ae)) ak (aW _)) (ao (au (i:=2) sc__law_draw.nd rfl (Or.inl rfl) (ay aY (ay aY (ay bc (aL eN (pv 0) (ay bc (pv 1) (aA aD (by rfl) aU bG (aa (pv 0) ae))) (fun _ _ => rfl)) ak) (ay cX (ay mf (pv 1) (aA aD (by rfl) aU bG (aa (pv 0) ae))) ak)) ak))) aX)
   (ag (au (i:=2) sc__law_draw.nd rfl (Or.inl rfl) (ay bc (ay aY (ay aY (ay cX (pv 2) ak) (ay cX (ay cX (pv 1) (pv 1)) ak)) ak) ak))
   (ao (aI (ay bc (ay cX (pv 2) (pv 2)) ak)))))),?_⟩
 have hk : -(2 ^ 64) < k /\ k < 2 ^ 64:=⟨by omega,by omega⟩
 have hc : ∀ c : Int,-(2 ^ 64) < (c * 48271 + k * k * 16807 + 3) % 2147483647 /\ (c * 48271 + k * k * 16807 + 3) % 2147483647 < 2 ^ 64:=fun c => by
  have a1:=Int.emod_nonneg (c * 48271 + k * k * 16807 + 3) (show (2147483647 : Int) ≠ 0 by decide)
  have a2:=Int.emod_lt_of_pos (c * 48271 + k * k * 16807 + 3) (show (0 : Int) < 2147483647 by decide)
  exact ⟨by omega,by omega⟩
 refine ⟨_,rfl,_,_,rfl,rfl,.inl ⟨by decide,by decide⟩,_,_,rfl,rfl,?_⟩
 refine ⟨_,rfl,a,_,rfl,.inl hS,_,_,rfl,rfl,_,rfl,?_⟩
 refine Hc (fun c => ?_) (fun c => ?_)
 ·have c' : (0 : Int) < (((ns.map V.int).length : Nat) : Int):=of_decide_eq_true c
  rw [hl] at c'
  have c2 : (0 : Int) < (((ns.map V.int).length : Nat) : Int):=by rw [hl]; exact c'
  have c3 : (((ns.map V.int).length : Nat) : Int) < 1073741824:=by rw [hl]; omega
  have m0:=Int.emod_nonneg k (show (((ns.map V.int).length : Nat) : Int) ≠ 0 by omega)
  have m1:=Int.emod_lt_of_pos k c2
  refine ⟨_,rfl,_,rfl,_,rfl,a,_,rfl,.inl hS,_,_,rfl,rfl,c2,a,_,_,_,rfl,rfl,hS,cy m0 (by rw [hl] at m1; rw [hl]; exact m1),_,_,rfl,rfl,(by show (0 : Int) < 2147483629; decide),
   _,rfl,_,rfl,a,_,rfl,.inl hS,_,_,rfl,rfl,⟨c2,c3⟩,_,_,rfl,rfl,.inr ⟨by decide,by decide⟩,_,_,rfl,rfl,_,_,rfl,rfl,?_⟩
  refine ⟨_,rfl,_,_,rfl,rfl,.inr ⟨by decide,by decide⟩,_,rfl,_,rfl,_,_,rfl,rfl,.inl hk,_,_,rfl,rfl,.inr ⟨by decide,by decide⟩,_,_,rfl,rfl,_,_,rfl,rfl,_,_,rfl,rfl,(by show (0 : Int) < 2147483647; decide),?_⟩
  exact ⟨_,rfl,_,rfl,_,_,rfl,rfl,.inl (hc _),_,_,rfl,rfl,(by show (0 : Int) < 2147483629; decide),by unfold sQ Dg at q; rw [if_pos c2] at q; exact q⟩
 ·refine ⟨_,rfl,_,_,rfl,rfl,.inr ⟨by decide,by decide⟩,_,rfl,_,rfl,_,_,rfl,rfl,.inl hk,_,_,rfl,rfl,.inr ⟨by decide,by decide⟩,_,_,rfl,rfl,_,_,rfl,rfl,_,_,rfl,rfl,(by show (0 : Int) < 2147483647; decide),?_⟩
  exact ⟨_,rfl,_,rfl,_,_,rfl,rfl,.inl (hc _),_,_,rfl,rfl,(by show (0 : Int) < 2147483629; decide),by unfold sQ Dg at q; rw [if_neg (fun z => c (decide_eq_true z))] at q; exact q⟩
end
theorem Hi {f : Nat -> Int} {many t : Nat} (h : t < many) : ((List.range many).map f).getD t 0 = f t:=by simp [h]
def it0 (rows : LL) (q : Int) : Nat -> Int
 | 0 => q
 | k + 1 => stepI rows (it0 rows q k) 0
theorem ve {many wide : Nat} {rows : LL} (R : RowsOk many wide rows) (w1 : 1 <= wide) {q : Int} (q0 : 0 <= q) (q1 : q < (many : Int)) : ∀ k,0 <= it0 rows q k /\ it0 rows q k < (many : Int)
 | 0 => ⟨q0,q1⟩
 | k + 1 => by
  have h:=ve R w1 q0 q1 k
  exact cn R h.1 h.2 (by decide) (by omega)
theorem pN (rows : LL) (q : Int) : ∀ k,it0 rows (stepI rows q 0) k = it0 rows q (k + 1)
 | 0 => rfl
 | k + 1 => by
  show stepI rows (it0 rows (stepI rows q 0) k) 0 = stepI rows (it0 rows q (k + 1)) 0
  rw [pN rows q k]
theorem ya {rows : LL} {q : Int} {i j : Nat} (h : it0 rows q i = it0 rows q j) : ∀ t,it0 rows q (i + t) = it0 rows q (j + t)
 | 0 => h
 | t + 1 => by
  show stepI rows (it0 rows q (i + t)) 0 = stepI rows (it0 rows q (j + t)) 0
  rw [ya h t]
theorem BG {many wide : Nat} {rows : LL} (R : RowsOk many wide rows) (w1 : 1 <= wide) {q : Int} (q0 : 0 <= q) (q1 : q < (many : Int)) : ∃ c,1 <= c /\ c <= many /\ ∀ t,it0 rows q (many + c + t) = it0 rows q (many + t):=by
 have ex : ∃ i j,i < j /\ j <= many /\ it0 rows q i = it0 rows q j:=by
  refine Classical.byContradiction fun no => ?_
  have nd : ((List.range (many + 1)).map (it0 rows q)).Nodup:=by
   refine List.pairwise_iff_getElem.mpr fun i j hi hj hij => ?_
   intro e
   rw [lm_,List.length_range] at hi hj
   simp at e
   exact no ⟨i,j,hij,by omega,e⟩
  have:=bN many nd (fun x hx => by
   obtain ⟨i,_,rfl⟩:=List.mem_map.mp hx
   exact ve R w1 q0 q1 i)
  rw [lm_,List.length_range] at this
  omega
 obtain ⟨i,j,hij,hj,e⟩:=ex
 refine ⟨j - i,by omega,by omega,fun t => ?_⟩
 have:=ya e (many - i + t)
 rw [show i + (many - i + t) = many + t from by omega,show j + (many - i + t) = many + (j - i) + t from by omega] at this
 exact this.symm
def Aa (rows : LL) (q : Int) (n : Nat) : Nat -> Int
 | 0 => it0 rows q n
 | k + 1 => if it0 rows q (n + k + 1) < Aa rows q n k then it0 rows q (n + k + 1) else Aa rows q n k
theorem pS {rows : LL} {q : Int} {n : Nat} : ∀ {k i : Nat},i <= k -> Aa rows q n k <= it0 rows q (n + i)
 | 0,i,h => by
  have : i = 0:=by omega
  subst this
  exact Int.le_refl _
 | k + 1,i,h => by
  simp only [Aa]
  rcases Nat.lt_or_eq_of_le h with z | z
  ·have:=pS (rows:=rows) (q:=q) (n:=n) (show i <= k by omega)
   split
   ·omega
   ·exact this
  ·subst z
   have e : n + (k + 1) = n + k + 1:=by omega
   rw [e]
   split <;> omega
theorem uo {rows : LL} {q : Int} {n : Nat} : ∀ k : Nat,∃ i,i <= k /\ Aa rows q n k = it0 rows q (n + i)
 | 0 => ⟨0,Nat.le_refl _,rfl⟩
 | k + 1 => by
  simp only [Aa]
  split
  ·exact ⟨k + 1,Nat.le_refl _,rfl⟩
  ·obtain ⟨i,hi,e⟩:=uo (rows:=rows) (q:=q) (n:=n) k
   exact ⟨i,by omega,e⟩
def iO (rows : LL) (n : Nat) (q : Int) : Int:=Aa rows q n n
theorem AJ {many wide : Nat} {rows : LL} (R : RowsOk many wide rows) (w1 : 1 <= wide) {q : Int} (q0 : 0 <= q) (q1 : q < (many : Int)) : 0 <= iO rows many q /\ iO rows many q < (many : Int):=by
 obtain ⟨i,_,e⟩:=uo (rows:=rows) (q:=q) (n:=many) many
 unfold iO
 rw [e]
 exact ve R w1 q0 q1 _
theorem Cv {many wide : Nat} {rows : LL} (R : RowsOk many wide rows) (w1 : 1 <= wide) {q : Int} (q0 : 0 <= q) (q1 : q < (many : Int)) : iO rows many (stepI rows q 0) = iO rows many q:=by
 obtain ⟨c,c1,c2,hc⟩:=BG R w1 q0 q1
 unfold iO
 refine Int.le_antisymm ?_ ?_
 ·obtain ⟨j,hj,e⟩:=uo (rows:=rows) (q:=q) (n:=many) many
  rw [e]
  by_cases z : j = 0
  ·subst z
   have:=pS (rows:=rows) (q:=stepI rows q 0) (n:=many) (k:=many) (i:=c - 1) (by omega)
   rw [pN,show many + (c - 1) + 1 = many + c + 0 from by omega,hc 0] at this
   exact this
  ·have:=pS (rows:=rows) (q:=stepI rows q 0) (n:=many) (k:=many) (i:=j - 1) (by omega)
   rw [pN,show many + (j - 1) + 1 = many + j from by omega] at this
   exact this
 ·obtain ⟨i,hi,e⟩:=uo (rows:=rows) (q:=stepI rows q 0) (n:=many) many
  rw [e,pN]
  by_cases z : i = many
  ·have:=pS (rows:=rows) (q:=q) (n:=many) (k:=many) (i:=many + 1 - c) (by omega)
   rw [<- hc (many + 1 - c)] at this
   rw [show many + i + 1 = many + c + (many + 1 - c) from by omega]
   exact this
  ·have:=pS (rows:=rows) (q:=q) (n:=many) (k:=many) (i:=i + 1) (by omega)
   rw [show many + (i + 1) = many + i + 1 from by omega] at this
   exact this
def uf (many : Nat) (rows : LL) (signs : LI) : Prop := ∀ q : Int,0 <= q -> q < (many : Int) -> signs.getD (stepI rows q 0).toNat 0 = signs.getD q.toNat 0
theorem ET {many wide : Nat} {rows : LL} {signs drawn : LI} (R : RowsOk many wide rows) (w1 : 1 <= wide) (e : signs = (List.range many).map fun q : Nat => drawn.getD (iO rows many q).toNat 0) : uf many rows signs:=fun q q0 q1 => by
 have h:=cn R q0 q1 (show (0 : Int) <= 0 by decide) (show (0 : Int) < wide by omega)
 have m1 : ∀ x : Int,0 <= x -> x < (many : Int) -> signs.getD x.toNat 0 = drawn.getD (iO rows many x).toNat 0:=fun x x0 x1 => by
  have hx : x.toNat < many:=by omega
  rw [e,Hi hx,show ((x.toNat : Nat) : Int) = x from by omega]
 rw [m1 _ h.1 h.2,m1 _ q0 q1,Cv R w1 q0 q1]
def wc (K : PySem.W.Frag) : Sp:=fun vs H Q _ => ∃ (r : Addr) (q : Int) (many wide : Nat) (ras : List Addr) (rows : LL),vs = [.ref r,.int q] /\ H r = some (.tup (ras.map V.ref)) /\ RowsAt H ras rows /\ RowsOk many wide rows /\ 1 <= wide /\ many <= 1000 /\ (0 <= q /\ q < (many : Int)) /\
 Q (.int (iO rows many q)) H
section
variable {P : Program} {w : World} {K : PySem.W.Frag} {mg : Str -> Option Value} {base : Heap} {f : Addr} {fd : FuncData} {dV : Value}
theorem sc__law_round : FnScope ["_law_rows","_law_q","_law_k","_law_low"] ["_law_rows","_law_q"] (ah dh):=⟨rfl,rfl,rfl,by decide +kernel,rfl,by decide +kernel,by decide +kernel⟩
theorem EC (F : FunD K "_law_round" "_law_round" dh dV f fd) (aU : mg "len" = none) (aH : mg "range" = none) (yq : mg "min" = none) : FnOk P w K mg base CX0 1 f fd ["_law_rows","_law_q"] (wc K):=by
 refine F.ok sc__law_round (fun vs H Q E h => ?_) (fun cdv A outer s H vs Q E hr h => ?_)
 ·obtain ⟨r,q,many,wide,ras,rows,rfl,_⟩:=h
  rfl
 obtain ⟨r,q,many,wide,ras,rows,rfl,hr',hA,R,w1,n1,⟨q0,q1⟩,k⟩:=h
 have lr : (ras.map V.ref).length = many:=by rw [lm_,hA.length,R.len]
 refine ⟨_,(ag (bu PassesOwn.never rfl (bA rfl aH (aa (aA aD (by rfl) aU bG (aa (pv 0) ae)) ae)) (ax (i:=2) sc__law_round.nd rfl (Or.inl rfl)) (ao (au (i:=1) sc__law_round.nd rfl (Or.inl rfl) (aL aK (aL aK (pv 0) (pv 1) (fun _ _ => rfl)) ak (fun _ _ => rfl)))))
   (ag (au (i:=3) sc__law_round.nd rfl (Or.inl rfl) (pv 1))
   (ag (bu PassesOwn.never rfl (bA rfl aH (aa (aA aD (by rfl) aU bG (aa (pv 0) ae)) ae)) (ax (i:=2) sc__law_round.nd rfl (Or.inl rfl)) (ag (au (i:=1) sc__law_round.nd rfl (Or.inl rfl) (aL aK (aL aK (pv 0) (pv 1) (fun _ _ => rfl)) ak (fun _ _ => rfl)))
   (ao (au (i:=3) sc__law_round.nd rfl (Or.inl rfl) (aA (xS rfl) (by rfl) yq E3 (aa (pv 3) (aa (pv 1) ae)))))))
   (ao (aI (pv 3)))))),?_⟩
 have stp : ∀ (x : Int),0 <= x -> x < (many : Int) -> ∃ (ra : Addr) (rr : LI),atI (ras.map V.ref) x = some (.ref ra) /\ H ra = some (.tup (rr.map V.int)) /\ atI (rr.map V.int) 0 = some (.int (stepI rows x 0)):=fun x x0 x1 => lQ hA R x0 x1 (by decide) (by omega)
 try dsimp only [bB]
 refine cZ (t:=oX _ _ _) (fun σ' H' => ∃ v,σ' = [some (.ref r),some (.int (it0 rows q many)),v,none] /\ H' = H) ?_ (fun nxt => ?_)
 rotate_left
 ·refine ⟨_,rfl,r,_,rfl,.inr (qT_ hr'),?_⟩
  rw [lr]
  refine ⟨(many : Int),rfl,by omega,by omega,b4 (fun i σ' H' => ∃ v,σ' = [some (.ref r),some (.int (it0 rows q i)),v,none] /\ H' = H) ⟨none,rfl,rfl⟩ ?_ ?_⟩
  ·rintro i σ' H' hi ⟨v,rfl,rfl⟩
   have hx:=ve R w1 q0 q1 i
   obtain ⟨ra,rr,e1,e2,e3⟩:=stp _ hx.1 hx.2
   exact ⟨_,rfl,_,rfl,r,_,_,_,rfl,rfl,qT_ hr',e1,ra,_,_,_,rfl,rfl,qT_ e2,e3,_,rfl,rfl⟩
  ·rintro σ' H' ⟨v,rfl,rfl⟩
   rw [Int.toNat_natCast]
   exact nxt _ _ ⟨v,rfl,rfl⟩
 rintro σ' H' ⟨v,rfl,rfl⟩
 refine ⟨_,rfl,?_⟩
 try dsimp only [bB]
 refine cZ (t:=oX _ _ _) (fun σ' H'' => ∃ v x,σ' = [some (.ref r),x,v,some (.int (iO rows many q))] /\ H'' = H') ?_ (fun nxt => ?_)
 rotate_left
 ·refine ⟨_,rfl,r,_,rfl,.inr (qT_ hr'),?_⟩
  rw [lr]
  refine ⟨(many : Int),rfl,by omega,by omega,b4 (fun i σ' H'' => ∃ v,σ' = [some (.ref r),some (.int (it0 rows q (many + i))),v,some (.int (Aa rows q many i))] /\ H'' = H') ⟨v,rfl,rfl⟩ ?_ ?_⟩
  ·rintro i σ' H'' hi ⟨v,rfl,rfl⟩
   have hx:=ve R w1 q0 q1 (many + i)
   obtain ⟨ra,rr,e1,e2,e3⟩:=stp _ hx.1 hx.2
   refine ⟨_,rfl,_,rfl,r,_,_,_,rfl,rfl,qT_ hr',e1,ra,_,_,_,rfl,rfl,qT_ e2,e3,?_⟩
   exact ⟨_,rfl,_,rfl,_,_,rfl,some (.int (0 + i)),rfl,rfl⟩
  ·rintro σ' H'' ⟨v,rfl,rfl⟩
   rw [Int.toNat_natCast]
   exact nxt _ _ ⟨_,_,rfl,rfl⟩
 rintro σ' H'' ⟨v,x,rfl,rfl⟩
 exact ⟨_,rfl,k⟩
end
def oW (K : PySem.W.Frag) : Sp:=fun vs H Q _ => ∃ (a m r g : Addr) (many wide : Nat) (rows : LL) (signs ns : LI),vs = [.ref a,.ref m] /\ SqL K H a (ns.map V.int) /\ ns.length <= 63 /\ MachAt H m r g wide rows signs /\ RowsOk many wide rows /\ (1 <= many /\ many <= 1000) /\ 1 <= wide /\ signs.length = many /\
 (∀ z ∈ signs,0 <= z /\ z < 1000000) /\ ∀ (m2 g2 : Addr) (H' : Hp) (signs2 : LI),Same H H' -> MachAt H' m2 r g2 wide rows signs2 -> signs2.length = many -> (∀ z ∈ signs2,0 <= z /\ z < 1000000) -> uf many rows signs2 -> Q (.ref m2) H'
section
variable {P : Program} {w : World} {K : PySem.W.Frag} {mg : Str -> Option Value} {base : Heap} {f : Addr} {fd : FuncData} {dV : Value}
theorem sc__law_steadied : FnScope ["_law_script","_law_machine","_law_wide","_law_rows","_law_signs_here","_law_menu","_law_found"] ["_law_script","_law_machine"] (ah bM):=⟨rfl,rfl,rfl,by decide +kernel,rfl,by decide +kernel,by decide +kernel⟩
theorem bk__law_steadied_0 : BlkScope ["_law_script","_law_machine","_law_wide","_law_rows","_law_signs_here","_law_menu","_law_found"] (ah bM) ["_law_k","_law_script"] [none,some 0] { kind:=ScopeKind.function,names:=[(".0",NameKind.local),("_law_k",NameKind.local),("_law_draw",NameKind.globalImplicit),("_law_script",NameKind.free)],isGenerator:=false,isCoroutine:=false,more:=[] }:=⟨rfl,by decide +kernel,by decide +kernel,by decide +kernel,by decide +kernel,rfl,by decide +kernel⟩
theorem bk__law_steadied_1 : BlkScope ["_law_script","_law_machine","_law_wide","_law_rows","_law_signs_here","_law_menu","_law_found"] (ah bM) ["_law_q","_law_menu","_law_rows","_law_script"] [none,some 5,some 3,some 0] { kind:=ScopeKind.function,names:=[(".0",NameKind.local),("_law_q",NameKind.local),("_law_draw",NameKind.globalImplicit),("_law_round",NameKind.globalImplicit),("_law_menu",NameKind.free),("_law_rows",NameKind.free),("_law_script",NameKind.free)],isGenerator:=false,isCoroutine:=false,more:=[] }:=⟨rfl,by decide +kernel,by decide +kernel,by decide +kernel,by decide +kernel,rfl,by decide +kernel⟩
theorem yX (F : FunD K "_law_steadied" "_law_steadied" bM dV f fd) (aC : DefOk P w K mg base "_law_draw" 1 ["_law_script","_law_k"] [] (zd K)) (jL : DefOk P w K mg base "_law_round" 1 ["_law_rows","_law_q"] [] (wc K))
  (aH : mg "range" = none) (aU : mg "len" = none) (aO : mg "tuple" = none) : FnOk P w K mg base CX0 2 f fd ["_law_script","_law_machine"] (oW K):=by
 refine F.ok sc__law_steadied (fun vs H Q E h => ?_) (fun cdv A outer s H vs Q E hr h => ?_)
 ·obtain ⟨a,m,r,g,many,wide,rows,signs,ns,rfl,_⟩:=h
  rfl
 obtain ⟨a,m,r,g,many,wide,rows,signs,ns,rfl,hS,h63,M,R,⟨n0,n1⟩,w0,hl,hz,k⟩:=h
 obtain ⟨ras,hr',hA⟩:=M.rows
 have lras : (ras.map V.ref).length = many:=by rw [lm_,hA.length,R.len]
 refine ⟨_,(ag (y1 (pv 1) (oE rfl (bE (ax (i:=2) sc__law_steadied.nd rfl (Or.inl rfl)) (bE (ax (i:=3) sc__law_steadied.nd rfl (Or.inr rfl)) (bE (ax (i:=4) sc__law_steadied.nd rfl (Or.inl rfl)) iY)))))
   (ag (au (i:=5) sc__law_steadied.nd rfl (Or.inr rfl) (dG rfl bk__law_steadied_0 (bA rfl aH (aa ak ae)) (fun _ _ _ _ => (ax (i:=0) bk__law_steadied_0.nd rfl (Or.inl rfl))) (fun _ _ _ _ => (ay bc (aV aC hr (aa (pv 1) (aa (ay aY ak (pv 0)) ae))) ak))))
   (ag (bS (aS eY (ay bc (aV aC hr (aa (pv 0) (aa ak ae))) ak) ak (aW _)) (ao (au (i:=5) sc__law_steadied.nd rfl (Or.inr rfl) (bR (aa ak (aa ak ae))))) aX)
   (ag (fQ (i:=6) rfl sc__law_steadied.nd rfl (Or.inl rfl) bk__law_steadied_1 (bA rfl aH (aa (aA aD (by rfl) aU bG (aa (pv 3) ae)) ae)) (fun _ _ _ _ => (ax (i:=0) bk__law_steadied_1.nd rfl (Or.inl rfl))) (fun _ _ _ _ => (aL (zZ K) (pv 1) (ay bc (aV aC hr (aa (pv 3) (aa (ay aY ak (aV jL hr (aa (pv 2) (aa (pv 0) ae)))) ae))) ak) (fun _ _ => rfl))))
   (ao (aI (iM (aa (pv 2) (aa (pv 3) (aa (a9 a7 (by rfl) aO bP (aa (pv 6) ae)) ae)))))))))),?_⟩
 refine ⟨_,rfl,m,_,rfl,qT_ M.tup,rfl,_,_,rfl,_,_,rfl,_,_,rfl,rfl,?_⟩
 refine ⟨(2 : Int),rfl,by decide,by decide,?_⟩
 refine iG (fun D i ys H' => Same H H' /\ ys.length = i /\ IntsIn 0 1000000 ys) (fun D hD => ⟨aq hD _,rfl,IntsIn.nil⟩) ?_ ?_
 ·rintro D i ys H' Q' hD hi hy ⟨hs,hl',hall⟩ k'
  have hi' : (i : Int) < 2:=by omega
  refine ⟨_,rfl,_,rfl,_,_,rfl,rfl,a,_,ns,rfl,hs.seq hS,h63,by omega,by omega,?_⟩
  have rr:=cA (a:=sQ ns (700 + (0 + (i : Int)))) (b:=(1000000 : Int)) (by decide)
  exact ⟨_,_,rfl,rfl,(by show (0 : Int) < 1000000; decide),k' _ H' hy (aB (by omega)) ⟨aw hs hD,by simp [hl'],hall.snoc rr.1 rr.2⟩⟩
 rintro MN ys H1 hM0 hM ⟨s1,hl1,hall1⟩
 obtain ⟨mn,rfl,hmn⟩:=hall1.ints
 rw [lm_] at hl1
 try dsimp only [bB]
 refine cZ (t:=CN _ _ _) (fun σ' H' => ∃ (MN : Addr) (mn : LI),σ' = [some (.ref a),some (.ref m),some (.int wide),some (.ref r),some (.ref g),some (.ref MN),none] /\ Same H H' /\ H' MN = some (.lst (mn.map V.int)) /\ mn.length = 2 /\ ∀ z ∈ mn,0 <= z /\ z < 1000000) ?_ (fun nxt => ?_)
 rotate_left
 ·refine ⟨_,rfl,a,_,ns,rfl,s1.seq hS,h63,by decide,by decide,?_⟩
  refine ⟨_,_,rfl,rfl,(by show (0 : Int) < 2; decide),rfl,_,rfl,nQ (fun c => ?_) (fun c => ?_)⟩
  ·refine ⟨(by show 2 <= sizeLine; decide),fun l hl2 => ?_⟩
   refine nxt _ _ ⟨l,[1,0],rfl,s1.trans (aq hl2 _),af,rfl,fun z hz' => ?_⟩
   simp at hz'
   omega
  ·exact nxt _ _ ⟨MN,mn,rfl,s1,hM,hl1,hmn⟩
 rintro σ' H2 ⟨MN,mn,rfl,s2,hM2,hl2,hmn2⟩
 have r2:=s2 _ _ hr'
 have A2:=hA.same fun b xs e => s2 _ _ e
 refine ⟨_,rfl,r,_,rfl,.inr (qT_ r2),_,rfl,by omega,by omega,?_⟩
 obtain ⟨G,eG⟩ : ∃ G : Int -> Int,G = fun x => mn.getD (sQ ns (710 + x) % 2).toNat 0:=⟨_,rfl⟩
 refine iG (fun D i ys H' => Same H2 H' /\ ys = ((List.range i).map fun q : Nat => G (iO rows many (q : Int))).map V.int) (fun D hD => ⟨aq hD _,rfl⟩) ?_ ?_
 ·rintro D i ys H' Q' hD hi hy ⟨hs,rfl⟩ k'
  have hi' : i < many:=by omega
  have s3:=s2.trans hs
  have ri:=AJ R w0 (q:=(i : Int)) (by omega) (by omega)
  refine ⟨_,rfl,_,rfl,_,rfl,_,rfl,r,_,many,wide,ras,rows,rfl,hs _ _ r2,A2.same fun b xs e => hs _ _ e,R,w0,n1,by omega,?_⟩
  rw [Int.zero_add]
  refine ⟨_,_,rfl,rfl,a,_,ns,rfl,s3.seq hS,h63,by omega,by omega,?_⟩
  have r9:=cA (a:=sQ ns (710 + iO rows many (i : Int))) (b:=(2 : Int)) (by decide)
  have hM3:=hs _ _ hM2
  refine ⟨_,_,rfl,rfl,(by show (0 : Int) < 2; decide),MN,_,_,_,rfl,rfl,qL_ hM3,cy r9.1 (by omega),k' _ H' hy (aB (by rw [lm_,lm_,List.length_range]; omega)) ⟨aw hs hD,?_⟩⟩
  rw [List.range_succ,List.map_append,List.map_append,eG]
  rfl
 rintro FD ys H3 hF0 hF ⟨s3,rfl⟩
 obtain ⟨sg,esg⟩ : ∃ sg,((List.range many).map fun q : Nat => G (iO rows many (q : Int))) = sg:=⟨_,rfl⟩
 have ln : (((ras.map V.ref).length : Nat) : Int).toNat = many:=by omega
 rw [ln,esg] at hF
 have hl3 : sg.length = many:=by rw [<- esg,lm_,List.length_range]
 have hsg : ∀ z ∈ sg,0 <= z /\ z < 1000000:=fun z hz => by
  rw [<- esg] at hz
  obtain ⟨q,_,rfl⟩:=List.mem_map.mp hz
  have r9:=cA (a:=sQ ns (710 + iO rows many (q : Int))) (b:=(2 : Int)) (by decide)
  have lt : (sQ ns (710 + iO rows many (q : Int)) % 2).toNat < mn.length:=by omega
  rw [eG]
  show 0 <= mn.getD _ 0 /\ mn.getD _ 0 < 1000000
  rw [getD_at lt]
  exact hmn2 _ (List.getElem_mem lt)
 have st : uf many rows sg:=ET (drawn:=(List.range many).map fun x : Nat => G (x : Int)) R w0 (by
  rw [<- esg]
  refine List.map_congr_left fun q hq => ?_
  have hq' := List.mem_range.mp hq
  have ri:=AJ R w0 (q:=(q : Int)) (by omega) (by omega)
  rw [getD_at (by rw [lm_,List.length_range]; omega),List.getElem_map,List.getElem_range,Int.toNat_of_nonneg ri.1])
 refine ⟨_,rfl,_,rfl,_,rfl,FD,_,rfl,.inl ⟨qL_ hF,fun t ht => ?_⟩⟩
 have s4:=(s2.trans s3).trans (aq ht (HO.tup (sg.map V.int)))
 refine ⟨(by show 3 <= sizeLine; decide),fun m2 hm2 => ?_⟩
 have s5:=aq hm2 (HO.tup [V.int wide,V.ref r,V.ref t])
 refine k m2 t _ sg (s4.trans s5) ⟨af,⟨ras,(s4.trans s5) _ _ hr',hA.same fun b xs e => (s4.trans s5) _ _ e⟩,s5 _ _ af⟩ (by omega) hsg st
end
def lS (C : Addr) : Sp:=fun vs H Q _ => ∃ ea : Addr,vs = [.ref ea] /\ H ea = some (.ext (ExAt ea C)) /\ ∀ H',Same H H' -> Q (.bl false) H'
def ml : Sp:=fun vs H Q _ => ∃ (m : Addr) (r g : V) (b t : Nat),vs = [.ref m,.int t] /\ H m = some (.tup [.int b,r,g]) /\ 1 <= b /\ (t : Int) < 100000 /\ (b : Int) ^ t < NB /\ 1000 < b ^ t /\ ∀ H',Same H H' -> Q (.bl true) H'
theorem wz : bootBuiltins "ValueError" = some (.type "ValueError"):=by decide +kernel
theorem xR {X : Cx} (K : PySem.W.Frag) (h : X.K = K:=by rfl) : iR X (.builtin "isinstance") (JO K):=by subst h; exact eD
section
variable {P : Program} {w : World} {K : PySem.W.Frag} {mg : Str -> Option Value} {base : Heap} {f : Addr} {fd : FuncData} {dV : Value} {C F0 D1 D2 D3 D4 D5 D6 D7 D8 : Addr}
theorem sc__law_others : FnScope ["_law_e","_law_kinds"] ["_law_e"] (ah cu):=⟨rfl,rfl,rfl,by decide +kernel,rfl,by decide +kernel,by decide +kernel⟩
theorem sc__law_refused : FnScope ["_law_machine","_law_many","_law_seen","_law_e"] ["_law_machine","_law_many"] (ah b9):=⟨rfl,rfl,rfl,by decide +kernel,rfl,by decide +kernel,by decide +kernel⟩
theorem Ez (F : FunD K "_law_others" "_law_others" cu dV f fd) (c : XCls K C) (lG : mg "NoFigures" = some (.ref D1)) (lH : mg "NoMachine" = some (.ref D2)) (u9 : mg "NoName" = some (.ref D3)) (rp : mg "NoPower" = some (.ref D4))
  (yG : mg "NoRow" = some (.ref D5)) (va : mg "NoSome" = some (.ref D6)) (vb : mg "NoText" = some (.ref D7)) (nP : mg "TooGreat" = some (.ref D8))
  (n1 : PySem.W.kitOne K (.ref C) (.ref D1) = some false) (n2 : PySem.W.kitOne K (.ref C) (.ref D2) = some false) (n3 : PySem.W.kitOne K (.ref C) (.ref D3) = some false) (n4 : PySem.W.kitOne K (.ref C) (.ref D4) = some false)
  (n5 : PySem.W.kitOne K (.ref C) (.ref D5) = some false) (n6 : PySem.W.kitOne K (.ref C) (.ref D6) = some false) (n7 : PySem.W.kitOne K (.ref C) (.ref D7) = some false) (n8 : PySem.W.kitOne K (.ref C) (.ref D8) = some false)
  (az : mg "isinstance" = none) : FnOkH P w K mg base CX0 1 f fd ["_law_e"] (lS C):=by
 refine F.okH sc__law_others (fun vs H Q E h => ?_) (fun cdv A outer s H vs Q E hr h => ?_)
 ·obtain ⟨ea,rfl,_⟩:=h
  rfl
 obtain ⟨ea,rfl,he,q⟩:=h
 refine ⟨_,(ag (au (i:=1) sc__law_others.nd rfl (Or.inl rfl) (bR (aa (aA eD (by rfl) az aQ (aa (pv 0) (aa (eZ (v:=.ref _) rfl lG rfl) ae))) (aa (aA eD (by rfl) az aQ (aa (pv 0) (aa (eZ (v:=.ref _) rfl lH rfl) ae))) (aa (aA eD (by rfl) az aQ (aa (pv 0) (aa (eZ (v:=.ref _) rfl u9 rfl) ae))) (aa (aA eD (by rfl) az aQ (aa (pv 0) (aa (eZ (v:=.ref _) rfl rp rfl) ae))) ae))))))
   (ag (au (i:=1) sc__law_others.nd rfl (Or.inl rfl) (ay IP (pv 1) (bR (aa (aA eD (by rfl) az aQ (aa (pv 0) (aa (eZ (v:=.ref _) rfl yG rfl) ae))) (aa (aA eD (by rfl) az aQ (aa (pv 0) (aa (eZ (v:=.ref _) rfl va rfl) ae))) (aa (aA eD (by rfl) az aQ (aa (pv 0) (aa (eZ (v:=.ref _) rfl vb rfl) ae))) (aa (aA eD (by rfl) az aQ (aa (pv 0) (aa (eZ (v:=.ref _) rfl nP rfl) ae))) ae)))))))
   (ao (aI (hV EG cC (pv 1) (by with_unfolding_all rfl)))))),?_⟩
 refine ⟨_,rfl,ea,C,_,_,_,rfl,he,c,rfl,n1,_,rfl,ea,C,_,_,_,rfl,he,c,rfl,n2,_,rfl,ea,C,_,_,_,rfl,he,c,rfl,n3,_,rfl,ea,C,_,_,_,rfl,he,c,rfl,n4,(by show 4 <= sizeLine; decide),fun l1 h1 => ?_⟩
 have s1:=aq h1 (HO.lst [.bl false,.bl false,.bl false,.bl false])
 have e1:=s1 _ _ he
 refine ⟨_,rfl,_,rfl,ea,C,_,_,_,rfl,e1,c,rfl,n5,_,rfl,ea,C,_,_,_,rfl,e1,c,rfl,n6,_,rfl,ea,C,_,_,_,rfl,e1,c,rfl,n7,_,rfl,ea,C,_,_,_,rfl,e1,c,rfl,n8,(by show 4 <= sizeLine; decide),fun l2 h2 => ?_⟩
 have s2:=aq h2 (HO.lst [.bl false,.bl false,.bl false,.bl false])
 refine ⟨l1,l2,_,_,rfl,rfl,s2 _ _ af,af,(by show 8 <= sizeLine; decide),fun l3 h3 => ?_⟩
 have s3:=aq h3 (HO.lst [.bl false,.bl false,.bl false,.bl false,.bl false,.bl false,.bl false,.bl false])
 have sA:=s1.trans (s2.trans s3)
 exact ⟨_,rfl,l3,_,rfl,.inl (qL_ af),rfl,rfl,q _ sA⟩
theorem Cf (F : FunD K "_law_refused" "_law_refused" b9 dV f fd) (c : XCls K C) (dA : mg "FigureError" = some (.ref F0)) (dU : mg "TooWide" = some (.ref C)) (xm : PySem.W.exmOne K (.ref C) (.ref C) = some true) (kf : PySem.W.kitOne K (.ref C) (.ref F0) = some true)
  (kv : PySem.W.kitOne K (.ref C) (.type "ValueError") = some true) (jf : DefX P w K mg base "raised" 6 ["machine","power"] [] (mj C))
  (cU : DefH P w K mg base "_law_others" 1 ["_law_e"] [] (lS C)) (az : mg "isinstance" = none) (fh : mg "ValueError" = none) : FnOk P w K mg base CX0 7 f fd ["_law_machine","_law_many"] ml:=by
 refine F.ok sc__law_refused (fun vs H Q E h => ?_) (fun cdv A outer s H vs Q E hr h => ?_)
 ·obtain ⟨m,r,g,b,t,rfl,_⟩:=h
  rfl
 obtain ⟨m,r,g,b,t,rfl,hm,b1,t1,nb,big,k⟩:=h
 have hu:=hr.units0
 refine ⟨_,(ag (au (i:=2) sc__law_refused.nd rfl (Or.inl rfl) (bR (aa cC (aa cC ae))))
   (ag (Jb (i:=3) sc__law_refused.nd rfl rfl dU xm (Jc (HG (Gw jf hr (aa (pv 0) (aa (pv 1) ae))))) (fun _ => (ao (au (i:=2) sc__law_refused.nd rfl (Or.inl rfl) (bR (aa (Cj (aA (xR K) (by rfl) az aQ (aa (pv 3) (aa (eZ (v:=.ref _) rfl dA rfl) ae))) (Cn (aA (xR K) (by rfl) az aQ (aa (pv 3) (aa (iX (v:=.ty "ValueError") rfl fh wz rfl) ae))))) (aa (JM cU hr.held (aa (pv 3) ae)) ae)))))))
   (ao (aI (hV (IT hu) (pv 2) (bR (aa cC (aa cC ae))) (aW _)))))),?_⟩
 refine ⟨(by show 2 <= sizeLine; decide),fun l0 h0 => ?_⟩
 have s0:=aq h0 (HO.lst [.bl false,.bl true])
 refine ⟨_,rfl,_,rfl,m,r,g,b,t,rfl,s0 _ _ hm,b1,t1,nb,big,rfl,fun ea hea => ?_⟩
 have s1:=s0.trans (aq hea (HO.ext (ExAt ea C)))
 refine ⟨_,rfl,ea,C,_,_,_,rfl,af,c,rfl,kf,_,rfl,wR ⟨_,rfl,ea,C,_,_,_,rfl,af,c,rfl,kv,?_⟩⟩
 refine ⟨_,rfl,ea,rfl,af,fun H2 s2 => ?_⟩
 refine ⟨(by show 2 <= sizeLine; decide),fun l2 h2 => ?_⟩
 have s3:=s1.trans (s2.trans (aq h2 (HO.lst [.bl true,.bl false])))
 refine ⟨_,rfl,(by show 2 <= sizeLine; decide),fun l3 h3 => ?_⟩
 have s4:=aq h3 (HO.lst [.bl true,.bl false])
 exact ⟨l2,l3,_,_,rfl,rfl,qL_ (s4 _ _ af),qL_ af,rfl,rfl,k _ (s3.trans s4)⟩
end
def vY : Sp:=fun vs H Q _ => ∃ (b : Addr) (n : Nat) (wd : Int) (ns : LI),vs = [.ref b,.int n,.int wd] /\ H b = some (.tup (ns.map V.int)) /\ ns.length = n /\ (∀ z ∈ ns,0 <= z /\ z < wd) /\ Q (.bl true) H
def vX : Sp:=fun vs H Q _ => ∃ (m r g : Addr) (wide : Nat) (rows : LL) (signs : LI),vs = [.ref m,.int wide] /\ MachAt H m r g wide rows signs /\ RowsOk rows.length wide rows /\ 0 < rows.length /\ signs.length = rows.length /\ (∀ s ∈ signs,0 <= s /\ s < 1000000) /\
 ∀ H',Same H H' -> Q (.bl true) H'
def zf : Sp:=fun vs H Q _ => ∃ (r : Addr) (ras : List Addr) (wide : Nat) (rows : LL),vs = [.ref r] /\ H r = some (.tup (ras.map V.ref)) /\ RowsAt H ras rows /\ RowsOk rows.length wide rows /\ rows.length <= 1000 /\ InOrder rows /\ Q (.bl true) H
theorem lL (K : PySem.W.Frag) : PySem.W.kitOne K (.type "int") (.type "int") = some true:=by with_unfolding_all rfl
theorem ky (K : PySem.W.Frag) : PySem.W.kitOne K (.type "int") (.type "bool") = some false:=by with_unfolding_all rfl
section
variable {P : Program} {w : World} {K : PySem.W.Frag} {mg : Str -> Option Value} {base : Heap} {f : Addr} {fd : FuncData} {dV : Value}
theorem sc__law_is_row : FnScope ["_law_found","_law_many","_law_bound","_law_one"] ["_law_found","_law_many","_law_bound"] (ah cN):=⟨rfl,rfl,rfl,by decide +kernel,rfl,by decide +kernel,by decide +kernel⟩
theorem sc__law_is_machine : FnScope ["_law_found","_law_wide","_law_row"] ["_law_found","_law_wide"] (ah bU):=⟨rfl,rfl,rfl,by decide +kernel,rfl,by decide +kernel,by decide +kernel⟩
theorem sc__law_in_order : FnScope ["_law_rows","_law_many","_law_q","_law_there_here"] ["_law_rows"] (ah cc):=⟨rfl,rfl,rfl,by decide +kernel,rfl,by decide +kernel,by decide +kernel⟩
theorem Ey (F : FunD K "_law_is_row" "_law_is_row" cN dV f fd) (az : mg "isinstance" = none) (aO : mg "tuple" = none) (qp : mg "int" = none) (sH : mg "bool" = none) (aU : mg "len" = none) : FnOk P w K mg base CX0 1 f fd ["_law_found","_law_many","_law_bound"] vY:=by
 refine F.ok sc__law_is_row (fun vs H Q E h => ?_) (fun cdv A outer s H vs Q E hr h => ?_)
 ·obtain ⟨b,n,wd,ns,rfl,_⟩:=h
  rfl
 obtain ⟨b,n,wd,ns,rfl,hb,ln,hin,q⟩:=h
 refine ⟨_,(ag (bS (PW.pt (kW (fS (fc (aA ir (by rfl) az aQ (aa (pv 0) (aa (iX (v:=.ty "tuple") rfl aO bP rfl) ae))))) (lP (aS As (aA aD (by rfl) aU bG (aa (pv 0) ae)) (pv 1) (aW _))))) (ao (aI cC)) aX)
   (ag (bu PassesOwn.never rfl (kM (pv 0)) (ax (i:=3) sc__law_is_row.nd rfl (Or.inl rfl)) (ao (bS (PW.pt (kW (fS (fc (aA ir (by rfl) az aQ (aa (pv 3) (aa (iX (v:=.ty "int") rfl qp Be rfl) ae))))) (kW (fc (aA ir (by rfl) az aQ (aa (pv 3) (aa (iX (v:=.ty "bool") rfl sH C5 rfl) ae)))) (kW (aS Ar (pv 3) ak (aW _)) (lP (aS FZ (pv 3) (pv 2) (aW _))))))) (ao (aI cC)) aX)))
   (ao (aI cC)))),?_⟩
 refine ⟨_,rfl,_,_,_,_,rfl,TyOf.tup hb,gI K,_,rfl,gH ?_⟩
 refine ⟨_,rfl,b,_,rfl,.inr (qT_ hb),_,rfl,rfl,_,rfl,sU (fun z => absurd (by rw [lm_,ln]) z) (fun _ => ?_)⟩
 refine ⟨_,rfl,b,rfl,⟨_,qT_ hb⟩,pK (K:=K) (xs:=ns.map V.int) (fun i σ' H' => ∃ v,σ' = [some (.ref b),some (.int n),some (.int wd),v] /\ H' = H) ⟨none,rfl,rfl⟩ (fun i σ' H' _ ⟨_,_,e⟩ => by rw [e]; exact qT_ hb) ?_ ?_⟩
 ·rintro i y σ' H' hi ⟨v,rfl,rfl⟩
  obtain ⟨z,rfl,hz⟩:=bw hi
  have zr:=hin z (mq_ hz)
  refine ⟨_,rfl,_,_,_,_,rfl,TyOf.int z,lL K,_,rfl,gH ?_⟩
  refine ⟨_,rfl,_,_,_,_,rfl,TyOf.int z,ky K,_,rfl,gH ?_⟩
  refine ⟨_,rfl,_,_,rfl,rfl,_,rfl,kX (fun c => by omega) (fun _ => ?_)⟩
  exact ⟨_,rfl,_,rfl,_,_,rfl,rfl,_,rfl,kX (fun c => by omega) (fun _ => ⟨_,rfl,rfl⟩)⟩
 ·rintro σ' H' ⟨v,rfl,rfl⟩
  exact q
theorem Ex (F : FunD K "_law_is_machine" "_law_is_machine" bU dV f fd) (dy : DefOk P w K mg base "_law_is_row" 1 ["_law_found","_law_many","_law_bound"] [] vY) (az : mg "isinstance" = none) (aO : mg "tuple" = none) (aU : mg "len" = none) : FnOk P w K mg base CX0 2 f fd ["_law_found","_law_wide"] vX:=by
 refine F.ok sc__law_is_machine (fun vs H Q E h => ?_) (fun cdv A outer s H vs Q E hr h => ?_)
 ·obtain ⟨m,r,g,wide,rows,signs,rfl,_⟩:=h
  rfl
 obtain ⟨m,r,g,wide,rows,signs,rfl,M,R,n0,ls,hs,k⟩:=h
 obtain ⟨ras,hr',hA⟩:=M.rows
 have lras : ras.length = rows.length:=hA.length
 refine ⟨_,(ag (bS (PW.pt (kW (fS (fc (aA ir (by rfl) az aQ (aa (pv 0) (aa (iX (v:=.ty "tuple") rfl aO bP rfl) ae))))) (kW (aS As (aA aD (by rfl) aU bG (aa (pv 0) ae)) ak (aW _)) (lP (fS (fc (aV dy hr (aa (Aw Ji (pv 0) Dw (Dx ak)) (aa ak (aa (ay aY (pv 1) ak) ae)))))))))) (ao (aI cC)) aX)
   (ag (bS (PW.pt (kW (aS As (aL aK (pv 0) ak (fun _ _ => rfl)) (pv 1) (aW _)) (kW (fS (fc (aA ir (by rfl) az aQ (aa (aL aK (pv 0) ak (fun _ _ => rfl)) (aa (iX (v:=.ty "tuple") rfl aO bP rfl) ae))))) (lP (aS eY (aA aD (by rfl) aU bG (aa (aL aK (pv 0) ak (fun _ _ => rfl)) ae)) ak (aW _)))))) (ao (aI cC)) aX)
   (ag (bu PassesOwn.never rfl (kM (aL aK (pv 0) ak (fun _ _ => rfl))) (ax (i:=2) sc__law_is_machine.nd rfl (Or.inl rfl)) (ao (bS (fS (fc (aV dy hr (aa (pv 2) (aa (pv 1) (aa (aA aD (by rfl) aU bG (aa (aL aK (pv 0) ak (fun _ _ => rfl)) ae)) ae)))))) (ao (aI cC)) aX)))
   (ao (aI (aV dy hr (aa (aL aK (pv 0) ak (fun _ _ => rfl)) (aa (aA aD (by rfl) aU bG (aa (aL aK (pv 0) ak (fun _ _ => rfl)) ae)) (aa ak ae))))))))),?_⟩
 refine ⟨_,rfl,_,_,_,_,rfl,TyOf.tup M.tup,gI K,_,rfl,gH ?_⟩
 refine ⟨_,rfl,m,_,rfl,.inr (qT_ M.tup),rfl,_,rfl,sU (fun z => absurd rfl z) (fun _ => ?_)⟩
 refine ⟨_,rfl,1,rfl,m,_,rfl,.inr ⟨qT_ M.tup,(fun z => by
   have e : (1 : Nat) = 3:=congrArg List.length z
   omega),fun t ht => ?_⟩⟩
 have st:=aq ht (HO.tup [V.int wide])
 refine ⟨_,rfl,_,_,rfl,rfl,t,1,_,[(wide : Int)],rfl,af,rfl,fun z hz => by rw [List.mem_singleton.mp hz]; omega,_,rfl,gH ?_⟩
 have M1:=M.same fun b xs e => st _ _ e
 refine ⟨_,rfl,m,_,_,_,rfl,rfl,qT_ M1.tup,rfl,_,rfl,rfl,_,rfl,sU (fun z => absurd rfl z) (fun _ => ?_)⟩
 refine ⟨_,rfl,m,_,_,_,rfl,rfl,qT_ M1.tup,rfl,_,_,_,_,rfl,TyOf.tup (st _ _ hr'),gI K,_,rfl,gH ?_⟩
 refine ⟨_,rfl,m,_,_,_,rfl,rfl,qT_ M1.tup,rfl,r,_,rfl,.inr (qT_ (st _ _ hr')),rfl,_,rfl,kX (fun z => by
  have:=V.int.inj z
  rw [lm_] at this
  omega) (fun _ => ?_)⟩
 refine ⟨_,rfl,m,_,_,_,rfl,rfl,qT_ M1.tup,rfl,r,rfl,⟨_,qT_ (st _ _ hr')⟩,pK (K:=K) (xs:=ras.map V.ref) (fun i σ' H' => ∃ v,σ' = [some (.ref m),some (.int wide),v] /\ H' = upd H t (HO.tup [V.int wide])) ⟨none,rfl,rfl⟩ (fun i σ' H' _ ⟨_,_,e⟩ => by rw [e]; exact qT_ (st _ _ hr')) ?_ ?_⟩
 ·rintro i y σ' H' hi ⟨v,rfl,rfl⟩
  have jl : i < rows.length:=by
   have:=(gi_ hi).1
   rw [lm_] at this
   omega
  obtain ⟨ra,e1,e2⟩:=hA.get jl
  have ey : y = .ref ra:=by rw [List.getElem?_map,e1] at hi; exact (Option.some.inj hi).symm
  subst ey
  refine ⟨_,rfl,_,rfl,_,rfl,m,_,_,_,rfl,rfl,qT_ M1.tup,rfl,r,_,rfl,.inr (qT_ (st _ _ hr')),ra,wide,_,rows[i],rfl,st _ _ e2,R.row _ (List.getElem_mem jl),?_,_,rfl,gH ⟨_,rfl,rfl⟩⟩
  rw [lm_,lras]
  exact R.val _ (List.getElem_mem jl)
 ·rintro σ' H' ⟨v,rfl,rfl⟩
  refine ⟨_,rfl,m,_,_,_,rfl,rfl,qT_ M1.tup,rfl,_,rfl,m,_,_,_,rfl,rfl,qT_ M1.tup,rfl,r,_,rfl,.inr (qT_ (st _ _ hr')),g,(ras.map V.ref).length,1000000,signs,rfl,M1.sgn,by rw [lm_,lras]; exact ls,hs,k _ st⟩
theorem FR (F : FunD K "_law_in_order" "_law_in_order" cc dV f fd) (aU : mg "len" = none) (aH : mg "range" = none) : FnOk P w K mg base CX0 1 f fd ["_law_rows"] zf:=by
 refine F.ok sc__law_in_order (fun vs H Q E h => ?_) (fun cdv A outer s H vs Q E hr h => ?_)
 ·obtain ⟨r,ras,wide,rows,rfl,_⟩:=h
  rfl
 obtain ⟨r,ras,wide,rows,rfl,hr',hA,R,l1,O,q⟩:=h
 have lras : ras.length = rows.length:=hA.length
 refine ⟨_,(ag (au (i:=1) sc__law_in_order.nd rfl (Or.inl rfl) ak)
   (ag (bu PassesOwn.never rfl (bA rfl aH (aa (aA aD (by rfl) aU bG (aa (pv 0) ae)) ae)) (ax (i:=2) sc__law_in_order.nd rfl (Or.inl rfl)) (ag (bS (aS FZ (pv 2) (pv 1) (aW _)) (ao (aI cC)) aX)
   (ao (bu PassesOwn.never rfl (kM (aL aK (pv 0) (pv 2) (fun _ _ => rfl))) (ax (i:=3) sc__law_in_order.nd rfl (Or.inl rfl)) (ag (bS (aS Aq (pv 3) (pv 1) (aW _)) (ao (aI cC)) aX)
   (ao (bS (aS eY (pv 3) (pv 1) (aW _)) (ao (au (i:=1) sc__law_in_order.nd rfl (Or.inl rfl) (ay aY (pv 1) ak))) aX)))))))
   (ao (aI (hV eY (pv 1) (aA aD (by rfl) aU bG (aa (pv 0) ae)) (aW _)))))),?_⟩
 refine ⟨_,rfl,r,_,rfl,.inr (qT_ hr'),_,rfl,by rw [lm_]; omega,by rw [lm_]; omega,?_⟩
 rw [lm_,lras]
 refine b4 (fun i σ' H' => ∃ (m : Nat) (v2 v3 : OV),σ' = [some (.ref r),some (.int m),v2,v3] /\ H' = H /\ bJ i m (rows.drop i) = some rows.length) ⟨1,none,none,rfl,rfl,O⟩ ?_ ?_
 ·rintro i σ' H' hi ⟨m,v2,v3,rfl,rfl,o⟩
  rw [Int.toNat_natCast] at hi
  rw [Int.zero_add]
  rw [List.drop_eq_getElem_cons hi] at o
  obtain ⟨im,m1,o1,o2⟩:=Au o
  obtain ⟨ra,e1,e2⟩:=hA.get hi
  refine ⟨_,rfl,_,rfl,_,_,rfl,rfl,_,rfl,kX (fun c => by omega) (fun _ => ?_)⟩
  refine ⟨_,rfl,_,rfl,r,_,_,_,rfl,rfl,qT_ hr',jh (by omega) (by rw [Int.toNat_natCast]; exact e1),ra,rfl,⟨_,qT_ e2⟩,?_⟩
  refine pK (K:=K) (xs:=rows[i].map V.int) (fun j σ' H'' => ∃ (m' : Nat) (v3 : OV),σ' = [some (.ref r),some (.int m'),some (.int i),v3] /\ H'' = H' /\ ba m' (rows[i].drop j) = some m1) ⟨m,v3,rfl,rfl,o1⟩ (fun j σ' H'' _ ⟨_,_,_,e,_⟩ => by rw [e]; exact qT_ e2) ?_ ?_
  ·rintro j y σ' H'' hj ⟨m',v3,rfl,rfl,o3⟩
   obtain ⟨t,rfl,ht⟩:=bw hj
   have jl:=gi_ ht
   rw [List.drop_eq_getElem_cons jl.1,jl.2] at o3
   have o4 : (if t = (m' : Int) then ba (m' + 1) (rows[i].drop (j + 1)) else if t < (m' : Int) then ba m' (rows[i].drop (j + 1)) else none) = some m1:=o3
   by_cases c : t = (m' : Int)
   ·rw [if_pos c] at o4
    refine ⟨_,rfl,_,rfl,_,_,rfl,rfl,_,rfl,kX (fun z => by omega) (fun _ => ?_)⟩
    refine ⟨_,rfl,_,rfl,rfl,_,rfl,nQ (fun _ => ?_) (fun z => absurd c z)⟩
    exact ⟨_,rfl,_,_,rfl,rfl,m' + 1,_,rfl,rfl,o4⟩
   ·rw [if_neg c] at o4
    by_cases d : t < (m' : Int)
    ·rw [if_pos d] at o4
     refine ⟨_,rfl,_,rfl,_,_,rfl,rfl,_,rfl,kX (fun z => by omega) (fun _ => ?_)⟩
     exact ⟨_,rfl,_,rfl,rfl,_,rfl,nQ (fun z => absurd z c) (fun _ => ⟨m',_,rfl,rfl,o4⟩)⟩
    ·rw [if_neg d] at o4
     cases o4
  ·rintro σ' H'' ⟨m',v3,rfl,rfl,o3⟩
   rw [lm_,List.drop_length] at o3
   have e : m' = m1:=Option.some.inj o3
   subst e
   exact ⟨m',_,_,rfl,rfl,o2⟩
 ·rintro σ' H' ⟨m,v2,v3,rfl,rfl,o⟩
  rw [Int.toNat_natCast,List.drop_length] at o
  have e : m = rows.length:=Option.some.inj o
  subst e
  refine ⟨_,rfl,_,rfl,r,_,rfl,.inr (qT_ hr'),rfl,?_⟩
  rw [lm_,lras,decide_eq_true rfl]
  exact q
end
theorem code_inj {M x y x' y' : Int} (m0 : 0 < M) (hy : 0 <= y /\ y < M) (hy' : 0 <= y' /\ y' < M) (e : y + x * M = y' + x' * M) : x = x' /\ y = y' := by
 have h1 : (y + x * M) / M = x:=by rw [Int.add_mul_ediv_right _ _ (by omega),Int.ediv_eq_zero_of_lt hy.1 hy.2,Int.zero_add]
 have h2 : (y' + x' * M) / M = x' := by rw [Int.add_mul_ediv_right _ _ (by omega),Int.ediv_eq_zero_of_lt hy'.1 hy'.2,Int.zero_add]
 have ex : x = x' := by rw [<- h1,<- h2,e]
 subst ex
 exact ⟨rfl,by omega⟩
theorem yi {many many' : Nat} {pr : LL} (nd : pr.Nodup) (h : ∀ l ∈ pr,∃ x y : Int,l = [x,y] /\ (0 <= x /\ x < (many : Int)) /\ (0 <= y /\ y < (many' : Int))) : pr.length <= many * many' := by
 have nd2 : (pr.map fun l => l.getD 1 0 + l.getD 0 0 * (many' : Int)).Nodup:=List.pairwise_map.mpr (nd.imp_of_mem fun {a b} ha hb ne z => ne (by
  obtain ⟨x,y,rfl,hx,hy⟩:=h a ha
  obtain ⟨x',y',rfl,hx',hy'⟩:=h b hb
  obtain ⟨e1,e2⟩:=code_inj (by omega) hy hy' (show y + x * (many' : Int) = y' + x' * (many' : Int) from z)
  rw [e1,e2]))
 have t:=bN (many * many') nd2 fun q hq => by
  obtain ⟨l,hl,rfl⟩:=List.mem_map.mp hq
  obtain ⟨x,y,rfl,hx,hy⟩:=h l hl
  show 0 <= y + x * (many' : Int) /\ y + x * (many' : Int) < ((many * many' : Nat) : Int)
  have h1 : 0 <= x * (many' : Int):=Int.mul_nonneg hx.1 (by omega)
  have h2 : x * (many' : Int) <= ((many : Int) - 1) * (many' : Int):=Int.mul_le_mul_of_nonneg_right (by omega) (by omega)
  rw [Int.sub_mul,Int.one_mul] at h2
  push_cast
  omega
 rw [lm_] at t
 exact t
def sy : Sp:=fun vs H Q _ => ∃ b t : Nat,vs = [.int b,.int t] /\ 1 <= b /\ (t : Int) < 100000 /\ b ^ t <= 1000 /\ Q (.int ((b ^ t : Nat) : Int)) H
def oV : Sp:=fun vs H Q _ => ∃ b n : Nat,vs = [.int b,.int n] /\ 2 <= b /\ (1 <= n /\ n <= 1000) /\ b <= 1000 /\ ∀ t : Nat,b ^ t <= n -> n < b ^ (t + 1) -> Q (.int t) H
def GI (K : PySem.W.Frag) : Sp:=fun vs H Q _ => ∃ (r : Addr) (q : Int) (F k many wide : Nat) (ras : List Addr) (rows : LL),vs = [.ref r,.int q,.int F,.int k] /\ H r = some (.tup (ras.map V.ref)) /\ RowsAt H ras rows /\ RowsOk many wide rows /\ (0 <= q /\ q < (many : Int)) /\ (1 <= wide /\ wide <= 1000) /\ (F : Int) < 100000 /\ (k : Int) < 100000 /\ Q (.int (aM rows (gB wide k F) q)) H
def vU (K : PySem.W.Frag) : Sp:=fun vs H Q _ => ∃ (m r g m' r' g' : Addr) (many' wide k : Nat) (rows rows' : LL) (signs signs' : LI),vs = [.ref m,.ref m',.int k] /\ MachAt H m r g wide rows signs /\ MachAt H m' r' g' (wide ^ k) rows' signs' /\ RowsOk rows.length wide rows /\ RowsOk many' (wide ^ k) rows' /\ (1 <= rows.length /\ 1 <= many' /\ rows.length * many' <= 400 /\ wide ^ k <= 1000) /\ (2 <= wide /\ wide <= 1000) /\ signs.length = rows.length /\ signs'.length = many' /\ Tells (wide ^ k) (gf wide k rows) rows' signs signs' 0 0 /\
 ∀ H',Same H H' -> Q (.bl true) H'
section
variable {P : Program} {w : World} {K : PySem.W.Frag} {mg : Str -> Option Value} {base : Heap} {f : Addr} {fd : FuncData} {dV : Value}
theorem sc__law_product : FnScope ["_law_wide","_law_many","_law_found","_law_k"] ["_law_wide","_law_many"] (ah cB):=⟨rfl,rfl,rfl,by decide +kernel,rfl,by decide +kernel,by decide +kernel⟩
theorem sc__law_greatest : FnScope ["_law_wide","_law_most","_law_many"] ["_law_wide","_law_most"] (ah cb):=⟨rfl,rfl,rfl,by decide +kernel,rfl,by decide +kernel,by decide +kernel⟩
theorem sc__law_led : FnScope ["_law_rows","_law_q","_law_figure","_law_many","_law_wide","_law_k"] ["_law_rows","_law_q","_law_figure","_law_many"] (ah fT):=⟨rfl,rfl,rfl,by decide +kernel,rfl,by decide +kernel,by decide +kernel⟩
theorem sc__law_alike : FnScope ["_law_machine","_law_other","_law_many","_law_pairs","_law_at","_law_p","_law_q","_law_figure","_law_pair"] ["_law_machine","_law_other","_law_many"] (ah df):=⟨rfl,rfl,rfl,by decide +kernel,rfl,by decide +kernel,by decide +kernel⟩
theorem Cb (F : FunD K "_law_product" "_law_product" cB dV f fd) (aH : mg "range" = none) : FnOk P w K mg base CX0 1 f fd ["_law_wide","_law_many"] sy:=by
 refine F.ok sc__law_product (fun vs H Q E h => ?_) (fun cdv A outer s H vs Q E hr h => ?_)
 ·obtain ⟨b,t,rfl,_⟩:=h
  rfl
 obtain ⟨b,t,rfl,b1,t1,bt,k⟩:=h
 refine ⟨_,(ag (au (i:=2) sc__law_product.nd rfl (Or.inl rfl) ak)
   (ag (bu PassesOwn.never rfl (bA rfl aH (aa (pv 1) ae)) (ax (i:=3) sc__law_product.nd rfl (Or.inl rfl)) (ao (au (i:=2) sc__law_product.nd rfl (Or.inl rfl) (ay cX (pv 2) (pv 0)))))
   (ao (aI (pv 2))))),?_⟩
 refine ⟨_,rfl,(t : Int),rfl,by omega,by omega,b4 (fun i σ' H' => ∃ v,σ' = [some (.int b),some (.int t),some (.int ((b ^ i : Nat) : Int)),v] /\ H' = H) ⟨none,rfl,rfl⟩ ?_ ?_⟩
 ·rintro i σ' H' hi ⟨v,rfl,rfl⟩
  rw [Int.toNat_natCast] at hi
  have l0:=fO b1 (show i <= t by omega)
  refine ⟨_,rfl,_,rfl,_,_,rfl,rfl,.inl ⟨by omega,by omega⟩,some (.int (0 + (i : Int))),?_,rfl⟩
  rw [Nat.pow_succ]
  push_cast
  rfl
 ·rintro σ' H' ⟨v,rfl,rfl⟩
  rw [Int.toNat_natCast]
  exact ⟨_,rfl,k⟩
theorem Am (F : FunD K "_law_greatest" "_law_greatest" cb dV f fd) : FnOk P w K mg base CX0 1 f fd ["_law_wide","_law_most"] oV:=by
 refine F.ok sc__law_greatest (fun vs H Q E h => ?_) (fun cdv A outer s H vs Q E hr h => ?_)
 ·obtain ⟨b,n,rfl,_⟩:=h
  rfl
 obtain ⟨b,n,rfl,b2,⟨n1,n2⟩,b3,k⟩:=h
 refine ⟨_,(ag (au (i:=2) sc__law_greatest.nd rfl (Or.inl rfl) ak)
   (ag (jB PassesOwn.never (aS F1 (pv 0) (pv 1) (aW _)) (ag (au (i:=2) sc__law_greatest.nd rfl (Or.inl rfl) (ay aY (pv 2) ak))
   (ao (au (i:=1) sc__law_greatest.nd rfl (Or.inl rfl) (ay mf (pv 1) (pv 0))))))
   (ao (aI (pv 2))))),?_⟩
 refine mw (fun mm σ' H' => ∃ i : Nat,mm = n / b ^ i /\ σ' = [some (.int b),some (.int ((n / b ^ i : Nat) : Int)),some (.int i)] /\ H' = H /\ b ^ i <= n) ⟨_,0,rfl,by rw [Nat.pow_zero,Nat.div_one]; rfl,rfl,by rw [Nat.pow_zero]; exact n1⟩ ?_
 rintro mm σ' H' ⟨i,rfl,rfl,rfl,le⟩
 have bp : 0 < b ^ i:=Nat.pow_pos (by omega)
 have q1 : 1 <= n / b ^ i:=(Nat.le_div_iff_mul_le bp).mpr (by omega)
 have qn : n / b ^ i <= n:=Nat.div_le_self _ _
 have ed : n / b ^ i / b = n / b ^ (i + 1):=by rw [Nat.div_div_eq_div_mul,Nat.pow_succ]
 refine ⟨_,rfl,_,rfl,_,_,rfl,rfl,_,rfl,kX (fun c => ?_) (fun c => ?_)⟩
 ·have c' : b <= n / b ^ i:=by omega
  refine ⟨fun σ' H' => ∃ m',m' < n / b ^ i /\ ∃ j : Nat,m' = n / b ^ j /\ σ' = [some (.int b),some (.int ((n / b ^ j : Nat) : Int)),some (.int j)] /\ H' = _ /\ b ^ j <= n,fun _ _ h => h,?_⟩
  refine ⟨_,rfl,_,_,rfl,rfl,_,rfl,_,rfl,_,_,rfl,rfl,⟨by omega,by omega⟩,n / b ^ (i + 1),?_,i + 1,rfl,?_,rfl,?_⟩
  ·rw [<- ed]
   exact Nat.div_lt_self (by omega) (by omega)
  ·rw [<- ed]
   push_cast
   rfl
  ·rw [Nat.pow_succ]
   have:=(Nat.le_div_iff_mul_le bp).mp c'
   rw [Nat.mul_comm]
   exact this
 ·have c' : n / b ^ i < b:=by omega
  have lt : n < b ^ (i + 1):=by
   rw [Nat.pow_succ]
   have:=(Nat.div_lt_iff_lt_mul bp).mp c'
   rw [Nat.mul_comm]
   exact this
  exact ⟨_,rfl,k i le lt⟩
theorem IL (F : FunD K "_law_led" "_law_led" fT dV f fd) (aH : mg "range" = none) (aU : mg "len" = none) : FnOk P w K mg base CX0 1 f fd ["_law_rows","_law_q","_law_figure","_law_many"] (GI K):=by
 refine F.ok sc__law_led (fun vs H Q E h => ?_) (fun cdv A outer s H vs Q E hr h => ?_)
 ·obtain ⟨r,q,F,k,many,wide,ras,rows,rfl,_⟩:=h
  rfl
 obtain ⟨r,q,F',kk,many,wide,ras,rows,rfl,hr',hA,R,hq,⟨w1,w2⟩,f1,k1,k⟩:=h
 obtain ⟨ra0,e1,e2,e3⟩:=hA.kept R (q:=0) (by omega) (by omega)
 refine ⟨_,(ag (au (i:=4) sc__law_led.nd rfl (Or.inl rfl) (aA aD (by rfl) aU bG (aa (aL aK (pv 0) ak (fun _ _ => rfl)) ae)))
   (ag (bu PassesOwn.never rfl (bA rfl aH (aa (pv 3) ae)) (ax (i:=5) sc__law_led.nd rfl (Or.inl rfl)) (ag (au (i:=1) sc__law_led.nd rfl (Or.inl rfl) (aL aK (aL aK (pv 0) (pv 1) (fun _ _ => rfl)) (ay bc (pv 2) (pv 4)) (fun _ _ => rfl)))
   (ao (au (i:=2) sc__law_led.nd rfl (Or.inl rfl) (ay mf (pv 2) (pv 4))))))
   (ao (aI (pv 1))))),?_⟩
 refine ⟨_,rfl,r,_,_,_,rfl,rfl,qT_ hr',e1,ra0,_,rfl,.inr (qT_ e2),?_⟩
 rw [lm_,e3]
 refine ⟨_,rfl,(kk : Int),rfl,by omega,by omega,b4 (fun i σ' H' => ∃ v,σ' = [some (.ref r),some (.int (aM rows (gB wide i F') q)),some (.int ((F' / wide ^ i : Nat) : Int)),some (.int kk),some (.int wide),v] /\ H' = H) ⟨none,by rw [Nat.pow_zero,Nat.div_one]; rfl,rfl⟩ ?_ ?_⟩
 ·rintro i σ' H' hi ⟨v,rfl,rfl⟩
  have wi:=bV R (pI w1 i F') hq.1 hq.2
  have md:=Nat.mod_lt (F' / wide ^ i) (show 0 < wide by omega)
  have ec : ((F' / wide ^ i : Nat) : Int) % (wide : Int) = ((F' / wide ^ i % wide : Nat) : Int):=by push_cast; rfl
  have ed : ((F' / wide ^ i : Nat) : Int) / (wide : Int) = ((F' / wide ^ (i + 1) : Nat) : Int):=by rw [Nat.pow_succ,<- Nat.div_div_eq_div_mul]; push_cast; rfl
  obtain ⟨ra,rr,a1,a2,a3⟩:=lQ hA R wi.1 wi.2 (show (0 : Int) <= ((F' / wide ^ i % wide : Nat) : Int) by omega) (show ((F' / wide ^ i % wide : Nat) : Int) < (wide : Int) by omega)
  rw [<- ec] at a3
  refine ⟨_,rfl,_,rfl,r,_,_,_,rfl,rfl,qT_ hr',a1,_,rfl,_,rfl,_,_,rfl,rfl,by omega,ra,_,_,_,rfl,rfl,qT_ a2,a3,?_⟩
  refine ⟨_,rfl,_,rfl,_,_,rfl,rfl,⟨by omega,by omega⟩,some (.int (0 + (i : Int))),?_,rfl⟩
  rw [q9,we,<- ec,<- ed]
  rfl
 ·rintro σ' H' ⟨v,rfl,rfl⟩
  rw [Int.toNat_natCast]
  exact ⟨_,rfl,k⟩
end
section
variable {P : Program} {w : World} {K : PySem.W.Frag} {mg : Str -> Option Value} {base : Heap} {f : Addr} {fd : FuncData} {dV : Value}
theorem Et (F : FunD K "_law_alike" "_law_alike" df dV f fd) (mU : DefOk P w K mg base "_law_led" 1 ["_law_rows","_law_q","_law_figure","_law_many"] [] (GI K)) (aU : mg "len" = none) (aH : mg "range" = none) : FnOk P w K mg base CX0 2 f fd ["_law_machine","_law_other","_law_many"] (vU K):=by
 refine F.ok sc__law_alike (fun vs H Q E h => ?_) (fun cdv A outer s H vs Q E hr h => ?_)
 ·obtain ⟨m,r,g,m',r',g',many',wide,k,rows,rows',signs,signs',rfl,_⟩:=h
  rfl
 obtain ⟨m,r,g,m',r',g',many',wide,kk,rows,rows',signs,signs',rfl,M,M',R,R',⟨n0,n0',nn,w1⟩,⟨w2,ww⟩,ls,ls',T,k⟩:=h
 obtain ⟨ras,hr',hA⟩:=M.rows
 obtain ⟨ras',hr2,hA'⟩:=M'.rows
 have hu2:=Fn hr
 have kb:=two_le_pow (k:=kk) w2
 have RX:=vL (k:=kk) (show 1 <= wide by omega) R
 obtain ⟨RR,eRR⟩ : ∃ RR,gf wide kk rows = RR:=⟨_,rfl⟩
 rw [eRR] at RX T
 obtain ⟨W,eW⟩ : ∃ W,wide ^ kk = W:=⟨_,rfl⟩
 rw [eW] at RX T w1 M' R' kb
 refine yw (aZ (PSW.mk (au (i:=3) sc__law_alike.nd rfl (Or.inl rfl) (bR (aa (iM (aa ak (aa ak ae))) ae))))
   (aZ (PSW.mk (au (i:=4) sc__law_alike.nd rfl (Or.inl rfl) ak))
   (aZ (HX PassesOwn.never (PTW.mk (aS Ar (pv 4) (aA aD (by rfl) aU bG (aa (pv 3) ae)) (aW _))) (aZ (PSW.mk (y1 (aL eN (pv 3) (pv 4) (fun _ _ => rfl)) (oE rfl (bE (ax (i:=5) sc__law_alike.nd rfl (Or.inl rfl)) (bE (ax (i:=6) sc__law_alike.nd rfl (Or.inl rfl)) iY)))))
   (aZ (PSW.mk (bS (aS As (aL aK (aL aK (pv 0) ak (fun _ _ => rfl)) (pv 5) (fun _ _ => rfl)) (aL aK (aL aK (pv 1) ak (fun _ _ => rfl)) (pv 6) (fun _ _ => rfl)) (aW _)) (ao (aI cC)) aX))
   (aZ (J7 PassesOwn.never rfl (bA rfl aH (aa (aL aK (pv 1) ak (fun _ _ => rfl)) ae)) (ax (i:=7) sc__law_alike.nd rfl (Or.inl rfl)) (aZ (Ka (i:=8) sc__law_alike.nd rfl (Or.inl rfl) (Ih (mv (PEW.mk (aV mU hr (aa (aL aK (pv 0) ak (fun _ _ => rfl)) (aa (pv 5) (aa (pv 7) (aa (pv 2) ae)))))) (mv (PEW.mk (aL aK (aL aK (aL aK (pv 1) ak (fun _ _ => rfl)) (pv 6) (fun _ _ => rfl)) (pv 7) (fun _ _ => rfl))) CW))))
   (sG (PSW.mk (bS (aS ((EH hu2)) (pv 8) (pv 3) (by with_unfolding_all rfl)) (ao (bq (fj PySem.F.plainAttrs_list PySem.F.slot_list_append PySem.F.type_list_append bD (pv 3) (aa (pv 8) ae)))) aX)))))
   (sG (PSW.mk (au (i:=4) sc__law_alike.nd rfl (Or.inl rfl) (ay aY (pv 4) ak))))))))
   (sG (PSW.mk (aI cC)))))) ?_
 refine ⟨(by show 2 <= sizeLine; decide),fun t0 ht0 => ⟨(by show 1 <= sizeLine; decide),fun PL hPL => ?_⟩⟩
 obtain ⟨H1,eH1⟩ : ∃ H1,upd (upd H t0 (HO.tup [V.int 0,V.int 0])) PL (HO.lst [V.ref t0]) = H1:=⟨_,rfl⟩
 have s1 : Same H H1:=by rw [<- eH1]; exact (aq ht0 _).trans (aq hPL _)
 have ntP : t0 ≠ PL:=av af hPL
 have hPL1 : H1 PL = some (.lst ([t0].map V.ref)):=by rw [<- eH1,af]; rfl
 have ht1 : H1 t0 = some (.tup ([(0 : Int),0].map V.int)):=by rw [<- eH1,aj ntP,af]; rfl
 have fP : H PL = none:=(aq ht0 (HO.tup [V.int 0,V.int 0])).free hPL
 rw [eH1]
 try dsimp only [bB,dm]
 refine dR (t:=lU _ _) (fun σ' H' => Same H H') ?_ (fun D' nxt => ?_)
 rotate_left
 ·refine mw (fun mm σ' H' => ∃ (n : Nat) (as : List Addr) (pr : LL) (v4 v5 v6 v7 : OV),mm = rows.length * many' - n /\ n <= pr.length /\ σ' = [some (.ref m),some (.ref m'),some (.int kk),some (.ref PL),some (.int n),v4,v5,v6,v7] /\ Same H H' /\ H' PL = some (.lst (as.map V.ref)) /\ qw H' as pr /\ pr.Nodup /\ ∀ l ∈ pr,∃ v,InF W v /\ l = [aM RR v 0,aM rows' v 0])
   ⟨_,0,[t0],[[0,0]],none,none,none,none,rfl,Nat.zero_le _,rfl,s1,hPL1,.cons ht1 .nil,List.nodup_cons.mpr ⟨by simp,List.nodup_nil⟩,fun l hl => ⟨[],(fun f hf => by cases hf),by rw [List.mem_singleton.mp hl]; rfl⟩⟩ ?_
  rintro mm σ' H2 ⟨n,as,pr,v4,v5,v6,v7,emm,nl,rfl,s2,hP2,TA,nd,wk⟩
  have rg : ∀ l ∈ pr,∃ x y : Int,l = [x,y] /\ (0 <= x /\ x < (rows.length : Int)) /\ (0 <= y /\ y < (many' : Int)):=fun l hl => by
   obtain ⟨v,hv,rfl⟩:=wk l hl
   exact ⟨_,_,rfl,bV RX hv (by omega) (by omega),bV R' hv (by omega) (by omega)⟩
  have few:=yi nd rg
  have lap : as.length = pr.length:=Paired.length TA
  refine ⟨_,rfl,_,rfl,PL,_,rfl,.inl (qL_ hP2),_,_,rfl,rfl,_,rfl,kX (fun c => ?_) (fun c => ?_)⟩
  ·rw [lm_,lap] at c
   have nlt : n < pr.length:=by omega
   refine ⟨fun σ' H' => ∃ m1,m1 < mm /\ ∃ (n : Nat) (as : List Addr) (pr : LL) (v4 v5 v6 v7 : OV),m1 = rows.length * many' - n /\ n <= pr.length /\ σ' = [some (.ref m),some (.ref m'),some (.int kk),some (.ref PL),some (.int n),v4,v5,v6,v7] /\ Same H H' /\ H' PL = some (.lst (as.map V.ref)) /\ qw H' as pr /\ pr.Nodup /\ ∀ l ∈ pr,∃ v,InF W v /\ l = [aM RR v 0,aM rows' v 0],fun _ _ h => h,?_⟩
   obtain ⟨v,hv,epq⟩:=wk _ (List.getElem_mem nlt)
   obtain ⟨p,ep⟩ : ∃ p,aM RR v 0 = p:=⟨_,rfl⟩
   obtain ⟨q,eq⟩ : ∃ q,aM rows' v 0 = q:=⟨_,rfl⟩
   have pi:=bV RX hv (h:=0) (by omega) (by omega)
   have qi:=bV R' hv (h:=0) (by omega) (by omega)
   rw [ep] at pi epq
   rw [eq] at qi epq
   have nla : n < as.length:=by omega
   have hT : H2 as[n] = some (.tup [V.int p,V.int q]):=by
    have:=jz nla nlt TA
    rw [epq] at this
    exact this
   have ats : atI (as.map V.ref) (n : Int) = some (.ref as[n]):=jh (by omega) (by rw [Int.toNat_natCast]; exact List.getElem?_eq_getElem nla)
   refine ⟨_,rfl,_,rfl,PL,_,_,_,rfl,rfl,qL_ hP2,ats,as[n],_,rfl,qT_ hT,rfl,_,_,rfl,_,_,rfl,rfl,?_⟩
   have M2:=M.same fun b xs e => s2 _ _ e
   have M2' := M'.same fun b xs e => s2 _ _ e
   have tell:=T v hv
   rw [ep,eq] at tell
   unfold sgn at tell
   refine ⟨_,rfl,m,_,_,_,rfl,rfl,qT_ M2.tup,rfl,_,rfl,g,_,_,_,rfl,rfl,qT_ M2.sgn,cy pi.1 (by omega),_,rfl,m',_,_,_,rfl,rfl,qT_ M2'.tup,rfl,_,rfl,g',_,_,_,rfl,rfl,qT_ M2'.sgn,cy qi.1 (by omega),rfl,_,rfl,sU (fun z => absurd (by rw [tell]) z) (fun _ => ?_)⟩
   refine ⟨_,rfl,m',_,_,_,rfl,rfl,qT_ M2'.tup,rfl,(W : Int),rfl,by omega,by omega,?_⟩
   refine b4 (fun j σ' H' => ∃ (as : List Addr) (pr : LL) (v6 v7 : OV),n < pr.length /\ σ' = [some (.ref m),some (.ref m'),some (.int kk),some (.ref PL),some (.int n),some (.int p),some (.int q),v6,v7] /\ Same H H' /\ H' PL = some (.lst (as.map V.ref)) /\ qw H' as pr /\ pr.Nodup /\ ∀ l ∈ pr,∃ v,InF W v /\ l = [aM RR v 0,aM rows' v 0])
    ⟨as,pr,_,_,nlt,rfl,s2,hP2,TA,nd,wk⟩ ?_ ?_
   ·rintro j σ' H3 hj ⟨as,pr,v6,v7,nlt,rfl,s3,hP3,TA3,nd3,wk3⟩
    rw [Int.toNat_natCast] at hj
    rw [Int.zero_add]
    have M3:=M.same fun b xs e => s3 _ _ e
    have M3' := M'.same fun b xs e => s3 _ _ e
    have ex : stepI RR p (j : Int) = aM rows (gB wide kk j) p:=by
     rw [<- eRR,vM (by omega) pi ⟨by omega,by omega⟩,Int.toNat_natCast]
    obtain ⟨x,exx⟩ : ∃ x,aM rows (gB wide kk j) p = x:=⟨_,rfl⟩
    obtain ⟨rb,rr,b1,b2,b3⟩:=lQ (hA'.same fun b xs e => s3 _ _ e) R' qi.1 qi.2 (show (0 : Int) <= (j : Int) by omega) (show (j : Int) < (W : Int) by omega)
    obtain ⟨y,ey⟩ : ∃ y,stepI rows' q (j : Int) = y:=⟨_,rfl⟩
    rw [ey] at b3
    refine ⟨_,rfl,m,_,_,_,rfl,rfl,qT_ M3.tup,rfl,_,rfl,_,rfl,_,rfl,r,p,j,kk,rows.length,wide,ras,rows,rfl,s3 _ _ hr',hA.same (fun b xs e => s3 _ _ e),R,pi,⟨by omega,ww⟩,by omega,by omega,?_⟩
    refine ⟨_,rfl,m',_,_,_,rfl,rfl,qT_ M3'.tup,rfl,_,rfl,r',_,_,_,rfl,rfl,qT_ (s3 _ _ hr2),b1,_,rfl,rb,_,_,_,rfl,rfl,qT_ b2,b3,(by show 2 <= sizeLine; decide),fun tt htt => ?_⟩
    rw [exx] at ex ⊢
    have st:=aq htt (HO.tup [V.int x,V.int y])
    obtain ⟨H5,eH5⟩ : ∃ H5,upd H3 tt (HO.tup [V.int x,V.int y]) = H5:=⟨_,rfl⟩
    have htt5 : H5 tt = some (.tup ([x,y].map V.int)):=by rw [<- eH5,af]; rfl
    rw [eH5] at st ⊢
    have hP5:=st _ _ hP3
    have TA5 : qw H5 as pr:=Paired.mapP TA3 fun b r e => st _ _ e
    have lap3 : as.length = pr.length:=Paired.length TA3
    refine ⟨_,rfl,_,rfl,tt,PL,as,pr,[x,y],rfl,rfl,hP5,TA5,htt5,_,rfl,sU (fun c => ?_) (fun c => ?_)⟩
    ·have few3:=yi nd3 (fun l hl => by
      obtain ⟨v,hv,rfl⟩:=wk3 l hl
      exact ⟨_,_,rfl,bV RX hv (by omega) (by omega),bV R' hv (by omega) (by omega)⟩)
     refine ⟨_,rfl,.inl ⟨rfl,_,qL_ hP5⟩,_,rfl,PL,_,_,rfl,rfl,hP5,aB (by rw [lm_]; omega),?_⟩
     have up : ∀ b xs,H5 b = some (.tup xs) -> (upd H5 PL (.lst (as.map V.ref ++ [V.ref tt]))) b = some (.tup xs):=fun b xs e => by
      rw [aj (aJ e hP5 (by intro z; cases z))]; exact e
     refine ⟨as ++ [tt],pr ++ [[x,y]],_,_,by rw [List.length_append]; omega,rfl,aw (s3.trans st) fP,by rw [af,List.map_append]; rfl,Paired.snoc (Paired.mapP TA5 fun b r e => up _ _ e) (up _ _ htt5),?_,fun l hl => ?_⟩
     ·exact List.nodup_append.mpr ⟨nd3,by simp,fun a ha b hb e => c (by rw [<- List.mem_singleton.mp hb,<- e]; exact ha)⟩
     ·rcases ma_.mp hl with z | z
      ·exact wk3 l z
      ·refine ⟨v ++ [(j : Int)],fun f hf => ?_,?_⟩
       ·rcases ma_.mp hf with y | y
        ·exact hv f y
        ·rw [List.mem_singleton.mp y]; omega
       ·rw [List.mem_singleton.mp z,sF,sF,ep,eq,ex,ey]
    ·exact ⟨as,pr,_,_,nlt,rfl,s3.trans st,hP5,TA5,nd3,wk3⟩
   ·rintro σ' H3 ⟨as,pr,v6,v7,nlt,rfl,s3,hP3,TA3,nd3,wk3⟩
    exact ⟨_,rfl,_,_,rfl,rfl,_,by rw [emm]; omega,n + 1,as,pr,_,_,_,_,rfl,by omega,rfl,s3,hP3,TA3,nd3,wk3⟩
  ·exact nxt _ _ s2
 rintro σ' H2 s2
 exact k _ s2
end
theorem E9 (ns : LI) (lo hi : Option Int) : ∃ ms : LI,qU (ns.map V.int) lo hi = ms.map V.int /\ ms.length <= ns.length:=by
 unfold qU
 rw [<- List.map_drop,<- List.map_take]
 exact ⟨_,rfl,by rw [List.length_take,List.length_drop]; omega⟩
theorem Gk {b t : Nat} (hb : b <= 16) (ht : t <= 270) : (b : Int) ^ t < NB:=by
 have e : (b : Int) ^ t = ((b ^ t : Nat) : Int):=by push_cast; rfl
 have h1 : b ^ t <= 16 ^ t:=Nat.pow_le_pow_left hb t
 have h2 : 16 ^ t <= 16 ^ 270:=Nat.pow_le_pow_right (by decide) ht
 have h3 : ((16 ^ 270 : Nat) : Int) < NB:=by decide +kernel
 rw [e]
 omega
theorem Dk {b t : Nat} (hb : 2 <= b) (h : b ^ t <= 1000) : t <= 9:=by
 rcases Nat.lt_or_ge t 10 with z | z
 ·omega
 ·exfalso
  have h1 : b ^ 10 <= b ^ t:=Nat.pow_le_pow_right (by omega) z
  have h2 : 2 ^ 10 <= b ^ 10:=Nat.pow_le_pow_left hb 10
  omega
def DB (K : PySem.W.Frag) : Sp:=fun vs H Q _ => ∃ (a : Addr) (ns : LI),vs = [.ref a] /\ SqL K H a (ns.map V.int) /\ ns.length <= 63 /\ ∀ H',Q (.bl true) H'
section
variable {P : Program} {w : World} {K : PySem.W.Frag} {mg : Str -> Option Value} {base : Heap} {f : Addr} {fd : FuncData} {dV : Value}
theorem sc_law : FnScope ["_law_script","_law_edge","_law_wide","_law_rooms","_law_many","_law_machine","_law_steady","_law_found","_law_cell","_law_over"] ["_law_script"] (ah qf):=⟨rfl,rfl,rfl,by decide +kernel,rfl,by decide +kernel,by decide +kernel⟩
theorem IK (F : FunD K "law" "law" qf dV f fd) (aC : DefOk P w K mg base "_law_draw" 1 ["_law_script","_law_k"] [] (su K)) (cM : DefOk P w K mg base "_law_greatest" 1 ["_law_wide","_law_most"] [] oV) (dY : DefOk P w K mg base "_law_machine_of" 3 ["_law_script","_law_at","_law_many","_law_wide"] [] (lR K))
  (gi : DefOk P w K mg base "_law_steadied" 2 ["_law_script","_law_machine"] [] (oW K)) (pb : DefOk P w K mg base "raised" 6 ["machine","power"] [] (wa K)) (dX : DefOk P w K mg base "_law_is_machine" 2 ["_law_found","_law_wide"] [] vX) (ic : DefOk P w K mg base "_law_product" 1 ["_law_wide","_law_many"] [] sy)
  (gh : DefOk P w K mg base "_law_in_order" 1 ["_law_rows"] [] zf) (jK : DefOk P w K mg base "_law_alike" 2 ["_law_machine","_law_other","_law_many"] [] (vU K)) (jP : DefOk P w K mg base "least" 5 ["machine"] [] (ux K)) (lY : DefOk P w K mg base "sign_at" 5 ["machine","number"] [] (CK K id)) (dZ : DefOk P w K mg base "_law_refused" 7 ["_law_machine","_law_many"] [] ml) : FnOk P w K mg base CX0 8 f fd ["_law_script"] (DB K):=by
 refine F.ok sc_law (fun vs H Q E h => ?_) (fun cdv A outer s H vs Q E hr h => ?_)
 ·obtain ⟨a,ns,rfl,_⟩:=h
  rfl
 obtain ⟨a,ns,rfl,hS,h63,k⟩:=h
 have hu3:=Ir hr
 refine yw (aZ (PSW.mk (au (i:=1) sc_law.nd rfl (Or.inl rfl) (hV eY (ay bc (aV aC hr (aa (pv 0) (aa ak ae))) ak) ak (aW _))))
   (aZ (PSW.mk (au (i:=2) sc_law.nd rfl (Or.inl rfl) (ay aY ak (ay bc (aV aC hr (aa (pv 0) (aa ak ae))) ak))))
   (aZ (PSW.mk (au (i:=3) sc_law.nd rfl (Or.inl rfl) (ay aY ak (ay bc (aV aC hr (aa (pv 0) (aa ak ae))) ak))))
   (aZ (PSW.mk (au (i:=4) sc_law.nd rfl (Or.inl rfl) (ay aY ak (ay bc (aV aC hr (aa (pv 0) (aa ak ae))) (aV cM hr (aa (pv 2) (aa ak ae)))))))
   (aZ (PSW.mk (bS (jC (pv 1) (fun _ => rfl)) (ag (au (i:=2) sc_law.nd rfl (Or.inl rfl) (ay aY ak (ay bc (aV aC hr (aa (pv 0) (aa ak ae))) ak)))
   (ag (au (i:=3) sc_law.nd rfl (Or.inl rfl) (ay aY ak (ay bc (aV aC hr (aa (pv 0) (aa ak ae))) ak)))
   (ao (au (i:=4) sc_law.nd rfl (Or.inl rfl) (aV cM hr (aa (pv 2) (aa ak ae))))))) aX))
   (aZ (PSW.mk (au (i:=5) sc_law.nd rfl (Or.inl rfl) (aV dY hr (aa (pv 0) (aa ak (aa (pv 3) (aa (pv 2) ae)))))))
   (aZ (PSW.mk (au (i:=6) sc_law.nd rfl (Or.inl rfl) (hV eY (ay bc (aV aC hr (aa (pv 0) (aa ak ae))) ak) ak (aW _))))
   (aZ (PSW.mk (bS (jC (pv 6) (fun _ => rfl)) (ao (au (i:=5) sc_law.nd rfl (Or.inl rfl) (aV gi hr (aa (pv 0) (aa (pv 5) ae))))) aX))
   (aZ (PSW.mk (au (i:=7) sc_law.nd rfl (Or.inl rfl) (aV pb hr (aa (pv 5) (aa (pv 4) ae)))))
   (aZ (PSW.mk (bS (PW.pt (kW (fS (fc (aV dX hr (aa (pv 7) (aa (aV ic hr (aa (pv 2) (aa (pv 4) ae))) ae))))) (lP (fS (fc (aV gh hr (aa (aL aK (pv 7) ak (fun _ _ => rfl)) ae))))))) (ao (aI cC)) aX))
   (aZ (PSW.mk (bS (PW.pt (kW (fS (fc (aV jK hr (aa (pv 5) (aa (pv 7) (aa (pv 4) ae)))))) (lP (aS ((IU 2 hu3)) (aV jP hr (aa (pv 7) ae)) (pv 7) (aW _))))) (ao (aI cC)) aX))
   (aZ (PSW.mk (bu PassesOwn.never rfl (ck (Aw DA (pv 0) Dw (Dx ak))) (ax (i:=8) sc_law.nd rfl (Or.inl rfl)) (ao (bS (PW.pt (se (jC (pv 6) (fun _ => rfl)) (mi (aS As (aV lY hr (aa (pv 7) (aa (ay bc (pv 8) (ay F5 ak ak)) ae))) (aV lY hr (aa (pv 5) (aa (ay bc (pv 8) (ay F5 ak ak)) ae))) (aW _))))) (ao (aI cC)) aX))))
   (aZ (PSW.mk (au (i:=9) sc_law.nd rfl (Or.inl rfl) (ay aY ak (aV cM hr (aa (pv 2) (aa ak ae))))))
   (aZ (PSW.mk (bS (PW.pt (kW (fS (fc (aV dZ hr (aa (pv 5) (aa (pv 9) ae))))) (lP (fS (fc (aV dZ hr (aa (pv 5) (aa (ay aY (ay aY (pv 9) ak) (ay bc (aV aC hr (aa (pv 0) (aa ak ae))) ak)) ae)))))))) (ao (aI cC)) aX))
   (sG (PSW.mk (aI (hV ((IQ 2 hu3)) (aV pb hr (aa (pv 5) (aa (pv 4) ae))) (pv 7) (aW _))))))))))))))))))) ?_
 refine ⟨_,rfl,a,0,ns,rfl,hS,h63,by decide,by decide,fun e0 _ _ => ⟨_,_,rfl,rfl,(by show (0 : Int) < 8; decide),rfl,?_⟩⟩
 refine ⟨_,rfl,a,1,ns,rfl,hS,h63,by decide,by decide,fun e1 _ _ => ⟨_,_,rfl,rfl,(by show (0 : Int) < 4; decide),_,_,rfl,rfl,?_⟩⟩
 have r1:=cA (a:=e1) (b:=4) (by decide)
 obtain ⟨w1,ew1⟩:=gP (x:=2 + e1 % 4) (by omega)
 try dsimp only [bB,dm,List.set]
 rw [ew1]
 refine ⟨_,rfl,a,2,ns,rfl,hS,h63,by decide,by decide,fun e2 _ _ => ⟨_,_,rfl,rfl,(by show (0 : Int) < 5; decide),_,_,rfl,rfl,?_⟩⟩
 have r2:=cA (a:=e2) (b:=5) (by decide)
 obtain ⟨o1,eo1⟩:=gP (x:=1 + e2 % 5) (by omega)
 try dsimp only [bB,dm,List.set]
 rw [eo1]
 refine ⟨_,rfl,a,3,ns,rfl,hS,h63,by decide,by decide,fun e3 _ _ => ⟨_,rfl,w1,64,rfl,by omega,⟨by decide,by decide⟩,by omega,fun t g1 g2 => ?_⟩⟩
 have t1 : 1 <= t:=by
  rcases Nat.eq_zero_or_pos t with z | z
  ·subst z
   rw [Nat.zero_add,Nat.pow_one] at g2
   omega
  ·exact z
 have r3:=cA (a:=e3) (b:=(t : Int)) (by omega)
 refine ⟨_,_,rfl,rfl,by omega,_,_,rfl,rfl,?_⟩
 obtain ⟨k1,ek1⟩:=gP (x:=1 + e3 % (t : Int)) (by omega)
 try dsimp only [bB,dm,List.set]
 rw [ek1]
 have p1 : w1 ^ k1 <= 1000:=Nat.le_trans (fO (w:=w1) (by omega) (show k1 <= t by omega)) (by omega)
 refine dR (t:=CN _ _ _) (fun σ' H' => ∃ wide rooms many : Nat,∃ v1,σ' = [some (.ref a),v1,some (.int wide),some (.int rooms),some (.int many),none,none,none,none,none] /\ H' = H /\ (2 <= wide /\ wide <= 10) /\ (1 <= rooms /\ rooms <= 5) /\ 1 <= many /\ wide ^ many <= 1000) ?_ (fun D' nxt => ?_)
 rotate_left
 ·refine ⟨_,rfl,_,rfl,kX (fun _ => ?_) (fun _ => ?_)⟩
  ·refine ⟨_,rfl,a,1,ns,rfl,hS,h63,by decide,by decide,fun e1 _ _ => ⟨_,_,rfl,rfl,(by show (0 : Int) < 9; decide),_,_,rfl,rfl,?_⟩⟩
   have r1:=cA (a:=e1) (b:=9) (by decide)
   obtain ⟨w1,ew1⟩:=gP (x:=2 + e1 % 9) (by omega)
   try dsimp only [bB,dm,List.set]
   rw [ew1]
   refine ⟨_,rfl,a,2,ns,rfl,hS,h63,by decide,by decide,fun e2 _ _ => ⟨_,_,rfl,rfl,(by show (0 : Int) < 2; decide),_,_,rfl,rfl,?_⟩⟩
   have r2:=cA (a:=e2) (b:=2) (by decide)
   obtain ⟨o1,eo1⟩:=gP (x:=1 + e2 % 2) (by omega)
   try dsimp only [bB,dm,List.set]
   rw [eo1]
   refine ⟨_,rfl,w1,1000,rfl,by omega,⟨by decide,by decide⟩,by omega,fun t g1 g2 => ?_⟩
   have t1 : 1 <= t:=by
    rcases Nat.eq_zero_or_pos t with z | z
    ·subst z
     rw [Nat.zero_add,Nat.pow_one] at g2
     omega
    ·exact z
   exact nxt _ _ ⟨w1,o1,t,_,rfl,rfl,⟨by omega,by omega⟩,⟨by omega,by omega⟩,t1,g1⟩
  ·exact nxt _ _ ⟨w1,o1,k1,_,rfl,rfl,⟨by omega,by omega⟩,⟨by omega,by omega⟩,by omega,p1⟩
 clear g1 g2 t1 r3 ek1 p1 ew1 eo1
 rintro σ' H1 ⟨wide,rooms,kk,v1,rfl,rfl,⟨w2,w10⟩,⟨o0,o5⟩,kp,wk⟩
 have kb:=Dk w2 wk
 refine ⟨_,rfl,_,rfl,_,rfl,a,5,rooms,wide,ns,rfl,hS,h63,⟨by decide,by decide⟩,⟨o0,by omega⟩,⟨by omega,by omega⟩,fun m r g H2 rows signs s2 M2 R ls hz => ?_⟩
 have en:=R.len
 subst en
 refine ⟨_,rfl,a,4,ns,rfl,s2.seq hS,h63,by decide,by decide,fun e4 _ _ => ⟨_,_,rfl,rfl,(by show (0 : Int) < 2; decide),rfl,?_⟩⟩
 obtain ⟨st,est⟩ : ∃ st : Bool,decide (V.int (e4 % 2) = V.int 0) = st:=⟨_,rfl⟩
 try dsimp only [bB,dm,List.set]
 rw [est]
 refine dR (t:=CN _ _ _) (fun σ' H' => ∃ (m g : Addr) (signs : LI),σ' = [some (.ref a),v1,some (.int wide),some (.int rows.length),some (.int kk),some (.ref m),some (.bl st),none,none,none] /\ Same H1 H' /\ MachAt H' m r g wide rows signs /\ signs.length = rows.length /\ (∀ z ∈ signs,0 <= z /\ z < 1000000) /\ (st = true -> uf rows.length rows signs)) ?_ (fun D' nxt => ?_)
 rotate_left
 ·cases st
  ·exact ⟨_,rfl,_,rfl,gH (nxt _ _ ⟨m,g,signs,rfl,s2,M2,ls,hz,fun z => by cases z⟩)⟩
  ·exact ⟨_,rfl,_,rfl,wR ⟨_,rfl,_,rfl,a,m,r,g,rows.length,wide,rows,signs,ns,rfl,s2.seq hS,h63,M2,R,⟨o0,by omega⟩,by omega,ls,hz,fun m2 g2 H3 signs2 s3 M3 ls3 hz3 st3 => nxt _ _ ⟨m2,g2,signs2,rfl,s2.trans s3,M3,ls3,hz3,fun _ => st3⟩⟩⟩
 clear M2 s2 hz ls
 rintro σ' H2 ⟨m,g,signs,rfl,s2,M2,ls,hz,hst⟩
 refine ⟨_,rfl,_,rfl,m,r,g,wide,kk,rows,signs,rfl,M2,R,ls,⟨o0,by omega⟩,⟨w2,by omega⟩,wk,fun m1 r1 g1 rows1 signs1 H3 s3 M3 L3 => ?_⟩
 have RX:=vL (k:=kk) (show 1 <= wide by omega) R
 have sg1:=L3.signs (C:=fun z => 0 <= z /\ z < 1000000) RX o0 ls hz
 have few:=L3.few RX o0
 have big : rows.length * rows1.length <= 400:=Nat.le_trans (Nat.mul_le_mul (show rows.length <= 5 by omega) (show rows1.length <= 5 by omega)) (by decide)
 refine ⟨_,rfl,_,rfl,_,rfl,wide,kk,rfl,by omega,by omega,wk,m1,r1,g1,wide ^ kk,rows1,signs1,rfl,M3,L3.ok,L3.pos,L3.sgn,sg1,fun H4 s4 => ⟨_,rfl,gH ?_⟩⟩
 have M4:=M3.same fun b xs e => s4 _ _ e
 obtain ⟨ras1,hr1,hA1⟩:=M4.rows
 refine ⟨_,rfl,m1,_,_,_,rfl,rfl,qT_ M4.tup,rfl,r1,ras1,wide ^ kk,rows1,rfl,hr1,hA1,L3.ok,by omega,L3.ord,_,rfl,gH ?_⟩
 refine ⟨_,rfl,_,rfl,_,rfl,m,r,g,m1,r1,g1,rows1.length,wide,kk,rows,rows1,signs,signs1,rfl,M2.same (fun b xs e => s4 _ _ (s3 _ _ e)),M4,R,L3.ok,⟨o0,L3.pos,big,wk⟩,⟨w2,by omega⟩,ls,L3.sgn,L3.tells,fun H5 s5 => ⟨_,rfl,gH ?_⟩⟩
 have M5:=M4.same fun b xs e => s5 _ _ e
 refine ⟨_,rfl,m1,r1,g1,rows1.length,wide ^ kk,rows1,signs1,rfl,M5,L3.ok,L3.sgn,⟨L3.pos,by omega⟩,wk,fun m4 r4 g4 rows4 signs4 H6 s6 M6 L6 => ?_⟩
 obtain ⟨e3',e4'⟩:=LeastOf.one L6 (LeastOf.self L3.ok L3.pos L3.sgn L3.ord L3.apart) (fun _ _ => rfl)
 rw [e3',e4'] at M6
 have M56:=M5.same fun b xs e => s6 _ _ e
 refine ⟨_,rfl,m4,m1,_,_,rfl,rfl,qT_ M6.tup,qT_ M56.tup,MachAt.eqD M6 M56,_,rfl,gH ?_⟩
 have s26 : Same H2 H6:=(((s3.trans s4).trans s5).trans s6)
 have M26:=M2.same fun b xs e => s26 _ _ e
 try dsimp only [bB,dm,List.set]
 refine dR (t:=oX _ _ _) (fun σ' H' => ∃ v8,σ' = [some (.ref a),v1,some (.int wide),some (.int rows.length),some (.int kk),some (.ref m),some (.bl st),some (.ref m1),v8,none] /\ Same H6 H') ?_ (fun D' nxt => ?_)
 rotate_left
 ·obtain ⟨ms,ems,lms⟩:=E9 ns none (some 8)
  refine ⟨_,rfl,8,rfl,a,_,rfl,(s2.trans s26).seq hS,fun L hL => ?_⟩
  rw [ems]
  have sL:=aq hL (HO.lst (ms.map V.int))
  refine ⟨L,rfl,⟨_,qL_ af⟩,?_⟩
  refine dz (K:=K) (xs:=ms.map V.int) (fun i σ' H' => ∃ v8,σ' = [some (.ref a),v1,some (.int wide),some (.int rows.length),some (.int kk),some (.ref m),some (.bl st),some (.ref m1),v8,none] /\ Same (upd H6 L (HO.lst (ms.map V.int))) H') ⟨none,rfl,Same.refl _⟩ (fun i σ' H' _ ⟨_,_,e⟩ => qL_ (e _ _ af)) ?_ ?_
  ·rintro i y σ' H7 hi ⟨v8,rfl,s7⟩
   obtain ⟨z,rfl,_⟩:=bw hi
   cases st
   ·exact ⟨_,rfl,_,rfl,gH ⟨_,rfl,s7⟩⟩
   ·have hst' := hst rfl
    have n60 : (10 : Int) ^ 60 < NB:=by decide +kernel
    have rm:=cA (a:=z) (b:=10 ^ 60) (by decide)
    have sL7:=sL.trans s7
    have nbw : (wide : Int) < NB:=by
     have:=A5
     have : (1000 : Int) < NB:=by decide +kernel
     omega
    have nbW : ((wide ^ kk : Nat) : Int) < NB:=by
     have : (1000 : Int) < NB:=by decide +kernel
     omega
    have W2 : 2 <= wide ^ kk:=by
     have:=fO (w:=wide) (by omega) kp
     rw [Nat.pow_one] at this
     omega
    refine ⟨_,rfl,_,rfl,wR ?_⟩
    refine ⟨_,rfl,_,rfl,_,_,rfl,rfl,⟨by decide,by decide,by decide⟩,_,_,rfl,rfl,(by show (0 : Int) < 10 ^ 60; decide),m1,r1,g1,_,rows1.length,wide ^ kk,rows1,signs1,rfl,M56.same (fun b xs e => sL7 _ _ e),L3.ok,L3.sgn,L3.pos,⟨rm.1,Int.lt_trans rm.2 n60⟩,⟨by omega,nbW⟩,fun H8 es s8 fe => ?_⟩
    refine ⟨_,rfl,_,rfl,_,_,rfl,rfl,⟨by decide,by decide,by decide⟩,_,_,rfl,rfl,(by show (0 : Int) < 10 ^ 60; decide),m,r,g,_,rows.length,wide,rows,signs,rfl,M26.same (fun b xs e => s8 _ _ (sL7 _ _ e)),R,ls,o0,⟨rm.1,Int.lt_trans rm.2 n60⟩,⟨by omega,nbw⟩,fun H9 ds s9 fdd => ?_⟩
    have eq:=AH (ds:=ds) (es:=es) w2 R (by omega) L3.tells (fun q q0 q1 => hst' q q0 q1) fdd fe
    unfold sgn at eq
    exact ⟨rfl,_,rfl,sU (fun z => absurd (congrArg V.int eq) z) (fun _ => ⟨_,rfl,(s7.trans s8).trans s9⟩)⟩
  ·rintro σ' H7 ⟨v8,rfl,s7⟩
   exact nxt _ _ ⟨_,rfl,sL.trans s7⟩
 rintro σ' H7 ⟨v8,rfl,s7⟩
 have s27:=s26.trans s7
 have M27:=M2.same fun b xs e => s27 _ _ e
 refine ⟨_,rfl,wide,1000,rfl,w2,⟨by decide,by decide⟩,by omega,fun t g1 g2 => ⟨_,_,rfl,rfl,?_⟩⟩
 have t9:=Dk w2 g1
 obtain ⟨ov,eov⟩:=gP (x:=1 + (t : Int)) (by omega)
 try dsimp only [bB,dm,List.set]
 rw [eov]
 have eo : ov = t + 1:=by omega
 subst eo
 refine ⟨_,rfl,_,rfl,m,_,_,wide,t + 1,rfl,M27.tup,by omega,by omega,Gk (by omega) (by omega),g2,fun H8 s8 => ⟨_,rfl,gH ?_⟩⟩
 refine ⟨_,rfl,_,rfl,_,_,rfl,rfl,_,rfl,a,6,ns,rfl,((s2.trans s27).trans s8).seq hS,h63,by decide,by decide,fun e6 _ _ => ⟨_,_,rfl,rfl,(by show (0 : Int) < 200; decide),_,_,rfl,rfl,?_⟩⟩
 have r6:=cA (a:=e6) (b:=200) (by decide)
 obtain ⟨ow,eow⟩:=gP (x:=((t + 1 : Nat) : Int) + 1 + e6 % 200) (by omega)
 refine ⟨m,_,_,wide,ow,(by show [V.ref m,V.int (((t + 1 : Nat) : Int) + 1 + e6 % 200)] = _; rw [eow]),s8 _ _ M27.tup,by omega,by omega,Gk (by omega) (by omega),Nat.lt_of_lt_of_le g2 (fO (by omega) (by omega)),fun H9 s9 => ⟨_,rfl,gH ?_⟩⟩
 have s79:=s8.trans s9
 refine ⟨_,rfl,_,rfl,m,r,g,wide,kk,rows,signs,rfl,M27.same (fun b xs e => s79 _ _ e),R,ls,⟨o0,by omega⟩,⟨w2,by omega⟩,wk,fun m5 r5 g5 rows5 signs5 Ha sa Ma La => ?_⟩
 obtain ⟨e5,e6'⟩:=LeastOf.one La L3 (fun _ _ => rfl)
 rw [e5,e6'] at Ma
 have M3a:=M56.same fun b xs e => sa _ _ (s79 _ _ (s7 _ _ e))
 exact ⟨_,rfl,m5,m1,_,_,rfl,rfl,qT_ Ma.tup,qT_ M3a.tup,MachAt.eqD Ma M3a,k _⟩
end
theorem uQ {K : PySem.W.Frag} {C : Addr} {v : Value} {b : Bool} (h : PySem.W.mroIn K C v = some b) : (PySem.W.clsIn K C).isSome = true:=by
 unfold PySem.W.mroIn at h
 obtain ⟨cd,e,_⟩:=Option.bind_eq_some_iff.mp h
 rw [e]
 rfl
theorem JJ {K : PySem.W.Frag} {t : Value} {D : Addr} {b : Bool} (h1 : PySem.W.mroIn K D (.type "object") = some true) (h2 : PySem.W.typeIn K (.ref D) = some (.type "type")) (h3 : PySem.W.subIn K t (.ref D) = some b) : PySem.W.kitCls K t (.ref D) = some b:=by
 unfold PySem.W.kitCls
 dsimp only
 rw [if_pos (by rw [uQ h1,h2]; decide)]
 exact h3
theorem yL {K : PySem.W.Frag} {C D : Addr} {b : Bool} (h1 : PySem.W.mroIn K D (.type "object") = some true) (h2 : PySem.W.typeIn K (.ref D) = some (.type "type")) (h3 : PySem.W.subIn K (.ref C) (.ref D) = some b) (ne : (Value.ref C == Value.ref D) = false) :
  PySem.W.kitOne K (.ref C) (.ref D) = some b:=by
 unfold PySem.W.kitOne
 rw [if_neg (by rw [ne]; decide)]
 exact JJ h1 h2 h3
theorem IC {K : PySem.W.Frag} {C : Addr} (h : PySem.W.subIn K (.ref C) (.type "ValueError") = some true) : PySem.W.kitOne K (.ref C) (.type "ValueError") = some true:=by
 unfold PySem.W.kitOne
 rw [if_neg (by intro z; cases beq_iff_eq.mp z)]
 unfold PySem.W.kitCls
 dsimp only
 rw [if_pos (by decide +kernel)]
 exact h
theorem Ip {K : PySem.W.Frag} {C F : Addr} (h0 : PySem.W.subIn K (.ref F) (.type "BaseException") = some true) (h1 : PySem.W.mroIn K F (.type "object") = some true) (h2 : PySem.W.typeIn K (.ref F) = some (.type "type")) (h3 : PySem.W.subIn K (.ref C) (.ref F) = some true) :
  PySem.W.exmOne K (.ref C) (.ref F) = some true:=by
 unfold PySem.W.exmOne
 rw [if_pos (by rw [h0]; decide)]
 exact JJ h1 h2 h3
section
variable {P : Program} {w : World} {K : PySem.W.Frag} {mg : Str -> Option Value} {base : Heap} {f : Addr} {fd : FuncData} {dV : Value} {C F0 D1 D2 D3 D4 D5 D6 D7 D8 : Addr}
theorem DE (ga : PySem.W.findIn K (.ref C) "__getattribute__" = some (some (.builtin "BaseException.__getattribute__"))) (gt : PySem.W.findIn K (.ref C) "__getattr__" = some none) (cl : PySem.W.findIn K (.ref C) "__class__" = some (some (.builtin "object.__class__")))
  (gg : PySem.W.specialIn K (.builtin "object.__class__") "__get__" = some (some (.builtin "getset_descriptor.__get__"))) (tk : PySem.W.takesIn K (.builtin "object.__class__") = some true) (ob : PySem.W.mroIn K C (.type "object") = some true) (be : PySem.W.mroIn K C (.type "BaseException") = some true) : XCls K C:=
 ⟨ga,gt,cl,gg,tk,ob,be,uQ ob⟩
theorem B9 (F : FunD K "_law_others" "_law_others" cu dV f fd) (ga : PySem.W.findIn K (.ref C) "__getattribute__" = some (some (.builtin "BaseException.__getattribute__"))) (gt : PySem.W.findIn K (.ref C) "__getattr__" = some none) (cl : PySem.W.findIn K (.ref C) "__class__" = some (some (.builtin "object.__class__")))
  (gg : PySem.W.specialIn K (.builtin "object.__class__") "__get__" = some (some (.builtin "getset_descriptor.__get__"))) (tk : PySem.W.takesIn K (.builtin "object.__class__") = some true) (ob : PySem.W.mroIn K C (.type "object") = some true) (be : PySem.W.mroIn K C (.type "BaseException") = some true)
  (g1 : mg "NoFigures" = some (.ref D1)) (o1 : PySem.W.mroIn K D1 (.type "object") = some true) (t1 : PySem.W.typeIn K (.ref D1) = some (.type "type")) (u1 : PySem.W.subIn K (.ref C) (.ref D1) = some false) (e1 : (Value.ref C == Value.ref D1) = false)
  (g2 : mg "NoMachine" = some (.ref D2)) (o2 : PySem.W.mroIn K D2 (.type "object") = some true) (t2 : PySem.W.typeIn K (.ref D2) = some (.type "type")) (u2 : PySem.W.subIn K (.ref C) (.ref D2) = some false) (e2 : (Value.ref C == Value.ref D2) = false)
  (g3 : mg "NoName" = some (.ref D3)) (o3 : PySem.W.mroIn K D3 (.type "object") = some true) (t3 : PySem.W.typeIn K (.ref D3) = some (.type "type")) (u3 : PySem.W.subIn K (.ref C) (.ref D3) = some false) (e3 : (Value.ref C == Value.ref D3) = false)
  (g4 : mg "NoPower" = some (.ref D4)) (o4 : PySem.W.mroIn K D4 (.type "object") = some true) (t4 : PySem.W.typeIn K (.ref D4) = some (.type "type")) (u4 : PySem.W.subIn K (.ref C) (.ref D4) = some false) (e4 : (Value.ref C == Value.ref D4) = false)
  (g5 : mg "NoRow" = some (.ref D5)) (o5 : PySem.W.mroIn K D5 (.type "object") = some true) (t5 : PySem.W.typeIn K (.ref D5) = some (.type "type")) (u5 : PySem.W.subIn K (.ref C) (.ref D5) = some false) (e5 : (Value.ref C == Value.ref D5) = false)
  (g6 : mg "NoSome" = some (.ref D6)) (o6 : PySem.W.mroIn K D6 (.type "object") = some true) (t6 : PySem.W.typeIn K (.ref D6) = some (.type "type")) (u6 : PySem.W.subIn K (.ref C) (.ref D6) = some false) (e6 : (Value.ref C == Value.ref D6) = false)
  (g7 : mg "NoText" = some (.ref D7)) (o7 : PySem.W.mroIn K D7 (.type "object") = some true) (t7 : PySem.W.typeIn K (.ref D7) = some (.type "type")) (u7 : PySem.W.subIn K (.ref C) (.ref D7) = some false) (e7 : (Value.ref C == Value.ref D7) = false)
  (g8 : mg "TooGreat" = some (.ref D8)) (o8 : PySem.W.mroIn K D8 (.type "object") = some true) (t8 : PySem.W.typeIn K (.ref D8) = some (.type "type")) (u8 : PySem.W.subIn K (.ref C) (.ref D8) = some false) (e8 : (Value.ref C == Value.ref D8) = false)
  (az : mg "isinstance" = none) : FnOkH P w K mg base CX0 1 f fd ["_law_e"] (lS C):=
 Ez F (DE ga gt cl gg tk ob be) g1 g2 g3 g4 g5 g6 g7 g8 (yL o1 t1 u1 e1) (yL o2 t2 u2 e2) (yL o3 t3 u3 e3) (yL o4 t4 u4 e4) (yL o5 t5 u5 e5) (yL o6 t6 u6 e6) (yL o7 t7 u7 e7) (yL o8 t8 u8 e8) az
theorem Ao (F : FunD K "_law_refused" "_law_refused" b9 dV f fd) (ga : PySem.W.findIn K (.ref C) "__getattribute__" = some (some (.builtin "BaseException.__getattribute__"))) (gt : PySem.W.findIn K (.ref C) "__getattr__" = some none) (cl : PySem.W.findIn K (.ref C) "__class__" = some (some (.builtin "object.__class__")))
  (gg : PySem.W.specialIn K (.builtin "object.__class__") "__get__" = some (some (.builtin "getset_descriptor.__get__"))) (tk : PySem.W.takesIn K (.builtin "object.__class__") = some true) (ob : PySem.W.mroIn K C (.type "object") = some true) (be : PySem.W.mroIn K C (.type "BaseException") = some true)
  (dA : mg "FigureError" = some (.ref F0)) (dU : mg "TooWide" = some (.ref C)) (h0 : PySem.W.subIn K (.ref C) (.type "BaseException") = some true) (h2 : PySem.W.typeIn K (.ref C) = some (.type "type")) (h3 : PySem.W.subIn K (.ref C) (.ref C) = some true)
  (f1 : PySem.W.mroIn K F0 (.type "object") = some true) (f2 : PySem.W.typeIn K (.ref F0) = some (.type "type")) (f3 : PySem.W.subIn K (.ref C) (.ref F0) = some true) (f4 : (Value.ref C == Value.ref F0) = false)
  (kv : PySem.W.subIn K (.ref C) (.type "ValueError") = some true) (jf : DefX P w K mg base "raised" 6 ["machine","power"] [] (mj C))
  (cU : DefH P w K mg base "_law_others" 1 ["_law_e"] [] (lS C)) (az : mg "isinstance" = none) (fh : mg "ValueError" = none) : FnOk P w K mg base CX0 7 f fd ["_law_machine","_law_many"] ml:=
 Cf F (DE ga gt cl gg tk ob be) dA dU (Ip h0 ob h2 h3) (yL f1 f2 f3 f4) (IC kv) jf cU az fh
end
@[elab_as_elim] theorem tP {motive : List Value -> Prop} {us : List Value} (hl : us.length = 1) (h : ∀ a0,motive [a0]) : motive us:=match us,hl with | [a0],_ => h _
@[elab_as_elim] theorem kK {motive : List Value -> Prop} {us : List Value} (hl : us.length = 2) (h : ∀ a0 a1,motive [a0,a1]) : motive us:=match us,hl with | [a0,a1],_ => h _ _
@[elab_as_elim] theorem BO {motive : List Value -> Prop} {us : List Value} (hl : us.length = 3) (h : ∀ a0 a1 a2,motive [a0,a1,a2]) : motive us:=match us,hl with | [a0,a1,a2],_ => h _ _ _
@[elab_as_elim] theorem IE {motive : List Value -> Prop} {us : List Value} (hl : us.length = 4) (h : ∀ a0 a1 a2 a3,motive [a0,a1,a2,a3]) : motive us:=match us,hl with | [a0,a1,a2,a3],_ => h _ _ _ _
@[elab_as_elim] theorem Kn {motive : List Value -> Prop} {us : List Value} (hl : us.length = 5) (h : ∀ a0 a1 a2 a3 a4,motive [a0,a1,a2,a3,a4]) : motive us:=match us,hl with | [a0,a1,a2,a3,a4],_ => h _ _ _ _ _
@[elab_as_elim] theorem KH {motive : List Value -> Prop} {us : List Value} (hl : us.length = 6) (h : ∀ a0 a1 a2 a3 a4 a5,motive [a0,a1,a2,a3,a4,a5]) : motive us:=match us,hl with | [a0,a1,a2,a3,a4,a5],_ => h _ _ _ _ _ _
@[elab_as_elim] theorem KI {motive : List Value -> Prop} {us : List Value} (hl : us.length = 7) (h : ∀ a0 a1 a2 a3 a4 a5 a6,motive [a0,a1,a2,a3,a4,a5,a6]) : motive us:=match us,hl with | [a0,a1,a2,a3,a4,a5,a6],_ => h _ _ _ _ _ _ _
theorem all_mk {l : PySem.W.OpenLaw} {w : World} {K : PySem.W.Frag} {h : Heap} {mg : Str -> Option Value} {fa : Addr} (X : K.In h) (G : h.Ns mainGlobals mg) (hfa : mg "law" = some (.ref fa))
  {nN gF km uZ rh Bz BB rl gG kn ki rf cj c0 cP bW cG c8 eK yE nO rj u0 lD ke gE kh kg eJ i7 eI gD i8 iI iH gC nM kd Fi : Addr} {Ak zw rT qE xr wx Ep DH B5 Bb Hl GW Hm GX B7 Bd rV qF xt wy xq wu B4 Ba ou m3 p3 pf ox m6 jy jg mD mx p5 pj oA m9 FL E1 Al zx B6 Bc Er DI yW yt xn wm rS qD xp wq xo wo oz m8 vC uF oy m7 rR qC vD uG tZ tE tY tD rQ qB Aj zv xk wj IJ EZ : Option Addr} {AR sq xJ ER CB HL HM CD sr xK xI CA oP qh oQ jF mF qj oU GG AS CC ES y9 xF so xH xG oT vP oS sk vQ ud uc sj AQ xE Jh : Array (Option Value)} {Ah z5 zJ Ay sM zF rO rD qY rZ jn qS xh wZ wN xB mL wG En Ed DQ EJ xT DL B1 BJ Bt Cr uM Bn Hj He G3 HC C6 G0 Hk Hf G4 HD C7 G1 B3 BL Bv Ct uO Bp rP rE qZ r8 jo qT xj w4 wO xC mM wH xg wY wM xA mK wF B0 BI Br Cq uL Bm og nS nG oG iu nz pY pP pG p8 iU pD oh nU nH oH iy nA jx ju jr jA dQ jq mC mB mz mE gS my pZ pQ pH p9 iV pE oq nX nK oM iB nF FK Ft Fc Gj zA E8 Ai z6 zK Az sN zG B2 BK Bu Cs uN Bo Eo Ee DR EK xU DM yV yI yD y0 pA yA xb wV wJ xw mH wB rN rC qX rY jm qR xf wX wL xy mJ wD xc wW wK xx mI wC oo nW nJ oK iA nC vA vf uT vG lu uR oj nV nI oJ iz nB rM rB qW rX jk qQ vB vg uU vH lA uS tX tN tJ ub kT tH tW tM tI ua kS tG rL rA qV rW ji qP Ag z4 zI Ax sJ zE xa wU wI xv mG wA II Fs Fb Gi Bj E7 : Value}
  (mY : PySem.W.nsIn K mainGlobals "is_whole" = some (some (.ref nN))) (n9 : K.lookup nN = some ⟨Ah,Ak,.func (PySem.W.fnOf "is_whole" "is_whole" (aF fU) (aE fU) (ah fU) .none z5 zJ Ay zw sM zF),AR⟩) (nk : PySem.W.codeIn K sM "is_whole" = true) (kq : PySem.W.keepIn K (.ref nN) = true)
  (gq : PySem.W.nsIn K mainGlobals "is_whole_from" = some (some (.ref gF))) (gM : K.lookup gF = some ⟨rO,rT,.func (PySem.W.fnOf "is_whole_from" "is_whole_from" (aF cf) (aE cf) (ah cf) .none rD qY rZ qE jn qS),sq⟩) (gz : PySem.W.codeIn K jn "is_whole_from" = true) (dE : PySem.W.keepIn K (.ref gF) = true)
  (jV : PySem.W.nsIn K mainGlobals "need_whole" = some (some (.ref km))) (kG : K.lookup km = some ⟨xh,xr,.func (PySem.W.fnOf "need_whole" "need_whole" (aF dj) (aE dj) (ah dj) .none wZ wN xB wx mL wG),xJ⟩) (j7 : PySem.W.codeIn K mL "need_whole" = true) (hJ : PySem.W.keepIn K (.ref km) = true)
  (uD : PySem.W.nsIn K mainGlobals "halved" = some (some (.ref uZ))) (vk : K.lookup uZ = some ⟨En,Ep,.func (PySem.W.fnOf "halved" "halved" (aF jE) (aE jE) (ah jE) .none Ed DQ EJ DH xT DL),ER⟩) (uH : PySem.W.codeIn K xT "halved" = true) (pR : PySem.W.keepIn K (.ref uZ) = true)
  {T_figures tn_figures : Nat} {tc_figures : Value} {td_figures : Option Addr} {tsl_figures : Array (Option Value)} {tk0_figures : Tok}
  (qy : PySem.W.nsIn K mainGlobals "figures" = some (some (.ref rh))) (rH : K.lookup rh = some ⟨B1,B5,.func (PySem.W.fnOf "figures" "figures" (aF h7) (aE h7) (ah h7) (.ref T_figures) BJ Bt Cr Bb uM Bn),CB⟩) (qH : PySem.W.codeIn K uM "figures" = true) (l7 : PySem.W.keepIn K (.ref rh) = true)
  (mq : K.lookup T_figures = some ⟨tc_figures,td_figures,.seq #[Value.int 10 tk0_figures] tn_figures,tsl_figures⟩)
  {T_room tn_room : Nat} {tc_room : Value} {td_room : Option Addr} {tsl_room : Array (Option Value)} {tk0_room : Tok}
  (A7 : PySem.W.nsIn K mainGlobals "room" = some (some (.ref Bz))) (BM : K.lookup Bz = some ⟨Hj,Hl,.func (PySem.W.fnOf "room" "room" (aF sf) (aE sf) (ah sf) (.ref T_room) He G3 HC GW C6 G0),HL⟩) (Bf : PySem.W.codeIn K C6 "room" = true) (yJ : PySem.W.keepIn K (.ref Bz) = true)
  (zo : K.lookup T_room = some ⟨tc_room,td_room,.seq #[Value.int 0 tk0_room] tn_room,tsl_room⟩)
  (A8 : PySem.W.nsIn K mainGlobals "told" = some (some (.ref BB))) (BN : K.lookup BB = some ⟨Hk,Hm,.func (PySem.W.fnOf "told" "told" (aF sh) (aE sh) (ah sh) .none Hf G4 HD GX C7 G1),HM⟩) (Bg : PySem.W.codeIn K C7 "told" = true) (yK : PySem.W.keepIn K (.ref BB) = true)
  (qA : PySem.W.nsIn K mainGlobals "sign_at" = some (some (.ref rl))) (rK : K.lookup rl = some ⟨B3,B7,.func (PySem.W.fnOf "sign_at" "sign_at" (aF h8) (aE h8) (ah h8) .none BL Bv Ct Bd uO Bp),CD⟩) (qJ : PySem.W.codeIn K uO "sign_at" = true) (ma : PySem.W.keepIn K (.ref rl) = true)
  {T_reached_rooms tn_reached_rooms : Nat} {tc_reached_rooms : Value} {td_reached_rooms : Option Addr} {tsl_reached_rooms : Array (Option Value)} {tk0_reached_rooms : Tok}
  (gu : PySem.W.nsIn K mainGlobals "reached_rooms" = some (some (.ref gG))) (gN : K.lookup gG = some ⟨rP,rV,.func (PySem.W.fnOf "reached_rooms" "reached_rooms" (aF cg) (aE cg) (ah cg) (.ref T_reached_rooms) rE qZ r8 qF jo qT),sr⟩) (gA : PySem.W.codeIn K jo "reached_rooms" = true) (dF : PySem.W.keepIn K (.ref gG) = true)
  (dH : K.lookup T_reached_rooms = some ⟨tc_reached_rooms,td_reached_rooms,.seq #[Value.int 0 tk0_reached_rooms] tn_reached_rooms,tsl_reached_rooms⟩)
  (jW : PySem.W.nsIn K mainGlobals "with_rooms" = some (some (.ref kn))) (kH : K.lookup kn = some ⟨xj,xt,.func (PySem.W.fnOf "with_rooms" "with_rooms" (aF bO) (aE bO) (ah bO) .none w4 wO xC wy mM wH),xK⟩) (j8 : PySem.W.codeIn K mM "with_rooms" = true) (hU : PySem.W.keepIn K (.ref kn) = true)
  (jU : PySem.W.nsIn K mainGlobals "columns_of" = some (some (.ref ki))) (kF : K.lookup ki = some ⟨xg,xq,.func (PySem.W.fnOf "columns_of" "columns_of" (aF cL) (aE cL) (ah cL) .none wY wM xA wu mK wF),xI⟩) (j5 : PySem.W.codeIn K mK "columns_of" = true) (g9 : PySem.W.keepIn K (.ref ki) = true)
  (qx : PySem.W.nsIn K mainGlobals "back_of" = some (some (.ref rf))) (rG : K.lookup rf = some ⟨B0,B4,.func (PySem.W.fnOf "back_of" "back_of" (aF hZ) (aE hZ) (ah hZ) .none BI Br Cq Ba uL Bm),CA⟩) (qG : PySem.W.codeIn K uL "back_of" = true) (l6 : PySem.W.keepIn K (.ref rf) = true)
  (d9 : PySem.W.nsIn K mainGlobals "unparted_groups" = some (some (.ref eK))) (eX : K.lookup eK = some ⟨oq,oA,.func (PySem.W.fnOf "unparted_groups" "unparted_groups" (aF bz) (aE bz) (ah bz) .none nX nK oM m9 iB nF),oU⟩) (eC : PySem.W.codeIn K iB "unparted_groups" = true) (cT : PySem.W.keepIn K (.ref eK) = true)
  (yr : PySem.W.nsIn K mainGlobals "least" = some (some (.ref yE))) (yN : K.lookup yE = some ⟨FK,FL,.func (PySem.W.fnOf "least" "least" (aF iZ) (aE iZ) (ah iZ) .none Ft Fc Gj E1 zA E8),GG⟩) (yx : PySem.W.codeIn K zA "least" = true) (uj : PySem.W.keepIn K (.ref yE) = true)
  (mZ : PySem.W.nsIn K mainGlobals "power_of" = some (some (.ref nO))) (oa : K.lookup nO = some ⟨Ai,Al,.func (PySem.W.fnOf "power_of" "power_of" (aF fV) (aE fV) (ah fV) .none z6 zK Az zx sN zG),AS⟩) (nr : PySem.W.codeIn K sN "power_of" = true) (ku : PySem.W.keepIn K (.ref nO) = true)
  (qz : PySem.W.nsIn K mainGlobals "read_on" = some (some (.ref rj))) (rJ : K.lookup rj = some ⟨B2,B6,.func (PySem.W.fnOf "read_on" "read_on" (aF fW) (aE fW) (ah fW) .none BK Bu Cs Bc uN Bo),CC⟩) (qI : PySem.W.codeIn K uN "read_on" = true) (l9 : PySem.W.keepIn K (.ref rj) = true)
  (uE : PySem.W.nsIn K mainGlobals "raised" = some (some (.ref u0))) (vm : K.lookup u0 = some ⟨Eo,Er,.func (PySem.W.fnOf "raised" "raised" (aF iP) (aE iP) (ah iP) .none Ee DR EK DI xU DM),ES⟩) (uI : PySem.W.codeIn K xU "raised" = true) (lJ : PySem.W.keepIn K (.ref u0) = true)
  (k7 : PySem.W.nsIn K mainGlobals "_law_draw" = some (some (.ref lD))) (lM : K.lookup lD = some ⟨yV,yW,.func (PySem.W.fnOf "_law_draw" "_law_draw" (aF cY) (aE cY) (ah cY) .none yI yD y0 yt pA yA),y9⟩) (k8 : PySem.W.codeIn K pA "_law_draw" = true) (f9 : PySem.W.keepIn K (.ref lD) = true)
  (jR : PySem.W.nsIn K mainGlobals "_law_round" = some (some (.ref ke))) (kC : K.lookup ke = some ⟨xb,xn,.func (PySem.W.fnOf "_law_round" "_law_round" (aF dh) (aE dh) (ah dh) .none wV wJ xw wm mH wB),xF⟩) (jY : PySem.W.codeIn K mH "_law_round" = true) (gX : PySem.W.keepIn K (.ref ke) = true)
  (gp : PySem.W.nsIn K mainGlobals "_law_steadied" = some (some (.ref gE))) (gL : K.lookup gE = some ⟨rN,rS,.func (PySem.W.fnOf "_law_steadied" "_law_steadied" (aF bM) (aE bM) (ah bM) .none rC qX rY qD jm qR),so⟩) (gy : PySem.W.codeIn K jm "_law_steadied" = true) (dD : PySem.W.keepIn K (.ref gE) = true)
  (jT : PySem.W.nsIn K mainGlobals "_law_there" = some (some (.ref kh))) (kE : K.lookup kh = some ⟨xf,xp,.func (PySem.W.fnOf "_law_there" "_law_there" (aF di) (aE di) (ah di) .none wX wL xy wq mJ wD),xH⟩) (j4 : PySem.W.codeIn K mJ "_law_there" = true) (gZ : PySem.W.keepIn K (.ref kh) = true)
  (jS : PySem.W.nsIn K mainGlobals "_law_signs" = some (some (.ref kg))) (kD : K.lookup kg = some ⟨xc,xo,.func (PySem.W.fnOf "_law_signs" "_law_signs" (aF cK) (aE cK) (ah cK) .none wW wK xx wo mI wC),xG⟩) (jZ : PySem.W.codeIn K mI "_law_signs" = true) (gY : PySem.W.keepIn K (.ref kg) = true)
  (d8 : PySem.W.nsIn K mainGlobals "_law_machine_of" = some (some (.ref eJ))) (eV : K.lookup eJ = some ⟨oo,oz,.func (PySem.W.fnOf "_law_machine_of" "_law_machine_of" (aF bK) (aE bK) (ah bK) .none nW nJ oK m8 iA nC),oT⟩) (eB : PySem.W.codeIn K iA "_law_machine_of" = true) (cS : PySem.W.keepIn K (.ref eJ) = true)
  (i0 : PySem.W.nsIn K mainGlobals "_law_is_row" = some (some (.ref i7))) (i9 : K.lookup i7 = some ⟨vA,vC,.func (PySem.W.fnOf "_law_is_row" "_law_is_row" (aF cN) (aE cN) (ah cN) .none vf uT vG uF lu uR),vP⟩) (i5 : PySem.W.codeIn K lu "_law_is_row" = true) (fX : PySem.W.keepIn K (.ref i7) = true)
  (d7 : PySem.W.nsIn K mainGlobals "_law_is_machine" = some (some (.ref eI))) (eU : K.lookup eI = some ⟨oj,oy,.func (PySem.W.fnOf "_law_is_machine" "_law_is_machine" (aF bU) (aE bU) (ah bU) .none nV nI oJ m7 iz nB),oS⟩) (eA : PySem.W.codeIn K iz "_law_is_machine" = true) (cR : PySem.W.keepIn K (.ref eI) = true)
  (gn : PySem.W.nsIn K mainGlobals "_law_in_order" = some (some (.ref gD))) (gK : K.lookup gD = some ⟨rM,rR,.func (PySem.W.fnOf "_law_in_order" "_law_in_order" (aF cc) (aE cc) (ah cc) .none rB qW rX qC jk qQ),sk⟩) (gx : PySem.W.codeIn K jk "_law_in_order" = true) (dC : PySem.W.keepIn K (.ref gD) = true)
  (i4 : PySem.W.nsIn K mainGlobals "_law_others" = some (some (.ref i8))) (jb : K.lookup i8 = some ⟨vB,vD,.func (PySem.W.fnOf "_law_others" "_law_others" (aF cu) (aE cu) (ah cu) .none vg uU vH uG lA uS),vQ⟩) (i6 : PySem.W.codeIn K lA "_law_others" = true) (fY : PySem.W.keepIn K (.ref i8) = true)
  (ij : PySem.W.nsIn K mainGlobals "_law_refused" = some (some (.ref iI))) (iL : K.lookup iI = some ⟨tX,tZ,.func (PySem.W.fnOf "_law_refused" "_law_refused" (aF b9) (aE b9) (ah b9) .none tN tJ ub tE kT tH),ud⟩) (iq : PySem.W.codeIn K kT "_law_refused" = true) (eR : PySem.W.keepIn K (.ref iI) = true)
  (ig : PySem.W.nsIn K mainGlobals "_law_product" = some (some (.ref iH))) (iK : K.lookup iH = some ⟨tW,tY,.func (PySem.W.fnOf "_law_product" "_law_product" (aF cB) (aE cB) (ah cB) .none tM tI ua tD kS tG),uc⟩) (ik : PySem.W.codeIn K kS "_law_product" = true) (eP : PySem.W.keepIn K (.ref iH) = true)
  (gm : PySem.W.nsIn K mainGlobals "_law_greatest" = some (some (.ref gC))) (gJ : K.lookup gC = some ⟨rL,rQ,.func (PySem.W.fnOf "_law_greatest" "_law_greatest" (aF cb) (aE cb) (ah cb) .none rA qV rW qB ji qP),sj⟩) (gw : PySem.W.codeIn K ji "_law_greatest" = true) (dB : PySem.W.keepIn K (.ref gC) = true)
  (mW : PySem.W.nsIn K mainGlobals "_law_led" = some (some (.ref nM))) (nZ : K.lookup nM = some ⟨Ag,Aj,.func (PySem.W.fnOf "_law_led" "_law_led" (aF fT) (aE fT) (ah fT) .none z4 zI Ax zv sJ zE),AQ⟩) (nh : PySem.W.codeIn K sJ "_law_led" = true) (ko : PySem.W.keepIn K (.ref nM) = true)
  (jQ : PySem.W.nsIn K mainGlobals "_law_alike" = some (some (.ref kd))) (kB : K.lookup kd = some ⟨xa,xk,.func (PySem.W.fnOf "_law_alike" "_law_alike" (aF df) (aE df) (ah df) .none wU wI xv wj mG wA),xE⟩) (jX : PySem.W.codeIn K mG "_law_alike" = true) (gW : PySem.W.keepIn K (.ref kd) = true)
  (C2 : PySem.W.nsIn K mainGlobals "law" = some (some (.ref Fi))) (Fx : K.lookup Fi = some ⟨II,IJ,.func (PySem.W.fnOf "law" "law" (aF qf) (aE qf) (ah qf) .none Fs Fb Gi EZ Bj E7),Jh⟩) (E4 : PySem.W.codeIn K Bj "law" = true) (Fu : PySem.W.keepIn K (.ref Fi) = true)
  (GP : PySem.W.nsIn K mainGlobals "len" = some none)
  (zq : PySem.W.nsIn K mainGlobals "range" = some none)
  (C0 : PySem.W.nsIn K mainGlobals "list" = some none)
  (zt : PySem.W.nsIn K mainGlobals "tuple" = some none)
  (CZ : PySem.W.nsIn K mainGlobals "dict" = some none)
  (lX : PySem.W.nsIn K mainGlobals "enumerate" = some none)
  (GO : PySem.W.nsIn K mainGlobals "int" = some none)
  (kR : PySem.W.nsIn K mainGlobals "isinstance" = some none)
  (y_bool : PySem.W.nsIn K mainGlobals "bool" = some none)
  (GQ : PySem.W.nsIn K mainGlobals "min" = some none)
  (oY : PySem.W.nsIn K mainGlobals "reversed" = some none)
  (kQ : PySem.W.nsIn K mainGlobals "ValueError" = some none)
  {tkc_MOST_WIDE : Tok} (lW : PySem.W.nsIn K mainGlobals "MOST_WIDE" = some (some (.int 1000 tkc_MOST_WIDE)))
  {aP : Addr} (qO : PySem.W.nsIn K mainGlobals "Parted" = some (some (.ref aP)))
  {aG : Addr} (ny : PySem.W.nsIn K mainGlobals "TooWide" = some (some (.ref aG)))
  {dw : Addr} (iC : PySem.W.nsIn K mainGlobals "FigureError" = some (some (.ref dw)))
  {fZ : Addr} (j9 : PySem.W.nsIn K mainGlobals "NoFigures" = some (some (.ref fZ)))
  {f7 : Addr} (ka : PySem.W.nsIn K mainGlobals "NoMachine" = some (some (.ref f7)))
  {kY : Addr} (qL : PySem.W.nsIn K mainGlobals "NoName" = some (some (.ref kY)))
  {je : Addr} (nv : PySem.W.nsIn K mainGlobals "NoPower" = some (some (.ref je)))
  {o9 : Addr} (uP : PySem.W.nsIn K mainGlobals "NoRow" = some (some (.ref o9)))
  {kZ : Addr} (qM : PySem.W.nsIn K mainGlobals "NoSome" = some (some (.ref kZ)))
  {k6 : Addr} (qN : PySem.W.nsIn K mainGlobals "NoText" = some (some (.ref k6)))
  {h9 : Addr} (lC : PySem.W.nsIn K mainGlobals "TooGreat" = some (some (.ref h9)))
  (d5 : PySem.W.findIn K (.ref aP) "__init__" = some (some (.ref cj))) (eS : K.lookup cj = some ⟨og,ou,.func (PySem.W.fnOf "__init__" "Parted.__init__" (aF bh) (aE bh) (ah bh) .none nS nG oG m3 iu nz),oP⟩) (eh : PySem.W.codeIn K iu "Parted.__init__" = true) (eO : PySem.W.keepIn K (.ref cj) = true)
  (ft : PySem.W.findIn K (.ref aP) "is_done" = some (some (.ref c0))) (fJ : K.lookup c0 = some ⟨pY,p3,.func (PySem.W.fnOf "is_done" "Parted.is_done" (aF b7) (aE b7) (ah b7) .none pP pG p8 pf iU pD),qh⟩) (fz : PySem.W.codeIn K iU "Parted.is_done" = true) (c9 : PySem.W.keepIn K (.ref c0) = true)
  (d6 : PySem.W.findIn K (.ref aP) "wait_for" = some (some (.ref cP))) (eT : K.lookup cP = some ⟨oh,ox,.func (PySem.W.fnOf "wait_for" "Parted.wait_for" (aF bT) (aE bT) (ah bT) .none nU nH oH m6 iy nA),oQ⟩) (eu : PySem.W.codeIn K iy "Parted.wait_for" = true) (cQ : PySem.W.keepIn K (.ref cP) = true)
  (cE : PySem.W.findIn K (.ref aP) "next_splitter" = some (some (.ref bW))) (cI : K.lookup bW = some ⟨jx,jy,.func (PySem.W.fnOf "next_splitter" "Parted.next_splitter" (aF br) (aE br) (ah br) .none ju jr jA jg dQ jq),jF⟩) (cF : PySem.W.codeIn K dQ "Parted.next_splitter" = true) (bX : PySem.W.keepIn K (.ref bW) = true)
  (dI : PySem.W.findIn K (.ref aP) "split_off" = some (some (.ref cG))) (dP : K.lookup cG = some ⟨mC,mD,.func (PySem.W.fnOf "split_off" "Parted.split_off" (aF bC) (aE bC) (ah bC) .none mB mz mE mx gS my),mF⟩) (dJ : PySem.W.codeIn K gS "Parted.split_off" = true) (cH : PySem.W.keepIn K (.ref cG) = true)
  (fu : PySem.W.findIn K (.ref aP) "part_by" = some (some (.ref c8))) (fK : K.lookup c8 = some ⟨pZ,p5,.func (PySem.W.fnOf "part_by" "Parted.part_by" (aF b8) (aE b8) (ah b8) .none pQ pH p9 pj iV pE),qj⟩) (fA : PySem.W.codeIn K iV "Parted.part_by" = true) (de : PySem.W.keepIn K (.ref c8) = true)
  (q_TooWide : PySem.W.excIn K aG [.type "ValueError",.type "Exception",.type "BaseException",.type "object"] "ValueError.__new__" = true)
  (xga : PySem.W.findIn K (.ref aG) "__getattribute__" = some (some (.builtin "BaseException.__getattribute__")))
  (xgt : PySem.W.findIn K (.ref aG) "__getattr__" = some none)
  (xcl : PySem.W.findIn K (.ref aG) "__class__" = some (some (.builtin "object.__class__")))
  (xgg : PySem.W.specialIn K (.builtin "object.__class__") "__get__" = some (some (.builtin "getset_descriptor.__get__")))
  (xtk : PySem.W.takesIn K (.builtin "object.__class__") = some true)
  (xob : PySem.W.mroIn K aG (.type "object") = some true)
  (xbe : PySem.W.mroIn K aG (.type "BaseException") = some true)
  (tw0 : PySem.W.subIn K (.ref aG) (.type "BaseException") = some true)
  (tw2 : PySem.W.typeIn K (.ref aG) = some (.type "type"))
  (tw3 : PySem.W.subIn K (.ref aG) (.ref aG) = some true)
  (fe1 : PySem.W.mroIn K dw (.type "object") = some true)
  (fe2 : PySem.W.typeIn K (.ref dw) = some (.type "type"))
  (fe3 : PySem.W.subIn K (.ref aG) (.ref dw) = some true)
  (fe4 : (Value.ref aG == Value.ref dw) = false)
  (kve : PySem.W.subIn K (.ref aG) (.type "ValueError") = some true)
  (ob_NoFigures : PySem.W.mroIn K fZ (.type "object") = some true)
  (ty_NoFigures : PySem.W.typeIn K (.ref fZ) = some (.type "type"))
  (su_NoFigures : PySem.W.subIn K (.ref aG) (.ref fZ) = some false)
  (ne_NoFigures : (Value.ref aG == Value.ref fZ) = false)
  (ob_NoMachine : PySem.W.mroIn K f7 (.type "object") = some true)
  (ty_NoMachine : PySem.W.typeIn K (.ref f7) = some (.type "type"))
  (su_NoMachine : PySem.W.subIn K (.ref aG) (.ref f7) = some false)
  (ne_NoMachine : (Value.ref aG == Value.ref f7) = false)
  (ob_NoName : PySem.W.mroIn K kY (.type "object") = some true)
  (ty_NoName : PySem.W.typeIn K (.ref kY) = some (.type "type"))
  (su_NoName : PySem.W.subIn K (.ref aG) (.ref kY) = some false)
  (ne_NoName : (Value.ref aG == Value.ref kY) = false)
  (ob_NoPower : PySem.W.mroIn K je (.type "object") = some true)
  (ty_NoPower : PySem.W.typeIn K (.ref je) = some (.type "type"))
  (su_NoPower : PySem.W.subIn K (.ref aG) (.ref je) = some false)
  (ne_NoPower : (Value.ref aG == Value.ref je) = false)
  (ob_NoRow : PySem.W.mroIn K o9 (.type "object") = some true)
  (ty_NoRow : PySem.W.typeIn K (.ref o9) = some (.type "type"))
  (su_NoRow : PySem.W.subIn K (.ref aG) (.ref o9) = some false)
  (ne_NoRow : (Value.ref aG == Value.ref o9) = false)
  (ob_NoSome : PySem.W.mroIn K kZ (.type "object") = some true)
  (ty_NoSome : PySem.W.typeIn K (.ref kZ) = some (.type "type"))
  (su_NoSome : PySem.W.subIn K (.ref aG) (.ref kZ) = some false)
  (ne_NoSome : (Value.ref aG == Value.ref kZ) = false)
  (ob_NoText : PySem.W.mroIn K k6 (.type "object") = some true)
  (ty_NoText : PySem.W.typeIn K (.ref k6) = some (.type "type"))
  (su_NoText : PySem.W.subIn K (.ref aG) (.ref k6) = some false)
  (ne_NoText : (Value.ref aG == Value.ref k6) = false)
  (ob_TooGreat : PySem.W.mroIn K h9 (.type "object") = some true)
  (ty_TooGreat : PySem.W.typeIn K (.ref h9) = some (.type "type"))
  (su_TooGreat : PySem.W.subIn K (.ref aG) (.ref h9) = some false)
  (ne_TooGreat : (Value.ref aG == Value.ref h9) = false)
  (d_pg : PySem.W.plainGet K aP Str.empty = true)
  (d_hd : PySem.W.hasDictIn K aP = true)
  (d_po : PySem.W.plainOver K aP = true)
  (d_sa : PySem.W.findIn K (.ref aP) "__setattr__" = some (some (.builtin "object.__setattr__")))
  (d_n1 : PySem.W.findIn K (.ref aP) "group_of" = some none)
  (d_n2 : PySem.W.findIn K (.ref aP) "members" = some none)
  (d_n3 : PySem.W.findIn K (.ref aP) "waiting" = some none)
  (d_n4 : PySem.W.findIn K (.ref aP) "is_waiting" = some none)
  (d_mk : PySem.W.makesIn K aP = true)
  (d_fi : PySem.W.isFn K (.ref cj) = true)
  (d_kp : PySem.W.keepIn K (.ref aP) = true)
  (eL : PySem.W.isFn K (.ref c0) = true)
  (cz : PySem.W.isFn K (.ref bW) = true)
  (eM : PySem.W.isFn K (.ref c8) = true)
  (dq : PySem.W.isFn K (.ref cG) = true)
  (dN : PySem.W.isFn K (.ref cP) = true) :
  ∃ fd : FuncData,(∀ (s : Shared) (v : Value),BindsTo s fd ⟨[v],[]⟩ [("_law_script",v)]) /\ ∀ base : Heap,K.In base -> base.Ns mainGlobals mg -> FnOk l.prog w K mg base CX0 8 fa fd ["_law_script"] (DB K):=by
 have e:=hfa.symm.trans (PySem.W.mg_of X G C2)
 cases e
 have F_is_whole:=aN (st:=fU) n9 nk kq
 have b_is_whole:=F_is_whole.binds (ps:=["thing"]) fun _ _ _ _ _ _ us hl => tP hl fun _ => rfl
 have BQ:=PySem.W.mg_of X G mY
 have F_is_whole_from:=aN (st:=cf) gM gz dE
 have b_is_whole_from:=F_is_whole_from.binds (ps:=["thing","least"]) fun _ _ _ _ _ _ us hl => kK hl fun _ _ => rfl
 have tT:=PySem.W.mg_of X G gq
 have F_need_whole:=aN (st:=dj) kG j7 hJ
 have b_need_whole:=F_need_whole.binds (ps:=["thing","least","called"]) fun _ _ _ _ _ _ us hl => BO hl fun _ _ _ => rfl
 have yT:=PySem.W.mg_of X G jV
 have F_halved:=aN (st:=jE) vk uH pR
 have b_halved:=F_halved.binds (ps:=["parts","middle"]) fun _ _ _ _ _ _ us hl => kK hl fun _ _ => rfl
 have FA:=PySem.W.mg_of X G uD
 have F_figures:=aN (st:=h7) rH qH l7
 have b_figures : Binds K _ ["number","wide"] []:=F_figures.bindsD mq rfl 2 rfl fun _ _ _ _ _ _ us hl => kK hl fun _ _ => ⟨_,rfl,rfl⟩
 have b_figures_d : Binds K _ ["number","wide"] [Value.int 10 tk0_figures]:=F_figures.bindsD mq rfl 1 rfl fun _ _ _ _ _ _ us hl => tP hl fun _ => ⟨_,rfl,rfl⟩
 have Ej:=PySem.W.mg_of X G qy
 have F_room:=aN (st:=sf) BM Bf yJ
 have b_room : Binds K _ ["machine","row","start"] []:=F_room.bindsD zo rfl 3 rfl fun _ _ _ _ _ _ us hl => BO hl fun _ _ _ => ⟨_,rfl,rfl⟩
 have b_room_d : Binds K _ ["machine","row","start"] [Value.int 0 tk0_room]:=F_room.bindsD zo rfl 2 rfl fun _ _ _ _ _ _ us hl => kK hl fun _ _ => ⟨_,rfl,rfl⟩
 have IG:=PySem.W.mg_of X G A7
 have F_told:=aN (st:=sh) BN Bg yK
 have b_told:=F_told.binds (ps:=["machine","row"]) fun _ _ _ _ _ _ us hl => kK hl fun _ _ => rfl
 have IH:=PySem.W.mg_of X G A8
 have F_sign_at:=aN (st:=h8) rK qJ ma
 have b_sign_at:=F_sign_at.binds (ps:=["machine","number"]) fun _ _ _ _ _ _ us hl => kK hl fun _ _ => rfl
 have El:=PySem.W.mg_of X G qA
 have F_reached_rooms:=aN (st:=cg) gN gA dF
 have b_reached_rooms : Binds K _ ["machine","start"] []:=F_reached_rooms.bindsD dH rfl 2 rfl fun _ _ _ _ _ _ us hl => kK hl fun _ _ => ⟨_,rfl,rfl⟩
 have b_reached_rooms_d : Binds K _ ["machine","start"] [Value.int 0 tk0_reached_rooms]:=F_reached_rooms.bindsD dH rfl 1 rfl fun _ _ _ _ _ _ us hl => tP hl fun _ => ⟨_,rfl,rfl⟩
 have tU:=PySem.W.mg_of X G gu
 have F_with_rooms:=aN (st:=bO) kH j8 hU
 have b_with_rooms:=F_with_rooms.binds (ps:=["machine","kept","numbers"]) fun _ _ _ _ _ _ us hl => BO hl fun _ _ _ => rfl
 have yU:=PySem.W.mg_of X G jW
 have F_columns_of:=aN (st:=cL) kF j5 g9
 have b_columns_of:=F_columns_of.binds (ps:=["machine"]) fun _ _ _ _ _ _ us hl => tP hl fun _ => rfl
 have yS:=PySem.W.mg_of X G jU
 have F_back_of:=aN (st:=hZ) rG qG l6
 have b_back_of:=F_back_of.binds (ps:=["column"]) fun _ _ _ _ _ _ us hl => tP hl fun _ => rfl
 have Ei:=PySem.W.mg_of X G qx
 have F_Parted___init__:=aN (st:=bh) eS eh eO
 have b_Parted___init__:=F_Parted___init__.binds (ps:=["self","signs"]) fun _ _ _ _ _ _ us hl => kK hl fun _ _ => rfl
 have F_Parted_is_done:=aN (st:=b7) fJ fz c9
 have b_Parted_is_done:=F_Parted_is_done.binds (ps:=["self"]) fun _ _ _ _ _ _ us hl => tP hl fun _ => rfl
 have F_Parted_wait_for:=aN (st:=bT) eT eu cQ
 have b_Parted_wait_for:=F_Parted_wait_for.binds (ps:=["self","group"]) fun _ _ _ _ _ _ us hl => kK hl fun _ _ => rfl
 have F_Parted_next_splitter:=aN (st:=br) cI cF bX
 have b_Parted_next_splitter:=F_Parted_next_splitter.binds (ps:=["self"]) fun _ _ _ _ _ _ us hl => tP hl fun _ => rfl
 have F_Parted_split_off:=aN (st:=bC) dP dJ cH
 have b_Parted_split_off:=F_Parted_split_off.binds (ps:=["self","group","inside"]) fun _ _ _ _ _ _ us hl => BO hl fun _ _ _ => rfl
 have F_Parted_part_by:=aN (st:=b8) fK fA de
 have b_Parted_part_by:=F_Parted_part_by.binds (ps:=["self","leading"]) fun _ _ _ _ _ _ us hl => kK hl fun _ _ => rfl
 have F_unparted_groups:=aN (st:=bz) eX eC cT
 have b_unparted_groups:=F_unparted_groups.binds (ps:=["machine"]) fun _ _ _ _ _ _ us hl => tP hl fun _ => rfl
 have pV:=PySem.W.mg_of X G d9
 have F_least:=aN (st:=iZ) yN yx uj
 have b_least:=F_least.binds (ps:=["machine"]) fun _ _ _ _ _ _ us hl => tP hl fun _ => rfl
 have Hh:=PySem.W.mg_of X G yr
 have F_power_of:=aN (st:=fV) oa nr ku
 have b_power_of:=F_power_of.binds (ps:=["base","times"]) fun _ _ _ _ _ _ us hl => kK hl fun _ _ => rfl
 have BR:=PySem.W.mg_of X G mZ
 have F_read_on:=aN (st:=fW) rJ qI l9
 have b_read_on:=F_read_on.binds (ps:=["rows","reached","wide"]) fun _ _ _ _ _ _ us hl => BO hl fun _ _ _ => rfl
 have Ek:=PySem.W.mg_of X G qz
 have F_raised:=aN (st:=iP) vm uI lJ
 have b_raised:=F_raised.binds (ps:=["machine","power"]) fun _ _ _ _ _ _ us hl => kK hl fun _ _ => rfl
 have Ab:=PySem.W.mg_of X G uE
 have F__law_draw:=aN (st:=cY) lM k8 f9
 have b__law_draw:=F__law_draw.binds (ps:=["_law_script","_law_k"]) fun _ _ _ _ _ _ us hl => kK hl fun _ _ => rfl
 have sY:=PySem.W.mg_of X G k7
 have F__law_round:=aN (st:=dh) kC jY gX
 have b__law_round:=F__law_round.binds (ps:=["_law_rows","_law_q"]) fun _ _ _ _ _ _ us hl => kK hl fun _ _ => rfl
 have yP:=PySem.W.mg_of X G jR
 have F__law_steadied:=aN (st:=bM) gL gy dD
 have b__law_steadied:=F__law_steadied.binds (ps:=["_law_script","_law_machine"]) fun _ _ _ _ _ _ us hl => kK hl fun _ _ => rfl
 have tS:=PySem.W.mg_of X G gp
 have F__law_there:=aN (st:=di) kE j4 gZ
 have b__law_there:=F__law_there.binds (ps:=["_law_script","_law_at","_law_place","_law_way"]) fun _ _ _ _ _ _ us hl => IE hl fun _ _ _ _ => rfl
 have yR:=PySem.W.mg_of X G jT
 have F__law_signs:=aN (st:=cK) kD jZ gY
 have b__law_signs:=F__law_signs.binds (ps:=["_law_script","_law_at","_law_many","_law_half","_law_way"]) fun _ _ _ _ _ _ us hl => Kn hl fun _ _ _ _ _ => rfl
 have yQ:=PySem.W.mg_of X G jS
 have F__law_machine_of:=aN (st:=bK) eV eB cS
 have b__law_machine_of:=F__law_machine_of.binds (ps:=["_law_script","_law_at","_law_many","_law_wide"]) fun _ _ _ _ _ _ us hl => IE hl fun _ _ _ _ => rfl
 have pU:=PySem.W.mg_of X G d8
 have F__law_is_row:=aN (st:=cN) i9 i5 fX
 have b__law_is_row:=F__law_is_row.binds (ps:=["_law_found","_law_many","_law_bound"]) fun _ _ _ _ _ _ us hl => BO hl fun _ _ _ => rfl
 have w5:=PySem.W.mg_of X G i0
 have F__law_is_machine:=aN (st:=bU) eU eA cR
 have b__law_is_machine:=F__law_is_machine.binds (ps:=["_law_found","_law_wide"]) fun _ _ _ _ _ _ us hl => kK hl fun _ _ => rfl
 have pT:=PySem.W.mg_of X G d7
 have F__law_in_order:=aN (st:=cc) gK gx dC
 have b__law_in_order:=F__law_in_order.binds (ps:=["_law_rows"]) fun _ _ _ _ _ _ us hl => tP hl fun _ => rfl
 have tR:=PySem.W.mg_of X G gn
 have F__law_others:=aN (st:=cu) jb i6 fY
 have b__law_others:=F__law_others.binds (ps:=["_law_e"]) fun _ _ _ _ _ _ us hl => tP hl fun _ => rfl
 have w6:=PySem.W.mg_of X G i4
 have F__law_refused:=aN (st:=b9) iL iq eR
 have b__law_refused:=F__law_refused.binds (ps:=["_law_machine","_law_many"]) fun _ _ _ _ _ _ us hl => kK hl fun _ _ => rfl
 have vq:=PySem.W.mg_of X G ij
 have F__law_product:=aN (st:=cB) iK ik eP
 have b__law_product:=F__law_product.binds (ps:=["_law_wide","_law_many"]) fun _ _ _ _ _ _ us hl => kK hl fun _ _ => rfl
 have vp:=PySem.W.mg_of X G ig
 have F__law_greatest:=aN (st:=cb) gJ gw dB
 have b__law_greatest:=F__law_greatest.binds (ps:=["_law_wide","_law_most"]) fun _ _ _ _ _ _ us hl => kK hl fun _ _ => rfl
 have tQ:=PySem.W.mg_of X G gm
 have F__law_led:=aN (st:=fT) nZ nh ko
 have b__law_led:=F__law_led.binds (ps:=["_law_rows","_law_q","_law_figure","_law_many"]) fun _ _ _ _ _ _ us hl => IE hl fun _ _ _ _ => rfl
 have BP:=PySem.W.mg_of X G mW
 have F__law_alike:=aN (st:=df) kB jX gW
 have b__law_alike:=F__law_alike.binds (ps:=["_law_machine","_law_other","_law_many"]) fun _ _ _ _ _ _ us hl => BO hl fun _ _ _ => rfl
 have yO:=PySem.W.mg_of X G jQ
 have F_law:=aN (st:=qf) Fx E4 Fu
 have b_law:=F_law.binds (ps:=["_law_script"]) fun _ _ _ _ _ _ us hl => tP hl fun _ => rfl
 have KG:=PySem.W.mg_of X G C2
 have aU:=PySem.W.mg_none_of X G GP
 have aH:=PySem.W.mg_none_of X G zq
 have gR:=PySem.W.mg_none_of X G C0
 have aO:=PySem.W.mg_none_of X G zt
 have gQ:=PySem.W.mg_none_of X G CZ
 have bZ:=PySem.W.mg_none_of X G lX
 have qp:=PySem.W.mg_none_of X G GO
 have az:=PySem.W.mg_none_of X G kR
 have sH:=PySem.W.mg_none_of X G y_bool
 have yq:=PySem.W.mg_none_of X G GQ
 have oZ:=PySem.W.mg_none_of X G oY
 have fh:=PySem.W.mg_none_of X G kQ
 have dS:=PySem.W.mg_of X G lW
 have Fj:=PySem.W.mg_of X G qO
 have dU:=PySem.W.mg_of X G ny
 have dA:=PySem.W.mg_of X G iC
 have lG:=PySem.W.mg_of X G j9
 have lH:=PySem.W.mg_of X G ka
 have u9:=PySem.W.mg_of X G qL
 have rp:=PySem.W.mg_of X G nv
 have yG:=PySem.W.mg_of X G uP
 have va:=PySem.W.mg_of X G qM
 have vb:=PySem.W.mg_of X G qN
 have nP:=PySem.W.mg_of X G lC
 refine ⟨PySem.W.fnOf "law" "law" (aF qf) (aE qf) (ah qf) .none Fs Fb Gi EZ Bj E7,fun s v => .of_eq rfl,fun base _ _ => ?_⟩
 have dM:=(show Cls K aP from ⟨d_pg,d_hd,d_po,d_sa⟩)
 have Em:=(show Mk K aP cj from ⟨d_mk,d5,d_fi,d_kp⟩)
 have pc:=(show PCls K aP from ⟨dM,d_n1,d_n2,d_n3,d_n4⟩)
 have mV : DefOk l.prog w K mg base "is_whole" 1 ["thing"] [] (zj):=⟨_,_,[],BQ,kq,.nil,b_is_whole,An F_is_whole az qp sH⟩
 have gj : DefOk l.prog w K mg base "is_whole_from" 2 ["thing","least"] [] (CH):=⟨_,_,[],tT,dE,.nil,b_is_whole_from,Hr F_is_whole_from mV⟩
 have gT : DefOk l.prog w K mg base "need_whole" 3 ["thing","least","called"] [] (CI):=⟨_,_,[],yT,hJ,.nil,b_need_whole,Hs F_need_whole gj⟩
 have uA : DefOk l.prog w K mg base "halved" 1 ["parts","middle"] [] (vV K):=⟨_,_,[],FA,pR,.nil,b_halved,Eu F_halved ⟩
 have qt : DefOk l.prog w K mg base "figures" 4 ["number","wide"] [] (sx K):=⟨_,_,[],Ej,l7,.nil,b_figures,B8 F_figures gT uA oZ aO⟩
 have uB : DefOk l.prog w K mg base "room" 1 ["machine","row","start"] [.int 0] (CJ K):=⟨_,_,_,IG,yJ,.cons ⟨_,rfl⟩ (.nil),b_room_d,Ht F_room ⟩
 have A0 : DefOk l.prog w K mg base "told" 2 ["machine","row"] [] (CL K):=⟨_,_,[],IH,yK,.nil,b_told,Hu F_told uB⟩
 have lY : DefOk l.prog w K mg base "sign_at" 5 ["machine","number"] [] (CK K id):=⟨_,_,[],El,ma,.nil,b_sign_at,Cg F_sign_at A0 qt⟩
 have d3 : DefOk l.prog w K mg base "reached_rooms" 1 ["machine","start"] [.int 0] (sC K):=⟨_,_,_,tU,dF,.cons ⟨_,rfl⟩ (.nil),b_reached_rooms_d,Cd F_reached_rooms gR⟩
 have gU : DefOk l.prog w K mg base "with_rooms" 1 ["machine","kept","numbers"] [] (zk K):=⟨_,_,[],yU,hU,.nil,b_with_rooms,FX F_with_rooms aO⟩
 have jO : DefOk l.prog w K mg base "columns_of" 1 ["machine"] [] (CG K):=⟨_,_,[],yS,g9,.nil,b_columns_of,Ho F_columns_of aH aO⟩
 have qr : DefOk l.prog w K mg base "back_of" 1 ["column"] [] (zc K):=⟨_,_,[],Ei,l6,.nil,b_back_of,FN F_back_of bZ⟩
 have qq : DefMk l.prog w K mg base "Parted" aP 1 ["self","signs"] (v9 aP):=⟨Fj,dM,_,_,Em,b_Parted___init__,Ca F_Parted___init__ pc aU gR aH gQ bZ⟩
 have mS : DefMe l.prog w K mg base aP "is_done" 1 ["self"] (vW K aP):=⟨dM,_,_,⟨ft,eL,c9⟩,b_Parted_is_done,Ew F_Parted_is_done pc aU⟩
 have iT : DefMe l.prog w K mg base aP "wait_for" 1 ["self","group"] (CM aP):=⟨dM,_,_,⟨d6,dN,cQ⟩,b_Parted_wait_for,Ci F_Parted_wait_for pc⟩
 have fk : DefMe l.prog w K mg base aP "next_splitter" 1 ["self"] (ze aP):=⟨dM,_,_,⟨cE,cz,bX⟩,b_Parted_next_splitter,FQ F_Parted_next_splitter pc gR⟩
 have jJ : DefMe l.prog w K mg base aP "split_off" 2 ["self","group","inside"] (zh K aP):=⟨dM,_,_,⟨dI,dq,cH⟩,b_Parted_split_off,FV F_Parted_split_off pc iT aU gQ⟩
 have mT : DefMe l.prog w K mg base aP "part_by" 3 ["self","leading"] (vZ aP):=⟨dM,_,_,⟨fu,eM,de⟩,b_Parted_part_by,EA F_Parted_part_by pc jJ aU⟩
 have d4 : DefOk l.prog w K mg base "unparted_groups" 4 ["machine"] [] (GJ K):=⟨_,_,[],pV,cT,.nil,b_unparted_groups,IM F_unparted_groups pc jO qr qq mS fk mT gR gQ⟩
 have jP : DefOk l.prog w K mg base "least" 5 ["machine"] [] (ux K):=⟨_,_,[],Hh,uj,.nil,b_least,FP F_least d3 gU d4 bZ gQ aU⟩
 have fq : DefOk l.prog w K mg base "power_of" 1 ["base","times"] [] (uy):=⟨_,_,[],BR,ku,.nil,b_power_of,FT F_power_of aH⟩
 have qu : DefOk l.prog w K mg base "read_on" 1 ["rows","reached","wide"] [] (wb K):=⟨_,_,[],Ek,l9,.nil,b_read_on,Ce F_read_on aH⟩
 have pb : DefOk l.prog w K mg base "raised" 6 ["machine","power"] [] (wa K):=⟨_,_,[],Ab,lJ,.nil,b_raised,EB F_raised fq jP qu dS aH aU aO⟩
 have jf : DefX l.prog w K mg base "raised" 6 ["machine","power"] [] (mj aG):=⟨_,_,[],Ab,lJ,.nil,b_raised,Cc F_raised fq dS dU q_TooWide⟩
 have aC : DefOk l.prog w K mg base "_law_draw" 1 ["_law_script","_law_k"] [] (zd K):=⟨_,_,[],sY,f9,.nil,b__law_draw,FO F__law_draw aU⟩
 have jL : DefOk l.prog w K mg base "_law_round" 1 ["_law_rows","_law_q"] [] (wc K):=⟨_,_,[],yP,gX,.nil,b__law_round,EC F__law_round aU aH yq⟩
 have gi : DefOk l.prog w K mg base "_law_steadied" 2 ["_law_script","_law_machine"] [] (oW K):=⟨_,_,[],tS,dD,.nil,b__law_steadied,yX F__law_steadied aC jL aH aU aO⟩
 have aC : DefOk l.prog w K mg base "_law_draw" 1 ["_law_script","_law_k"] [] (su K):=⟨_,_,[],sY,f9,.nil,b__law_draw,Hq F__law_draw aU⟩
 have jN : DefOk l.prog w K mg base "_law_there" 2 ["_law_script","_law_at","_law_place","_law_way"] [] (zi K):=⟨_,_,[],yR,gZ,.nil,b__law_there,FW F__law_there aC yq⟩
 have jM : DefOk l.prog w K mg base "_law_signs" 2 ["_law_script","_law_at","_law_many","_law_half","_law_way"] [] (zg K):=⟨_,_,[],yQ,gY,.nil,b__law_signs,FU F__law_signs aC aH qp aO⟩
 have dY : DefOk l.prog w K mg base "_law_machine_of" 3 ["_law_script","_law_at","_law_many","_law_wide"] [] (lR K):=⟨_,_,[],pU,cS,.nil,b__law_machine_of,xu F__law_machine_of aC jN jM aH aO⟩
 have dy : DefOk l.prog w K mg base "_law_is_row" 1 ["_law_found","_law_many","_law_bound"] [] (vY):=⟨_,_,[],w5,fX,.nil,b__law_is_row,Ey F__law_is_row az aO qp sH aU⟩
 have dX : DefOk l.prog w K mg base "_law_is_machine" 2 ["_law_found","_law_wide"] [] (vX):=⟨_,_,[],pT,cR,.nil,b__law_is_machine,Ex F__law_is_machine dy az aO aU⟩
 have gh : DefOk l.prog w K mg base "_law_in_order" 1 ["_law_rows"] [] (zf):=⟨_,_,[],tR,dC,.nil,b__law_in_order,FR F__law_in_order aU aH⟩
 have cU : DefH l.prog w K mg base "_law_others" 1 ["_law_e"] [] (lS aG):=⟨_,_,[],w6,fY,.nil,b__law_others,B9 F__law_others xga xgt xcl xgg xtk xob xbe lG ob_NoFigures ty_NoFigures su_NoFigures ne_NoFigures lH ob_NoMachine ty_NoMachine su_NoMachine ne_NoMachine u9 ob_NoName ty_NoName su_NoName ne_NoName rp ob_NoPower ty_NoPower su_NoPower ne_NoPower yG ob_NoRow ty_NoRow su_NoRow ne_NoRow va ob_NoSome ty_NoSome su_NoSome ne_NoSome vb ob_NoText ty_NoText su_NoText ne_NoText nP ob_TooGreat ty_TooGreat su_TooGreat ne_TooGreat az⟩
 have dZ : DefOk l.prog w K mg base "_law_refused" 7 ["_law_machine","_law_many"] [] (ml):=⟨_,_,[],vq,eR,.nil,b__law_refused,Ao F__law_refused xga xgt xcl xgg xtk xob xbe dA dU tw0 tw2 tw3 fe1 fe2 fe3 fe4 kve jf cU az fh⟩
 have ic : DefOk l.prog w K mg base "_law_product" 1 ["_law_wide","_law_many"] [] (sy):=⟨_,_,[],vp,eP,.nil,b__law_product,Cb F__law_product aH⟩
 have cM : DefOk l.prog w K mg base "_law_greatest" 1 ["_law_wide","_law_most"] [] (oV):=⟨_,_,[],tQ,dB,.nil,b__law_greatest,Am F__law_greatest ⟩
 have mU : DefOk l.prog w K mg base "_law_led" 1 ["_law_rows","_law_q","_law_figure","_law_many"] [] (GI K):=⟨_,_,[],BP,ko,.nil,b__law_led,IL F__law_led aH aU⟩
 have jK : DefOk l.prog w K mg base "_law_alike" 2 ["_law_machine","_law_other","_law_many"] [] (vU K):=⟨_,_,[],yO,gW,.nil,b__law_alike,Et F__law_alike mU aU aH⟩
 exact IK F_law aC cM dY gi pb dX ic gh jK jP lY dZ
theorem walk {l : PySem.W.OpenLaw} {q : Program} {loose : List Str} {XP : (Str -> Option Value) -> Heap -> Prop} {YP : World -> Heap -> Prop} {d : DefRec} {K : Params -> PySem.W.Frag} (hn : l.most = some 63) (hdf : d.params.defaults = [])
  (hY : ∀ (w : World) (h : Heap),YP w h -> (K w.params).In h)
  (F : ∀ (w : World) (mg : Str -> Option Value) (fa : Addr) (h : Heap),(K w.params).In h -> h.Ns mainGlobals mg -> mg d.name = some (.ref fa) ->
   ∃ fd : FuncData,(∀ (s : Shared) (u : Value),BindsTo s fd ⟨[u],[]⟩ [("_law_script",u)]) /\ ∀ base : Heap,(K w.params).In base -> base.Ns mainGlobals mg -> FnOk l.prog w (K w.params) mg base CX0 8 fa fd ["_law_script"] (DB (K w.params))) :
  PySem.W.WalkO q loose XP YP l.row.toRowW d [] (fun f vs => PySem.call f vs):=
 L2.walk_of (n:=63) (k:=8) (x := "_law_script") (CX:=fun _ => CX0) (sp:=fun w => DB (K w.params)) hn (by decide) hdf ⟨rfl,by decide,by decide⟩ hY F (fun _ _ a ns hl _ hS => ⟨a,ns,rfl,hS,hl,fun _ => rfl⟩) fun _ _ _ _ _ z => z
end My
def PySem.W.Fast.tw1397452945165643664:=0
def PySem.W.Fast.tw15388006851820903449:=0
def PySem.W.Fast.tw3056637987159865867:=0
def PySem.W.Fast.tw14480678685058711383:=0
def PySem.W.Fast.tw2086536310818706877:=0
def PySem.W.Fast.tw10830796616820847508:=0
def PySem.W.Fast.tw6547394101010197342:=0
def PySem.W.Fast.tw11275888141636593803:=0
def PySem.W.Fast.tw10457016719939736591:=0
def PySem.W.Fast.tw13630474354902399198:=0
def PySem.W.Fast.tw1086227398222124895:=0
def PySem.W.Fast.tw6571107447692277277:=0
def PySem.W.Fast.tw14674916581401748241:=0
def PySem.W.Fast.tw8493435519887467063:=0
def PySem.W.Fast.tw16864507429667974406:=0
def PySem.W.Fast.tw12530222920590224096:=0
def PySem.W.Fast.tw7367807874586025464:=0
def PySem.W.Fast.tw11325331912313514820:=0
def PySem.W.Fast.tw8713578879919011186:=0
def PySem.W.Fast.tw11284013570722139689:=0
def PySem.W.Fast.tw13688320221919157986:=0
def PySem.W.Fast.tw11465247662176497156:=0
def PySem.W.Fast.tw2903330740509641213:=0
def PySem.W.Fast.tw3130647199656633068:=0
def PySem.W.Fast.tw3723594756280965702:=0
def PySem.W.Fast.tw15190770865224514837:=0
def PySem.W.Fast.tw16278923628154071141:=0
def PySem.W.Fast.tw6920464448461692819:=0
def PySem.W.Fast.tw17011025008571372810:=0
def PySem.W.Fast.tw334036030479788728:=0
def PySem.W.Fast.tw14631190964420744195:=0
def PySem.W.Fast.tw14403635562394247791:=0
def PySem.W.Fast.tw14419719730688988202:=0
def PySem.W.Fast.tw2801256170359133842:=0
def PySem.W.Fast.tw15378656947167815749:=0
def PySem.W.Fast.tw7262743753024211048:=0
def PySem.W.Fast.tw12350569999536076554:=0
def PySem.W.Fast.tw10696955108489475951:=0
def PySem.W.Fast.tw18323445784260067313:=0
def PySem.W.Fast.tw6761589704387638653:=0
def PySem.W.Fast.tw5019195678591442575:=0
def PySem.W.Fast.tw16160805908314316484:=0
def PySem.W.Fast.tw17261125616907805296:=0
def PySem.W.Fast.tw2798978090890146990:=0
def PySem.W.Fast.tw16141688331026391917:=0
def PySem.W.Fast.tw4229851624844394644:=0
def PySem.W.Fast.tw9207899387172815535:=0
def PySem.W.Fast.tw9243828696563084415:=0
def PySem.W.Fast.tw8914607401759863237:=0
def PySem.W.Fast.tw4353951923009468669:=0
def PySem.W.Fast.tw11952818923234853542:=0
def PySem.W.Fast.tw7220006687702057450:=0
def PySem.W.Fast.tw3719959416767916411:=0
def PySem.W.Fast.tw5520351860249134340:=0
def PySem.W.Fast.tw6176931935594010164:=0
def PySem.W.Fast.tw9717769394090943140:=0
def PySem.W.Fast.tw198620666672036333:=0
def PySem.W.Fast.tw12984753538115854476:=0
def PySem.W.Fast.tw17498225420049973984:=0
def PySem.W.Fast.tw13029120325646925579:=0
def PySem.W.Fast.tw11455932275590137504:=0
def PySem.W.Fast.tw16921770813561642041:=0
def PySem.W.Fast.tw7925608825460095182:=0
def PySem.W.Fast.tw6715471474285475501:=0
def PySem.W.Fast.tw8693058842169983790:=0
def PySem.W.Fast.tw14513685874298553621:=0
def PySem.W.Fast.tw9749996093399493107:=0
def PySem.W.Fast.tw8875974753967168033:=0
def PySem.W.Fast.tw170154852087599812:=0
def PySem.W.Fast.tw6222921457463934061:=0
def PySem.W.Fast.tw15822175121137800780:=0
def PySem.W.Fast.tw7182214728757689052:=0
def PySem.W.Fast.tw10120388774064722000:=0
def PySem.W.Fast.tw10078569761034192969:=0
def PySem.W.Fast.tw3744597915507206539:=0
def PySem.W.Fast.tw15861608452269082118:=0
def PySem.W.Fast.tw3997664374284032370:=0
def PySem.W.Fast.tw13103108728236462320:=0
def PySem.W.Fast.tw7603533498668382380:=0
def PySem.W.Fast.tw17313869306143691234:=0
def PySem.W.Fast.tw6213026691434094684:=0
def PySem.W.Fast.tw994806866706992112:=0
def PySem.W.Fast.tw11671510251003975577:=0
def PySem.W.Fast.tw928869964941004490:=0
def PySem.W.Fast.tw3154102208367910653:=0
def PySem.W.Fast.tw603900214552937064:=0
def PySem.W.Fast.tw7130001067211964912:=0
def PySem.W.Fast.tw10617006850333255269:=0
def PySem.W.Fast.tw3202342044996845130:=0
def PySem.W.Fast.tw12828180598496601492:=0
def PySem.W.Fast.tw1866428139784855684:=0
def PySem.W.Fast.tw10309504874711996383:=0
def PySem.W.Fast.tw5707533090396941479:=0
def PySem.W.Fast.tw5308912333794399589:=0
def PySem.W.Fast.tw13677722373486939637:=0
def PySem.W.Fast.tw28758283838952306:=0
def PySem.W.Fast.tw3993336345679094256:=0
def PySem.W.Fast.tw6768665109144379340:=0
def PySem.W.Fast.tw5376977637933093546:=0
def PySem.W.Fast.tw10375939934204367006:=0
def PySem.W.Fast.tw3665586924688515414:=0
def PySem.W.Fast.tw7263277147962478980:=0
def PySem.W.Fast.tw4182495435164773955:=0
def PySem.W.Fast.tw15465163997620734961:=0
def PySem.W.Fast.tw12126875347704200451:=0
def PySem.W.Fast.tw5622429416106722620:=0
def PySem.W.Fast.tw17479542638862618120:=0
def PySem.W.Fast.tw12050844120974486483:=0
def PySem.W.Fast.tw4003919264956728187:=0
def PySem.W.Fast.tw11929105943230361748:=0
def PySem.W.Fast.tw7060354324966685711:=0
def PySem.W.Fast.tw5470811161616530807:=0
def PySem.W.Fast.tw3419746598016323199:=0
def PySem.W.Fast.tw17015641517800596186:=0
def PySem.W.Fast.tw3630289255075054852:=0
def PySem.W.Fast.tw16281039689089669525:=0
def PySem.W.Fast.tw6629395370117258149:=0
def PySem.W.Fast.tw8730254643218606830:=0
def PySem.W.Fast.tw6630941111409180856:=0
def PySem.W.Fast.tw16524468554296970060:=0
def PySem.W.Fast.tw6772732979667903153:=0
def PySem.W.Fast.tw7951173428230346287:=0
def PySem.W.Fast.tw18042743162130406234:=0
def PySem.W.Fast.tw5216214634224863746:=0
def PySem.W.Fast.tw7369835557082237475:=0
def PySem.W.Fast.tw7591310960277997932:=0
def PySem.W.Fast.tw13389660072282371397:=0
def PySem.W.Fast.tw2960110475118964993:=0
def PySem.W.Fast.tw13332261137183739369:=0
def PySem.W.Fast.tw16392529244661685767:=0
def PySem.W.Fast.tw2904586047512090516:=0
def PySem.W.Fast.tw3137646578961115585:=0
def PySem.W.Fast.tw18397255977520550869:=0
def PySem.W.Fast.tw9132944098324288468:=0
def PySem.W.Fast.tw12447009988165449402:=0
def PySem.W.Fast.tw9739925527255208310:=0
def PySem.W.Fast.tw14841262732291375959:=0
def PySem.W.Fast.tw9475520840125737154:=0
open PySem PySem.W PyProof.Rows
set_option maxRecDepth 100000 in
set_option maxHeartbeats 0 in
theorem PySem.Challenge.cw_figuretell_k33_raised_holds : PySem.Challenge.rw_figuretell_k33_raised.Holds := by
 w_on; o_law; k_head; (case hw => w_witness2)
 k_fill
 refine My.walk (l:=PySem.Challenge.rw_figuretell_k33_raised) rfl rfl (fun w h Y => PySem.W.kIn_of Y) ?F
 case F =>
  intro w mg fa h KX G hmg
  refine' My.all_mk KX G hmg ?mY ?n9 ?nk ?kq ?gq ?gM ?gz ?dE ?jV ?kG ?j7 ?hJ ?uD ?vk ?uH ?pR ?qy ?rH ?qH ?l7 ?mq ?A7 ?BM ?Bf ?yJ ?zo ?A8 ?BN ?Bg ?yK ?qA ?rK ?qJ ?ma ?gu ?gN ?gA ?dF ?dH ?jW ?kH ?j8 ?hU ?jU ?kF ?j5 ?g9 ?qx ?rG ?qG ?l6 ?d9 ?eX ?eC ?cT ?yr ?yN ?yx ?uj ?mZ ?oa ?nr ?ku ?qz ?rJ ?qI ?l9 ?uE ?vm ?uI ?lJ ?k7 ?lM ?k8 ?f9 ?jR ?kC ?jY ?gX ?gp ?gL ?gy ?dD ?jT ?kE ?j4 ?gZ ?jS ?kD ?jZ ?gY ?d8 ?eV ?eB ?cS ?i0 ?i9 ?i5 ?fX ?d7 ?eU ?eA ?cR ?gn ?gK ?gx ?dC ?i4 ?jb ?i6 ?fY ?ij ?iL ?iq ?eR ?ig ?iK ?ik ?eP ?gm ?gJ ?gw ?dB ?mW ?nZ ?nh ?ko ?jQ ?kB ?jX ?gW ?C2 ?Fx ?E4 ?Fu ?GP ?zq ?C0 ?zt ?CZ ?lX ?GO ?kR ?y_bool ?GQ ?oY ?kQ ?lW ?qO ?ny ?iC ?j9 ?ka ?qL ?nv ?uP ?qM ?qN ?lC ?d5 ?eS ?eh ?eO ?ft ?fJ ?fz ?c9 ?d6 ?eT ?eu ?cQ ?cE ?cI ?cF ?bX ?dI ?dP ?dJ ?cH ?fu ?fK ?fA ?de ?q_TooWide ?xga ?xgt ?xcl ?xgg ?xtk ?xob ?xbe ?tw0 ?tw2 ?tw3 ?fe1 ?fe2 ?fe3 ?fe4 ?kve ?ob_NoFigures ?ty_NoFigures ?su_NoFigures ?ne_NoFigures ?ob_NoMachine ?ty_NoMachine ?su_NoMachine ?ne_NoMachine ?ob_NoName ?ty_NoName ?su_NoName ?ne_NoName ?ob_NoPower ?ty_NoPower ?su_NoPower ?ne_NoPower ?ob_NoRow ?ty_NoRow ?su_NoRow ?ne_NoRow ?ob_NoSome ?ty_NoSome ?su_NoSome ?ne_NoSome ?ob_NoText ?ty_NoText ?su_NoText ?ne_NoText ?ob_TooGreat ?ty_TooGreat ?su_TooGreat ?ne_TooGreat ?d_pg ?d_hd ?d_po ?d_sa ?d_n1 ?d_n2 ?d_n3 ?d_n4 ?d_mk ?d_fi ?d_kp ?eL ?cz ?eM ?dq ?dN
  (case mY => k_is); (case n9 => k_is); (case nk => k_is); (case kq => k_is)
  (case gq => k_is); (case gM => k_is); (case gz => k_is); (case dE => k_is)
  (case jV => k_is); (case kG => k_is); (case j7 => k_is); (case hJ => k_is)
  (case uD => k_is); (case vk => k_is); (case uH => k_is); (case pR => k_is)
  (case qy => k_is); (case rH => k_is); (case qH => k_is); (case l7 => k_is); (case mq => k_is)
  (case A7 => k_is); (case BM => k_is); (case Bf => k_is); (case yJ => k_is); (case zo => k_is)
  (case A8 => k_is); (case BN => k_is); (case Bg => k_is); (case yK => k_is)
  (case qA => k_is); (case rK => k_is); (case qJ => k_is); (case ma => k_is)
  (case gu => k_is); (case gN => k_is); (case gA => k_is); (case dF => k_is); (case dH => k_is)
  (case jW => k_is); (case kH => k_is); (case j8 => k_is); (case hU => k_is)
  (case jU => k_is); (case kF => k_is); (case j5 => k_is); (case g9 => k_is)
  (case qx => k_is); (case rG => k_is); (case qG => k_is); (case l6 => k_is)
  (case d9 => k_is); (case eX => k_is); (case eC => k_is); (case cT => k_is)
  (case yr => k_is); (case yN => k_is); (case yx => k_is); (case uj => k_is)
  (case mZ => k_is); (case oa => k_is); (case nr => k_is); (case ku => k_is)
  (case qz => k_is); (case rJ => k_is); (case qI => k_is); (case l9 => k_is)
  (case uE => k_is); (case vm => k_is); (case uI => k_is); (case lJ => k_is)
  (case k7 => k_is); (case lM => k_is); (case k8 => k_is); (case f9 => k_is)
  (case jR => k_is); (case kC => k_is); (case jY => k_is); (case gX => k_is)
  (case gp => k_is); (case gL => k_is); (case gy => k_is); (case dD => k_is)
  (case jT => k_is); (case kE => k_is); (case j4 => k_is); (case gZ => k_is)
  (case jS => k_is); (case kD => k_is); (case jZ => k_is); (case gY => k_is)
  (case d8 => k_is); (case eV => k_is); (case eB => k_is); (case cS => k_is)
  (case i0 => k_is); (case i9 => k_is); (case i5 => k_is); (case fX => k_is)
  (case d7 => k_is); (case eU => k_is); (case eA => k_is); (case cR => k_is)
  (case gn => k_is); (case gK => k_is); (case gx => k_is); (case dC => k_is)
  (case i4 => k_is); (case jb => k_is); (case i6 => k_is); (case fY => k_is)
  (case ij => k_is); (case iL => k_is); (case iq => k_is); (case eR => k_is)
  (case ig => k_is); (case iK => k_is); (case ik => k_is); (case eP => k_is)
  (case gm => k_is); (case gJ => k_is); (case gw => k_is); (case dB => k_is)
  (case mW => k_is); (case nZ => k_is); (case nh => k_is); (case ko => k_is)
  (case jQ => k_is); (case kB => k_is); (case jX => k_is); (case gW => k_is)
  (case C2 => k_is); (case Fx => k_is); (case E4 => k_is); (case Fu => k_is)
  (case GP => k_is); (case zq => k_is); (case C0 => k_is); (case zt => k_is); (case CZ => k_is); (case lX => k_is); (case GO => k_is); (case kR => k_is); (case y_bool => k_is); (case GQ => k_is); (case oY => k_is); (case kQ => k_is); (case lW => k_is)
  (case qO => k_is)
  (case ny => k_is)
  (case iC => k_is)
  (case j9 => k_is)
  (case ka => k_is)
  (case qL => k_is)
  (case nv => k_is)
  (case uP => k_is)
  (case qM => k_is)
  (case qN => k_is)
  (case lC => k_is)
  (case d5 => k_is); (case eS => k_is); (case eh => k_is); (case eO => k_is)
  (case ft => k_is); (case fJ => k_is); (case fz => k_is); (case c9 => k_is)
  (case d6 => k_is); (case eT => k_is); (case eu => k_is); (case cQ => k_is)
  (case cE => k_is); (case cI => k_is); (case cF => k_is); (case bX => k_is)
  (case dI => k_is); (case dP => k_is); (case dJ => k_is); (case cH => k_is)
  (case fu => k_is); (case fK => k_is); (case fA => k_is); (case de => k_is)
  (case q_TooWide => first | k_is | k_exc | decide | kernel_rfl)
  (case xga => first | k_is | k_exc | decide | kernel_rfl)
  (case xgt => first | k_is | k_exc | decide | kernel_rfl)
  (case xcl => first | k_is | k_exc | decide | kernel_rfl)
  (case xgg => first | k_is | k_exc | decide | kernel_rfl)
  (case xtk => first | k_is | k_exc | decide | kernel_rfl)
  (case xob => first | k_is | k_exc | decide | kernel_rfl)
  (case xbe => first | k_is | k_exc | decide | kernel_rfl)
  (case tw0 => first | k_is | k_exc | decide | kernel_rfl)
  (case tw2 => first | k_is | k_exc | decide | kernel_rfl)
  (case tw3 => first | k_is | k_exc | decide | kernel_rfl)
  (case fe1 => first | k_is | k_exc | decide | kernel_rfl)
  (case fe2 => first | k_is | k_exc | decide | kernel_rfl)
  (case fe3 => first | k_is | k_exc | decide | kernel_rfl)
  (case fe4 => first | k_is | k_exc | decide | kernel_rfl)
  (case kve => first | k_is | k_exc | decide | kernel_rfl)
  (case ob_NoFigures => first | k_is | k_exc | decide | kernel_rfl)
  (case ty_NoFigures => first | k_is | k_exc | decide | kernel_rfl)
  (case su_NoFigures => first | k_is | k_exc | decide | kernel_rfl)
  (case ne_NoFigures => first | k_is | k_exc | decide | kernel_rfl)
  (case ob_NoMachine => first | k_is | k_exc | decide | kernel_rfl)
  (case ty_NoMachine => first | k_is | k_exc | decide | kernel_rfl)
  (case su_NoMachine => first | k_is | k_exc | decide | kernel_rfl)
  (case ne_NoMachine => first | k_is | k_exc | decide | kernel_rfl)
  (case ob_NoName => first | k_is | k_exc | decide | kernel_rfl)
  (case ty_NoName => first | k_is | k_exc | decide | kernel_rfl)
  (case su_NoName => first | k_is | k_exc | decide | kernel_rfl)
  (case ne_NoName => first | k_is | k_exc | decide | kernel_rfl)
  (case ob_NoPower => first | k_is | k_exc | decide | kernel_rfl)
  (case ty_NoPower => first | k_is | k_exc | decide | kernel_rfl)
  (case su_NoPower => first | k_is | k_exc | decide | kernel_rfl)
  (case ne_NoPower => first | k_is | k_exc | decide | kernel_rfl)
  (case ob_NoRow => first | k_is | k_exc | decide | kernel_rfl)
  (case ty_NoRow => first | k_is | k_exc | decide | kernel_rfl)
  (case su_NoRow => first | k_is | k_exc | decide | kernel_rfl)
  (case ne_NoRow => first | k_is | k_exc | decide | kernel_rfl)
  (case ob_NoSome => first | k_is | k_exc | decide | kernel_rfl)
  (case ty_NoSome => first | k_is | k_exc | decide | kernel_rfl)
  (case su_NoSome => first | k_is | k_exc | decide | kernel_rfl)
  (case ne_NoSome => first | k_is | k_exc | decide | kernel_rfl)
  (case ob_NoText => first | k_is | k_exc | decide | kernel_rfl)
  (case ty_NoText => first | k_is | k_exc | decide | kernel_rfl)
  (case su_NoText => first | k_is | k_exc | decide | kernel_rfl)
  (case ne_NoText => first | k_is | k_exc | decide | kernel_rfl)
  (case ob_TooGreat => first | k_is | k_exc | decide | kernel_rfl)
  (case ty_TooGreat => first | k_is | k_exc | decide | kernel_rfl)
  (case su_TooGreat => first | k_is | k_exc | decide | kernel_rfl)
  (case ne_TooGreat => first | k_is | k_exc | decide | kernel_rfl)
  (case d_pg => first | k_is | k_exc | decide | kernel_rfl)
  (case d_hd => first | k_is | k_exc | decide | kernel_rfl)
  (case d_po => first | k_is | k_exc | decide | kernel_rfl)
  (case d_sa => first | k_is | k_exc | decide | kernel_rfl)
  (case d_n1 => first | k_is | k_exc | decide | kernel_rfl)
  (case d_n2 => first | k_is | k_exc | decide | kernel_rfl)
  (case d_n3 => first | k_is | k_exc | decide | kernel_rfl)
  (case d_n4 => first | k_is | k_exc | decide | kernel_rfl)
  (case d_mk => first | k_is | k_exc | decide | kernel_rfl)
  (case d_fi => first | k_is | k_exc | decide | kernel_rfl)
  (case d_kp => first | k_is | k_exc | decide | kernel_rfl)
  (case eL => first | k_is | k_exc | decide | kernel_rfl)
  (case cz => first | k_is | k_exc | decide | kernel_rfl)
  (case eM => first | k_is | k_exc | decide | kernel_rfl)
  (case dq => first | k_is | k_exc | decide | kernel_rfl)
  (case dN => first | k_is | k_exc | decide | kernel_rfl)
