import PyProof.Rows.All
import Wide.All
import OpenK.AllK
import Wide.FinOn
import Lean
import PyProof.EqAt
import PyProof.EqKinds
import PyProof.TupleCall
import PyProof.NeKinds
import PyProof.ExcBaseAll.ValueError
import PyProof.ExcClass3
import OpenK.KOwn
import PyProof.Rows.FStr
import KE.KTryMore
import PyProof.ExcAttrAll.ValueError
import KE.KDictList
import PyProof.CompMap
import PyProof.Draws
import PyProof.ListRange
import PyProof.ZipIter
import PyProof.EnumMake
import PyProof.CollectIter
import PyProof.SetRoads
import PyProof.Rows.SortShell
import PyProof.Rows.SortWalk
import PyProof.ExcInit
import PyProof.InstStoreFacts
import PyProof.MinMaxWalk
import PyProof.Rows.StrJoin2
import PyProof.StrBlock2
import PyProof.Rows.SortStr
import PyProof.StrLawsIdx
import PyProof.StrBlockI
import PyProof.StrLoop
import PyProof.StrWalks
import KE.KIntText
import PySem.Challenge.RW_figuretell_k53_whole_read
set_option Elab.async false
set_option linter.all false
set_option maxRecDepth 100000
namespace L2
open PySem PySem.Spec PyProof.Rows
abbrev Key:=Sum Int Str
def EF : Key -> Value -> Bool
 | .inl k,v => Value.isInt k v
 | .inr x,v => Value.isStrOf x v
def GJ (w : World) : Key -> Int
 | .inl k => hashInt k
 | .inr x => hashStr w x
theorem bU : ∀ {k : Key} {v : Value},EF k v = true -> (∃ i t,k = Sum.inl i /\ v = Value.int i t) \/ (∃ x t,k = Sum.inr x /\ v = Value.str x t)
 | .inl i,v,h => by
  obtain ⟨t,e⟩:=Value.isInt_shape (k:=i) (v:=v) h
  exact .inl ⟨i,t,rfl,e⟩
 | .inr x,v,h => by
  obtain ⟨t,e⟩:=Value.isStrOf_shape (x:=x) (v:=v) h
  exact .inr ⟨x,t,rfl,e⟩
theorem E2 (a b : Int) : decide ((Sum.inl a : Key) = Sum.inl b) = (a == b):=by
 by_cases e : a = b
 ·subst e; simp
 ·have h : ¬ (Sum.inl a : Key) = Sum.inl b:=fun q => e (Sum.inl.inj q)
  rw [decide_eq_false h]
  exact (beq_eq_false_iff_ne.mpr e).symm
theorem E5 (a b : Str) : decide ((Sum.inr a : Key) = Sum.inr b) = decide (a = b):=by
 by_cases e : a = b
 ·subst e; simp
 ·have h : ¬ (Sum.inr a : Key) = Sum.inr b:=fun q => e (Sum.inr.inj q)
  rw [decide_eq_false h,decide_eq_false e]
theorem E3 (a : Int) (b : Str) : decide ((Sum.inl a : Key) = Sum.inr b) = false:=decide_eq_false (fun q => nomatch q)
theorem E4 (a : Str) (b : Int) : decide ((Sum.inr a : Key) = Sum.inl b) = false:=decide_eq_false (fun q => nomatch q)
def AV (prog : Program) (w : World) : PySem.KeyKind prog w Key where
 is:=EF
 hash:=GJ w
 inj:=fun v a b ha hb => by
  rcases bU ha with ⟨i,t,rfl,rfl⟩ | ⟨x,t,rfl,rfl⟩
  ·rcases bU hb with ⟨j,u,rfl,e⟩ | ⟨y,u,rfl,e⟩
   ·injection e with e1 _; rw [e1]
   ·exact nomatch e
  ·rcases bU hb with ⟨j,u,rfl,e⟩ | ⟨y,u,rfl,e⟩
   ·exact nomatch e
   ·injection e with e1 _; rw [e1]
 byValue:=fun k v h => by
  rcases bU h with ⟨i,t,rfl,rfl⟩ | ⟨x,t,rfl,rfl⟩ <;> rfl
 pyHash:=fun hv h => by
  rcases bU hv with ⟨i,t,rfl,rfl⟩ | ⟨x,t,rfl,rfl⟩
  ·exact wpAny_pyHash_int h
  ·exact wpAny_pyHash_str h
 eqBool:=fun hu hv h => by
  rcases bU hu with ⟨i,t,rfl,rfl⟩ | ⟨x,t,rfl,rfl⟩
  ·rcases bU hv with ⟨j,u,rfl,rfl⟩ | ⟨y,u,rfl,rfl⟩
   ·rw [E2] at h; exact wpAny_eqBool_int h
   ·rw [E3] at h; exact SeqAt.EqAt.int_str i t y u _ _ _ _ h
  ·rcases bU hv with ⟨j,u,rfl,rfl⟩ | ⟨y,u,rfl,rfl⟩
   ·rw [E4] at h; exact SeqAt.EqAt.str_int x t j u _ _ _ _ h
   ·rw [E5] at h; exact wpAny_eqBool_str h
 «strs» := fun k x t v h => by
  rcases bU h with ⟨i,u,rfl,e⟩ | ⟨y,u,rfl,e⟩
  ·exact nomatch e
  ·injection e with e1 _
   subst e1
   cases v <;> rfl
end L2
namespace L2
open PySem PySem.Spec PyProof.Rows
inductive V where
 | non | bl (b : Bool) | int (i : Int) | str (x : Str) | byt (b : Array UInt8) | flt (b : UInt64) | ref (a : Addr) | ty (n : String)
 deriving DecidableEq
def RelV : V -> Value -> Prop
 | .non,u => u = Value.none
 | .bl b,u => u = Value.bool b
 | .int i,u => ∃ t,u = Value.int i t
 | .str x,u => ∃ t,u = Value.str x t
 | .byt b,u => ∃ t,u = Value.bytes b t
 | .flt b,u => ∃ t,u = Value.float b t
 | .ref a,u => u = Value.ref a
 | .ty n,u => u = Value.type n
abbrev Vals : List V -> List Value -> Prop:=Paired RelV
theorem Vals.length {xs : List V} {us : List Value} (r : Vals xs us) : xs.length = us.length:=Paired.length r
theorem Vals.get : ∀ {xs : List V} {us : List Value} {i : Nat} {x : V},Vals xs us -> xs[i]? = some x -> ∃ u,us[i]? = some u /\ RelV x u
 | _,_,_,_,.nil,e => by simp at e
 | _,_,0,_,.cons r _,e => by simp at e; subst e; exact ⟨_,rfl,r⟩
 | _,_,i + 1,x,.cons _ t,e => by
  obtain ⟨u,h1,h2⟩:=Vals.get (i:=i) (x:=x) t (by simpa using e)
  exact ⟨u,by simpa using h1,h2⟩
theorem Vals.set {x : V} {u : Value} (r : RelV x u) : ∀ {xs : List V} {us : List Value} (i : Nat),Vals xs us -> Vals (xs.set i x) (us.set i u)
 | _,_,_,.nil => .nil
 | _,_,0,.cons _ t => .cons r t
 | _,_,i + 1,.cons q t => .cons q (Vals.set r i t)
theorem Vals.append : ∀ {xs ys : List V} {us ws : List Value},Vals xs us -> Vals ys ws -> Vals (xs ++ ys) (us ++ ws)
 | _,_,_,_,.nil,s => s
 | _,_,_,_,.cons r t,s => .cons r (Vals.append t s)
theorem Vals.take : ∀ {xs : List V} {us : List Value} (n : Nat),Vals xs us -> Vals (xs.take n) (us.take n)
 | _,_,0,_ => .nil
 | _,_,_ + 1,.nil => .nil
 | _,_,n + 1,.cons r t => .cons r (Vals.take n t)
theorem Vals.drop : ∀ {xs : List V} {us : List Value} (n : Nat),Vals xs us -> Vals (xs.drop n) (us.drop n)
 | _,_,0,r => r
 | _,_,_ + 1,.nil => .nil
 | _,_,n + 1,.cons _ t => Vals.drop n t
def RelO : Option V -> Option Value -> Prop
 | some v,some u => RelV v u
 | none,none => True
 | _,_ => False
def KV {κ : Type} : List (κ × V) -> List (κ × Value) -> Prop:=Paired fun (p : κ × V) (q : κ × Value) => p.1 = q.1 /\ RelV p.2 q.2
def kV : Key -> V
 | .inl i => .int i
 | .inr x => .str x
inductive HO where
  | lst (xs : List V)
  | tup (xs : List V)
  | dK (kvs : List (Key × V)) | dT (kvs : List (List Key × V))
  | set (S : Int -> Bool) (n : Nat)
  | ins (C dx : Addr) (fs : List (Str × V))
  | own (x : Addr)
  | xd (fs : List (Str × V))
  | met (f x : Addr)
  | rng (lo hi : Int)
  | frz (o : Obj) (u : HO)
  | tbl (ps : Array Value)
  | ext (φ : Heap -> Prop)
abbrev Hp:=Addr -> Option HO
def upd (H : Hp) (a : Addr) (o : HO) : Hp:=fun b => if b = a then some o else H b
theorem af {H : Hp} {a : Addr} {o : HO} : upd H a o a = some o:=by unfold upd; rw [if_pos rfl]
theorem aw {H : Hp} {a b : Addr} {o : HO} (h : b ≠ a) : upd H a o b = H b:=by unfold upd; rw [if_neg h]
theorem wg {H : Hp} {a b : Addr} {o u : HO} (h : H a = some o) (h' : H b = some u) (d : o ≠ u) : a ≠ b:=by
 intro e; subst e; rw [h] at h'; exact d (Option.some.inj h')
theorem az {H : Hp} {a b : Addr} {o : HO} (h : H a = some o) (h' : H b = none) : a ≠ b:=by
 intro e; subst e; rw [h] at h'; cases h'
section
variable (P : Program) (w : World)
def ObjOk (H : Hp) (h : Heap) (a : Addr) : HO -> Prop
 | .lst xs => xs.length <= sizeLine /\ ∃ (its : List Value) (n : Nat),Vals xs its /\ h.get? a = some { cls:=.type "list",data:=.seq its.toArray n }
 | .tup xs => xs.length <= sizeLine /\ ∃ its : List Value,Vals xs its /\ IsTup h a its.toArray
 | .dK kvs => kvs.length <= sizeLine /\ (a == sysModules) = false /\ ∃ vs,KV kvs vs /\ h.DictOf (AV P w) a vs
 | .dT kvs => kvs.length <= sizeLine /\ (a == sysModules) = false /\ ∃ xs : List (List Key × Addr × Value),
   Paired (fun (p : List Key × V) (q : List Key × Addr × Value) => p.1 = q.1 /\ H q.2.1 = some (.tup (p.1.map kV)) /\ RelV p.2 q.2.2) kvs xs /\
   ∃ o es ep,h.get? a = some o /\ o.ExactDict /\ o.data = .dict es ep /\ es.toList = xs.map (entryOfKey (tupleKind (AV P w))) /\ (xs.map (·.1)).Nodup
 | .set S n => h.SetOf (intKind P w) a S n
 | .ins C dx fs => H dx = some (.own a) /\ fs.length <= 1000 /\ dx ≠ a /\ h.get? a = some (PySem.W.instObj C dx) /\
   ∃ mA,h.Ns1 dx mA /\ (∀ f,RelO (fs.lookup f) (mA f)) /\ PySem.Within mA (fs.map (·.1))
 | .own _ => ∃ o,h.get? a = some o
 | .xd fs => ∃ mA,h.Ns1 a mA /\ ∀ f,RelO (fs.lookup f) (mA f)
 | .rng lo hi => ∃ t u v,h.get? a = some { cls:=.type "range",data:=.fields #[.int lo t,.int hi u,.int 1 v] }
 | .frz o u => h.get? a = some o /\ ObjOk H h a u
 | .tbl ps => h.get? a = some { cls:=.none,data:=.fields ps }
 | .met f x => h.get? a = some (PySem.W.methodObj (.ref f) (.ref x))
 | .ext φ => φ h /\ (∃ o,h.get? a = some o) /\ ∀ h1 h2 : Heap,φ h1 -> (∀ o,h1.get? a = some o -> h2.get? a = some o) -> φ h2
def HOk (H : Hp) (h : Heap) : Prop := ∀ a o,H a = some o -> ObjOk P w H h a o
end
section
variable {P : Program} {w : World} {H H' : Hp} {h h' : Heap} {a : Addr} {o : HO}
theorem ObjOk.lt (x : ObjOk P w H h a o) : a < h.objs.size:=by
 cases o with
 | lst xs => obtain ⟨_,_,_,_,e⟩:=x; exact Heap.lt_size e
 | tup xs => obtain ⟨_,_,_,p⟩:=x; exact p.lt
 | dK kvs => obtain ⟨_,_,_,_,o,_,_,e,_⟩:=x; exact Heap.lt_size e
 | dT kvs => obtain ⟨_,_,_,_,o,_,_,e,_⟩:=x; exact Heap.lt_size e
 | set S n => obtain ⟨o,_,_,_,e,_⟩:=x; exact Heap.lt_size e
 | ins C dx fs => obtain ⟨_,_,_,e,_⟩:=x; exact Heap.lt_size e
 | own y => obtain ⟨_,e⟩:=x; exact Heap.lt_size e
 | xd fs => obtain ⟨_,⟨_,_,_,e,_⟩,_⟩:=x; exact Heap.lt_size e
 | rng lo hi => obtain ⟨_,_,_,e⟩:=x; exact Heap.lt_size e
 | frz ob u => obtain ⟨e,_⟩:=x; exact Heap.lt_size e
 | tbl ps => exact Heap.lt_size (show h.get? a = some _ from x)
 | met f y => exact Heap.lt_size (show h.get? a = some _ from x)
 | ext φ => obtain ⟨_,⟨_,e⟩,_⟩:=x; exact Heap.lt_size e
theorem Paired.mapP {α β : Type} {F G : α -> β -> Prop} : ∀ {l₁ : List α} {l₂ : List β},Paired F l₁ l₂ -> (∀ a b,F a b -> G a b) -> Paired G l₁ l₂
 | _,_,.nil,_ => .nil
 | _,_,.cons r t,f => .cons (f _ _ r) (Paired.mapP t f)
theorem ObjOk.stay (x : ObjOk P w H h a o) (k : ∀ b u,(b = a \/ H b = some (.own a)) -> h.get? b = some u -> h'.get? b = some u)
  (ho : ∀ b,H b = some (.own a) -> H' b = some (.own a)) (ht : ∀ b xs,H b = some (.tup xs) -> H' b = some (.tup xs)) : ObjOk P w H' h' a o:=by
 induction o with
 | lst xs => obtain ⟨z,its,n,r,e⟩:=x; exact ⟨z,its,n,r,k _ _ (.inl rfl) e⟩
 | tup xs => obtain ⟨z,its,r,ob,e,c⟩:=x; exact ⟨z,its,r,ob,k _ _ (.inl rfl) e,c⟩
 | dK kvs => obtain ⟨z,y,vs,r,ob,es,ep,e,c⟩:=x; exact ⟨z,y,vs,r,ob,es,ep,k _ _ (.inl rfl) e,c⟩
 | dT kvs =>
  obtain ⟨z,y,xs,r,ob,es,ep,e,c⟩:=x
  exact ⟨z,y,xs,Paired.mapP r fun p q z => ⟨z.1,ht _ _ z.2.1,z.2.2⟩,ob,es,ep,k _ _ (.inl rfl) e,c⟩
 | set S n => obtain ⟨ob,es,ep,t,e,c⟩:=x; exact ⟨ob,es,ep,t,k _ _ (.inl rfl) e,c⟩
 | ins C dx fs =>
  obtain ⟨d,z,ne,e,mA,⟨od,es,ep,e2,c⟩,r⟩:=x
  exact ⟨ho _ d,z,ne,k _ _ (.inl rfl) e,mA,⟨od,es,ep,k _ _ (.inr d) e2,c⟩,r⟩
 | own y => obtain ⟨ob,e⟩:=x; exact ⟨ob,k _ _ (.inl rfl) e⟩
 | xd fs => obtain ⟨mA,⟨od,es,ep,e,c⟩,r⟩:=x; exact ⟨mA,⟨od,es,ep,k _ _ (.inl rfl) e,c⟩,r⟩
 | rng lo hi => obtain ⟨t,u,v,e⟩:=x; exact ⟨t,u,v,k _ _ (.inl rfl) e⟩
 | frz ob u ih => obtain ⟨e,q⟩:=x; exact ⟨k _ _ (.inl rfl) e,ih q⟩
 | tbl ps =>
  have e : h.get? a = some { cls:=.none,data:=.fields ps }:=x
  show h'.get? a = some { cls:=.none,data:=.fields ps }
  exact k a _ (.inl rfl) e
 | met f y =>
  have e : h.get? a = some (PySem.W.methodObj (.ref f) (.ref y)):=x
  show h'.get? a = some (PySem.W.methodObj (.ref f) (.ref y))
  exact k a _ (.inl rfl) e
 | ext φ => obtain ⟨p,⟨o,e⟩,st⟩:=x; exact ⟨st _ _ p fun o q => k _ _ (.inl rfl) q,⟨o,k _ _ (.inl rfl) e⟩,st⟩
theorem HOk.lt (x : HOk P w H h) (e : H a = some o) : a < h.objs.size:=(x a o e).lt
theorem HOk.fresh (x : HOk P w H h) (e : h.objs.size <= a) : H a = none:=by
 cases q : H a with
 | none => rfl
 | some u => exact absurd (Nat.lt_of_lt_of_le (x.lt q) e) (Nat.lt_irrefl _)
theorem HOk.kept (x : HOk P w H h) (k : ∀ b u,h.get? b = some u -> h'.get? b = some u) : HOk P w H h' := fun a o e =>
 (x a o e).stay (fun b u _ q => k b u q) (fun _ q => q) fun _ _ q => q
theorem HOk.laid (x : HOk P w H h) (k : ∀ b u,h.get? b = some u -> h'.get? b = some u) (hp : h.objs.size <= a) (new : ObjOk P w (upd H a o) h' a o) : HOk P w (upd H a o) h' := fun b u e => by
 have hn:=x.fresh hp
 by_cases hb : b = a
 ·subst hb; rw [af] at e; cases e; exact new
 ·rw [aw hb] at e
  exact (x b u e).stay (fun c v _ q => k c v q) (fun c q => by rw [aw (az q hn)]; exact q) fun c xs q => by rw [aw (az q hn)]; exact q
end
def Rd (H : Hp) (a : Addr) (u : HO) : Prop:=H a = some u \/ ∃ o,H a = some (.frz o u)
theorem Rd.ok {P : Program} {w : World} {H : Hp} {h : Heap} {a : Addr} {u : HO} (r : Rd H a u) (x : HOk P w H h) : ObjOk P w H h a u:=by
 rcases r with r | ⟨o,r⟩
 ·exact x a u r
 ·obtain ⟨_,q⟩:=x a _ r
  exact q
def Mut : Option HO -> Prop
 | some (.lst _) => True
 | some (.dK _) => True
 | some (.dT _) => True
 | some (.set _ _) => True
 | some (.ins _ _ _) => True
 | some (.ext _) => True
 | _ => False
section
variable {P : Program} {w : World} {H : Hp} {h h' : Heap} {x e : Addr} {o' : HO}
theorem HOk.write (ok : HOk P w H h) (mu : Mut (H x)) (he : e = x \/ H e = some (.own x)) (k : ∀ b u,b ≠ e -> h.get? b = some u -> h'.get? b = some u) (heo : ∃ u,h'.get? e = some u)
  (new : ObjOk P w (upd H x o') h' x o') : HOk P w (upd H x o') h' := fun b u q => by
 have nown : ∀ c y,H c = some (.own y) -> c ≠ x:=fun c y r z => by subst z; rw [r] at mu; exact mu
 have ntup : ∀ c xs,H c = some (.tup xs) -> c ≠ x:=fun c xs r z => by subst z; rw [r] at mu; exact mu
 by_cases hb : b = x
 ·subst hb; rw [af] at q; cases q; exact new
 ·rw [aw hb] at q
  by_cases hbe : b = e
  ·have q' : H b = some (.own x):=by
    rcases he with z | z
    ·exact absurd (hbe.trans z) hb
    ·rw [hbe]; exact z
   rw [q] at q'; cases q'
   obtain ⟨v,hv⟩:=heo
   exact ⟨v,by rw [hbe]; exact hv⟩
  ·refine (ok b u q).stay (fun c v hc r => k c v ?_ r) (fun c r => by rw [aw (nown c b r)]; exact r) fun c xs r => by rw [aw (ntup c xs r)]; exact r
   rcases hc with rfl | hc
   ·exact hbe
   ·rintro rfl
    rcases he with z | z
    ·exact nown c b hc z
    ·rw [hc] at z; cases z; exact hb rfl
end
structure Un (fs ex : List Addr) (H H' : Hp) (h h' : Heap) : Prop where
 keep : ∀ b o,h.get? b = some o -> H b = none -> b ∉ fs -> b ∉ ex -> h'.get? b = some o
 slot : ∀ b o,h.get? b = some o -> H b = none -> b ∈ fs -> b ∉ ex -> ∃ sl,h'.get? b = some { o with slots:=sl }
 free : ∀ b o,h.get? b = some o -> H b = none -> b ∉ ex -> H' b = none
 there : ∀ b o,h.get? b = some o -> b ∉ ex -> ∃ o',h'.get? b = some o'
 tups : ∀ b xs,H b = some (.tup xs) -> H' b = some (.tup xs)
 frzs : ∀ b o u,H b = some (.frz o u) -> H' b = some (.frz o u)
 tbls : ∀ b ps,H b = some (.tbl ps) -> ∃ more,H' b = some (.tbl (ps ++ more))
section
variable {fs fs' ex ex' : List Addr} {H H1 H2 : Hp} {h h1 h2 h' : Heap} {a x e : Addr} {o : HO}
theorem Un.any (u : Un fs ex H H1 h h1) {b : Addr} {ob : Obj} (q : h.get? b = some ob) (n : H b = none) (hx : b ∉ ex) : ∃ sl,h1.get? b = some { ob with slots:=sl }:=by
 by_cases hb : b ∈ fs
 ·exact u.slot b ob q n hb hx
 ·exact ⟨ob.slots,u.keep b ob q n hb hx⟩
theorem Un.kept (k : ∀ b u,h.get? b = some u -> h'.get? b = some u) : Un fs ex H H h h' :=
 ⟨fun b ob q _ _ _ => k b ob q,fun b ob q _ _ _ => ⟨ob.slots,k b ob q⟩,fun _ _ _ n _ => n,fun b ob q _ => ⟨ob,k b ob q⟩,fun _ _ q => q,fun _ _ _ q => q,fun _ ps q => ⟨#[],by rw [q]; simp⟩⟩
theorem Un.refl : Un fs ex H H h h:=Un.kept fun _ _ q => q
theorem Un.laid (k : ∀ b u,h.get? b = some u -> h'.get? b = some u) (hp : h.objs.size <= a) (hn : H a = none) : Un fs ex H (upd H a o) h h' where
 keep:=fun b u q _ _ _ => k b u q
 slot:=fun b u q _ _ _ => ⟨u.slots,k b u q⟩
 free:=fun b u q n _ => by rw [aw (Nat.ne_of_lt (Nat.lt_of_lt_of_le (Heap.lt_size q) hp))]; exact n
 there:=fun b u q _ => ⟨u,k b u q⟩
 tups:=fun b xs q => by rw [aw (az q hn)]; exact q
 frzs:=fun b u xs q => by rw [aw (az q hn)]; exact q
 tbls:=fun b ps q => ⟨#[],by rw [aw (az q hn),q]; simp⟩
theorem Un.write (mu : Mut (H x)) (he : e = x \/ H e = some (.own x)) (k : ∀ b u,b ≠ e -> h.get? b = some u -> h'.get? b = some u) (heo : ∃ u,h'.get? e = some u) : Un fs ex H (upd H x o) h h' := by
 have hx : ∀ b,H b = none -> b ≠ x:=fun b n z => by subst z; rw [n] at mu; exact mu
 have hb : ∀ b,H b = none -> b ≠ e:=fun b n z => by
  subst z
  rcases he with r | r
  ·exact hx b n r
  ·rw [n] at r; cases r
 have hm : ∀ b u,H b = some u -> ¬ Mut (some u) -> b ≠ x:=fun b u q nm z => by subst z; rw [q] at mu; exact nm mu
 refine ⟨fun b u q n _ _ => k b u (hb b n) q,fun b u q n _ _ => ⟨u.slots,k b u (hb b n) q⟩,fun b u q n _ => by rw [aw (hx b n)]; exact n,fun b u q _ => ?_,
  fun b xs q => by rw [aw (hm b _ q fun z => z)]; exact q,fun b u xs q => by rw [aw (hm b _ q fun z => z)]; exact q,fun b ps q => ⟨#[],by rw [aw (hm b _ q fun z => z),q]; simp⟩⟩
 by_cases hbe : b = e
 ·subst hbe; exact heo
 ·exact ⟨u,k b u hbe q⟩
end
def trk (h : Heap) (H : Hp) : List Addr:=(List.range h.objs.size).filter fun a => (H a).isSome
def xi (h : Heap) (H : Hp) : Heap:=PySem.W.hideAll h (trk h H)
theorem Bx (h : Heap) (H : Hp) : (xi h H).objs.size = h.objs.size:=PySem.W.hideAll_size _ _
theorem CA {h : Heap} {H : Hp} {b : Addr} {o : Obj} (e : h.get? b = some o) (n : H b = none) : (xi h H).get? b = some o:=
 PySem.W.hideAll_get _ e fun hm => by
  have q : (H b).isSome = true:=(List.mem_filter.mp hm).2
  rw [n] at q; simp at q
theorem D3 {h : Heap} {H : Hp} {b : Addr} {o : Obj} (e : (xi h H).get? b = some o) : h.get? b = some o /\ H b = none:=by
 have e' : h.get? b = some o:=PySem.W.of_hideAll (trk h H) e
 refine ⟨e',?_⟩
 cases q : H b with
 | none => rfl
 | some x =>
  have hm : b ∈ trk h H:=List.mem_filter.mpr ⟨List.mem_range.mpr (Heap.lt_size e'),by simp [q]⟩
  have z : (xi h H).get? b = none:=PySem.W.hideAll_none (trk h H) hm
  rw [z] at e; cases e
def DK (g h : Heap) (L : Addr) : List (Addr × Obj):=(List.range h.objs.size).filterMap fun a => if a = L \/ (g.get? a).isSome = true then none else (h.get? a).map fun o => (a,o)
def rest (g h : Heap) (L d : Addr) : List (Addr × Obj):=(DK g h L).filter fun p => decide (p.1 ≠ d)
end L2
namespace L2
open PySem PySem.Spec PyProof.Rows
structure Mod (K : PySem.W.Frag) (mg : Str -> Option Value) (base : Heap) : Prop where
 kin : K.In base
 glob : base.Ns mainGlobals mg
 blt : ∃ mb,base.Ns builtinsNs mb /\ ∀ x : Str,x ≠ "__name__" -> mb x = bootBuiltins x
 nolimit : base.NoLimit
structure Cx where
 prog : Program
 w : World
 K : PySem.W.Frag
 mg : Str -> Option Value
 base : Heap
 A : Around
 N : List Str
 s₀ : Shared
 H₀ : Hp
 env : Env
 outer : List Env
 stack : List Env
 ex : List Addr
 fn : Str -> Bool
 calm : Bool
 pn : List (Addr × Obj)
 xe : Value -> Shared -> Prop
def frs (l : List Env) : List Addr:=l.filterMap (·.frame)
abbrev Cx.fs (X : Cx) : List Addr:=frs X.outer
def Vis (sc : Scope) (x : Str) : Prop:=sc.names.lookup x = some .local \/ sc.names.lookup x = some .cell \/ sc.names.lookup x = some .free
def Loc (sc : Scope) (x : Str) : Prop:=sc.names.lookup x = some .local \/ sc.names.lookup x = some .cell
def Look (env : Env) (h : Heap) (m : Str -> Option Value) (x : Str) (u : Value) : Prop:=
 (env.kindOf x = some .local /\ m x = some u) \/ ((env.kindOf x = some .cell \/ env.kindOf x = some .free) /\ ∃ c,env.cells.lookup x = some c /\ h.IsCell c (some u))
structure Cx.Ok (X : Cx) : Prop where
 mod : Mod X.K X.mg X.base
 kind : X.env.scope.kind = .function
 glob : X.env.globals = mainGlobals
 blt : X.env.builtins = builtinsNs
 above : X.s₀.heap.objs.size <= X.env.locals
 inj : ∀ x y c,X.env.cells.lookup x = some c -> X.env.cells.lookup y = some c -> x = y
 has : ∀ x,(X.env.kindOf x = some .cell \/ X.env.kindOf x = some .free) -> ∃ c,X.env.cells.lookup x = some c
 cab : ∀ x c,X.fn x = true -> X.env.cells.lookup x = some c -> X.s₀.heap.objs.size <= c
 hd : X.calm = true -> X.A.handled = none
 frames : X.A.frames = some X.stack
 stk : X.stack = X.outer \/ (X.stack = X.env :: X.outer /\ X.env.frame = some X.env.locals)
 exf : ∀ b ∈ X.ex,b ≠ X.env.locals /\ ∀ x c,X.env.cells.lookup x = some c -> c ≠ b
 bs : ∀ b o,X.base.get? b = some o -> X.s₀.heap.get? b = some o /\ X.H₀ b = none
 bsz : X.base.objs.size <= X.s₀.heap.objs.size
 noex : ∀ b o,X.base.get? b = some o -> b ∉ X.ex
 exfs : ∀ b ∈ X.ex,b ∉ X.fs
 funs : X.s₀.heap.FunFrames X.base X.outer
 frf : ∀ b ∈ X.fs,X.H₀ b = none
structure Inv (X : Cx) (pins : List (Addr × Obj)) (σ : List (Option V)) (H : Hp) (s : Shared) : Prop where
 ok : X.Ok
 os : s.os = X.s₀.os
 bare : AllBare s.gens
 base : Un X.fs X.ex X.H₀ H X.s₀.heap s.heap
 loc : ∃ m,s.heap.Ns X.env.locals m /\ ∀ (i : Nat) (x : Str) (v : V),X.N[i]? = some x -> σ[i]? = some (some v) -> Vis X.env.scope x -> ∃ u,RelV v u /\ Look X.env s.heap m x u
 cell : ∀ x c,X.env.cells.lookup x = some c -> ∃ v,s.heap.IsCell c v
 free : H X.env.locals = none
 freeC : ∀ x c,X.env.cells.lookup x = some c -> H c = none
 pin : ∀ p ∈ X.pn ++ pins,s.heap.get? p.1 = some p.2 /\ H p.1 = none /\ p.1 ≠ X.env.locals /\ p.1 ∉ X.fs /\ ∀ v,p.2.data ≠ .cell v
 hok : HOk X.prog X.w H s.heap
 len : σ.length = X.N.length
section
variable {X : Cx} {pins : List (Addr × Obj)} {σ : List (Option V)} {H H' : Hp} {s : Shared} {h' : Heap}
theorem Cx.Ok.nofr (ok : X.Ok) {b : Addr} {o : Obj} (e : X.base.get? b = some o) : b ∉ X.fs:=fun hb => by
 have:=(ok.funs.mem hb).1
 rw [e] at this; cases this
theorem Inv.bs (I : Inv X pins σ H s) : ∀ b o,X.base.get? b = some o -> s.heap.get? b = some o /\ H b = none:=fun b o e =>
 ⟨I.base.keep b o (I.ok.bs b o e).1 (I.ok.bs b o e).2 (I.ok.nofr e) (I.ok.noex b o e),I.base.free b o (I.ok.bs b o e).1 (I.ok.bs b o e).2 (I.ok.noex b o e)⟩
theorem Inv.bk (I : Inv X pins σ H s) : ∀ b o,X.base.get? b = some o -> s.heap.get? b = some o:=fun b o e => (I.bs b o e).1
theorem Inv.mod (I : Inv X pins σ H s) : Mod X.K X.mg X.base:=I.ok.mod
theorem Inv.kIn (I : Inv X pins σ H s) : X.K.In s.heap:=I.ok.mod.kin.keeps I.bk
theorem Inv.lt (I : Inv X pins σ H s) : X.env.locals < s.heap.objs.size:=let ⟨_,hn,_⟩:=I.loc; hn.lt
theorem Inv.sz (I : Inv X pins σ H s) : X.s₀.heap.objs.size <= s.heap.objs.size:=Nat.le_trans I.ok.above (Nat.le_of_lt I.lt)
theorem Inv.nofs (I : Inv X pins σ H s) {a : Addr} (h : s.heap.objs.size <= a) : a ∉ X.fs:=fun hb => by
 obtain ⟨_,o,ho,_⟩:=I.ok.funs.mem hb
 exact absurd (Nat.lt_of_lt_of_le (Heap.lt_size ho) (Nat.le_trans I.sz h)) (Nat.lt_irrefl _)
theorem Inv.cne (I : Inv X pins σ H s) : ∀ x c,X.env.cells.lookup x = some c -> c ≠ X.env.locals:=fun x c e z => by
 obtain ⟨v,o,ho,hd⟩:=I.cell x c e
 obtain ⟨m,⟨o',es,ep,ho',hd',_⟩,_⟩:=I.loc
 rw [z,ho'] at ho; cases ho; rw [hd'] at hd; cases hd
theorem Inv.funs (I : Inv X pins σ H s) : s.heap.FunFrames X.base X.outer:=by
 have all : ∀ (l : List Env),(∀ b ∈ frs l,b ∈ X.fs) -> X.s₀.heap.FunFrames X.base l -> s.heap.FunFrames X.base l:=by
  intro l
  induction l with
  | nil => intro _ _; trivial
  | cons env r ih =>
   intro hs hl
   obtain ⟨hk,⟨L,o,hf,hn,ho,hd⟩,hr⟩:=hl
   have hL : L ∈ X.fs:=hs L (by unfold frs; rw [List.filterMap_cons,hf]; exact List.mem_cons_self)
   obtain ⟨sl,e⟩:=I.base.slot L o ho (I.ok.frf L hL) hL fun z => I.ok.exfs L z hL
   exact ⟨hk,⟨L,_,hf,hn,e,hd⟩,ih (fun b hb => hs b (by unfold frs; rw [List.filterMap_cons,hf]; exact List.mem_cons_of_mem _ hb)) hr⟩
 exact all X.outer (fun _ hb => hb) I.ok.funs
theorem Inv.stack (I : Inv X pins σ H s) : s.heap.FunFrames X.base X.stack:=by
 rcases I.ok.stk with e | ⟨e,hf⟩
 ·rw [e]; exact I.funs
 ·rw [e]
  obtain ⟨m,hn,_⟩:=I.loc
  refine .cons (by rw [I.ok.kind]; decide) hf hn ?_ I.funs
  exact Heap.get?_none_of_le (Nat.le_trans I.ok.bsz I.ok.above)
theorem Inv.stkSub (I : Inv X pins σ H s) : ∀ b ∈ frs X.stack,b ∈ X.env.locals :: X.fs:=fun b hb => by
 rcases I.ok.stk with e | ⟨e,hf⟩
 ·rw [e] at hb; exact List.mem_cons_of_mem _ hb
 ·rw [e] at hb
  unfold frs at hb
  rw [List.filterMap_cons,hf] at hb
  exact hb
theorem Inv.stkFree (I : Inv X pins σ H s) : ∀ b ∈ frs X.stack,H b = none:=fun b hb => by
 rcases List.mem_cons.mp (I.stkSub b hb) with e | hb
 ·rw [e]; exact I.free
 ·obtain ⟨_,o,ho,_⟩:=I.ok.funs.mem hb
  exact I.base.free b o ho (I.ok.frf b hb) fun z => I.ok.exfs b z hb
theorem Inv.step {g' : Array GenState} {t' : Nat} {d' : Drawn} {ch : List Addr} (I : Inv X pins σ H s)
  (hch : ∀ b ∈ ch,(b ∈ X.ex \/ X.s₀.heap.objs.size <= b) /\ b ≠ X.env.locals /\ (∀ x c,X.env.cells.lookup x = some c -> c ≠ b) /\ ∀ p ∈ X.pn ++ pins,p.1 ≠ b)
  (keep : ∀ b o,b ≠ X.env.locals -> b ∉ X.fs -> b ∉ ch -> s.heap.get? b = some o -> H b = none -> h'.get? b = some o)
  (slot : ∀ b o,b ≠ X.env.locals -> b ∈ X.fs -> b ∉ ch -> s.heap.get? b = some o -> H b = none -> ∃ sl,h'.get? b = some { o with slots:=sl }) (free : ∀ b o,b ∉ ch -> s.heap.get? b = some o -> H b = none -> H' b = none)
  (there : ∀ b o,b ∉ ch -> s.heap.get? b = some o -> ∃ o',h'.get? b = some o')
  (tups : ∀ b xs,H b = some (.tup xs) -> H' b = some (.tup xs)) (frzs : ∀ b o u,H b = some (.frz o u) -> H' b = some (.frz o u)) (tbls : ∀ b ps,H b = some (.tbl ps) -> ∃ more,H' b = some (.tbl (ps ++ more)))
  (ns : ∀ m,s.heap.Ns X.env.locals m -> h'.Ns X.env.locals m) (hok : HOk X.prog X.w H' h') (hg : AllBare g') :
  Inv X pins σ H' { s with heap:=h',gens:=g',drawn:=d',toks:=t' }:=by
 have neL : ∀ b o,X.s₀.heap.get? b = some o -> b ≠ X.env.locals:=fun b o e => Nat.ne_of_lt (Nat.lt_of_lt_of_le (Heap.lt_size e) I.ok.above)
 have neC : ∀ b o,X.s₀.heap.get? b = some o -> b ∉ X.ex -> b ∉ ch:=fun b o e hx hb => by
  rcases (hch b hb).1 with z | z
  ·exact hx z
  ·exact absurd (Nat.lt_of_lt_of_le (Heap.lt_size e) z) (Nat.lt_irrefl _)
 have cellK : ∀ x c,X.env.cells.lookup x = some c -> ∀ v,s.heap.IsCell c v -> h'.IsCell c v:=fun x c e v ⟨o,ho,hd⟩ => by
  have nch : c ∉ ch:=fun z => (hch c z).2.2.1 x c e rfl
  by_cases hc : c ∈ X.fs
  ·obtain ⟨sl,q⟩:=slot c o (I.cne x c e) hc nch ho (I.freeC x c e)
   exact ⟨_,q,hd⟩
  ·exact ⟨o,keep c o (I.cne x c e) hc nch ho (I.freeC x c e),hd⟩
 refine ⟨I.ok,I.os,hg,⟨fun b o e n hb hx => ?_,fun b o e n hb hx => ?_,fun b o e n hx => ?_,fun b o e hx => ?_,fun b xs e => tups b xs (I.base.tups b xs e),fun b o xs e => frzs b o xs (I.base.frzs b o xs e),fun b ps e => ?_⟩,?_,fun x c e => ?_,?_,fun x c e => ?_,fun p hp => ?_,hok,I.len⟩
 ·exact keep b o (neL b o e) hb (neC b o e hx) (I.base.keep b o e n hb hx) (I.base.free b o e n hx)
 ·obtain ⟨sl,e1⟩:=I.base.slot b o e n hb hx
  obtain ⟨sl',e2⟩:=slot b _ (neL b o e) hb (neC b o e hx) e1 (I.base.free b o e n hx)
  exact ⟨sl',e2⟩
 ·obtain ⟨o',e1⟩:=I.base.there b o e hx
  exact free b o' (neC b o e hx) e1 (I.base.free b o e n hx)
 ·obtain ⟨o',e1⟩:=I.base.there b o e hx
  exact there b o' (neC b o e hx) e1
 ·obtain ⟨m1,e1⟩:=I.base.tbls b ps e
  obtain ⟨m2,e2⟩:=tbls b _ e1
  exact ⟨m1 ++ m2,by rw [e2,Array.append_assoc]⟩
 ·obtain ⟨m,hn,hl⟩:=I.loc
  refine ⟨m,ns m hn,fun i x v e1 e2 e3 => ?_⟩
  obtain ⟨u,r,l⟩:=hl i x v e1 e2 e3
  refine ⟨u,r,?_⟩
  rcases l with l | ⟨k,c,e,z⟩
  ·exact .inl l
  ·exact .inr ⟨k,c,e,cellK x c e _ z⟩
 ·obtain ⟨v,z⟩:=I.cell x c e
  exact ⟨v,cellK x c e v z⟩
 ·obtain ⟨m,⟨o,_,_,ho,_⟩,_⟩:=I.loc
  exact free _ o (fun z => (hch _ z).2.1 rfl) ho I.free
 ·obtain ⟨v,o,ho,hd⟩:=I.cell x c e
  exact free c o (fun z => (hch c z).2.2.1 x c e rfl) ho (I.freeC x c e)
 ·obtain ⟨e,n,ne,nf,d⟩:=I.pin p hp
  have nch : p.1 ∉ ch:=fun z => (hch p.1 z).2.2.2 p hp rfl
  exact ⟨keep p.1 p.2 ne nf nch e n,free p.1 p.2 nch e n,ne,nf,d⟩
theorem Inv.un {t' : Nat} (I : Inv X pins σ H s) (u : Un X.fs [] H H' s.heap h') (hok : HOk X.prog X.w H' h') : Inv X pins σ H' { s with heap:=h',toks:=t' }:=by
 obtain ⟨m,⟨o,es,ep,ho,r⟩,_⟩:=id I.loc
 obtain ⟨sl,hL⟩:=u.any ho I.free (by simp)
 exact I.step (g' := s.gens) (d' := s.drawn) (ch:=[]) (fun _ z => nomatch z) (fun b o _ hb _ e n => u.keep b o e n hb (by simp)) (fun b o _ hb _ e n => u.slot b o e n hb (by simp)) (fun b o _ e n => u.free b o e n (by simp)) (fun b o _ e => u.there b o e (by simp)) u.tups u.frzs u.tbls (fun m' hm => by
  obtain ⟨o',es',ep',ho',r'⟩:=hm
  rw [ho] at ho'; cases ho'
  exact ⟨_,es',ep',hL,r'⟩) hok I.bare
theorem Inv.call {g' : Array GenState} {t' : Nat} {d' : Drawn} {ch : List Addr} (I : Inv X pins σ H s) (u : Un (frs X.stack) ch H H' s.heap h') (hok : HOk X.prog X.w H' h') (hg : AllBare g')
  (hch : ∀ b ∈ ch,(b ∈ X.ex \/ X.s₀.heap.objs.size <= b) /\ b ≠ X.env.locals /\ (∀ x c,X.env.cells.lookup x = some c -> c ≠ b) /\ ∀ p ∈ X.pn ++ pins,p.1 ≠ b) :
  Inv X pins σ H' { s with heap:=h',gens:=g',drawn:=d',toks:=t' }:=by
 obtain ⟨m,⟨o,es,ep,ho,r⟩,_⟩:=id I.loc
 obtain ⟨sl,hL⟩:=u.any ho I.free fun z => (hch _ z).2.1 rfl
 exact I.step (ch:=ch) hch (fun b o hL hb hc e n => u.keep b o e n (fun z => (List.mem_cons.mp (I.stkSub b z)).elim hL hb) hc) (fun b o _ _ hc e n => u.any e n hc) (fun b o hc e n => u.free b o e n hc) (fun b o hc e => u.there b o e hc) u.tups u.frzs u.tbls (fun m' hm => by
  obtain ⟨o',es',ep',ho',r'⟩:=hm
  rw [ho] at ho'; cases ho'
  exact ⟨_,es',ep',hL,r'⟩) hok hg
theorem Inv.turned {t' : Nat} {it : Addr} (I : Inv X pins σ H s) (k : ∀ b o,b ≠ it -> s.heap.get? b = some o -> h'.get? b = some o) (hn : H it = none) (hL : it ≠ X.env.locals)
  (h1 : it ∈ X.ex \/ X.s₀.heap.objs.size <= it) (h2 : ∀ x c,X.env.cells.lookup x = some c -> c ≠ it) (h3 : ∀ p ∈ X.pn ++ pins,p.1 ≠ it) : Inv X pins σ H { s with heap:=h',toks:=t' }:=by
 have nit : ∀ b u,H b = some u -> b ≠ it:=fun b u e z => by rw [z,hn] at e; cases e
 refine I.step (g' := s.gens) (d' := s.drawn) (ch:=[it]) (fun b hb => ?_) (fun b o _ _ hc e _ => k b o (fun z => hc (by simp [z])) e) (fun b o _ _ hc e _ => ⟨o.slots,k b o (fun z => hc (by simp [z])) e⟩) (fun _ _ _ _ n => n)
  (fun b o hc e => ⟨o,k b o (fun z => hc (by simp [z])) e⟩) (fun _ _ e => e) (fun _ _ _ e => e) (fun b ps e => ⟨#[],by rw [e]; simp⟩) (fun m hm => ?_) (fun b u e => ?_) I.bare
 ·have e : b = it:=by simpa using hb
  subst e
  exact ⟨h1,hL,h2,h3⟩
 ·obtain ⟨o,es,ep,ho,r⟩:=hm
  exact ⟨o,es,ep,k _ o (Ne.symm hL) ho,r⟩
 ·refine (I.hok b u e).stay (fun c v hc q => k c v ?_ q) (fun _ q => q) fun _ _ q => q
  rcases hc with z | z
  ·rw [z]; exact nit b u e
  ·exact nit c _ z
theorem Inv.tok (I : Inv X pins σ H s) (t : Nat) : Inv X pins σ H { s with toks:=t }:=I.un (h' := s.heap) (t' := t) Un.refl I.hok
theorem Inv.kept {t' : Nat} (I : Inv X pins σ H s) (k : ∀ b u,s.heap.get? b = some u -> h'.get? b = some u) : Inv X pins σ H { s with heap:=h',toks:=t' }:=I.un (Un.kept k) (I.hok.kept k)
theorem Inv.laid {a : Addr} {o : HO} {t' : Nat} (I : Inv X pins σ H s) (k : ∀ b u,s.heap.get? b = some u -> h'.get? b = some u) (hp : s.heap.objs.size <= a) (new : ObjOk X.prog X.w (upd H a o) h' a o) :
  Inv X pins σ (upd H a o) { s with heap:=h',toks:=t' }:=I.un (Un.laid k hp (I.hok.fresh hp)) (I.hok.laid k hp new)
theorem Inv.write {x e : Addr} {o : HO} {t' : Nat} (I : Inv X pins σ H s) (mu : Mut (H x)) (he : e = x \/ H e = some (.own x)) (k : ∀ b u,b ≠ e -> s.heap.get? b = some u -> h'.get? b = some u) (heo : ∃ u,h'.get? e = some u)
  (new : ObjOk X.prog X.w (upd H x o) h' x o) : Inv X pins σ (upd H x o) { s with heap:=h',toks:=t' }:=I.un (Un.write mu he k heo) (I.hok.write mu he k heo new)
theorem Inv.pins_of {pins' : List (Addr × Obj)} (I : Inv X pins σ H s) (h : ∀ p ∈ pins',s.heap.get? p.1 = some p.2 /\ H p.1 = none /\ p.1 ≠ X.env.locals /\ p.1 ∉ X.fs /\ ∀ v,p.2.data ≠ .cell v) : Inv X pins' σ H s:=
 ⟨I.ok,I.os,I.bare,I.base,I.loc,I.cell,I.free,I.freeC,fun p hp => (List.mem_append.mp hp).elim (fun z => I.pin p (List.mem_append_left _ z)) (h p),I.hok,I.len⟩
theorem y8 {N : List Str} (hN : N.Nodup) {i j : Nat} {x : Str} (a : N[i]? = some x) (b : N[j]? = some x) : i = j:=by
 obtain ⟨h1,e1⟩:=List.getElem?_eq_some_iff.mp a
 obtain ⟨h2,e2⟩:=List.getElem?_eq_some_iff.mp b
 exact (List.getElem_inj hN).mp (e1.trans e2.symm)
theorem wy {M : Model} {A : Around} {E : Value -> Shared -> Prop} {i : Nat} {x : Str} {v : V} {u : Value} {Q : Unit -> Shared -> Prop} (I : Inv X pins σ H s) (hN : X.N.Nodup) (hi : X.N[i]? = some x) (hx : Loc X.env.scope x) (r : RelV v u)
  (h : ∀ s',Inv X pins (σ.set i (some v)) H s' -> (∃ a,Heap.SameBut a s.heap s'.heap /\ (a = X.env.locals \/ X.env.cells.lookup x = some a)) -> Q () s') (hf : X.fn x = true \/ X.env.scope.names.lookup x = some .local:=by first | exact .inl rfl | exact .inr rfl | assumption) : wpAny M A (storeName X.env x u) Q E s:=by
 obtain ⟨m,hn,hl⟩:=id I.loc
 have hcls : (X.env.scope.kind == .class || (X.env.scope.kind == .module && X.env.locals != X.env.globals)) = false:=by rw [I.ok.kind]; rfl
 have hiσ : i < σ.length:=by rw [I.len]; exact (List.getElem?_eq_some_iff.mp hi).1
 have cne:=I.cne
 have tracked : ∀ {a : Addr} {h' : Heap},(∃ o,s.heap.get? a = some o /\ H a = none) -> Heap.SameBut a s.heap h' -> HOk X.prog X.w H h' := fun {a h'} ha hs b ob e => by
  obtain ⟨_,_,hfree⟩:=ha
  refine (I.hok b ob e).stay (fun c w' hc q => (hs.2 c ?_).trans q) (fun _ q => q) fun _ _ q => q
  rintro rfl
  rcases hc with rfl | hc
  ·rw [hfree] at e; cases e
  ·rw [hfree] at hc; cases hc
 rcases hx with hk | hk
 ·refine wpAny_storeName_local hk hn (fun h' hn' hs => ?_) hcls
  obtain ⟨oL,_,_,hoL,_⟩:=id hn
  refine h _ ⟨I.ok,I.os,I.bare,⟨fun b o e n hb hx => ?_,fun b o e n hb hx => ?_,I.base.free,fun b o e hx => ?_,I.base.tups,I.base.frzs,I.base.tbls⟩,⟨_,hn',fun j y v' e1 e2 e3 => ?_⟩,fun y c e => ?_,I.free,I.freeC,fun p hp => ?_,tracked ⟨oL,hoL,I.free⟩ hs,by simpa using I.len⟩ ⟨_,hs,.inl rfl⟩
  ·exact (hs.2 b (Nat.ne_of_lt (Nat.lt_of_lt_of_le (Heap.lt_size e) I.ok.above))).trans (I.base.keep b o e n hb hx)
  ·obtain ⟨sl,e1⟩:=I.base.slot b o e n hb hx
   exact ⟨sl,(hs.2 b (Nat.ne_of_lt (Nat.lt_of_lt_of_le (Heap.lt_size e) I.ok.above))).trans e1⟩
  ·obtain ⟨o',e1⟩:=I.base.there b o e hx
   exact ⟨o',(hs.2 b (Nat.ne_of_lt (Nat.lt_of_lt_of_le (Heap.lt_size e) I.ok.above))).trans e1⟩
  ·by_cases hj : j = i
   ·subst hj
    rw [hi] at e1; cases e1
    rw [List.getElem?_set_self hiσ] at e2
    cases e2
    exact ⟨u,r,.inl ⟨hk,by simp⟩⟩
   ·rw [List.getElem?_set_ne (Ne.symm hj)] at e2
    obtain ⟨u',r',q⟩:=hl j y v' e1 e2 e3
    refine ⟨u',r',?_⟩
    rcases q with ⟨k,e⟩ | ⟨k,c,e,z⟩
    ·refine .inl ⟨k,?_⟩
     have : y ≠ x:=fun e => hj (y8 hN e1 (e ▸ hi))
     simp [this,e]
    ·exact .inr ⟨k,c,e,z.sameBut hs (cne y c e)⟩
  ·obtain ⟨w',z⟩:=I.cell y c e
   exact ⟨w',z.sameBut hs (cne y c e)⟩
  ·obtain ⟨e,n,ne,nf,d⟩:=I.pin p hp
   exact ⟨(hs.2 p.1 ne).trans e,n,ne,nf,d⟩
 ·have hfn : X.fn x = true:=by
   rcases hf with z | z
   ·exact z
   ·rw [z] at hk; cases hk
  obtain ⟨c,hc⟩:=I.ok.has x (.inl hk)
  obtain ⟨w',z⟩:=I.cell x c hc
  refine wpAny_storeName_cell I.ok.kind hk hc z (fun h' hc' hs => ?_)
  obtain ⟨oc,hoc,hocd⟩:=id z
  refine h { s with heap:=h' } ⟨I.ok,I.os,I.bare,⟨fun b o e n hb hx => ?_,fun b o e n hb hx => ?_,I.base.free,fun b o e hx => ?_,I.base.tups,I.base.frzs,I.base.tbls⟩,⟨m,hn.sameBut hs (Ne.symm (cne x c hc)),fun j y v' e1 e2 e3 => ?_⟩,fun y c' e => ?_,I.free,I.freeC,fun p hp => ?_,tracked ⟨oc,hoc,I.freeC x c hc⟩ hs,by simpa using I.len⟩ ⟨c,hs,.inr hc⟩
  ·exact (hs.2 b (Nat.ne_of_lt (Nat.lt_of_lt_of_le (Heap.lt_size e) (I.ok.cab x c hfn hc)))).trans (I.base.keep b o e n hb hx)
  ·obtain ⟨sl,e1⟩:=I.base.slot b o e n hb hx
   exact ⟨sl,(hs.2 b (Nat.ne_of_lt (Nat.lt_of_lt_of_le (Heap.lt_size e) (I.ok.cab x c hfn hc)))).trans e1⟩
  ·obtain ⟨o',e1⟩:=I.base.there b o e hx
   exact ⟨o',(hs.2 b (Nat.ne_of_lt (Nat.lt_of_lt_of_le (Heap.lt_size e) (I.ok.cab x c hfn hc)))).trans e1⟩
  ·by_cases hj : j = i
   ·subst hj
    rw [hi] at e1; cases e1
    rw [List.getElem?_set_self hiσ] at e2
    cases e2
    exact ⟨u,r,.inr ⟨.inl hk,c,hc,hc'⟩⟩
   ·rw [List.getElem?_set_ne (Ne.symm hj)] at e2
    obtain ⟨u',r',q⟩:=hl j y v' e1 e2 e3
    refine ⟨u',r',?_⟩
    rcases q with q | ⟨k,c',e,z'⟩
    ·exact .inl q
    ·refine .inr ⟨k,c',e,z'.sameBut hs ?_⟩
     rintro rfl
     exact hj (y8 hN e1 (I.ok.inj _ _ _ e hc ▸ hi))
  ·by_cases hcc : c' = c
   ·subst hcc; exact ⟨_,hc'⟩
   ·obtain ⟨w2,z2⟩:=I.cell y c' e
    exact ⟨w2,z2.sameBut hs hcc⟩
  ·obtain ⟨e,n,ne,nf,d⟩:=I.pin p hp
   refine ⟨(hs.2 p.1 ?_).trans e,n,ne,nf,d⟩
   intro q
   rw [q,hoc] at e
   have q' : oc = p.2:=Option.some.inj e
   exact d w' (by rw [<- q']; exact hocd)
theorem zC {M : Model} {A : Around} {E : Value -> Shared -> Prop} {i : Nat} {x : Str} {v : V} {u : Value} {Q : Unit -> Shared -> Prop} (I : Inv X pins σ H s) (hN : X.N.Nodup) (hi : X.N[i]? = some x) (hx : Loc X.env.scope x) (r : RelV v u)
  (h : ∀ s',Inv X pins (σ.set i (some v)) H s' -> Q () s') (hf : X.fn x = true \/ X.env.scope.names.lookup x = some .local:=by first | exact .inl rfl | exact .inr rfl | assumption) : wpAny M A (storeName X.env x u) Q E s:=
 wy I hN hi hx r (fun s' I' _ => h s' I') hf
theorem Inv.call' {s' : Shared} {ch : List Addr} (I : Inv X pins σ H s) (ho : s'.os = s.os) (u : Un (frs X.stack) ch H H' s.heap s'.heap) (hok : HOk X.prog X.w H' s'.heap) (hg : AllBare s'.gens)
  (hch : ∀ b ∈ ch,(b ∈ X.ex \/ X.s₀.heap.objs.size <= b) /\ b ≠ X.env.locals /\ (∀ x c,X.env.cells.lookup x = some c -> c ≠ b) /\ ∀ p ∈ X.pn ++ pins,p.1 ≠ b) : Inv X pins σ H' s' := by
 obtain ⟨h',g',d',t',o'⟩:=s'
 have e : o' = s.os:=ho
 subst e
 exact I.call (g' := g') (t' := t') (d' := d') u hok hg hch
end
abbrev XK:=Value -> Option Addr -> Hp -> Prop
abbrev St:=List (Option V)
abbrev VK:=V -> Hp -> Prop
abbrev TE:=St -> Hp -> VK -> Prop
abbrev TT:=St -> Hp -> (Bool -> Hp -> Prop) -> Prop
abbrev TA:=St -> Hp -> (List V -> Hp -> Prop) -> Prop
structure Ends where
 nx : St -> Hp -> Prop
 rt : VK
 bk : St -> Hp -> Prop:=fun _ _ => False
 ct : St -> Hp -> Prop:=fun _ _ => False
abbrev TS:=Ends -> St -> Hp -> Prop
def EP (X : Cx) (pins : List (Addr × Obj)) (σ : St) (Q : VK) (u : Value) (s' : Shared) : Prop := ∃ v H',Inv X pins σ H' s' /\ RelV v u /\ Q v H'
def TP (X : Cx) (pins : List (Addr × Obj)) (σ : St) (Q : Bool -> Hp -> Prop) (b : Bool) (s' : Shared) : Prop := ∃ H',Inv X pins σ H' s' /\ Q b H'
def AP (X : Cx) (pins : List (Addr × Obj)) (σ : St) (Q : List V -> Hp -> Prop) (us : List Value) (s' : Shared) : Prop := ∃ vs H',Inv X pins σ H' s' /\ Vals vs us /\ Q vs H'
def SP (X : Cx) (pins : List (Addr × Obj)) (D : Ends) (f : Flow) (s' : Shared) : Prop:=
 match f with
 | .next => ∃ σ' H',Inv X pins σ' H' s' /\ D.nx σ' H'
 | .brk => ∃ σ' H',Inv X pins σ' H' s' /\ D.bk σ' H'
 | .cont => ∃ σ' H',Inv X pins σ' H' s' /\ D.ct σ' H'
 | .ret u => ∃ v σ' H',Inv X pins σ' H' s' /\ RelV v u /\ D.rt v H'
def PE (X : Cx) (e : Expr) (t : TE) : Prop:=
 ∀ (pins : List (Addr × Obj)) (s : Shared) (σ : St) (H : Hp) (Q : VK),Inv X pins σ H s -> t σ H Q -> wpAny (model X.prog X.w) X.A (eval e X.env) (EP X pins σ Q) X.xe s
def PT (X : Cx) (e : Expr) (t : TT) : Prop:=
 ∀ (pins : List (Addr × Obj)) (s : Shared) (σ : St) (H : Hp) (Q : Bool -> Hp -> Prop),Inv X pins σ H s -> t σ H Q -> wpAny (model X.prog X.w) X.A (isTrue e X.env (eval e X.env)) (TP X pins σ Q) X.xe s
def PW (X : Cx) (e : Expr) (t : TT) : Prop:=
 ∀ (whole : Sem Value) (pins : List (Addr × Obj)) (s : Shared) (σ : St) (H : Hp) (Q : Bool -> Hp -> Prop),Inv X pins σ H s -> t σ H Q -> wpAny (model X.prog X.w) X.A (isTrue e X.env whole) (TP X pins σ Q) X.xe s
theorem PW.pt {X : Cx} {e : Expr} {t : TT} (h : PW X e t) : PT X e t:=h _
def PA (X : Cx) (es : List Expr) (t : TA) : Prop:=
 ∀ (pos : Pos) (pins : List (Addr × Obj)) (s : Shared) (σ : St) (H : Hp) (Q : List V -> Hp -> Prop),Inv X pins σ H s -> t σ H Q -> wpAny (model X.prog X.w) X.A (spliced (backTo pos (starEach es X.env))) (AP X pins σ Q) X.xe s
def PS (X : Cx) (st : Stmt) (t : TS) : Prop:=
 ∀ (pins : List (Addr × Obj)) (s : Shared) (σ : St) (H : Hp) (D : Ends),Inv X pins σ H s -> t D σ H -> wpAny (model X.prog X.w) X.A (exec st X.env) (SP X pins D) X.xe s
def PSs (X : Cx) (st : List Stmt) (t : TS) : Prop:=
 ∀ (pins : List (Addr × Obj)) (s : Shared) (σ : St) (H : Hp) (D : Ends),Inv X pins σ H s -> t D σ H -> wpAny (model X.prog X.w) X.A (execs st X.env) (SP X pins D) X.xe s
theorem thn {α : Type} {t : Sem α} {Q Q' : α -> Shared -> Prop} {M : Model} {A : Around} {E : Value -> Shared -> Prop} {s : Shared} (h : wpAny M A t Q E s) (hQ : ∀ a s,Q a s -> Q' a s) : wpAny M A t Q' E s:=wpAny_mono h hQ fun _ _ x => x
end L2
namespace L2
open PySem PySem.Spec PyProof.Rows
section
variable {X : Cx}
def rD (i : Nat) : TE:=fun σ H Q => ∃ v,σ[i]? = some (some v) /\ Q v H
def tC (v : V) : TE:=fun _ H Q => Q v H
theorem Fm {i : Nat} {x : Str} {pos : Pos} (hN : X.N[i]? = some x) (hv : Vis X.env.scope x) (hd : (x == ("__debug__" : Str)) = false:=by decide) (hcd : (x == ("__classdict__" : Str)) = false:=by decide) : PE X (.Name x pos) (rD i):=by
 intro pins s σ H Q I h
 obtain ⟨v,e,h⟩:=h
 obtain ⟨m,hn,hl⟩:=I.loc
 obtain ⟨u,r,l⟩:=hl i x v hN e hv
 have fin : EP X pins σ Q u s:=⟨v,H,I,r,h⟩
 rcases l with ⟨hk,hm⟩ | ⟨hk,c,hc,hcell⟩
 ·exact wpAny_Name (wpAny_loadName_local I.ok.kind hk hn hm fin) hd
 ·rcases hk with hk | hk
  ·exact wpAny_Name (wpAny_loadName_cell I.ok.kind hk hc hcell fin) hd
  ·exact wpAny_Name (wpAny_loadName_free I.ok.kind hk hc hcell fin hcd) hd
theorem ag {i j pos} : PE X (.Constant (.int i) j pos) (tC (.int i)):=fun _ _ _ H _ I h => wpAny_Constant_int ⟨.int i,H,I.tok _,⟨_,rfl⟩,h⟩
theorem ox {b j pos} : PE X (.Constant (.bool b) j pos) (tC (.bl b)):=fun _ _ _ H _ I h => Constant_bool ⟨.bl b,H,I,rfl,h⟩
theorem ar {x j pos} : PE X (.Constant (.str x) j pos) (tC (.str x)):=fun _ _ _ H _ I h => Calls.Constant_str ⟨.str x,H,I.tok _,⟨_,rfl⟩,h⟩
def Gl (X : Cx) (x : Str) : Prop:=X.env.kindOf x = some .globalImplicit
theorem rH {E : Value -> Shared -> Prop} {pins : List (Addr × Obj)} {s : Shared} {σ : St} {H : Hp} {x : Str} {u : Value} {pos : Pos} {Q : Value -> Shared -> Prop} (I : Inv X pins σ H s) (hg : Gl X x) (hm : X.mg x = some u) (h : Q u s)
  (hd : (x == ("__debug__" : Str)) = false:=by decide) : wpAny (model X.prog X.w) X.A (eval (.Name x pos) X.env) Q E s:=
 Calls.Name_function_global I.ok.kind hg (Calls.loadGlobal_global (by rw [I.ok.glob]; exact I.mod.glob.keeps I.bk) hm h) hd
theorem sO {E : Value -> Shared -> Prop} {pins : List (Addr × Obj)} {s : Shared} {σ : St} {H : Hp} {x : Str} {u : Value} {pos : Pos} {Q : Value -> Shared -> Prop} (I : Inv X pins σ H s) (hg : Gl X x) (hm : X.mg x = none) (hv : bootBuiltins x = some u) (h : Q u s)
  (hn : x ≠ "__name__" := by decide) (hd : (x == ("__debug__" : Str)) = false:=by decide) : wpAny (model X.prog X.w) X.A (eval (.Name x pos) X.env) Q E s:=by
 obtain ⟨mb,h1,h2⟩:=I.mod.blt
 exact Calls.Name_function_global I.ok.kind hg (Calls.loadGlobal_builtin (by rw [I.ok.glob]; exact I.mod.glob.keeps I.bk) hm (by rw [I.ok.blt]; exact h1.keeps I.bk) ((h2 x hn).trans hv) h) hd
theorem dk {x : Str} {v : V} {u : Value} {pos : Pos} (hg : Gl X x) (hm : X.mg x = some u) (r : RelV v u) (hd : (x == ("__debug__" : Str)) = false:=by decide) : PE X (.Name x pos) (tC v):=
 fun _ _ _ H _ I h => rH I hg hm ⟨v,H,I,r,h⟩ hd
theorem ie {x : Str} {v : V} {u : Value} {pos : Pos} (hg : Gl X x) (hm : X.mg x = none) (hv : bootBuiltins x = some u) (r : RelV v u) (hn : x ≠ "__name__" := by decide) (hd : (x == ("__debug__" : Str)) = false:=by decide) : PE X (.Name x pos) (tC v):=
 fun _ _ _ H _ I h => sO I hg hm hv ⟨v,H,I,r,h⟩ hn hd
variable {a b : Expr} {ta tb : TE} {pos : Pos}
def tB (t : TE) : TT:=fun σ H Q => t σ H fun x H1 => ∃ c,x = .bl c /\ Q c H1
theorem bX {e : Expr} {t : TE} (h : PE X e t) (he : ∀ whole,isTrue e X.env whole = (do let v <- whole; standAt e.pos; holding [v] (truthy v)):=by intro _; rfl) : PT X e (tB t):=by
 intro pins s σ H Q I hw
 refine isTrue_plain (thn (h pins s σ H _ I hw) fun v s1 ⟨x,H1,I1,r1,q1⟩ => ?_) (he _)
 obtain ⟨d,rfl,q⟩:=q1
 cases r1
 exact wpAny_truthy_bool ⟨H1,I1,q⟩
variable {tA tB' : TT} {rest : List Expr}
def Ez (t u : TT) : TT:=fun σ H Q => t σ H fun c H1 => if c = true then u σ H1 Q else Q false H1
def tOr (t u : TT) : TT:=fun σ H Q => t σ H fun c H1 => if c = true then Q true H1 else u σ H1 Q
def GZ (t : TT) : TT:=fun σ H Q => t σ H fun c H1 => Q (!c) H1
theorem oE (ha : PT X a tA) : PW X (.BoolOp .And [a] pos) tA:=by
 intro wh pins s σ H Q I h
 refine isTrue_and (thn (ha pins s σ H Q I h) fun c s1 e => ?_)
 cases c with
 | true => exact isTrue_and_nil e
 | false => exact e
theorem tS (ha : PT X a tA) : PW X (.BoolOp .Or [a] pos) tA:=by
 intro wh pins s σ H Q I h
 refine isTrue_or (thn (ha pins s σ H Q I h) fun c s1 e => ?_)
 cases c with
 | false => exact isTrue_or_nil e
 | true => exact e
theorem nP (ha : PT X a tA) (hb : PW X (.BoolOp .And (b :: rest) pos) tB') : PW X (.BoolOp .And (a :: b :: rest) pos) (Ez tA tB'):=by
 intro wh pins s σ H Q I h
 refine isTrue_and (thn (ha pins s σ H _ I h) fun c s1 ⟨H1,I1,q1⟩ => ?_)
 cases c with
 | true => exact hb wh pins s1 σ H1 Q I1 q1
 | false => exact ⟨H1,I1,q1⟩
theorem wo (ha : PT X a tA) (hb : PW X (.BoolOp .Or (b :: rest) pos) tB') : PW X (.BoolOp .Or (a :: b :: rest) pos) (tOr tA tB'):=by
 intro wh pins s σ H Q I h
 refine isTrue_or (thn (ha pins s σ H _ I h) fun c s1 ⟨H1,I1,q1⟩ => ?_)
 cases c with
 | true => exact ⟨H1,I1,q1⟩
 | false => exact hb wh pins s1 σ H1 Q I1 q1
theorem dC (ha : PT X a tA) : PT X (.UnaryOp .Not a pos) (GZ tA):=by
 intro pins s σ H Q I h
 exact isTrue_not (ha pins s σ H (fun c H1 => Q (!c) H1) I h)
def Ge (ta tb : TE) : TE:=fun σ H Q => ta σ H fun x H1 => ∃ c,x = .bl c /\ if c = true then tb σ H1 Q else Q (.bl false) H1
def Gi (ta : TE) : TE:=fun σ H Q => ta σ H fun x H1 => ∃ c,x = .bl c /\ Q (.bl (!c)) H1
theorem xW {op} {t : TE} (h : PE X a t) : PE X (.BoolOp op [a] pos) t:=fun pins s σ H Q I hw => BoolOp_one (h pins s σ H Q I hw)
theorem tF (ha : PE X a ta) (hb : PE X (.BoolOp .And (b :: rest) pos) tb) : PE X (.BoolOp .And (a :: b :: rest) pos) (Ge ta tb):=by
 intro pins s σ H Q I h
 refine BoolOp_and (thn (ha pins s σ H _ I h) fun v s1 ⟨x,H1,I1,r1,q1⟩ => ?_)
 obtain ⟨c,rfl,q1⟩:=q1
 cases r1
 refine wpAny_truthy_bool ?_
 cases c with
 | true => exact hb pins s1 σ H1 Q I1 q1
 | false => exact ⟨.bl false,H1,I1,rfl,q1⟩
theorem Fl (ha : PE X a ta) : PE X (.UnaryOp .Not a pos) (Gi ta):=by
 intro pins s σ H Q I h
 refine UnaryOp_ (thn (ha pins s σ H _ I h) fun v s1 ⟨x,H1,I1,r1,q1⟩ => ?_)
 obtain ⟨c,rfl,q1⟩:=q1
 cases r1
 exact not_of (wpAny_truthy_bool ⟨.bl (!c),H1,I1,rfl,q1⟩)
def tIf (t : TT) (ta tb : TE) : TE:=fun σ H Q => t σ H fun c H1 => if c = true then ta σ H1 Q else tb σ H1 Q
theorem zl {c : Expr} (hc : PT X c tA) (ha : PE X a ta) (hb : PE X b tb) : PE X (.IfExp c a b pos) (tIf tA ta tb):=by
 intro pins s σ H Q I h
 refine wpAny_IfExp (thn (hc pins s σ H _ I h) fun d s1 ⟨H1,I1,q1⟩ => ?_)
 cases d with
 | true => exact ha pins s1 σ H1 Q I1 q1
 | false => exact hb pins s1 σ H1 Q I1 q1
end
end L2
namespace L2
open PySem PySem.Spec PyProof.Rows
def SqL (K : PySem.W.Frag) (H : Hp) (a : Addr) (xs : List V) : Prop:=
 Rd H a (.lst xs) \/
  ∃ (o : Obj) (its : Array Value) (n : Nat),K.lookup a = some o /\ o.cls = .type "list" /\ o.dict = none /\ o.data = .seq its n /\ its.size <= sizeLine /\ Vals xs its.toList
def SqT (K : PySem.W.Frag) (H : Hp) (a : Addr) (xs : List V) : Prop:=
 Rd H a (.tup xs) \/
  ∃ (o : Obj) (its : Array Value) (n : Nat),K.lookup a = some o /\ o.cls = .type "tuple" /\ o.data = .seq its n /\ its.size <= sizeLine /\ Vals xs its.toList
def Gw : Value -> Option V
 | .none => some .non
 | .bool b => some (.bl b)
 | .int i _ => some (.int i)
 | .str x _ => some (.str x)
 | .bytes b _ => some (.byt b)
 | .float b _ => some (.flt b)
 | .ref a => some (.ref a)
 | .type n => some (.ty n)
 | _ => none
theorem RelV.abs {x : V} {u : Value} (r : RelV x u) : Gw u = some x:=by
 cases x with
 | non => cases r; rfl
 | bl _ => cases r; rfl
 | int _ => obtain ⟨t,rfl⟩:=r; rfl
 | str _ => obtain ⟨t,rfl⟩:=r; rfl
 | byt _ => obtain ⟨t,rfl⟩:=r; rfl
 | flt _ => obtain ⟨t,rfl⟩:=r; rfl
 | ref _ => cases r; rfl
 | ty _ => cases r; rfl
theorem RelV.inj {x y : V} {u : Value} (r : RelV x u) (q : RelV y u) : x = y:=Option.some.inj (r.abs.symm.trans q.abs)
theorem Vals.inj : ∀ {xs ys : List V} {us : List Value},Vals xs us -> Vals ys us -> xs = ys
 | _,_,_,.nil,.nil => rfl
 | _,_,_,.cons r t,.cons r' t' => by rw [r.inj r',Vals.inj t t']
section
variable {X : Cx} {pins : List (Addr × Obj)} {σ : St} {H : Hp} {s : Shared} {a : Addr} {xs ys : List V}
theorem SqL.of {K : PySem.W.Frag} (h : H a = some (.lst xs)) : SqL K H a xs:=.inl (.inl h)
theorem SqT.of {K : PySem.W.Frag} (h : H a = some (.tup xs)) : SqT K H a xs:=.inl (.inl h)
theorem Inv.list (I : Inv X pins σ H s) (h : SqL X.K H a xs) : ∃ its : List Value,Vals xs its /\ PlainL s.heap a its.toArray /\ xs.length <= sizeLine:=by
 rcases h with h | ⟨o,its,n,hk,hc,hd,hs,hz,r⟩
 ·obtain ⟨z,its,n,r,e⟩:=h.ok I.hok
  exact ⟨its,r,⟨_,n,e,rfl,rfl,rfl⟩,z⟩
 ·refine ⟨its.toList,r,⟨o,n,I.kIn a o hk,hc,hd,by simpa using hs⟩,?_⟩
  have e:=r.length
  simp only [Array.length_toList] at e
  omega
theorem Inv.tuple (I : Inv X pins σ H s) (h : SqT X.K H a xs) : ∃ its : List Value,Vals xs its /\ IsTup s.heap a its.toArray /\ xs.length <= sizeLine:=by
 rcases h with h | ⟨o,its,n,hk,hc,hs,hz,r⟩
 ·obtain ⟨z,its,r,p⟩:=h.ok I.hok
  exact ⟨its,r,p,z⟩
 ·refine ⟨its.toList,r,⟨o,I.kIn a o hk,hc,n,by simpa using hs⟩,?_⟩
  have e:=r.length
  simp only [Array.length_toList] at e
  omega
theorem Inv.list_inj (I : Inv X pins σ H s) (h : SqL X.K H a xs) (h' : SqL X.K H a ys) : xs = ys:=by
 obtain ⟨its,r,⟨o,n,e,_,_,d⟩,_⟩:=I.list h
 obtain ⟨its',r',⟨o',n',e',_,_,d'⟩,_⟩:=I.list h'
 rw [e] at e'; cases e'
 rw [d] at d'
 injection d' with d1 _
 have : its = its' := by simpa using congrArg Array.toList d1
 subst this
 exact r.inj r'
theorem Inv.tuple_inj (I : Inv X pins σ H s) (h : SqT X.K H a xs) (h' : SqT X.K H a ys) : xs = ys:=by
 obtain ⟨its,r,⟨o,e,_,n,d⟩,_⟩:=I.tuple h
 obtain ⟨its',r',⟨o',e',_,n',d'⟩,_⟩:=I.tuple h'
 rw [e] at e'; cases e'
 rw [d] at d'
 injection d' with d1 _
 have : its = its' := by simpa using congrArg Array.toList d1
 subst this
 exact r.inj r'
end
abbrev Cx.wish (X : Cx) (E : Value -> Shared -> Prop) : Cx:={ X with xe:=E }
abbrev Cx.nox (X : Cx) : Cx:=X.wish fun _ _ => False
theorem Cx.Ok.wish {X : Cx} (ok : X.Ok) (E : Value -> Shared -> Prop) : (X.wish E).Ok:=
 ⟨ok.mod,ok.kind,ok.glob,ok.blt,ok.above,ok.inj,ok.has,ok.cab,ok.hd,ok.frames,ok.stk,ok.exf,ok.bs,ok.bsz,ok.noex,ok.exfs,ok.funs,ok.frf⟩
theorem Cx.Ok.unwish {X : Cx} {E : Value -> Shared -> Prop} (ok : (X.wish E).Ok) : X.Ok:=
 ⟨ok.mod,ok.kind,ok.glob,ok.blt,ok.above,ok.inj,ok.has,ok.cab,ok.hd,ok.frames,ok.stk,ok.exf,ok.bs,ok.bsz,ok.noex,ok.exfs,ok.funs,ok.frf⟩
section
variable {X : Cx} {pins : List (Addr × Obj)} {σ : St} {H : Hp} {s : Shared} {E : Value -> Shared -> Prop}
theorem Inv.wish (I : Inv X pins σ H s) (E : Value -> Shared -> Prop) : Inv (X.wish E) pins σ H s:=⟨I.ok.wish E,I.os,I.bare,I.base,I.loc,I.cell,I.free,I.freeC,I.pin,I.hok,I.len⟩
theorem Inv.unwish (I : Inv (X.wish E) pins σ H s) : Inv X pins σ H s:=⟨I.ok.unwish,I.os,I.bare,I.base,I.loc,I.cell,I.free,I.freeC,I.pin,I.hok,I.len⟩
theorem SP.unwish {D : Ends} {f : Flow} {s' : Shared} (h : SP (X.wish E) pins D f s') : SP X pins D f s' := by
 cases f with
 | next => obtain ⟨σ',H',I,q⟩:=h; exact ⟨σ',H',I.unwish,q⟩
 | brk => obtain ⟨σ',H',I,q⟩:=h; exact ⟨σ',H',I.unwish,q⟩
 | cont => obtain ⟨σ',H',I,q⟩:=h; exact ⟨σ',H',I.unwish,q⟩
 | ret u => obtain ⟨v,σ',H',I,r,q⟩:=h; exact ⟨v,σ',H',I.unwish,r,q⟩
theorem PSs.nox {st : List Stmt} {t : TS} (h : PSs X.nox st t) : PSs X st t:=fun pins s σ H D I hw =>
 wpAny_mono (h pins s σ H D (I.wish _) hw) (fun _ _ q => q.unwish) fun _ _ z => False.elim z
end
section
variable {X : Cx} {st : Stmt} {rest : List Stmt} {t u : TS} {e : Expr} {te : TE} {pos : Pos}
def aK : TS:=fun D σ H => D.nx σ H
def zE (t u : TS) : TS:=fun D σ H => t { D with nx:=u D } σ H
theorem aH : PSs X [] aK:=fun _ _ σ H _ I h => wpAny_execs_nil ⟨σ,H,I,h⟩
theorem aj (h1 : PS X st t) (h2 : PSs X rest u) : PSs X (st :: rest) (zE t u):=by
 intro pins s σ H D I h
 refine wpAny_execs_cons (thn (h1 pins s σ H { D with nx:=u D } I h) fun f s1 q => ?_)
 cases f with
 | next =>
  obtain ⟨σ',H',I',q⟩:=q
  exact h2 pins s1 σ' H' D I' q
 | ret v => exact q
 | brk => exact q
 | cont => exact q
theorem ao (h1 : PS X st t) : PSs X [st] t:=by
 intro pins s σ H D I h
 refine wpAny_execs_cons (thn (h1 pins s σ H D I h) fun f s1 q => ?_)
 cases f with
 | next => exact wpAny_execs_nil q
 | ret v => exact q
 | brk => exact q
 | cont => exact q
theorem Inv.quiet {pins : List (Addr × Obj)} {σ : St} {H : Hp} {s : Shared} (I : Inv X pins σ H s) : interactive X.env = false:=by simp [interactive,I.ok.kind]
def EJ (te : TE) : TS:=fun D σ H => te σ H fun _ H1 => D.nx σ H1
theorem bC (he : PE X e te) (hs : swapsWith e none pos.line X.env = pure false:=by rfl) : PS X (.Expr e pos) (EJ te):=by
 intro pins s σ H D I h
 exact wpAny_Expr_any (thn (he pins s σ H _ I h) fun v s1 ⟨x,H1,I1,r1,q1⟩ => ⟨σ,H1,I1,q1⟩) I.quiet hs
def Gk (te : TE) : TS:=fun D σ H => te σ H D.rt
theorem aG (he : PE X e te) : PS X (.Return (some e) pos) (Gk te):=by
 intro pins s σ H D I h
 exact wpAny_Return_some (thn (he pins s σ H _ I h) fun v s1 ⟨x,H1,I1,r1,q1⟩ => ⟨x,σ,H1,I1,r1,q1⟩)
def Dq (c : TT) (t u : TS) : TS:=fun D σ H => c σ H fun b H1 => if b = true then t D σ H1 else u D σ H1
theorem bc {c : Expr} {a b : List Stmt} {tc : TT} (hc : PT X c tc) (ha : PSs X a t) (hb : PSs X b u) : PS X (.If c a b pos) (Dq tc t u):=by
 intro pins s σ H D I h
 refine wpAny_If (thn (hc pins s σ H _ I h) fun d s1 ⟨H1,I1,q1⟩ => ?_)
 cases d with
 | true => exact ha pins s1 σ H1 D I1 q1
 | false => exact hb pins s1 σ H1 D I1 q1
def FC : TS:=fun _ _ _ => False
theorem cg : PS X st FC:=fun _ _ _ _ _ _ h => h.elim
end
abbrev TG:=V -> St -> Hp -> (St -> Hp -> Prop) -> Prop
abbrev TGs:=List V -> St -> Hp -> (St -> Hp -> Prop) -> Prop
def PG (X : Cx) (target : Expr) (t : TG) : Prop:=
 ∀ (pins : List (Addr × Obj)) (s : Shared) (σ : St) (H : Hp) (v : V) (u : Value) (Q : St -> Hp -> Prop),Inv X pins σ H s -> RelV v u -> t v σ H Q ->
  wpAny (model X.prog X.w) X.A (assign target X.env u) (fun _ s' => ∃ σ' H',Inv X pins σ' H' s' /\ Q σ' H') X.xe s
def PGs (X : Cx) (ts : List Expr) (t : TGs) : Prop:=
 ∀ (pins : List (Addr × Obj)) (s : Shared) (σ : St) (H : Hp) (vs : List V) (us : List Value) (Q : St -> Hp -> Prop),Inv X pins σ H s -> Vals vs us -> t vs σ H Q ->
  wpAny (model X.prog X.w) X.A (assignInOrder ((assignEach ts X.env).map (·.2)) us) (fun _ s' => ∃ σ' H',Inv X pins σ' H' s' /\ Q σ' H') X.xe s
abbrev ES:=V -> V -> V -> Hp -> (Hp -> Prop) -> Prop
def FJ (X : Cx) (t : ES) : Prop:=
 ∀ (pins : List (Addr × Obj)) (s : Shared) (σ : St) (H : Hp) (o i v : V) (ov iv u : Value) (Q : Hp -> Prop),Inv X pins σ H s -> RelV o ov -> RelV i iv -> RelV v u -> t o i v H Q ->
  wpAny (model X.prog X.w) X.A (setItem ov iv u) (fun _ s' => ∃ H',Inv X pins σ H' s' /\ Q H') X.xe s
section
variable {X : Cx} {pos : Pos}
def aE (i : Nat) : TG:=fun v σ H Q => Q (σ.set i (some v)) H
theorem aP {i : Nat} {x : Str} (hN : X.N.Nodup) (hi : X.N[i]? = some x) (hx : Loc X.env.scope x) (hf : X.fn x = true \/ X.env.scope.names.lookup x = some .local:=by first | exact .inl rfl | exact .inr rfl | assumption) : PG X (.Name x pos) (aE i):=by
 intro pins s σ H v u Q I r h
 exact wpAny_assign_Name (zC I hN hi hx r (fun s' I' => ⟨_,H,I',h⟩) hf)
def Gy : TGs:=fun vs σ H Q => vs = [] /\ Q σ H
def FO (t : TG) (u : TGs) : TGs:=fun vs σ H Q => ∃ v r,vs = v :: r /\ t v σ H fun σ' H' => u r σ' H' Q
theorem j6 : PGs X [] Gy:=by
 intro pins s σ H vs us Q I r h
 obtain ⟨e,h⟩:=h
 subst e
 cases r
 exact assignInOrder_nil ⟨σ,H,I,h⟩
theorem aZ {e : Expr} {es : List Expr} {t : TG} {u : TGs} (h1 : PG X e t) (h2 : PGs X es u)
  (hs : (assignEach (e :: es) X.env).map (·.2) = assign e X.env :: (assignEach es X.env).map (·.2):=by rfl) : PGs X (e :: es) (FO t u):=by
 intro pins s σ H vs us Q I r h
 obtain ⟨v,vr,e1,h⟩:=h
 subst e1
 cases r with
 | cons r rr =>
  rw [hs]
  refine assignInOrder_cons (thn (h1 pins s σ H _ _ _ I r h) fun _ s1 ⟨σ1,H1,I1,q1⟩ => ?_)
  exact h2 pins s1 σ1 H1 _ _ Q I1 rr q1
def GA (K : PySem.W.Frag) (n : Nat) (t : TGs) : TG:=fun v σ H Q => ∃ a xs,v = .ref a /\ SqT K H a xs /\ xs.length = n /\ t xs σ H Q
theorem Ag {es : List Expr} {k : Nat} {t : TGs} {n : Nat} (hc : X.calm = true) (h : PGs X es t)
  (hn : (assignEach es X.env).length = n:=by rfl) (hst : (assignEach es X.env).findIdx? (·.1) = none:=by rfl) : PG X (.Tuple es k pos) (GA X.K n t):=by
 intro pins s σ H v u Q I r hw
 obtain ⟨a,xs,e1,hq,hl,hw⟩:=hw
 subst e1
 cases r
 obtain ⟨its,rv,ht,hz⟩:=I.tuple hq
 refine assign_Tuple_tuple (I.ok.hd hc) ht (by simp [hn,<- hl,rv.length]) hst fun h' hx => ?_
 have I1 : Inv X pins σ H { s with heap:=h' }:=I.kept (t' := s.toks) fun b o e => hx b o (Nat.ne_of_lt (Heap.lt_size e)) e
 exact h pins _ σ H xs _ Q I1 (by simpa using rv) hw
def Gz (to ti : TE) (t : ES) : TG:=fun v σ H Q => to σ H fun o H1 => ti σ H1 fun i H2 => t o i v H2 fun H3 => Q σ H3
theorem Fn {o i : Expr} {to ti : TE} {t : ES} (ho : PE X o to) (hi : PE X i ti) (hs : FJ X t)
  (ha : ∀ v,assign (.Subscript o i pos) X.env v = (do
   let ov <- holding [v] (eval o X.env)
   let iv <- holding [v,ov] (eval i X.env)
   standAt pos
   holding [v,ov,iv] (setItem ov iv v)
   release [v,ov,iv] []):=by intro _; rfl) : PG X (.Subscript o i pos) (Gz to ti t):=by
 intro pins s σ H v u Q I r h
 rw [ha]
 refine wpAny_bind (wpAny_holding (thn (ho pins s σ H _ I h) fun ov s1 ⟨x,H1,I1,r1,q1⟩ => ?_))
 refine wpAny_bind (wpAny_holding (thn (hi pins s1 σ H1 _ I1 q1) fun iv s2 ⟨y,H2,I2,r2,q2⟩ => ?_))
 refine wpAny_bind (wpAny_standAt (wpAny_bind (wpAny_holding (thn (hs pins s2 σ H2 x y v ov iv u _ I2 r1 r2 r q2) fun _ s3 ⟨H3,I3,q3⟩ => ?_))))
 exact wpAny_release ⟨σ,H3,I3,q3⟩
def uj (te : TE) (g : TG) : TS:=fun D σ H => te σ H fun x H1 => g x σ H1 D.nx
theorem tP {tg e : Expr} {te : TE} {g : TG} (he : PE X e te) (hg : PG X tg g) (hs : swapsWithSole [tg] e pos.line X.env = pure false:=by rfl) (hw : swappedStores [tg] e X.env = pure none:=by rfl)
  (h1 : (assignEach [tg] X.env).map (·.2) = [assign tg X.env]:=by rfl) : PS X (.Assign [tg] e pos) (uj te g):=by
 intro pins s σ H D I h
 refine wpAny_Assign_stores (thn (he pins s σ H _ I h) fun v s1 ⟨x,H1,I1,r1,q1⟩ => ?_) hs hw
 rw [h1]
 exact thn (hg pins s1 σ H1 x v _ I1 r1 q1) fun _ s2 q => q
theorem aA {i : Nat} {x : Str} {e : Expr} {te : TE} {pos' : Pos} (hN : X.N.Nodup) (hi : X.N[i]? = some x) (hx : Loc X.env.scope x) (he : PE X e te) (hs : swapsWith e (some (.Name x pos')) pos.line X.env = pure false:=by rfl) (hf : X.fn x = true \/ X.env.scope.names.lookup x = some .local:=by first | exact .inl rfl | exact .inr rfl | assumption) :
  PS X (.Assign [.Name x pos'] e pos) (uj te (aE i)):=by
 intro pins s σ H D I h
 refine wpAny_Assign_Name (thn (he pins s σ H _ I h) fun v s1 ⟨y,H1,I1,r1,q1⟩ => ?_) hs
 exact zC I1 hN hi hx r1 (fun s2 I2 => ⟨_,H1,I2,q1⟩) hf
end
section
variable {X : Cx} {pos : Pos}
def qj (c : TT) (tb : TS) : TS:=fun D σ H => ∃ W : Nat -> St -> Hp -> Prop,(∃ m,W m σ H) /\ ∀ m σ H,W m σ H ->
 c σ H fun b H1 => if b = true then ∃ N : St -> Hp -> Prop,(∀ σ' H',N σ' H' -> ∃ m',m' < m /\ W m' σ' H') /\ tb { D with nx:=N,ct:=N,bk:=D.nx } σ H1 else D.nx σ H1
theorem lF {c : Expr} {body : List Stmt} {tc : TT} {tb : TS} (hp : PassesOwn (model X.prog X.w) X.A X.env X.xe) (hc : PT X c tc) (hb : PSs X body tb) : PS X (.While c body [] pos) (qj tc tb):=by
 intro pins s σ H D I h
 obtain ⟨W,⟨m0,w0⟩,turn⟩:=h
 refine wpAny_While (codeAny_whileLoop (fun n s' => ∃ σ' H',Inv X pins σ' H' s' /\ W n σ' H') ?_ m0 ⟨σ,H,I,w0⟩)
 rintro n s1 ⟨σ1,H1,I1,w1⟩
 refine wpAny_passesOwn hp (thn (hc pins s1 σ1 H1 _ I1 (turn n σ1 H1 w1)) fun b s2 ⟨H2,I2,q2⟩ => ?_)
 cases b with
 | true =>
  obtain ⟨N,hN,q2⟩:=q2
  rw [if_pos rfl]
  refine wpAny_passesOwn hp (thn (hb pins s2 σ1 H2 _ I2 q2) fun f s3 q3 => ?_)
  cases f with
  | next =>
   obtain ⟨σ3,H3,I3,n3⟩:=q3
   obtain ⟨m',hm,w3⟩:=hN σ3 H3 n3
   exact ⟨m',hm,σ3,H3,I3,w3⟩
  | cont =>
   obtain ⟨σ3,H3,I3,n3⟩:=q3
   obtain ⟨m',hm,w3⟩:=hN σ3 H3 n3
   exact ⟨m',hm,σ3,H3,I3,w3⟩
  | brk => exact q3
  | ret v => exact q3
 | false =>
  rw [if_neg Bool.false_ne_true]
  exact wpAny_execs_nil ⟨σ1,H2,I2,q2⟩
end
structure It where
 go : Nat -> Hp -> Prop
 yld : Nat -> Hp -> V -> Hp -> Prop
 stop : Nat -> Hp -> Prop
def mK (X : Cx) (pins : List (Addr × Obj)) (H : Hp) (b : Addr) : Prop:=
 H b = none /\ b ≠ X.env.locals /\ b ∉ X.fs /\ (b ∈ X.ex \/ X.s₀.heap.objs.size <= b) /\ (∀ x c,X.env.cells.lookup x = some c -> c ≠ b) /\ ∀ p ∈ X.pn ++ pins,p.1 ≠ b
theorem Inv.fpOk {X : Cx} {pins : List (Addr × Obj)} {σ : St} {H H' : Hp} {s : Shared} {b : Addr} (I : Inv X pins σ H s) (hb : s.heap.objs.size <= b) (hn : H' b = none) : mK X pins H' b:=by
 refine ⟨hn,Nat.ne_of_gt (Nat.lt_of_lt_of_le I.lt hb),I.nofs hb,.inr (Nat.le_trans I.sz hb),fun x c e z => ?_,fun p hp z => ?_⟩
 ·obtain ⟨v,q⟩:=I.cell x c e
  exact absurd (Nat.lt_of_lt_of_le q.lt (by rw [z]; exact hb)) (Nat.lt_irrefl _)
 ·exact absurd (Nat.lt_of_lt_of_le (Heap.lt_size (I.pin p hp).1) (by rw [z]; exact hb)) (Nat.lt_irrefl _)
structure Turn (P : Program) (w : World) (K : PySem.W.Frag) (tg : Expr) (J : It) (fp : List Addr) (it : Addr) (tn : Nat -> Heap -> Prop) : Prop where
 mem : it ∈ fp
 obj : ∀ i h,tn i h -> ∀ b ∈ fp,∃ o,h.get? b = some o /\ ∀ v,o.data ≠ .cell v
 keep : ∀ i h h',tn i h -> (∀ b ∈ fp,∀ o,h.get? b = some o -> h'.get? b = some o) -> tn i h'
 item : ∀ (X : Cx),X.prog = P -> X.w = w -> X.K = K -> X.calm = true -> ∀ (i : Nat) (pins : List (Addr × Obj)) (s : Shared) (σ : St) (H : Hp) (E : Value -> Shared -> Prop),Inv X pins σ H s -> (∀ b ∈ fp,mK X pins H b) -> tn i s.heap -> J.go i H ->
  wpAny (model P w) X.A (pyNext (.ref it)) (fun r s1 => ∃ u,r = some u /\
   wpAny (model P w) X.A (letOwnedTupleGo tg (.ref it) u) (fun _ s2 => ∃ x H',Inv X pins σ H' s2 /\ RelV x u /\ J.yld i H x H' /\ tn (i + 1) s2.heap /\ ∀ b ∈ fp,H' b = none) E s1) E s
 done : ∀ (X : Cx),X.prog = P -> X.w = w -> X.K = K -> X.calm = true -> ∀ (i : Nat) (pins : List (Addr × Obj)) (s : Shared) (σ : St) (H : Hp) (E : Value -> Shared -> Prop),Inv X pins σ H s -> (∀ b ∈ fp,mK X pins H b) -> tn i s.heap -> J.stop i H ->
  wpAny (model P w) X.A (pyNext (.ref it)) (fun r s1 => r = none /\ Inv X pins σ H s1) E s
 self : ∀ (A : Around) (i : Nat) (s : Shared) (Q : Value -> Shared -> Prop) (E : Value -> Shared -> Prop),tn i s.heap -> Q (.ref it) s -> wpAny (model P w) A (pyIter (.ref it)) Q E s
abbrev TI:=St -> Hp -> (It -> Hp -> Prop) -> Prop
def PIE (X : Cx) (pins : List (Addr × Obj)) (σ : St) (tg : Expr) (R : It -> Hp -> Prop) (itv : Value) (s2 : Shared) : Prop:=
 ∃ (it : Addr) (fp : List Addr) (tn : Nat -> Heap -> Prop) (J : It) (H' : Hp),itv = .ref it /\ Inv X pins σ H' s2 /\ Turn X.prog X.w X.K tg J fp it tn /\ tn 0 s2.heap /\ (∀ b ∈ fp,mK X pins H' b) /\ R J H'
def PI (X : Cx) (tg iter : Expr) (wi : TI) : Prop:=
 ∀ (pins : List (Addr × Obj)) (s : Shared) (σ : St) (H : Hp) (R : It -> Hp -> Prop),Inv X pins σ H s -> wi σ H R ->
  wpAny (model X.prog X.w) X.A (eval iter X.env) (fun v s1 => wpAny (model X.prog X.w) X.A (pyIter v) (PIE X pins σ tg R) X.xe s1) X.xe s
theorem AJ {M : Model} {A : Around} {E : Value -> Shared -> Prop} {s : Shared} {tg : Expr} {it : Addr} {u : Value} {o : Obj} {n : String} {vs : Array Value} {Q : Unit -> Shared -> Prop} (ho : s.heap.get? it = some o) (hc : o.cls = .type n) (hd : o.data = .fields vs)
  (hn : ["enumerate","zip","dict_itemiterator","dict_reverseitemiterator","odict_iterator","itertools.zip_longest","itertools.pairwise"].contains n = false) (hQ : Q () s) : wpAny M A (letOwnedTupleGo tg (.ref it) u) Q E s:=by
 unfold letOwnedTupleGo
 cases tg <;> first
  | exact wpAny_pure hQ
  | (cases u <;> first
    | exact wpAny_pure hQ
    | (refine wpAny_bind (wpAny_load ho ?_)
       rw [hc,hd]
       show wpAny M A (if (["enumerate","zip","dict_itemiterator","dict_reverseitemiterator","odict_iterator","itertools.zip_longest","itertools.pairwise"].contains n && vs[0]? == some (rawInt _)) = true then _ else _) Q E s
       rw [if_neg (by intro h; rw [hn,Bool.false_and] at h; cases h)]
       exact wpAny_pure hQ))
def Itl (K : PySem.W.Frag) (a : Addr) : It:=
 ⟨fun i H => ∃ xs x,SqL K H a xs /\ xs[i]? = some x,fun i H x H' => H' = H /\ ∀ xs,SqL K H a xs -> xs[i]? = some x,fun i H => ∃ xs,SqL K H a xs /\ xs.length <= i⟩
def Itt (K : PySem.W.Frag) (a : Addr) : It:=
 ⟨fun i H => ∃ xs x,SqT K H a xs /\ xs[i]? = some x,fun i H x H' => H' = H /\ ∀ xs,SqT K H a xs -> xs[i]? = some x,fun i H => ∃ xs,SqT K H a xs /\ xs.length <= i⟩
def Itr (lo : Int) (n : Nat) : It:=⟨fun i _ => i < n,fun i H x H' => H' = H /\ x = .int (lo + i),fun i _ => n <= i⟩
theorem B3 {P : Program} {w : World} {K : PySem.W.Frag} {tg : Expr} (a it : Addr) : Turn P w K tg (Itl K a) [it] it (fun i h => h.IsListIter it a i) where
 mem:=by simp
 obj:=fun i h st b hb => by
  have e : b = it:=by simpa using hb
  subst e
  obtain ⟨o,e,c,d⟩:=st
  exact ⟨o,e,fun v z => by rw [d] at z; cases z⟩
 keep:=fun i h h' st k => st.at fun o e => k it (by simp) o e
 item:=by
  intro X hP hw hK hc i pins s σ H E I hf st hg
  subst hP hw hK
  obtain ⟨xs,x,hq,hx⟩:=hg
  obtain ⟨its,rv,p,hz⟩:=I.list hq
  obtain ⟨u,hu,ru⟩:=rv.get hx
  obtain ⟨f0,f1,f2,f3,f4,f5⟩:=hf it (by simp)
  refine wpAny_pyNext_list_item st p.isList (x:=u) (by simpa using hu) fun h' st' sb => ?_
  have I1 : Inv X pins σ H { s with heap:=h' }:=I.turned (t' := s.toks) (fun b o hb e => (sb.2 b hb).trans e) f0 f1 f3 f4 f5
  obtain ⟨o,e,c,d⟩:=id st'
  exact ⟨u,rfl,AJ (s:={ s with heap:=h' }) e c d (by decide) ⟨x,H,I1,ru,⟨rfl,fun ys hy => by rw [I.list_inj hy hq]; exact hx⟩,st',fun b hb => (hf b hb).1⟩⟩
 done:=by
  intro X hP hw hK hc i pins s σ H E I hf st hg
  subst hP hw hK
  obtain ⟨xs,hq,hx⟩:=hg
  obtain ⟨its,rv,p,hz⟩:=I.list hq
  obtain ⟨f0,f1,f2,f3,f4,f5⟩:=hf it (by simp)
  have hl:=rv.length
  exact wpAny_pyNext_list_end (I.ok.hd hc) st p.isList (by simp; omega) fun h' eb => ⟨rfl,I.turned (t' := s.toks) (fun b o hb e => eb b o hb e) f0 f1 f3 f4 f5⟩
 self:=fun _ _ _ _ _ st h => wpAny_pyIter_listiter st h
theorem Ax {P : Program} {w : World} {K : PySem.W.Frag} {tg : Expr} (a it : Addr) : Turn P w K tg (Itt K a) [it] it (fun i h => h.IsTupleIter it a i) where
 mem:=by simp
 obj:=fun i h st b hb => by
  have e : b = it:=by simpa using hb
  subst e
  obtain ⟨o,e,c,d⟩:=st
  exact ⟨o,e,fun v z => by rw [d] at z; cases z⟩
 keep:=fun i h h' st k => st.at fun o e => k it (by simp) o e
 item:=by
  intro X hP hw hK hc i pins s σ H E I hf st hg
  subst hP hw hK
  obtain ⟨xs,x,hq,hx⟩:=hg
  obtain ⟨its,rv,p,hz⟩:=I.tuple hq
  obtain ⟨u,hu,ru⟩:=rv.get hx
  obtain ⟨f0,f1,f2,f3,f4,f5⟩:=hf it (by simp)
  refine wpAny_pyNext_tuple_item st (show s.heap.IsTuple a its.toArray from p) (x:=u) (by simpa using hu) fun h' st' sb => ?_
  have I1 : Inv X pins σ H { s with heap:=h' }:=I.turned (t' := s.toks) (fun b o hb e => (sb.2 b hb).trans e) f0 f1 f3 f4 f5
  obtain ⟨o,e,c,d⟩:=id st'
  exact ⟨u,rfl,AJ (s:={ s with heap:=h' }) e c d (by decide) ⟨x,H,I1,ru,⟨rfl,fun ys hy => by rw [I.tuple_inj hy hq]; exact hx⟩,st',fun b hb => (hf b hb).1⟩⟩
 done:=by
  intro X hP hw hK hc i pins s σ H E I hf st hg
  subst hP hw hK
  obtain ⟨xs,hq,hx⟩:=hg
  obtain ⟨its,rv,p,hz⟩:=I.tuple hq
  obtain ⟨f0,f1,f2,f3,f4,f5⟩:=hf it (by simp)
  have hl:=rv.length
  exact wpAny_pyNext_tuple_end (I.ok.hd hc) st (show s.heap.IsTuple a its.toArray from p) (by simp; omega) fun h' eb => ⟨rfl,I.turned (t' := s.toks) (fun b o hb e => eb b o hb e) f0 f1 f3 f4 f5⟩
 self:=fun _ _ _ _ _ st h => wpAny_pyIter_tupleiter st h
theorem Aw {P : Program} {w : World} {K : PySem.W.Frag} {tg : Expr} (it : Addr) (lo : Int) (n : Nat) : Turn P w K tg (Itr lo n) [it] it (fun i h => IsRangeIter h it (lo + (i : Nat) * 1) ((n : Int) - (i : Nat)) 1) where
 mem:=by simp
 obj:=fun i h st b hb => by
  have e : b = it:=by simpa using hb
  subst e
  exact ⟨_,st,fun v z => by
   have z' : Data.fields _ = Data.cell v:=z
   cases z'⟩
 keep:=fun i h h' st k => k it (by simp) _ st
 item:=by
  intro X hP hw hK hc i pins s σ H E I hf st hg
  subst hP hw hK
  obtain ⟨f0,f1,f2,f3,f4,f5⟩:=hf it (by simp)
  have W:=Walks.range (prog:=X.prog) (w:=X.w) (I.ok.hd hc) it lo 1 n
  refine W.item i s _ _ hg st fun v h' tk hv st' kk => ?_
  obtain ⟨t,rfl⟩:=hv
  have I1 : Inv X pins σ H { s with heap:=h',toks:=tk }:=I.turned (fun b o hb e => kk b o (by simpa using hb) e) f0 f1 f3 f4 f5
  refine ⟨_,rfl,AJ (s:={ s with heap:=h',toks:=tk }) (n := "range_iterator") st' rfl rfl (by decide) ⟨.int (lo + i),H,I1,⟨t,?_⟩,⟨rfl,rfl⟩,st',fun b hb => (hf b hb).1⟩⟩
  rw [Int.mul_one]
 done:=by
  intro X hP hw hK hc i pins s σ H E I hf st hg
  subst hP hw hK
  obtain ⟨f0,f1,f2,f3,f4,f5⟩:=hf it (by simp)
  exact wpAny_pyNext_range_end (I.ok.hd hc) st (by have : n <= i:=hg; omega) fun h' eb => ⟨rfl,I.turned (t' := s.toks) (fun b o hb e => eb b o hb e) f0 f1 f3 f4 f5⟩
 self:=fun _ _ _ _ _ st h => wpAny_pyIter_rangeiter st h
end L2
namespace L2
open PySem PySem.Spec PyProof.Rows
section
variable {X : Cx} {tg : Expr}
def FQ (K : PySem.W.Frag) (tl : TE) : TI:=fun σ H R => tl σ H fun x H1 => ∃ a,x = .ref a /\ (∃ xs,SqL K H1 a xs) /\ R (Itl K a) H1
def GI (K : PySem.W.Frag) (tl : TE) : TI:=fun σ H R => tl σ H fun x H1 => ∃ a,x = .ref a /\ (∃ xs,SqT K H1 a xs) /\ R (Itt K a) H1
theorem rN {l : Expr} {tl : TE} (hl : PE X l tl) : PI X tg l (FQ X.K tl):=by
 intro pins s σ H R I h
 refine thn (hl pins s σ H _ I h) fun v s1 ⟨x,H1,I1,r1,q1⟩ => ?_
 obtain ⟨a,e,⟨xs,hq⟩,q⟩:=q1
 subst e
 cases r1
 obtain ⟨its,rv,p,hz⟩:=I1.list hq
 refine wpAny_pyIter_list p.isList ?_
 refine ⟨s1.heap.objs.size,[s1.heap.objs.size],_,_,H1,rfl,I1.kept (t' := s1.toks) fun b o e => Heap.get?_push_of_some _ e,B3 a _,⟨_,Heap.get?_push_size _ rfl,rfl,rfl⟩,fun b hb => ?_,q⟩
 have e : b = s1.heap.objs.size:=by simpa using hb
 subst e
 exact I1.fpOk (Nat.le_refl _) (I1.hok.fresh (Nat.le_refl _))
theorem xY {l : Expr} {tl : TE} (hl : PE X l tl) : PI X tg l (GI X.K tl):=by
 intro pins s σ H R I h
 refine thn (hl pins s σ H _ I h) fun v s1 ⟨x,H1,I1,r1,q1⟩ => ?_
 obtain ⟨a,e,⟨xs,hq⟩,q⟩:=q1
 subst e
 cases r1
 obtain ⟨its,rv,p,hz⟩:=I1.tuple hq
 refine wpAny_pyIter_tuple (show s1.heap.IsTuple a its.toArray from p) ?_
 refine ⟨s1.heap.objs.size,[s1.heap.objs.size],_,_,H1,rfl,I1.kept (t' := s1.toks) fun b o e => Heap.get?_push_of_some _ e,Ax a _,⟨_,Heap.get?_push_size _ rfl,rfl,rfl⟩,fun b hb => ?_,q⟩
 have e : b = s1.heap.objs.size:=by simpa using hb
 subst e
 exact I1.fpOk (Nat.le_refl _) (I1.hok.fresh (Nat.le_refl _))
theorem Dc {pins : List (Addr × Obj)} {σ : St} {H : Hp} {s : Shared} {R : It -> Hp -> Prop} {E : Value -> Shared -> Prop} {lo hi : Int} {t u v : Tok} {tk : Nat} (I : Inv X pins σ H s) (h1 : -(2 ^ 62) <= lo) (h2 : lo < 2 ^ 62) (h3 : -(2 ^ 62) <= hi) (h4 : hi < 2 ^ 62)
  (q : R (Itr lo (hi - lo).toNat) H) : wpAny (model X.prog X.w) X.A (pyIter (.ref s.heap.objs.size)) (PIE X pins σ tg R) E { s with heap:=s.heap.push { cls:=.type "range",data:=.fields #[.int lo t,.int hi u,.int 1 v] },toks:=tk }:=by
 refine wpAny_pyIter_range (IsRange.new ..) (small_one h1 h2 h3 h4) ?_
 have I1 : Inv X pins σ H { s with heap:=s.heap.push { cls:=.type "range",data:=.fields #[.int lo t,.int hi u,.int 1 v] },toks:=tk }:=I.kept fun b o e => Heap.get?_push_of_some _ e
 refine ⟨(s.heap.push { cls:=.type "range",data:=.fields #[.int lo t,.int hi u,.int 1 v] }).objs.size,[(s.heap.push { cls:=.type "range",data:=.fields #[.int lo t,.int hi u,.int 1 v] }).objs.size],_,_,H,rfl,
  I1.kept (t' := tk) fun b o e => Heap.get?_push_of_some _ e,Aw _ lo (hi - lo).toNat,?_,fun b hb => ?_,q⟩
 ·have e1 : lo + ((0 : Nat) : Int) * 1 = lo:=by simp
  have e2 : (((hi - lo).toNat : Nat) : Int) - ((0 : Nat) : Int) = Builtin.Range.rangeSize lo hi 1:=by rw [rangeSize_one]; split <;> omega
  show IsRangeIter _ _ (lo + ((0 : Nat) : Int) * 1) ((((hi - lo).toNat : Nat) : Int) - ((0 : Nat) : Int)) 1
  rw [e1,e2]
  exact Heap.get?_push_size _ rfl
 ·have e : b = (s.heap.push { cls:=.type "range",data:=.fields #[.int lo t,.int hi u,.int 1 v] }).objs.size:=by simpa using hb
  subst e
  exact I1.fpOk (Nat.le_refl _) (I1.hok.fresh (Nat.le_refl _))
def FR (ta : TA) : TI:=fun σ H R => ta σ H fun vs H1 => ∃ j : Int,vs = [.int j] /\ -(2 ^ 62) <= j /\ j < 2 ^ 62 /\ R (Itr 0 j.toNat) H1
theorem lO {a : Expr} {ta : TA} {p pos : Pos} (hg : Gl X "range") (hm : X.mg "range" = none) (ha : PA X [a] ta) (hs : starEach [a] X.env = [(false,eval a X.env)]:=by rfl) : PI X tg (.Call (.Name "range" p) [a] [] pos) (FR ta):=by
 intro pins s σ H R I h
 refine Call_ (sO I hg hm boot_range (PyProof.Rows.callWith_type1 (thn (ha pos pins s σ H _ I h) fun us s1 ⟨vs,H1,I1,r1,q1⟩ => ?_) hs rfl))
 obtain ⟨j,e,q1,q2,q⟩:=q1
 subst e
 cases r1 with
 | cons r rr =>
  cases rr
  obtain ⟨t,rfl⟩:=r
  exact call_range_1 (Dc I1 (by omega) (by omega) q1 q2 (by simpa using q))
def EA (wi : TI) (g : TG) (tb : TS) : TS:=fun D σ H => wi σ H fun J H1 => ∃ W : Nat -> Nat -> St -> Hp -> Prop,(∃ m,W 0 m σ H1) /\ ∀ i m σ H,W i m σ H ->
 (J.stop i H /\ D.nx σ H) \/ (J.go i H /\ ∃ N : St -> Hp -> Prop,(∀ σ' H',N σ' H' -> ∃ m',m' < m /\ W (i + 1) m' σ' H') /\ ∀ x H',J.yld i H x H' -> g x σ H' fun σ2 H2 => tb { D with nx:=N,ct:=N,bk:=D.nx } σ2 H2)
def xZ (fp : List Addr) (h : Heap) : List (Addr × Obj):=fp.filterMap fun b => (h.get? b).map fun o => (b,o)
theorem cP {fp : List Addr} {h : Heap} {b : Addr} {o : Obj} (hb : b ∈ fp) (e : h.get? b = some o) : (b,o) ∈ xZ fp h:=List.mem_filterMap.mpr ⟨b,hb,by rw [e]; rfl⟩
theorem BK {fp : List Addr} {h : Heap} {p : Addr × Obj} (hp : p ∈ xZ fp h) : p.1 ∈ fp /\ h.get? p.1 = some p.2:=by
 obtain ⟨b,hb,e⟩:=List.mem_filterMap.mp hp
 cases q : h.get? b with
 | none => rw [q] at e; cases e
 | some o =>
  rw [q] at e
  have e' : (b,o) = p:=Option.some.inj e
  subst e'
  exact ⟨hb,q⟩
theorem Inv.pinned {pins : List (Addr × Obj)} {σ : St} {H : Hp} {s : Shared} {fp : List Addr} (I : Inv X pins σ H s) (hf : ∀ b ∈ fp,mK X pins H b) (ho : ∀ b ∈ fp,∃ o,s.heap.get? b = some o /\ ∀ v,o.data ≠ .cell v) : Inv X (pins ++ xZ fp s.heap) σ H s:=
 I.pins_of fun p hp => (List.mem_append.mp hp).elim (fun z => I.pin p (List.mem_append_right _ z)) fun z => by
  obtain ⟨hb,e⟩:=BK z
  obtain ⟨f0,f1,f2,_⟩:=hf p.1 hb
  obtain ⟨o,e',d⟩:=ho p.1 hb
  rw [e] at e'; cases e'
  exact ⟨e,f0,f1,f2,d⟩
theorem Inv.unpinned {pins pl : List (Addr × Obj)} {σ : St} {H : Hp} {s : Shared} (I : Inv X (pins ++ pl) σ H s) : Inv X pins σ H s:=I.pins_of fun p hp => I.pin p (List.mem_append_right _ (List.mem_append_left _ hp))
theorem lD {iter : Expr} {body : List Stmt} {wi : TI} {g : TG} {tb : TS} {pos : Pos} (hp : PassesOwn (model X.prog X.w) X.A X.env X.xe) (hc : X.calm = true) (hi : PI X tg iter wi) (hg : PG X tg g) (hb : PSs X body tb)
  (hs : ∀ x,foldedSetIterable iter X.env x = pure x:=by intro _; rfl) : PS X (.For tg iter body [] pos) (EA wi g tb):=by
 intro pins s σ H D I h
 refine wpAny_For (thn (hi pins s σ H _ I h) fun v s1 h1 => thn h1 fun itv s2 h2 => ?_) hs
 obtain ⟨it,fp,tn,J,H2,e,I2,T,st2,f2,W,⟨m0,w0⟩,turn⟩:=h2
 subst e
 have stat : ∀ {H' : Hp},(∀ b ∈ fp,H' b = none) -> ∀ b ∈ fp,mK X pins H' b:=fun hn b hb => ⟨hn b hb,(f2 b hb).2⟩
 refine codeAny_forLoop_any (fun n s' => ∃ i σ' H',Inv X pins σ' H' s' /\ tn i s'.heap /\ (∀ b ∈ fp,H' b = none) /\ W i n σ' H') ?_ m0 ⟨0,σ,H2,I2,st2,fun b hb => (f2 b hb).1,w0⟩
 rintro n s3 ⟨i,σ3,H3,I3,st3,fr3,w3⟩
 rcases turn i n σ3 H3 w3 with ⟨stop,qn⟩ | ⟨go,N,hN,step⟩
 ·refine wpAny_passesOwn hp (thn (T.done X rfl rfl rfl hc i pins s3 σ3 H3 X.xe I3 (stat fr3) st3 stop) fun r s4 ⟨hr,I4⟩ => ?_)
  subst hr
  exact wpAny_execs_nil ⟨σ3,H3,I4,qn⟩
 ·refine wpAny_passesOwn hp (thn (T.item X rfl rfl rfl hc i pins s3 σ3 H3 X.xe I3 (stat fr3) st3 go) fun r s4 ⟨u,hr,h4⟩ => ?_)
  subst hr
  refine wpAny_passesOwn hp (thn h4 fun _ s5 ⟨x,H5,I5,r5,y5,st5,fr5⟩ => ?_)
  have I5' := I5.pinned (stat fr5) (T.obj _ _ st5)
  refine wpAny_passesOwn hp (thn (hg _ s5 σ3 H5 x u _ I5' r5 (step x H5 y5)) fun _ s6 ⟨σ6,H6,I6,q6⟩ => ?_)
  refine wpAny_passesOwn hp (thn (hb _ s6 σ6 H6 _ I6 q6) fun f s7 q7 => ?_)
  have again : ∀ {σ7 : St} {H7 : Hp},Inv X (pins ++ xZ fp s5.heap) σ7 H7 s7 -> N σ7 H7 -> ∃ m,m < n /\ ∃ i σ' H',Inv X pins σ' H' s7 /\ tn i s7.heap /\ (∀ b ∈ fp,H' b = none) /\ W i m σ' H' := fun {σ7 H7} I7 n7 => by
   obtain ⟨m',hm,w7⟩:=hN σ7 H7 n7
   refine ⟨m',hm,i + 1,σ7,H7,I7.unpinned,T.keep _ _ _ st5 fun b hb o e => (I7.pin (b,o) (List.mem_append_right _ (List.mem_append_right _ (cP hb e)))).1,fun b hb => ?_,w7⟩
   obtain ⟨o,e,d⟩:=T.obj _ _ st5 b hb
   exact (I7.pin (b,o) (List.mem_append_right _ (List.mem_append_right _ (cP hb e)))).2.1
  cases f with
  | next => obtain ⟨σ7,H7,I7,n7⟩:=q7; exact again I7 n7
  | cont => obtain ⟨σ7,H7,I7,n7⟩:=q7; exact again I7 n7
  | brk => obtain ⟨σ7,H7,I7,q7⟩:=q7; exact ⟨σ7,H7,I7.unpinned,q7⟩
  | ret v => obtain ⟨x7,σ7,H7,I7,r7,q7⟩:=q7; exact ⟨x7,σ7,H7,I7.unpinned,r7,q7⟩
end
theorem Cu {K : PySem.W.Frag} {a : Addr} {xs : List V} {g : TG} {tb : TS} {D : Ends} {σ : St} {H : Hp} (Pv : Nat -> St -> Hp -> Prop) (h0 : Pv 0 σ H) (hl : ∀ i σ H,i <= xs.length -> Pv i σ H -> SqL K H a xs)
  (hs : ∀ i x σ H,xs[i]? = some x -> Pv i σ H -> g x σ H fun σ2 H2 => tb { D with nx:=Pv (i + 1),ct:=Pv (i + 1),bk:=D.nx } σ2 H2) (hd : ∀ σ H,Pv xs.length σ H -> D.nx σ H) :
  ∃ W : Nat -> Nat -> St -> Hp -> Prop,(∃ m,W 0 m σ H) /\ ∀ i m σ H,W i m σ H ->
   ((Itl K a).stop i H /\ D.nx σ H) \/ ((Itl K a).go i H /\ ∃ N : St -> Hp -> Prop,(∀ σ' H',N σ' H' -> ∃ m',m' < m /\ W (i + 1) m' σ' H') /\ ∀ x H',(Itl K a).yld i H x H' -> g x σ H' fun σ2 H2 => tb { D with nx:=N,ct:=N,bk:=D.nx } σ2 H2):=by
 refine ⟨fun i m σ H => m = xs.length - i /\ i <= xs.length /\ Pv i σ H,⟨xs.length,by simp,Nat.zero_le _,h0⟩,?_⟩
 rintro i m σ H ⟨rfl,hi,p⟩
 have q:=hl i σ H hi p
 by_cases hlt : i < xs.length
 ·refine .inr ⟨⟨xs,xs[i],q,by simp [hlt]⟩,Pv (i + 1),fun σ' H' p' => ⟨xs.length - (i + 1),by omega,rfl,hlt,p'⟩,fun x H' y => ?_⟩
  obtain ⟨e,y⟩:=y
  subst e
  exact hs i x σ _ (y xs q) p
 ·have e : i = xs.length:=by omega
  subst e
  exact .inl ⟨⟨xs,q,Nat.le_refl _⟩,hd σ H p⟩
theorem xg {K : PySem.W.Frag} {a : Addr} {xs : List V} {g : TG} {tb : TS} {D : Ends} {σ : St} {H : Hp} (Pv : Nat -> St -> Hp -> Prop) (h0 : Pv 0 σ H) (hl : ∀ i σ H,i <= xs.length -> Pv i σ H -> SqT K H a xs)
  (hs : ∀ i x σ H,xs[i]? = some x -> Pv i σ H -> g x σ H fun σ2 H2 => tb { D with nx:=Pv (i + 1),ct:=Pv (i + 1),bk:=D.nx } σ2 H2) (hd : ∀ σ H,Pv xs.length σ H -> D.nx σ H) :
  ∃ W : Nat -> Nat -> St -> Hp -> Prop,(∃ m,W 0 m σ H) /\ ∀ i m σ H,W i m σ H ->
   ((Itt K a).stop i H /\ D.nx σ H) \/ ((Itt K a).go i H /\ ∃ N : St -> Hp -> Prop,(∀ σ' H',N σ' H' -> ∃ m',m' < m /\ W (i + 1) m' σ' H') /\ ∀ x H',(Itt K a).yld i H x H' -> g x σ H' fun σ2 H2 => tb { D with nx:=N,ct:=N,bk:=D.nx } σ2 H2):=by
 refine ⟨fun i m σ H => m = xs.length - i /\ i <= xs.length /\ Pv i σ H,⟨xs.length,by simp,Nat.zero_le _,h0⟩,?_⟩
 rintro i m σ H ⟨rfl,hi,p⟩
 have q:=hl i σ H hi p
 by_cases hlt : i < xs.length
 ·refine .inr ⟨⟨xs,xs[i],q,by simp [hlt]⟩,Pv (i + 1),fun σ' H' p' => ⟨xs.length - (i + 1),by omega,rfl,hlt,p'⟩,fun x H' y => ?_⟩
  obtain ⟨e,y⟩:=y
  subst e
  exact hs i x σ _ (y xs q) p
 ·have e : i = xs.length:=by omega
  subst e
  exact .inl ⟨⟨xs,q,Nat.le_refl _⟩,hd σ H p⟩
theorem pI {lo : Int} {n : Nat} {g : TG} {tb : TS} {D : Ends} {σ : St} {H : Hp} (Pv : Nat -> St -> Hp -> Prop) (h0 : Pv 0 σ H)
  (hs : ∀ i σ H,i < n -> Pv i σ H -> g (.int (lo + i)) σ H fun σ2 H2 => tb { D with nx:=Pv (i + 1),ct:=Pv (i + 1),bk:=D.nx } σ2 H2) (hd : ∀ σ H,Pv n σ H -> D.nx σ H) :
  ∃ W : Nat -> Nat -> St -> Hp -> Prop,(∃ m,W 0 m σ H) /\ ∀ i m σ H,W i m σ H ->
   ((Itr lo n).stop i H /\ D.nx σ H) \/ ((Itr lo n).go i H /\ ∃ N : St -> Hp -> Prop,(∀ σ' H',N σ' H' -> ∃ m',m' < m /\ W (i + 1) m' σ' H') /\ ∀ x H',(Itr lo n).yld i H x H' -> g x σ H' fun σ2 H2 => tb { D with nx:=N,ct:=N,bk:=D.nx } σ2 H2):=by
 refine ⟨fun i m σ H => m = n - i /\ i <= n /\ Pv i σ H,⟨n,by simp,Nat.zero_le _,h0⟩,?_⟩
 rintro i m σ H ⟨rfl,hi,p⟩
 by_cases hlt : i < n
 ·refine .inr ⟨hlt,Pv (i + 1),fun σ' H' p' => ⟨n - (i + 1),by omega,rfl,hlt,p'⟩,fun x H' y => ?_⟩
  obtain ⟨e,y⟩:=y
  subst e y
  exact hs i σ _ hlt p
 ·have e : i = n:=by omega
  subst e
  exact .inl ⟨Nat.le_refl _,hd σ H p⟩
end L2
namespace L2
open PySem PySem.Spec PyProof.Rows
abbrev R2:=V -> V -> Hp -> VK -> Prop
def OpR (X : Cx) (f : Value -> Value -> Sem Value) (r : R2) : Prop:=
 ∀ (pins : List (Addr × Obj)) (s : Shared) (σ : St) (H : Hp) (x y : V) (v u : Value) (Q : VK),Inv X pins σ H s -> RelV x v -> RelV y u -> r x y H Q ->
  wpAny (model X.prog X.w) X.A (f v u) (EP X pins σ Q) X.xe s
def fk (X : Cx) (f : Value) (r : List V -> Hp -> VK -> Prop) : Prop:=
 ∀ (pins : List (Addr × Obj)) (s : Shared) (σ : St) (H : Hp) (xs : List V) (us : List Value) (Q : VK),Inv X pins σ H s -> Vals xs us -> r xs H Q ->
  wpAny (model X.prog X.w) X.A (call f us) (EP X pins σ Q) X.xe s
def tOp (r : R2) (ta tb : TE) : TE:=fun σ H Q => ta σ H fun x H1 => tb σ H1 fun y H2 => r x y H2 Q
def rI (C : Int -> Int -> Prop) (g : Int -> Int -> V) : R2:=fun x y H Q => ∃ i j,x = .int i /\ y = .int j /\ C i j /\ Q (g i j) H
def rI0 (g : Int -> Int -> V) : R2:=fun x y H Q => ∃ i j,x = .int i /\ y = .int j /\ Q (g i j) H
section
variable {X : Cx} {a b c : Expr} {ta tb tc : TE} {pos : Pos}
theorem EU (ha : PE X a ta) (hb : PE X b tb) {pins : List (Addr × Obj)} {s : Shared} {σ : St} {H : Hp} {R : V -> V -> Hp -> Prop} (I : Inv X pins σ H s)
  (h : ta σ H fun x H1 => tb σ H1 fun y H2 => R x y H2) {Q : Value -> Shared -> Prop} {f : Value -> Value -> Sem Value}
  (hf : ∀ v u s2 x y H2,Inv X pins σ H2 s2 -> RelV x v -> RelV y u -> R x y H2 -> wpAny (model X.prog X.w) X.A (f v u) Q X.xe s2) :
  wpAny (model X.prog X.w) X.A (eval a X.env) (fun v s₁ => wpAny (model X.prog X.w) X.A (eval b X.env) (fun u s₂ => wpAny (model X.prog X.w) X.A (f v u) Q X.xe s₂) X.xe s₁) X.xe s:=by
 refine thn (ha pins s σ H _ I h) fun v s1 ⟨x,H1,I1,r1,q1⟩ => ?_
 refine thn (hb pins s1 σ H1 _ I1 q1) fun u s2 ⟨y,H2,I2,r2,q2⟩ => ?_
 exact hf v u s2 x y H2 I2 r1 r2 q2
theorem ak {op : Operator} {r : R2} (ho : OpR X (binaryOp op) r) (ha : PE X a ta) (hb : PE X b tb) : PE X (.BinOp a op b pos) (tOp r ta tb):=by
 intro pins s σ H Q I h
 exact wpAny_BinOp (EU ha hb I h fun v u s2 x y H2 I2 rx ry q => ho pins s2 σ H2 x y v u Q I2 rx ry q)
theorem opI {f : Value -> Value -> Sem Value} {C : Int -> Int -> Prop} {g : Int -> Int -> Int}
  (rule : ∀ (i j : Int) (t u : Tok) (s : Shared) (Q : Value -> Shared -> Prop) (E : Value -> Shared -> Prop),C i j -> Q (.int (g i j) s.toks) { s with toks:=s.toks + 1 } -> wpAny (model X.prog X.w) X.A (f (.int i t) (.int j u)) Q E s) :
  OpR X f (rI C fun i j => .int (g i j)):=by
 intro pins s σ H x y v u Q I rx ry h
 obtain ⟨i,j,rfl,rfl,hc,q⟩:=h
 obtain ⟨t,rfl⟩:=rx
 obtain ⟨t',rfl⟩:=ry
 exact rule i j t t' s _ _ hc ⟨.int (g i j),H,I.tok _,⟨_,rfl⟩,q⟩
theorem F0 {f : Value -> Value -> Sem Value} {g : Int -> Int -> Int}
  (rule : ∀ (i j : Int) (t u : Tok) (s : Shared) (Q : Value -> Shared -> Prop) (E : Value -> Shared -> Prop),Q (.int (g i j) s.toks) { s with toks:=s.toks + 1 } -> wpAny (model X.prog X.w) X.A (f (.int i t) (.int j u)) Q E s) :
  OpR X f (rI0 fun i j => .int (g i j)):=by
 intro pins s σ H x y v u Q I rx ry h
 obtain ⟨i,j,rfl,rfl,q⟩:=h
 obtain ⟨t,rfl⟩:=rx
 obtain ⟨t',rfl⟩:=ry
 exact rule i j t t' s _ _ ⟨.int (g i j),H,I.tok _,⟨_,rfl⟩,q⟩
theorem Fh {f : Value -> Value -> Sem Value} {g : Int -> Int -> Bool}
  (rule : ∀ (i j : Int) (t u : Tok) (s : Shared) (Q : Value -> Shared -> Prop) (E : Value -> Shared -> Prop),Q (.bool (g i j)) s -> wpAny (model X.prog X.w) X.A (f (.int i t) (.int j u)) Q E s) :
  OpR X f (rI0 fun i j => .bl (g i j)):=by
 intro pins s σ H x y v u Q I rx ry h
 obtain ⟨i,j,rfl,rfl,q⟩:=h
 obtain ⟨t,rfl⟩:=rx
 obtain ⟨t',rfl⟩:=ry
 exact rule i j t t' s _ _ ⟨.bl (g i j),H,I,rfl,q⟩
def Gu (i j : Int) : Prop:=0 < j /\ j < 1073741824
def CMul (i j : Int) : Prop:=(-(2 ^ 64) < i /\ i < 2 ^ 64) \/ (-(2 ^ 64) < j /\ j < 2 ^ 64)
theorem CMul.ok {i j : Int} (h : CMul i j) : IntMulOk i j:=by
 rcases h with ⟨h1,h2⟩ | ⟨h1,h2⟩
 ·exact .of_left (intBits_le_64 h1 h2)
 ·exact .of_right (intBits_le_64 h1 h2)
theorem bI : OpR X (binaryOp .Add) (rI0 fun i j => .int (i + j)):=F0 fun _ _ _ _ _ _ _ q => add_int q
theorem nK : OpR X (binaryOp .Sub) (rI0 fun i j => .int (i - j)):=F0 fun _ _ _ _ _ _ _ q => sub_int q
theorem iZ : OpR X (binaryOp .Mult) (rI CMul fun i j => .int (i * j)):=opI fun _ _ _ _ _ _ _ hc q => mul_int q hc.ok
theorem bB : OpR X (binaryOp .FloorDiv) (rI Gu fun i j => .int (i / j)):=opI fun i j _ _ _ _ _ hc q => by
 have h1 : (0 : Int) < j:=hc.1
 have h2 : j < 1073741824:=hc.2
 exact floordiv_int (by omega) (by rw [Int.fdiv_eq_ediv_of_nonneg i (by omega)]; exact q) (.inl (PyProof.noPylong_small (by omega)))
theorem ba : OpR X (binaryOp .Mod) (rI (fun _ j => 0 < j) fun i j => .int (i % j)):=opI fun i j _ _ _ _ _ hc q => by
 have h1 : (0 : Int) < j:=hc
 exact mod_int' (by omega) (by rw [Int.fmod_eq_emod_of_nonneg i (by omega)]; exact q)
end
def Gb : V -> V -> Bool
 | .non,.non => true | .non,.int _ => true | .int _,.non => true | .non,.bl _ => true | .bl _,.non => true | .non,.str _ => true | .str _,.non => true
 | .int _,.int _ => true | .bl _,.bl _ => true | .str _,.str _ => true | .byt _,.byt _ => true
 | .int _,.str _ => true | .str _,.int _ => true | .bl _,.str _ => true | .str _,.bl _ => true
 | _,_ => false
def rEq : R2:=fun x y H Q => Gb x y = true /\ Q (.bl (decide (x = y))) H
def rNe : R2:=fun x y H Q => Gb x y = true /\ Q (.bl (!decide (x = y))) H
theorem AH {i j : Int} : decide (V.int i = V.int j) = (i == j):=by
 rw [Bool.eq_iff_iff]
 simp
theorem Cp {i j : Bool} : decide (V.bl i = V.bl j) = (i == j):=by
 rw [Bool.eq_iff_iff]
 simp
theorem AI {i j : Str} : decide (V.str i = V.str j) = (i == j):=by
 rw [Bool.eq_iff_iff]
 simp
theorem AG {i j : Array UInt8} : decide (V.byt i = V.byt j) = (i.toList == j.toList):=by
 rw [Bool.eq_iff_iff]
 cases i
 cases j
 simp
section
variable {X : Cx} {a b c : Expr} {ta tb tc : TE} {pos : Pos}
theorem bf {pins : List (Addr × Obj)} {σ : St} {H : Hp} {s : Shared} {Q : VK} {k k' : Bool} (I : Inv X pins σ H s) (q : Q (.bl k) H) (e : k = k') : EP X pins σ Q (.bool k') s:=by
 subst e
 exact ⟨.bl k,H,I,rfl,q⟩
theorem cQ : OpR X (compareOp .Eq) rEq:=by
 intro pins s σ H x y v u Q I rx ry h
 obtain ⟨hs,q⟩:=h
 cases x with
 | non =>
  cases rx
  cases y with
  | non => cases ry; exact PySem.EqNone.eq_none_none (bf I q (by simp))
  | bl j => cases ry; exact PySem.EqNone.eq_none_bool (bf I q (by simp))
  | int j => obtain ⟨t',rfl⟩:=ry; exact PySem.EqNone.eq_none_int (bf I q (by simp))
  | str j => obtain ⟨t',rfl⟩:=ry; exact PySem.EqNone.eq_none_str (bf I q (by simp))
  | _ => exact absurd (show false = true from hs) Bool.false_ne_true
 | bl i =>
  cases rx
  cases y with
  | non => cases ry; exact PySem.EqNone.eq_bool_none (bf I q (by simp))
  | bl j => cases ry; exact eq_bool (bf I q Cp)
  | str j => obtain ⟨t',rfl⟩:=ry; exact PySem.EqMixed.eq_bool_str (bf I q (by simp))
  | _ => exact absurd (show false = true from hs) Bool.false_ne_true
 | int i =>
  obtain ⟨t,rfl⟩:=rx
  cases y with
  | non => cases ry; exact PySem.EqNone.eq_int_none (bf I q (by simp))
  | int j => obtain ⟨t',rfl⟩:=ry; exact eq_int (bf I q AH)
  | str j => obtain ⟨t',rfl⟩:=ry; exact PySem.EqMixed.eq_int_str (bf I q (by simp))
  | _ => exact absurd (show false = true from hs) Bool.false_ne_true
 | str i =>
  obtain ⟨t,rfl⟩:=rx
  cases y with
  | non => cases ry; exact PySem.EqNone.eq_str_none (bf I q (by simp))
  | bl j => cases ry; exact PySem.EqMixed.eq_str_bool (bf I q (by simp))
  | int j => obtain ⟨t',rfl⟩:=ry; exact PySem.EqMixed.eq_str_int (bf I q (by simp))
  | str j => obtain ⟨t',rfl⟩:=ry; exact eq_str (bf I q AI)
  | _ => exact absurd (show false = true from hs) Bool.false_ne_true
 | byt i =>
  obtain ⟨t,rfl⟩:=rx
  cases y with
  | byt j => obtain ⟨t',rfl⟩:=ry; exact PySem.W.eq_bytes (bf I q AG)
  | _ => exact absurd (show false = true from hs) Bool.false_ne_true
 | _ => cases y <;> exact absurd (show false = true from hs) Bool.false_ne_true
theorem C3 : OpR X (compareOp .NotEq) rNe:=by
 intro pins s σ H x y v u Q I rx ry h
 obtain ⟨hs,q⟩:=h
 cases x with
 | non =>
  cases rx
  cases y with
  | non => cases ry; exact PySem.EqNone.ne_none_none (bf I q (by simp))
  | bl j => cases ry; exact PySem.EqNone.ne_none_bool (bf I q (by simp))
  | int j => obtain ⟨t',rfl⟩:=ry; exact PySem.EqNone.ne_none_int (bf I q (by simp))
  | str j => obtain ⟨t',rfl⟩:=ry; exact PySem.EqNone.ne_none_str (bf I q (by simp))
  | _ => exact absurd (show false = true from hs) Bool.false_ne_true
 | bl i =>
  cases rx
  cases y with
  | non => cases ry; exact PySem.EqNone.ne_bool_none (bf I q (by simp))
  | bl j => cases ry; exact ne_bool (bf I q (congrArg not Cp))
  | str j => obtain ⟨t',rfl⟩:=ry; exact PySem.EqMixed.ne_bool_str (bf I q (by simp))
  | _ => exact absurd (show false = true from hs) Bool.false_ne_true
 | int i =>
  obtain ⟨t,rfl⟩:=rx
  cases y with
  | non => cases ry; exact PySem.EqNone.ne_int_none (bf I q (by simp))
  | int j => obtain ⟨t',rfl⟩:=ry; exact ne_int (bf I q (congrArg not AH))
  | str j => obtain ⟨t',rfl⟩:=ry; exact PySem.EqMixed.ne_int_str (bf I q (by simp))
  | _ => exact absurd (show false = true from hs) Bool.false_ne_true
 | str i =>
  obtain ⟨t,rfl⟩:=rx
  cases y with
  | non => cases ry; exact PySem.EqNone.ne_str_none (bf I q (by simp))
  | bl j => cases ry; exact PySem.EqMixed.ne_str_bool (bf I q (by simp))
  | int j => obtain ⟨t',rfl⟩:=ry; exact PySem.EqMixed.ne_str_int (bf I q (by simp))
  | str j => obtain ⟨t',rfl⟩:=ry; exact ne_str (bf I q (congrArg not AI))
  | _ => exact absurd (show false = true from hs) Bool.false_ne_true
 | byt i =>
  obtain ⟨t,rfl⟩:=rx
  cases y with
  | byt j => obtain ⟨t',rfl⟩:=ry; exact PySem.W.ne_bytes (bf I q (congrArg not AG))
  | _ => exact absurd (show false = true from hs) Bool.false_ne_true
 | _ => cases y <;> exact absurd (show false = true from hs) Bool.false_ne_true
theorem jb : OpR X (compareOp .Lt) (rI0 fun i j => .bl (decide (i < j))):=Fh fun _ _ _ _ _ _ _ q => lt_int q
theorem A0 : OpR X (compareOp .LtE) (rI0 fun i j => .bl (decide (i <= j))):=Fh fun _ _ _ _ _ _ _ q => le_int q
theorem wj : OpR X (compareOp .Gt) (rI0 fun i j => .bl (decide (j < i))):=Fh fun _ _ _ _ _ _ _ q => gt_int q
theorem aM (b : Expr) {op : CmpOp} (h : op ≠ .In:=by decide) (h2 : op ≠ .NotIn:=by decide) : behindInMarks op b = false:=by
 have e1 : (op == CmpOp.In) = false:=by cases op <;> first | rfl | exact absurd rfl h
 have e2 : (op == CmpOp.NotIn) = false:=by cases op <;> first | rfl | exact absurd rfl h2
 cases b <;> simp [behindInMarks,e1,e2]
theorem oy {op : CmpOp} {r : R2} (ho : OpR X (compareOp op) r) (ha : PE X a ta) (hb : PE X b tb) (hm : behindInMarks op b = false) : PE X (.Compare a [op] [b] pos) (tOp r ta tb):=by
 intro pins s σ H Q I h
 exact wpAny_Compare1 (EU ha hb I h fun v u s2 x y H2 I2 rx ry q => ho pins s2 σ H2 x y v u Q I2 rx ry q) hm
def Dr (t : TE) : TT:=fun σ H Q => t σ H fun x H' => ∃ k,x = .bl k /\ Q k H'
theorem aF {op : CmpOp} {r : R2} (ho : OpR X (compareOp op) r) (ha : PE X a ta) (hb : PE X b tb) (hm : behindInMarks op b = false) : PT X (.Compare a [op] [b] pos) (Dr (tOp r ta tb)):=by
 intro pins s σ H Q I h
 refine wpAny_isTrue_Compare1 (thn (ha pins s σ H _ I h) fun v s1 ⟨x,H1,I1,r1,q1⟩ => thn (hb pins s1 σ H1 _ I1 q1) fun u s2 ⟨y,H2,I2,r2,q2⟩ =>
  thn (ho pins s2 σ H2 x y v u _ I2 r1 r2 q2) fun c s3 ⟨z,H3,I3,r3,k,e,q3⟩ => ?_) hm
 subst e
 cases r3
 exact wpAny_truthy_bool ⟨H3,I3,q3⟩
def Au (r r' : R2) (ta tb tc : TE) : TE:=fun σ H Q => ta σ H fun x H1 => tb σ H1 fun y H2 => r x y H2 fun z H3 => ∃ k,z = .bl k /\
 (if k = true then tc σ H3 fun w' H4 => r' y w' H4 Q else Q (.bl false) H3)
theorem C6 {op op' : CmpOp} {r r' : R2} (ho : OpR X (compareOp op) r) (ho' : OpR X (compareOp op') r') (ha : PE X a ta) (hb : PE X b tb) (hc : PE X c tc)
  (hm : lastMarks [op,op'] [b,c] = false:=by with_unfolding_all rfl) : PE X (.Compare a [op,op'] [b,c] pos) (Au r r' ta tb tc):=by
 intro pins s σ H Q I h
 refine Compare_chain (thn (ha pins s σ H _ I h) fun v s1 ⟨x,H1,I1,r1,q1⟩ => chain_link (thn (hb pins s1 σ H1 _ I1 q1) fun u s2 ⟨y,H2,I2,r2,q2⟩ =>
  thn (ho pins s2 σ H2 x y v u _ I2 r1 r2 q2) fun d s3 ⟨z,H3,I3,r3,k,e,q3⟩ => ?_)) hm
 subst e
 cases r3
 refine wpAny_truthy_bool ?_
 cases k with
 | false => exact ite_ff ⟨.bl false,H3,I3,rfl,q3⟩
 | true => exact ite_tt (chain_last (thn (hc pins s3 σ H3 _ I3 q3) fun w' s4 ⟨z',H4,I4,r4,q4⟩ => ho' pins s4 σ H4 y z' u w' Q I4 r2 r4 q4))
theorem tR {op op' : CmpOp} {r r' : R2} (ho : OpR X (compareOp op) r) (ho' : OpR X (compareOp op') r') (ha : PE X a ta) (hb : PE X b tb) (hc : PE X c tc)
  (hm : lastMarks [op,op'] [b,c] = false:=by with_unfolding_all rfl) : PT X (.Compare a [op,op'] [b,c] pos) (Dr (Au r r' ta tb tc)):=by
 intro pins s σ H Q I h
 refine isTrue_chain (thn (ha pins s σ H _ I h) fun v s1 ⟨x,H1,I1,r1,q1⟩ => test_link (thn (hb pins s1 σ H1 _ I1 q1) fun u s2 ⟨y,H2,I2,r2,q2⟩ =>
  thn (ho pins s2 σ H2 x y v u _ I2 r1 r2 q2) fun d s3 ⟨z,H3,I3,r3,k,e,q3⟩ => ?_)) hm
 subst e
 cases r3
 refine wpAny_truthy_bool ?_
 cases k with
 | false =>
  obtain ⟨k',e',q'⟩:=q3
  cases e'
  exact ite_ff ⟨H3,I3,q'⟩
 | true =>
  refine ite_tt (test_last (thn (hc pins s3 σ H3 _ I3 q3) fun w' s4 ⟨z',H4,I4,r4,q4⟩ => thn (ho' pins s4 σ H4 y z' u w' _ I4 r2 r4 q4) fun d' s5 ⟨z2,H5,I5,r5,k2,e2,q5⟩ => ?_))
  subst e2
  cases r5
  exact wpAny_truthy_bool ⟨H5,I5,q5⟩
theorem pQ : (sizeLine : Nat) < 2 ^ 63:=by rw [sizeLine_eq]; decide
theorem aq : OpR X (binaryOp .Add) (fun x y H Q => ∃ i j,x = .str i /\ y = .str j /\ i.length + j.length <= sizeLine /\ Q (.str (i ++ j)) H):=by
 intro pins s σ H x y v u Q I rx ry h
 obtain ⟨i,j,rfl,rfl,hz,q⟩:=h
 obtain ⟨t,rfl⟩:=rx
 obtain ⟨t',rfl⟩:=ry
 exact add_str (fun t' tk => ⟨.str (i ++ j),H,I.tok _,⟨_,rfl⟩,q⟩) hz
theorem vals1 {x : V} {us : List Value} (r : Vals [x] us) : ∃ u,us = [u] /\ RelV x u:=by
 cases r with
 | cons r1 r2 => cases r2; exact ⟨_,rfl,r1⟩
theorem vals2 {x y : V} {us : List Value} (r : Vals [x,y] us) : ∃ u w',us = [u,w'] /\ RelV x u /\ RelV y w' := by
 cases r with
 | cons r1 r2 =>
  cases r2 with
  | cons r3 r4 => cases r4; exact ⟨_,_,rfl,r1,r3⟩
theorem Bk (hc : X.calm = true) : fk X (.builtin "max") (fun xs H Q => ∃ i j,xs = [.int i,.int j] /\ Q (.int (if j > i then j else i)) H):=by
 intro pins s σ H xs us Q I r h
 obtain ⟨i,j,rfl,q⟩:=h
 obtain ⟨u,w',rfl,⟨t,rfl⟩,⟨t',rfl⟩⟩:=vals2 r
 refine max_two_ints (I.ok.hd hc) fun h' tk k => ⟨_,H,I.kept k,?_,q⟩
 by_cases hj : j > i
 ·rw [if_pos hj,if_pos hj]; exact ⟨_,rfl⟩
 ·rw [if_neg hj,if_neg hj]; exact ⟨_,rfl⟩
theorem Bm (hc : X.calm = true) : fk X (.builtin "min") (fun xs H Q => ∃ i j,xs = [.int i,.int j] /\ Q (.int (if j < i then j else i)) H):=by
 intro pins s σ H xs us Q I r h
 obtain ⟨i,j,rfl,q⟩:=h
 obtain ⟨u,w',rfl,⟨t,rfl⟩,⟨t',rfl⟩⟩:=vals2 r
 refine min_two_ints (I.ok.hd hc) fun h' tk k => ⟨_,H,I.kept k,?_,q⟩
 by_cases hj : j < i
 ·rw [if_pos hj,if_pos hj]; exact ⟨_,rfl⟩
 ·rw [if_neg hj,if_neg hj]; exact ⟨_,rfl⟩
theorem Bj : fk X (.type "int") (fun xs H Q => (∃ i,xs = [.int i] /\ Q (.int i) H) \/ ∃ k,xs = [.bl k] /\ Q (.int (if k then 1 else 0)) H):=by
 intro pins s σ H xs us Q I r h
 rcases h with ⟨i,rfl,q⟩ | ⟨k,rfl,q⟩
 ·obtain ⟨u,rfl,t,rfl⟩:=vals1 r
  exact call_int_int ⟨.int i,H,I,⟨_,rfl⟩,q⟩
 ·obtain ⟨u,rfl,r1⟩:=vals1 r
  cases r1
  exact call_int_bool ⟨.int (if k then 1 else 0),H,I.tok _,⟨_,rfl⟩,q⟩
theorem cV : fk X (.type "str") (fun xs H Q => ∃ i,xs = [.int i] /\ i.natAbs.log2 < 1920 /\ Q (.str (toString i)) H):=by
 intro pins s σ H xs us Q I r h
 obtain ⟨i,rfl,hz,q⟩:=h
 obtain ⟨u,rfl,t,rfl⟩:=vals1 r
 exact PySem.P.str_of_int hz ⟨.str _,H,I.tok _,⟨_,rfl⟩,q⟩
end
end L2
namespace L2
open PySem PySem.Spec PyProof.Rows
structure ObjM (h : Heap) (x dx C : Addr) (mA : Str -> Option Value) : Prop where
 obj : h.get? x = some (PySem.W.instObj C dx)
 ns : h.Ns1 dx mA
 ne : dx ≠ x
theorem BG {h : Heap} {dx : Addr} {mA : Str -> Option Value} (n : h.Ns1 dx mA) : ∃ od,h.get? dx = some od /\ ∀ name,PySem.W.lookIn name od = some (mA name):=by
 obtain ⟨o,es,ep,ho,hd,hk,_,hm⟩:=n
 refine ⟨o,ho,fun name => ?_⟩
 have e:=hm name
 unfold nsFind findBy at e
 rw [<- Array.find?_toList] at e
 unfold PySem.W.lookIn
 rw [hd]
 dsimp only
 split
 ·rename_i y q
  rw [q] at e
  exact congrArg some e
 ·rename_i q
  rw [q] at e
  have a : es.toList.any (·.refKey) = false:=by
   rw [List.any_eq_false]
   intro y hy
   obtain ⟨z,t,hkey⟩:=hk y (Array.mem_toList_iff.mp hy)
   simp [DictEntry.refKey,hkey]
  have a' : ¬ es.toList.any (·.refKey) = true:=by rw [a]; exact Bool.false_ne_true
  rw [if_neg a']
  exact congrArg some e
theorem ObjM.look {h : Heap} {x dx C : Addr} {mA : Str -> Option Value} (I : ObjM h x dx C mA) : ∃ od,PySem.W.InstAt h x (PySem.W.instObj C dx) C (some od) /\ ∀ name,PySem.W.lookIn name od = some (mA name):=
 let ⟨od,ho,hl⟩:=BG I.ns
 ⟨od,⟨I.obj,rfl,rfl,ho⟩,hl⟩
section
variable {prog : Program} {w : World} {A : Around} {E : Value -> Shared -> Prop} {s : Shared} {K : PySem.W.Frag} {x dx C f : Addr} {mA : Str -> Option Value} {name : Str} {v : Value}
theorem get_map {expr : Bool} {Q : Value -> Shared -> Prop} (X : K.In s.heap) (I : ObjM s.heap x dx C mA) (hg : PySem.W.plainGet K C name = true) (hh : PySem.W.hasDictIn K C = true)
  (ha : PySem.W.findIn K (.ref C) name = some none) (hv : mA name = some v) (hv' : PySem.W.handedIn v = true) (h : Q v { s with toks:=s.toks + 1 }) :
  wpAny (model prog w) A (getAttr (.ref x) name expr) Q E s:=by
 obtain ⟨od,J,hl⟩:=I.look
 exact PySem.W.get_value X J (PySem.W.plainGet_of hg).1 (PySem.W.findObj_own hh ha rfl (by rw [hl,hv])) hv' h
theorem Cy {pl : Sem Bool} {Q : Value × List Value -> Shared -> Prop} (X : K.In s.heap) (I : ObjM s.heap x dx C mA) (hg : PySem.W.plainGet K C name = true)
  (hf : PySem.W.findIn K (.ref C) name = some (some (.ref f))) (ht : PySem.W.isFn K (.ref f) = true) (hv : mA name = none) (h : Q (.ref f,[.ref x]) s) :
  wpAny (model prog w) A (getMethod (.ref x) name pl) Q E s:=by
 obtain ⟨od,J,hl⟩:=I.look
 exact PySem.W.method_fn X J (PySem.W.plainGet_of hg).1 (PySem.W.plainGet_of hg).2 hf (beq_iff_eq.mp ht) (by show (PySem.W.lookIn name od).map (·.isSome) = some false; rw [hl,hv]; rfl) h
theorem Er {ns : List Str} {Q : Unit -> Shared -> Prop} (X : K.In s.heap) (I : ObjM s.heap x dx C mA)
  (hs : PySem.W.findIn K (.ref C) "__setattr__" = some (some (.builtin "object.__setattr__"))) (hp : PySem.W.plainOver K C = true) (ht : PySem.W.takerIn K C name = some none) (hh : PySem.W.hasDictIn K C = true)
  (hw : PySem.Within mA ns) (hsz : ns.length <= sizeLine)
  (h : ∀ h',ObjM h' x dx C (fun y => if y = name then some v else mA y) -> Heap.SameBut dx s.heap h' -> Q () { s with heap:=h',toks:=s.toks + 2 }) :
  wpAny (model prog w) A (setAttr (.ref x) name v) Q E s:=by
 obtain ⟨od,J,hl⟩:=I.look
 refine PySem.W.set_plain X J hs (PySem.W.osa_open (s:={ s with toks:=s.toks + 1 }) (r:=none) X J hp ht fun b => ?_)
 obtain ⟨cd,hc,hd'⟩:=PySem.W.any_some hh
 have hx : s.heap.get? x = some ⟨.ref C,some dx,.plain,#[]⟩:=I.obj
 refine wpAny_bind (wpAny_pure (wpAny_bind (wpAny_bind (wpAny_loadPart hx (wpAny_bind (PySem.W.Looks.here (s:={ s with toks:=s.toks + 1 }) (PySem.W.looks_clsIn X hc) ?_))))))
 rw [hd']
 refine wpAny_pure (a:=some dx) (wpAny_bind (wpAny_pure (wpAny_bind ?_)))
 refine wpAny_nsSet1 (s:={ s with toks:=s.toks + 1 }) I.ns fun h' hn2 hs2 => ?_
 obtain ⟨oD,esD,epD,hoD,hdD,hcD⟩:=hn2.count (PySem.Within.cons name v hw)
 refine wpAny_bind (wpAny_lookBehind hoD (by rw [hdD]; exact pastItsLine_dict (Nat.le_trans hcD (by rw [List.length_cons]; omega))) ?_)
 exact wpAny_pure (h _ ⟨(hs2.2 _ (Ne.symm I.ne)).trans I.obj,hn2,I.ne⟩ hs2)
theorem CI {R : Result -> Shared -> Prop} {vs : List Value} {kw : List (Str × Value)} (X : K.In s.heap) (hm : PySem.W.makesIn K C = true)
  (hi : PySem.W.findIn K (.ref C) "__init__" = some (some (.ref f))) (hf : PySem.W.typeIn K (.ref f) = some (.type "function"))
  (h : codeAny (model prog w) (A.under (.builtin "type.__call__" ⟨.ref C :: vs,kw⟩)) (.call (.ref f) ⟨.ref (s.heap.objs.size + 1) :: vs,kw⟩) (PySem.W.InitBack (s.heap.objs.size + 1) R)
   { s with heap:=(s.heap.push PySem.W.emptyDict).push (PySem.W.instObj C s.heap.objs.size) }) :
  codeAny (model prog w) A (.call (.ref C) ⟨vs,kw⟩) R s:=by
 obtain ⟨hh,g,d,t,os⟩:=s
 exact PySem.W.make_core (PySem.W.makes_of X hm) (PySem.W.looks_findIn X hi) (fun self => PySem.W.bind_fn X self hf) (.inl rfl) h
end
def jd (f : Str) (v : V) : List (Str × V) -> List (Str × V)
 | [] => [(f,v)]
 | (g,x) :: r => if g = f then (g,v) :: r else (g,x) :: jd f v r
theorem qu (f g : Str) (v : V) : ∀ fs : List (Str × V),(jd f v fs).lookup g = if g = f then some v else fs.lookup g
 | [] => by
  show List.lookup g [(f,v)] = _
  by_cases h : g = f
  ·have hb : (g == f) = true:=beq_iff_eq.mpr h
   simp only [List.lookup,hb,if_pos h]
  ·have hb : (g == f) = false:=beq_eq_false_iff_ne.mpr h
   simp only [List.lookup,hb,if_neg h]
 | (k,x) :: r => by
  have ih:=qu f g v r
  rw [show jd f v ((k,x) :: r) = (if k = f then (k,v) :: r else (k,x) :: jd f v r) from rfl]
  by_cases hk : k = f
  ·rw [if_pos hk]
   by_cases h : g = k
   ·have hb : (g == k) = true:=beq_iff_eq.mpr h
    simp only [List.lookup,hb,if_pos (h.trans hk)]
   ·have hb : (g == k) = false:=beq_eq_false_iff_ne.mpr h
    simp only [List.lookup,hb,if_neg (fun e : g = f => h (e.trans hk.symm))]
  ·rw [if_neg hk]
   by_cases h : g = k
   ·have hb : (g == k) = true:=beq_iff_eq.mpr h
    simp only [List.lookup,hb,if_neg (fun e : g = f => hk (h.symm.trans e))]
   ·have hb : (g == k) = false:=beq_eq_false_iff_ne.mpr h
    simp only [List.lookup,hb]
    exact ih
theorem pN (f : Str) (v : V) : ∀ fs : List (Str × V),f ∈ (jd f v fs).map (·.1) /\ ∀ g,g ∈ fs.map (·.1) -> g ∈ (jd f v fs).map (·.1)
 | [] => ⟨by simp [jd],fun g h => by simp at h⟩
 | (k,x) :: r => by
  obtain ⟨i1,i2⟩:=pN f v r
  rw [show jd f v ((k,x) :: r) = (if k = f then (k,v) :: r else (k,x) :: jd f v r) from rfl]
  by_cases hk : k = f
  ·rw [if_pos hk]
   subst hk
   exact ⟨by simp,fun g h => by simpa using h⟩
  ·rw [if_neg hk]
   refine ⟨?_,fun g h => ?_⟩
   ·rw [List.map_cons]
    exact List.mem_cons_of_mem _ i1
   ·rw [List.map_cons] at h ⊢
    rcases List.mem_cons.mp h with e | e
    ·exact List.mem_cons.mpr (.inl e)
    ·exact List.mem_cons_of_mem _ (i2 g e)
theorem qt (f : Str) (v : V) : ∀ fs : List (Str × V),(jd f v fs).length <= fs.length + 1
 | [] => by simp [jd]
 | (k,x) :: r => by
  have ih:=qt f v r
  rw [show jd f v ((k,x) :: r) = (if k = f then (k,v) :: r else (k,x) :: jd f v r) from rfl]
  by_cases hk : k = f
  ·rw [if_pos hk,List.length_cons,List.length_cons]; omega
  ·rw [if_neg hk,List.length_cons,List.length_cons]; omega
theorem RelO.some_of {v : V} {o : Option Value} (r : RelO (some v) o) : ∃ u,o = some u /\ RelV v u:=by
 cases o with
 | none => exact (show False from r).elim
 | some u => exact ⟨u,rfl,r⟩
theorem RelO.none_of {o : Option Value} (r : RelO none o) : o = none:=by
 cases o with
 | none => rfl
 | some u => exact (show False from r).elim
theorem Bw {v : V} {u : Value} (r : RelV v u) : PySem.W.handedIn u = true:=by
 cases v with
 | non => cases (show u = Value.none from r); rfl
 | bl b => cases (show u = Value.bool b from r); rfl
 | int i => obtain ⟨t,e⟩:=(show ∃ t,u = Value.int i t from r); cases e; rfl
 | str x => obtain ⟨t,e⟩:=(show ∃ t,u = Value.str x t from r); cases e; rfl
 | byt b => obtain ⟨t,e⟩:=(show ∃ t,u = Value.bytes b t from r); cases e; rfl
 | flt b => obtain ⟨t,e⟩:=(show ∃ t,u = Value.float b t from r); cases e; rfl
 | ref a => cases (show u = Value.ref a from r); rfl
 | ty n => cases (show u = Value.type n from r); rfl
section
variable {P : Program} {w : World} {H H' : Hp} {h h' : Heap} {a C dx : Addr} {fs fs' : List (Str × V)}
theorem rG (hok : HOk P w H h) (e : H a = some (.ins C dx fs)) : ∃ mA,ObjM h a dx C mA /\ (∀ f,RelO (fs.lookup f) (mA f)) /\ PySem.Within mA (fs.map (·.1)) /\ fs.length <= 1000 /\ H dx = some (.own a):=by
 obtain ⟨d,z,ne,ob,mA,n,r,q⟩:=(show ObjOk P w H h a (.ins C dx fs) from hok a _ e)
 exact ⟨mA,⟨ob,n,ne⟩,r,q,z,d⟩
end
structure Cls (K : PySem.W.Frag) (C : Addr) : Prop where
 pg : PySem.W.plainGet K C Str.empty = true
 hd : PySem.W.hasDictIn K C = true
 po : PySem.W.plainOver K C = true
 sa : PySem.W.findIn K (.ref C) "__setattr__" = some (some (.builtin "object.__setattr__"))
theorem Cls.get {K : PySem.W.Frag} {C : Addr} (c : Cls K C) (f : Str) : PySem.W.plainGet K C f = true:=c.pg
def NoAttr (K : PySem.W.Frag) (C : Addr) (f : Str) : Prop:=PySem.W.findIn K (.ref C) f = some none
theorem NoAttr.taker {K : PySem.W.Frag} {C : Addr} {f : Str} (n : NoAttr K C f) : PySem.W.takerIn K C f = some none:=by
 unfold PySem.W.takerIn
 rw [show PySem.W.findIn K (.ref C) f = some none from n]
 rfl
structure Con (K : PySem.W.Frag) (C : Addr) (f : Str) (v : V) (u : Value) : Prop where
 at_ : PySem.W.findIn K (.ref C) f = some (some u)
 rel : RelV v u
 get : PySem.W.specialIn K u "__get__" = some none
 cp : PySem.W.copiedNames.contains f = false
structure Meth (K : PySem.W.Frag) (C : Addr) (m : Str) (f : Addr) : Prop where
 at_ : PySem.W.findIn K (.ref C) m = some (some (.ref f))
 fn : PySem.W.isFn K (.ref f) = true
 kp : PySem.W.keepIn K (.ref f) = true
section
variable {X : Cx} {pins : List (Addr × Obj)} {σ : St} {H : Hp} {s : Shared} {a C dx : Addr} {fs : List (Str × V)} {f : Str} {v : V} {A : Around} {E : Value -> Shared -> Prop}
theorem zX {b : Bool} {Q : Value -> Shared -> Prop} (I : Inv X pins σ H s) (e : H a = some (.ins C dx fs)) (c : Cls X.K C) (n : NoAttr X.K C f) (l : fs.lookup f = some v)
  (h : ∀ u s',Inv X pins σ H s' -> RelV v u -> Q u s') : wpAny (model X.prog X.w) A (getAttr (.ref a) f b) Q E s:=by
 obtain ⟨mA,O,r,_,_,_⟩:=rG I.hok e
 obtain ⟨u,hu,ru⟩:=RelO.some_of (v:=v) (o:=mA f) (by rw [<- l]; exact r f)
 exact get_map I.kIn O (c.get f) c.hd n hu (Bw ru) (h u _ (I.tok _) ru)
theorem sF {m : Str} {g : Addr} {pl : Sem Bool} {Q : Value × List Value -> Shared -> Prop} (I : Inv X pins σ H s) (e : H a = some (.ins C dx fs)) (c : Cls X.K C) (k : Meth X.K C m g) (l : fs.lookup m = none)
  (h : Q (.ref g,[.ref a]) s) : wpAny (model X.prog X.w) A (getMethod (.ref a) m pl) Q E s:=by
 obtain ⟨mA,O,r,_,_,_⟩:=rG I.hok e
 have hn : mA m = none:=RelO.none_of (by rw [<- l]; exact r m)
 exact Cy I.kIn O (c.get m) k.at_ k.fn hn h
theorem Al {y : V} {u : Value} {Q : Unit -> Shared -> Prop} (I : Inv X pins σ H s) (e : H a = some (.ins C dx fs)) (c : Cls X.K C) (n : NoAttr X.K C f) (hl : fs.length < 1000) (ry : RelV y u)
  (h : ∀ s',Inv X pins σ (upd H a (.ins C dx (jd f y fs))) s' -> Q () s') : wpAny (model X.prog X.w) A (setAttr (.ref a) f u) Q E s:=by
 obtain ⟨mA,O,r,wi,_,ho⟩:=rG I.hok e
 have hz : (fs.map (·.1)).length <= sizeLine:=by rw [List.length_map,sizeLine_eq]; omega
 refine Er I.kIn O c.sa c.po n.taker c.hd wi hz fun h' O' sb => h _ ?_
 have hd : ∃ o,h'.get? dx = some o:=let ⟨o,_,_,e',_⟩:=O'.ns; ⟨o,e'⟩
 refine I.write (x:=a) (e:=dx) (by rw [e]; exact True.intro) (.inr ho) (fun b q hb z => (sb.2 b hb).trans z) hd ?_
 refine ⟨by rw [aw O.ne]; exact ho,?_,O.ne,O'.obj,_,O'.ns,fun g => ?_,fun g hg => ?_⟩
 ·have:=qt f y fs; omega
 ·show RelO ((jd f y fs).lookup g) (if g = f then some u else mA g)
  rw [qu]
  by_cases q : g = f
  ·rw [if_pos q,if_pos q]; exact ry
  ·rw [if_neg q,if_neg q]; exact r g
 ·by_cases q : g = f
  ·rw [q]; exact (pN f y fs).1
  ·refine (pN f y fs).2 g (wi g fun z => hg ?_)
   show (if g = f then some u else mA g) = none
   rw [if_neg q]; exact z
theorem Inv.made (I : Inv X pins σ H s) : Inv X pins σ (upd (upd H s.heap.objs.size (.own (s.heap.objs.size + 1))) (s.heap.objs.size + 1) (.ins C s.heap.objs.size []))
  { s with heap:=(s.heap.push PySem.W.emptyDict).push (PySem.W.instObj C s.heap.objs.size) }:=by
 have e1 : (s.heap.push PySem.W.emptyDict).get? s.heap.objs.size = some PySem.W.emptyDict:=Heap.get?_push_size s.heap rfl
 have e2 : ((s.heap.push PySem.W.emptyDict).push (PySem.W.instObj C s.heap.objs.size)).get? (s.heap.objs.size + 1) = some (PySem.W.instObj C s.heap.objs.size):=by
  have:=Heap.get?_push_size (s.heap.push PySem.W.emptyDict) (o:=PySem.W.instObj C s.heap.objs.size) rfl
  rwa [Heap.size_push] at this
 have e3 : (s.heap.push PySem.W.emptyDict).Ns s.heap.objs.size (fun _ => none):=⟨PySem.W.emptyDict,#[],_,e1,rfl,(fun e he => absurd he (by simp)),fun _ => rfl⟩
 have I1:=I.laid (a:=s.heap.objs.size) (o:=.own (s.heap.objs.size + 1)) (h' := s.heap.push PySem.W.emptyDict) (t' := s.toks) (fun b u q => Heap.get?_push_of_some _ q) (Nat.le_refl _) ⟨_,e1⟩
 refine I1.laid (a:=s.heap.objs.size + 1) (o:=.ins C s.heap.objs.size []) (t' := s.toks) (fun b u q => Heap.get?_push_of_some _ q) (Nat.le_of_eq (Heap.size_push _ _)) ?_
 have ne : s.heap.objs.size ≠ s.heap.objs.size + 1:=Nat.ne_of_lt (Nat.lt_succ_self _)
 refine ⟨by rw [aw ne,af],Nat.zero_le _,ne,e2,fun _ => none,(Heap.Ns1.of_empty e3).at fun o q => Heap.get?_push_of_some _ q,fun _ => True.intro,fun y hy => absurd rfl hy⟩
theorem DP {prog : Program} {w : World} {env : Env} {e : Expr} {f : Str} {pos : Pos} {s : Shared} {Q : Value -> Shared -> Prop} (hb : attributeBase e f env (eval e env) = eval e env)
  (h : wpAny (model prog w) A (eval e env) (fun o s₁ => wpAny (model prog w) A (getAttr o f true) Q E s₁) E s) : wpAny (model prog w) A (eval (.Attribute e f pos) env) Q E s:=
 Attribute_any_ h (by rw [arm_eval_Attribute,hb])
end
def Fz (K : PySem.W.Frag) (ta : TE) (f : Str) : TE:=fun σ H Q => ta σ H fun x H1 => ∃ a C dx fs v,x = .ref a /\ H1 a = some (.ins C dx fs) /\ Cls K C /\ NoAttr K C f /\ fs.lookup f = some v /\ Q v H1
def GW (K : PySem.W.Frag) (ta tv : TE) (f : Str) : TS:=fun D σ H => tv σ H fun y H1 => ta σ H1 fun x H2 => ∃ a C dx fs,x = .ref a /\ H2 a = some (.ins C dx fs) /\ Cls K C /\ NoAttr K C f /\ fs.length < 1000 /\
 D.nx σ (upd H2 a (.ins C dx (jd f y fs)))
section
variable {X : Cx} {o e value : Expr} {f : Str} {pos pos' tpos : Pos} {ta tv : TE}
theorem eP (he : PE X e ta) (hb : attributeBase e f X.env (eval e X.env) = eval e X.env) : PE X (.Attribute e f pos) (Fz X.K ta f):=by
 intro pins s σ H Q I h
 refine DP hb (thn (he pins s σ H _ I h) fun u s1 ⟨x,H1,I1,rx,a,C,dx,fs,v,ex,ea,c,n,l,q⟩ => ?_)
 subst ex
 obtain rfl : u = Value.ref a:=rx
 exact zX I1 ea c n l fun u' s2 I2 ru => ⟨v,H1,I2,ru,q⟩
theorem tQ (ha : PE X o ta) (hv : PE X value tv) (hs : swapsWith value (some (.Attribute o f pos')) pos.line X.env = pure false) : PS X (.Assign [.Attribute o f pos'] value pos) (GW X.K ta tv f):=by
 intro pins s σ H D I h
 refine plainObj_wpAny_Assign_Attribute (thn (hv pins s σ H _ I h) fun u s1 ⟨y,H1,I1,ry,q⟩ => thn (ha pins s1 σ H1 _ I1 q) fun ov s2 ⟨x,H2,I2,rx,a,C,dx,fs,ex,ea,c,n,l,q2⟩ => ?_) hs
 subst ex
 obtain rfl : ov = Value.ref a:=rx
 exact Al I2 ea c n l ry fun s3 I3 => ⟨σ,_,I3,q2⟩
end
section
variable {X : Cx} {pins : List (Addr × Obj)} {σ : St} {H : Hp} {s : Shared} {A : Around} {E : Value -> Shared -> Prop} {Q : Value -> Shared -> Prop} {c : Value} {b : Bool}
inductive TyOf (K : PySem.W.Frag) (H : Hp) : V -> Value -> Prop where
 | non : TyOf K H .non (.type "NoneType")
 | bl (x : Bool) : TyOf K H (.bl x) (.type "bool")
 | int (i : Int) : TyOf K H (.int i) (.type "int")
 | str (x : Str) : TyOf K H (.str x) (.type "str")
 | flt (x : UInt64) : TyOf K H (.flt x) (.type "float")
 | lst {a : Addr} {xs : List V} (e : H a = some (.lst xs)) : TyOf K H (.ref a) (.type "list")
 | frz {a : Addr} {o : Obj} {xs : List V} (e : H a = some (.frz o (.lst xs))) : TyOf K H (.ref a) (.type "list")
 | tup {a : Addr} {xs : List V} (e : H a = some (.tup xs)) : TyOf K H (.ref a) (.type "tuple")
 | dK {a : Addr} {kvs : List (Key × V)} (e : H a = some (.dK kvs)) : TyOf K H (.ref a) (.type "dict")
 | dT {a : Addr} {kvs : List (List Key × V)} (e : H a = some (.dT kvs)) : TyOf K H (.ref a) (.type "dict")
 | ins {a C dx : Addr} {fs : List (Str × V)} (e : H a = some (.ins C dx fs)) (cl : Cls K C) (ha : PySem.W.findIn K (.ref C) "__class__" = some (some (.builtin "object.__class__")))
   (hn : PySem.W.specialIn K (.builtin "object.__class__") "__get__" = some (some (.builtin "getset_descriptor.__get__"))) (htk : PySem.W.takesIn K (.builtin "object.__class__") = some true)
   (hm : PySem.W.mroIn K C (.type "object") = some true) : TyOf K H (.ref a) (.ref C)
theorem BA {x : V} {u t : Value} (I : Inv X pins σ H s) (rx : RelV x u) (ty : TyOf X.K H x t) (e : PySem.W.kitOne X.K t c = some b) (h : ∀ tk,Q (.bool b) { s with toks:=tk }) :
  wpAny (model X.prog X.w) A (call (.builtin "isinstance") [u,c]) Q E s:=by
 cases ty with
 | non => cases (show u = Value.none from rx); exact PySem.W.kia_one PySem.W.kitx_none I.kIn True.intro e (fun z => nomatch z) h
 | bl y => cases (show u = Value.bool y from rx); exact PySem.W.kia_one PySem.W.kitx_bool I.kIn True.intro e (fun z => nomatch z) h
 | int i => obtain ⟨t,q⟩:=(show ∃ t,u = Value.int i t from rx); cases q; exact PySem.W.kia_one PySem.W.kitx_int I.kIn True.intro e (fun z => nomatch z) h
 | str y => obtain ⟨t,q⟩:=(show ∃ t,u = Value.str y t from rx); cases q; exact PySem.W.kia_one PySem.W.kitx_str I.kIn True.intro e (fun z => nomatch z) h
 | flt y => obtain ⟨t,q⟩:=(show ∃ t,u = Value.float y t from rx); cases q; exact PySem.W.kia_one PySem.W.kitx_float I.kIn True.intro e (fun z => nomatch z) h
 | @lst a xs ea =>
  cases (show u = Value.ref a from rx)
  obtain ⟨_,_,n,_,h1⟩:=(show ObjOk X.prog X.w H s.heap a (.lst xs) from I.hok a _ ea)
  exact PySem.W.kia_one PySem.W.kitx_list I.kIn ⟨_,h1,rfl⟩ e (fun z => nomatch z) h
 | @frz a ob xs ea =>
  cases (show u = Value.ref a from rx)
  obtain ⟨_,_,_,n,_,h1⟩:=(show ObjOk X.prog X.w H s.heap a (.frz ob (.lst xs)) from I.hok a _ ea)
  exact PySem.W.kia_one PySem.W.kitx_list I.kIn ⟨_,h1,rfl⟩ e (fun z => nomatch z) h
 | @tup a xs ea =>
  cases (show u = Value.ref a from rx)
  obtain ⟨_,_,_,p⟩:=(show ObjOk X.prog X.w H s.heap a (.tup xs) from I.hok a _ ea)
  obtain ⟨o,h1,h2,_⟩:=p
  exact PySem.W.kia_one PySem.W.kitx_tuple I.kIn ⟨o,h1,h2⟩ e (fun z => nomatch z) h
 | @dK a kvs ea =>
  cases (show u = Value.ref a from rx)
  obtain ⟨_,_,vs,_,p⟩:=(show ObjOk X.prog X.w H s.heap a (.dK kvs) from I.hok a _ ea)
  obtain ⟨o,es,ep,h1,h2,_⟩:=p
  exact PySem.W.kia_one PySem.W.kitx_dict I.kIn ⟨o,h1,h2.1⟩ e (fun z => nomatch z) h
 | @dT a kvs ea =>
  cases (show u = Value.ref a from rx)
  obtain ⟨_,_,xs,_,o,es,ep,h1,h2,_⟩:=(show ObjOk X.prog X.w H s.heap a (.dT kvs) from I.hok a _ ea)
  exact PySem.W.kia_one PySem.W.kitx_dict I.kIn ⟨o,h1,h2.1⟩ e (fun z => nomatch z) h
 | @ins a C dx fs ea cl ha hn htk hm =>
  cases (show u = Value.ref a from rx)
  obtain ⟨mA,O,_⟩:=rG I.hok ea
  obtain ⟨od,J,_⟩:=O.look
  exact PySem.W.kia_one (PySem.W.kitx_own (cl.get _) cl.hd ha hn htk hm) I.kIn J e (fun z => nomatch z) h
end
end L2
namespace L2
open PySem PySem.Spec PyProof.Rows
structure Room (k : Nat) (A : Around) : Prop where
 hd : A.handled = none
 dp : A.depth + 3 * k + 5 < recursionLimit
 un : A.units + 16 * k + 200 < cLine
theorem Room.mono {j k : Nat} {A : Around} (r : Room k A) (h : j <= k) : Room j A:=⟨r.hd,by have:=r.dp; omega,by have:=r.un; omega⟩
theorem Room.deeper {k : Nat} {A : Around} (r : Room (k + 1) A) (env : Env) : Room k (A.deeper env):=
 ⟨r.hd,by have:=r.dp; show A.depth + 1 + 3 * k + 5 < _; omega,by have:=r.un; show A.units + 3 + 16 * k + 200 < _; omega⟩
theorem Ab {A : Around} {C : Addr} {us : List Value} {kw : List (Str × Value)} : (A.under (.builtin "type.__call__" ⟨.ref C :: us,kw⟩)).depth = A.depth + 1:=by
 first | rfl | simp [Around.under,Code.weight,Code.isCreation,Code.isGuard,Code.isCaller,Code.frames,Code.isFrame,guardIds]
theorem Ac {A : Around} {C : Addr} {us : List Value} {kw : List (Str × Value)} : (A.under (.builtin "type.__call__" ⟨.ref C :: us,kw⟩)).units = A.units + 1:=by
 first | rfl | simp [Around.under,Code.cUnits,Code.frames,Code.isFrame]
theorem Room.make {k : Nat} {A : Around} (r : Room (k + 1) A) (C : Addr) (us : List Value) (kw : List (Str × Value)) : Room k (A.under (.builtin "type.__call__" ⟨.ref C :: us,kw⟩)):=
 ⟨r.hd,by have:=r.dp; rw [Ab]; omega,by have:=r.un; rw [Ac]; omega⟩
theorem Room.depth {k : Nat} {A : Around} (r : Room k A) : A.depth < recursionLimit:=by have:=r.dp; omega
def gW : TA:=fun _ H Q => Q [] H
def bb (ta : TE) (tr : TA) : TA:=fun σ H Q => ta σ H fun x H1 => tr σ H1 fun xs H2 => Q (x :: xs) H2
section
variable {X : Cx} {e : Expr} {es : List Expr} {te : TE} {t : TA} {pos : Pos}
theorem ae : PA X [] gW:=fun _ _ _ _ H Q I h => Calls.spliced_nil ⟨[],H,I,.nil,h⟩
theorem aa (ha : PE X e te) (hr : PA X es t) (hs : starEach (e :: es) X.env = (false,eval e X.env) :: starEach es X.env:=by rfl) : PA X (e :: es) (bb te t):=by
 intro pos pins s σ H Q I h
 rw [hs]
 show wpAny _ _ (spliced ((false,eval e X.env) :: backTo pos (starEach es X.env))) _ _ s
 refine Calls.spliced_cons (thn (ha pins s σ H _ I h) fun u s1 ⟨x,H1,I1,r1,q1⟩ => ?_)
 exact thn (hr pos pins s1 σ H1 _ I1 q1) fun us s2 ⟨xs,H2,I2,r2,q2⟩ => ⟨x :: xs,H2,I2,.cons r1 r2,q2⟩
def kd (t : TA) : TE:=fun σ H Q => t σ H fun xs H1 => xs.length <= sizeLine /\ ∀ p,H1 p = none -> Q (.ref p) (upd H1 p (.tup xs))
def Gh (t : TA) : TE:=fun σ H Q => t σ H fun xs H1 => xs.length <= sizeLine /\ ∀ p,H1 p = none -> Q (.ref p) (upd H1 p (.lst xs))
theorem a8 {x1} (h : PA X es t) : PE X (.Tuple es x1 pos) (kd t):=by
 intro pins s σ H Q I hq
 refine wpAny_Tuple_spliced (thn (h pos pins s σ H _ I hq) fun us s1 ⟨xs,H1,I1,r,z,q⟩ => ⟨by rw [<- r.length]; exact z,?_⟩)
 have hf : H1 s1.heap.objs.size = none:=I1.hok.fresh (Nat.le_refl _)
 refine ⟨.ref s1.heap.objs.size,upd H1 s1.heap.objs.size (.tup xs),I1.laid (t' := s1.toks) (fun b u e => Heap.get?_push_of_some _ e) (Nat.le_refl _) ?_,rfl,q _ hf⟩
 exact ⟨z,us,r,⟨_,Heap.get?_push_size _ rfl,rfl,_,rfl⟩⟩
theorem cR (h : PA X es t) : PE X (.List es pos) (Gh t):=by
 intro pins s σ H Q I hq
 refine wpAny_List_spliced (thn (h pos pins s σ H _ I hq) fun us s1 ⟨xs,H1,I1,r,z,q⟩ => ⟨by rw [<- r.length]; exact z,?_⟩)
 have hf : H1 s1.heap.objs.size = none:=I1.hok.fresh (Nat.le_refl _)
 refine ⟨.ref s1.heap.objs.size,upd H1 s1.heap.objs.size (.lst xs),I1.laid (t' := s1.toks) (fun b u e => Heap.get?_push_of_some _ e) (Nat.le_refl _) ?_,rfl,q _ hf⟩
 exact ⟨z,us,0,r,Heap.get?_push_size _ rfl⟩
end
abbrev Sp:=List V -> Hp -> VK -> XK -> Prop
abbrev CXT:=List Env -> Hp -> Shared -> XK -> Value -> Shared -> Prop
structure Env0 (P : Program) (w : World) (K : PySem.W.Frag) (mg : Str -> Option Value) (base : Heap) (A : Around) (outer : List Env) (s : Shared) (H : Hp) : Prop where
 frames : A.frames = some outer
 mod : Mod K mg base
 bs : ∀ b o,base.get? b = some o -> s.heap.get? b = some o /\ H b = none
 bsz : base.objs.size <= s.heap.objs.size
 funs : s.heap.FunFrames base outer
 frf : ∀ b ∈ frs outer,H b = none
 hok : HOk P w H s.heap
 bare : AllBare s.gens
def CE (outer : List Env) (P : Program) (w : World) (H : Hp) (s : Shared) (Q : VK) (u : Value) (s' : Shared) : Prop:=
 ∃ v H',s'.os = s.os /\ AllBare s'.gens /\ Un (frs outer) [] H H' s.heap s'.heap /\ HOk P w H' s'.heap /\ RelV v u /\ Q v H'
def CR (CX : CXT) (outer : List Env) (P : Program) (w : World) (H : Hp) (s : Shared) (Q : VK) (E : XK) (r : Result) (s' : Shared) : Prop:=
 match r with
 | .ok (.ret u) => CE outer P w H s Q u s'
 | .ok _ => False
 | .error e => CX outer H s E e s'
structure FnOk (P : Program) (w : World) (K : PySem.W.Frag) (mg : Str -> Option Value) (base : Heap) (CX : CXT) (k : Nat) (f : Addr) (fd : FuncData) (ps : List Str) (sp : Sp) : Prop where
 len : ∀ vs H Q E,sp vs H Q E -> vs.length = ps.length
 run : ∀ (A : Around) (outer : List Env) (s : Shared) (H : Hp) (args : Args) (us : List Value) (vs : List V) (Q : VK) (E : XK),Room k A -> Env0 P w K mg base A outer s H -> BindsTo s fd args (ps.zip us) -> Vals vs us -> sp vs H Q E ->
  codeAny (model P w) A (.call (.ref f) args) (CR CX outer P w H s Q E) s
theorem FnOk.imp {P : Program} {w : World} {K : PySem.W.Frag} {mg : Str -> Option Value} {base : Heap} {CX : CXT} {k : Nat} {f : Addr} {fd : FuncData} {ps : List Str} {sp sp' : Sp} (F : FnOk P w K mg base CX k f fd ps sp)
  (h : ∀ vs H Q E,sp' vs H Q E -> sp vs H Q E) : FnOk P w K mg base CX k f fd ps sp' :=
 ⟨fun vs H Q E q => F.len vs H Q E (h _ _ _ _ q),fun A outer s H args us vs Q E hr he hb hv hs => F.run A outer s H args us vs Q E hr he hb hv (h _ _ _ _ hs)⟩
theorem Env0.make {P : Program} {w : World} {K : PySem.W.Frag} {mg : Str -> Option Value} {base : Heap} {A : Around} {outer : List Env} {s : Shared} {H : Hp} (e : Env0 P w K mg base A outer s H) (C : Addr) (us : List Value) (kw : List (Str × Value)) :
  Env0 P w K mg base (A.under (.builtin "type.__call__" ⟨.ref C :: us,kw⟩)) outer s H:=⟨by first | exact e.frames | (simpa [Around.under,Code.envs,Code.isFrame,pushEnvs] using e.frames),e.mod,e.bs,e.bsz,e.funs,e.frf,e.hok,e.bare⟩
section
variable {X : Cx} {pins : List (Addr × Obj)} {σ : St} {H : Hp} {s s' : Shared}
theorem Inv.env0 (I : Inv X pins σ H s) : Env0 X.prog X.w X.K X.mg X.base X.A X.stack s H:=
 ⟨I.ok.frames,I.ok.mod,I.bs,Nat.le_trans I.ok.bsz I.sz,I.stack,I.stkFree,I.hok,I.bare⟩
theorem Inv.after {Q : VK} {u : Value} (I : Inv X pins σ H s) (h : CE X.stack X.prog X.w H s Q u s') : EP X pins σ Q u s' := by
 obtain ⟨v,H',os,bare,un,hok,r,q⟩:=h
 obtain ⟨hh,g,d,t,os'⟩:=s'
 obtain rfl : os' = s.os:=os
 exact ⟨v,H',I.call (h' := hh) (g' := g) (d' := d) (t' := t) (ch:=[]) un hok bare (fun b z => absurd z (by simp)),r,q⟩
end
def Bb (sp : Sp) (dvs : List V) (E : XK) (t : TA) : TE:=fun σ H Q => t σ H fun vs H1 => sp (vs ++ dvs) H1 Q E
def Bc (C : Addr) (m : Str) (sp : Sp) (dvs : List V) (E : XK) (ta : TE) (t : TA) : TE:=fun σ H Q => ta σ H fun x H1 => ∃ a dx fs,x = .ref a /\ H1 a = some (.ins C dx fs) /\ fs.lookup m = none /\
 t σ H1 fun vs H2 => sp (x :: (vs ++ dvs)) H2 Q E
def EK (C : Addr) (sp : Sp) (dvs : List V) (E : XK) (t : TA) : TE:=fun σ H Q => t σ H fun vs H1 => ∀ x dx,H1 x = none -> H1 dx = none -> dx ≠ x ->
 sp (.ref x :: (vs ++ dvs)) (upd (upd H1 dx (.own x)) x (.ins C dx [])) (fun v H2 => v = .non /\ Q (.ref x) H2) E
def Binds (K : PySem.W.Frag) (fd : FuncData) (ps : List Str) (ds : List Value) : Prop:=
 ∀ (s : Shared) (us : List Value),K.In s.heap -> (us ++ ds).length = ps.length -> BindsTo s fd ⟨us,[]⟩ (ps.zip (us ++ ds))
theorem Binds.all {K : PySem.W.Frag} {fd : FuncData} {ps : List Str} (h : ∀ us : List Value,us.length = ps.length -> bindArgs fd ⟨us,[]⟩ = pure (ps.zip us)) : Binds K fd ps []:=fun s us _ hl => by
 rw [List.append_nil] at hl ⊢
 exact .of_eq (h us hl)
def Passes (CX : CXT) (X : Cx) (E : XK) : Prop := ∀ (pins : List (Addr × Obj)) (σ : St) (H : Hp) (s : Shared) (e : Value) (s' : Shared),Inv X pins σ H s -> CX X.stack H s E e s' -> X.xe e s'
section
variable {X : Cx} {CX : CXT} {k : Nat} {f C : Addr} {fd : FuncData} {ps : List Str} {sp : Sp} {dvs : List V} {ds : List Value} {E : XK} {x m : Str} {p pos apos : Pos} {e o : Expr} {es : List Expr} {ta : TE} {t : TA}
theorem yb {pins : List (Addr × Obj)} {σ : St} {H : Hp} {s : Shared} {Q : VK} {us : List Value} {vs : List V} (F : FnOk X.prog X.w X.K X.mg X.base CX k f fd ps sp) (hr : Room k X.A) (hb : Binds X.K fd ps ds) (hd : Vals dvs ds) (hx : Passes CX X E)
  (I : Inv X pins σ H s) (r : Vals vs us) (h : sp (vs ++ dvs) H Q E) : wpAny (model X.prog X.w) X.A (call (.ref f) us) (EP X pins σ Q) X.xe s:=by
 have r2 : Vals (vs ++ dvs) (us ++ ds):=r.append hd
 have hl : (us ++ ds).length = ps.length:=by rw [<- r2.length]; exact F.len _ _ _ _ h
 refine wpAny_call (codeAny_mono (F.run X.A X.stack s H ⟨us,[]⟩ (us ++ ds) (vs ++ dvs) Q E hr I.env0 (hb s us I.kIn hl) r2 h) fun r s' hq => ?_)
 cases r with
 | error e => exact hx pins σ H s e s' I hq
 | ok fl =>
  cases fl with
  | ret u => exact I.after hq
  | next => exact False.elim hq
  | brk => exact False.elim hq
  | cont => exact False.elim hq
theorem Eg (F : FnOk X.prog X.w X.K X.mg X.base CX k f fd ps sp) (hr : Room k X.A) (hg : Gl X x) (hm : X.mg x = some (.ref f)) (hk : PySem.W.keepIn X.K (.ref f) = true) (hb : Binds X.K fd ps ds) (hd : Vals dvs ds) (hx : Passes CX X E)
  (ha : PA X (e :: es) t) (hdb : (x == ("__debug__" : Str)) = false:=by decide) (he : starEach (e :: es) X.env = (false,eval e X.env) :: starEach es X.env:=by rfl) (hpl : (backTo pos (starEach es X.env)).any (·.1) = false:=by rfl) :
  PE X (.Call (.Name x p) (e :: es) [] pos) (Bb sp dvs E t):=by
 intro pins s σ H Q I h
 refine wpAny_Call_Name_kw (rH I hg hm ?_ hdb)
 refine PySem.W.callWith_K (h₀:=X.base) I.ok.mod.kin hk (thn (ha pos pins s σ H _ I h) fun us s1 ⟨vs,H1,I1,r,q⟩ => ⟨I1.kIn,?_⟩) he hpl
 exact yb F hr hb hd hx I1 r q
theorem C5 (F : FnOk X.prog X.w X.K X.mg X.base CX k f fd ps sp) (hr : Room k X.A) (hg : Gl X x) (hm : X.mg x = some (.ref f)) (hk : PySem.W.keepIn X.K (.ref f) = true) (hb : Binds X.K fd ps ds) (hd : Vals dvs ds) (hx : Passes CX X E)
  (hdb : (x == ("__debug__" : Str)) = false:=by decide) : PE X (.Call (.Name x p) [] [] pos) (Bb sp dvs E gW):=by
 intro pins s σ H Q I h
 refine wpAny_Call_Name_kw (rH I hg hm ?_ hdb)
 exact PySem.W.callWith_K0 I.kIn hk (yb (us:=[]) F hr hb hd hx I .nil h)
theorem Ei {pl : Sem Bool} (he : PE X o ta) (c : Cls X.K C) (hm : Meth X.K C m f) (F : FnOk X.prog X.w X.K X.mg X.base CX k f fd ps sp) (hr : Room k X.A) (hb : Binds X.K fd ps ds) (hd : Vals dvs ds) (hx : Passes CX X E) (ha : PA X (e :: es) t)
  (hst : starEach (e :: es) X.env = (false,eval e X.env) :: starEach es X.env:=by rfl) (hpl : (backTo pos (starEach es X.env)).any (·.1) = false:=by rfl)
  (ht : eval (.Call (.Attribute o m apos) (e :: es) [] pos) X.env = (do
   let ov <- eval o X.env
   standAt apos.atName
   let (f,first) <- holding [ov] (getMethod ov m pl)
   callWith pos f first (backTo pos (starEach (e :: es) X.env)) (backToKw pos (keywordEach [] X.env))):=by rfl) :
  PE X (.Call (.Attribute o m apos) (e :: es) [] pos) (Bc C m sp dvs E ta t):=by
 intro pins s σ H Q I h
 refine PySem.W.methodCall_KW (pl:=pl) (thn (he pins s σ H _ I h) fun u s1 ⟨x,H1,I1,rx,a,dx,fs,ex,ea,l,q⟩ => ?_) ht
 subst ex
 obtain rfl : u = Value.ref a:=rx
 refine sF I1 ea c hm l ?_
 refine PySem.W.callWith_K (first:=[.ref a]) (h₀:=X.base) I.ok.mod.kin hm.kp (thn (ha pos pins s1 σ H1 _ I1 q) fun us s2 ⟨vs,H2,I2,r,q2⟩ => ⟨I2.kIn,?_⟩) hst hpl
 exact yb (us:=.ref a :: us) (vs:=.ref a :: vs) F hr hb hd hx I2 (.cons rfl r) q2
theorem C7 {pl : Sem Bool} (he : PE X o ta) (c : Cls X.K C) (hm : Meth X.K C m f) (F : FnOk X.prog X.w X.K X.mg X.base CX k f fd ps sp) (hr : Room k X.A) (hb : Binds X.K fd ps ds) (hd : Vals dvs ds) (hx : Passes CX X E)
  (ht : eval (.Call (.Attribute o m apos) [] [] pos) X.env = (do
   let ov <- eval o X.env
   standAt apos.atName
   let (f,first) <- holding [ov] (getMethod ov m pl)
   callWith pos f first (backTo pos (starEach [] X.env)) (backToKw pos (keywordEach [] X.env))):=by rfl) :
  PE X (.Call (.Attribute o m apos) [] [] pos) (Bc C m sp dvs E ta gW):=by
 intro pins s σ H Q I h
 refine PySem.W.methodCall_KW (pl:=pl) (thn (he pins s σ H _ I h) fun u s1 ⟨x,H1,I1,rx,a,dx,fs,ex,ea,l,q⟩ => ?_) ht
 subst ex
 obtain rfl : u = Value.ref a:=rx
 refine sF I1 ea c hm l ?_
 exact PySem.W.callWith_K0 (first:=[.ref a]) I1.kIn hm.kp (yb (us:=[.ref a]) (vs:=[.ref a]) F hr hb hd hx I1 (.cons rfl .nil) q)
structure Mk (K : PySem.W.Frag) (C f : Addr) : Prop where
 makes : PySem.W.makesIn K C = true
 init : PySem.W.findIn K (.ref C) "__init__" = some (some (.ref f))
 fn : PySem.W.isFn K (.ref f) = true
 kp : PySem.W.keepIn K (.ref C) = true
theorem Dd {pins : List (Addr × Obj)} {σ : St} {H : Hp} {s : Shared} {Q : VK} {us : List Value} {vs : List V} (M : Mk X.K C f) (F : FnOk X.prog X.w X.K X.mg X.base CX k f fd ps sp) (hr : Room (k + 1) X.A) (hb : Binds X.K fd ps ds) (hd : Vals dvs ds)
  (hx : Passes CX X E) (I : Inv X pins σ H s) (r : Vals vs us)
  (h : ∀ x dx,H x = none -> H dx = none -> dx ≠ x -> sp (.ref x :: (vs ++ dvs)) (upd (upd H dx (.own x)) x (.ins C dx [])) (fun v H2 => v = .non /\ Q (.ref x) H2) E) :
  wpAny (model X.prog X.w) X.A (call (.ref C) us) (EP X pins σ Q) X.xe s:=by
 have hq:=h (s.heap.objs.size + 1) s.heap.objs.size (I.hok.fresh (Nat.le_succ _)) (I.hok.fresh (Nat.le_refl _)) (Nat.ne_of_lt (Nat.lt_succ_self _))
 have I2:=Inv.made (C:=C) I
 have r2 : Vals (V.ref (s.heap.objs.size + 1) :: (vs ++ dvs)) (Value.ref (s.heap.objs.size + 1) :: (us ++ ds)):=.cons rfl (r.append hd)
 have hl : (Value.ref (s.heap.objs.size + 1) :: us ++ ds).length = ps.length:=by
  have e:=r2.length
  rw [F.len _ _ _ _ hq] at e
  exact e.symm
 refine wpAny_call (CI (f:=f) I.kIn M.makes M.init (beq_iff_eq.mp M.fn) (codeAny_mono (F.run _ X.stack _ _ ⟨Value.ref (s.heap.objs.size + 1) :: us,[]⟩ (Value.ref (s.heap.objs.size + 1) :: (us ++ ds)) _ _ E (hr.make C us [])
  (I2.env0.make C us []) (hb _ (Value.ref (s.heap.objs.size + 1) :: us) I2.kIn hl) r2 hq) fun r s' hq' => ?_))
 cases r with
 | error e => exact hx pins σ _ _ e s' I2 hq'
 | ok fl =>
  cases fl with
  | ret u =>
   obtain ⟨v,H',I3,rv,ev,q3⟩:=I2.after hq'
   subst ev
   exact ⟨rv,⟨V.ref (s.heap.objs.size + 1),H',I3,rfl,q3⟩⟩
  | next => exact False.elim hq'
  | brk => exact False.elim hq'
  | cont => exact False.elim hq'
theorem Eh (M : Mk X.K C f) (F : FnOk X.prog X.w X.K X.mg X.base CX k f fd ps sp) (hr : Room (k + 1) X.A) (hg : Gl X x) (hm : X.mg x = some (.ref C)) (hb : Binds X.K fd ps ds) (hd : Vals dvs ds) (hx : Passes CX X E)
  (ha : PA X (e :: es) t) (hdb : (x == ("__debug__" : Str)) = false:=by decide) (he : starEach (e :: es) X.env = (false,eval e X.env) :: starEach es X.env:=by rfl) (hpl : (backTo pos (starEach es X.env)).any (·.1) = false:=by rfl) :
  PE X (.Call (.Name x p) (e :: es) [] pos) (EK C sp dvs E t):=by
 intro pins s σ H Q I h
 refine wpAny_Call_Name_kw (rH I hg hm ?_ hdb)
 refine PySem.W.callWith_K (h₀:=X.base) I.ok.mod.kin M.kp (thn (ha pos pins s σ H _ I h) fun us s1 ⟨vs,H1,I1,r,q⟩ => ⟨I1.kIn,?_⟩) he hpl
 exact Dd M F hr hb hd hx I1 r q
end
section
variable {X : Cx} {CX : CXT} {k : Nat} {f C : Addr} {fd : FuncData} {ps ks : List Str} {sp : Sp} {E : XK} {x m : Str} {p pos apos kpos : Pos} {e o : Expr} {es : List Expr} {kws : List Keyword} {te ta : TE} {t tk : TA} {nm : Option Str}
structure KBinds (K : PySem.W.Frag) (fd : FuncData) (ps ks : List Str) (g : List Value -> List Value -> List Value) (gV : List V -> List V -> List V) : Prop where
 to : ∀ (s : Shared) (us ws : List Value),K.In s.heap -> (g us ws).length = ps.length -> BindsTo s fd ⟨us,ks.zip ws⟩ (ps.zip (g us ws))
 rel : ∀ {vs : List V} {us : List Value} {zs : List V} {ws : List Value},Vals vs us -> Vals zs ws -> Vals (gV vs zs) (g us ws)
variable {g : List Value -> List Value -> List Value} {gV : List V -> List V -> List V}
end
structure FnScope (N P : List Str) (sc : Scope) : Prop where
 kind : sc.kind = .function
 co : sc.isCoroutine = false
 gen : sc.isGenerator = false
 nd : N.Nodup
 pre : N.take P.length = P
 par : ∀ x ∈ P,sc.names.lookup x = some .local \/ sc.names.lookup x = some .cell
 nofree : ∀ y ∈ sc.names,y.2 ≠ .free
theorem vX {kindOf : Str -> Option NameKind} {x : Str} : ∀ {binds : List (Str × Value)} {m : Str -> Option Value},(∀ v,(x,v) ∉ binds) -> bindL kindOf binds m x = m x
 | [],_,_ => rfl
 | (n,v) :: r,m,h => by
  unfold bindL
  rw [vX fun w hw => h w (List.mem_cons_of_mem _ hw)]
  split
  ·have : x ≠ n:=by rintro rfl; exact h v List.mem_cons_self
   simp [this]
  ·rfl
theorem vV {kindOf : Str -> Option NameKind} {x : Str} : ∀ {binds : List (Str × Value)} {m : Str -> Option Value},(∀ v,(x,v) ∉ binds) -> bindC kindOf binds m x = m x
 | [],_,_ => rfl
 | (n,v) :: r,m,h => by
  unfold bindC
  rw [vV fun w hw => h w (List.mem_cons_of_mem _ hw)]
  split
  ·rfl
  ·have : x ≠ n:=by rintro rfl; exact h v List.mem_cons_self
   simp [this]
theorem vW {kindOf : Str -> Option NameKind} {x : Str} {v : Value} : ∀ {P : List Str} {vs : List Value} {i : Nat} {m : Str -> Option Value},P.Nodup -> P[i]? = some x -> vs[i]? = some v -> kindOf x = some .local ->
  bindL kindOf (P.zip vs) m x = some v
 | [],_,_,_,_,h,_,_ => by simp at h
 | _ :: _,[],_,_,_,_,h,_ => by simp at h
 | p :: P,w :: vs,0,m,nd,h1,h2,hk => by
  simp at h1 h2; subst h1; subst h2
  show bindL kindOf ((p,w) :: P.zip vs) m p = _
  unfold bindL
  rw [vX fun v hv => (List.nodup_cons.mp nd).1 (List.of_mem_zip hv).1,if_pos hk]
  simp
 | p :: P,w :: vs,i + 1,m,nd,h1,h2,hk => by
  show bindL kindOf ((p,w) :: P.zip vs) m x = _
  unfold bindL
  exact vW (i:=i) (List.nodup_cons.mp nd).2 (by simpa using h1) (by simpa using h2) hk
theorem vU {kindOf : Str -> Option NameKind} {x : Str} {v : Value} : ∀ {P : List Str} {vs : List Value} {i : Nat} {m : Str -> Option Value},P.Nodup -> P[i]? = some x -> vs[i]? = some v -> kindOf x ≠ some .local ->
  bindC kindOf (P.zip vs) m x = some v
 | [],_,_,_,_,h,_,_ => by simp at h
 | _ :: _,[],_,_,_,_,h,_ => by simp at h
 | p :: P,w :: vs,0,m,nd,h1,h2,hk => by
  simp at h1 h2; subst h1; subst h2
  show bindC kindOf ((p,w) :: P.zip vs) m p = _
  unfold bindC
  rw [vV fun v hv => (List.nodup_cons.mp nd).1 (List.of_mem_zip hv).1,if_neg hk]
  simp
 | p :: P,w :: vs,i + 1,m,nd,h1,h2,hk => by
  show bindC kindOf ((p,w) :: P.zip vs) m x = _
  unfold bindC
  exact vU (i:=i) (List.nodup_cons.mp nd).2 (by simpa using h1) (by simpa using h2) hk
def start (N : List Str) (vs : List V) : St:=vs.map some ++ List.replicate (N.length - vs.length) none
def Bt (CX : CXT) (P : Program) (w : World) (K : PySem.W.Frag) (mg : Str -> Option Value) (base : Heap) (N : List Str) (qual : Str) (scope : Scope) (f : Addr) (cd : Value) (A : Around) (outer : List Env) (s : Shared) (H : Hp) (E : XK) : Cx where
 prog:=P
 w:=w
 K:=K
 mg:=mg
 base:=base
 A:=A.deeper (envOfC qual scope s.heap.objs.size f cd)
 N:=N
 s₀:=s
 H₀:=H
 env:=envOfC qual scope s.heap.objs.size f cd
 outer:=outer
 stack:=envOfC qual scope s.heap.objs.size f cd :: outer
 ex:=[]
 calm:=true
 fn:=fun _ => true
 pn:=[]
 xe:=fun e s' => wpAny (model P w) (A.deeper (envOfC qual scope s.heap.objs.size f cd)) (leaving (envOfC qual scope s.heap.objs.size f cd) e) (fun _ s'' => CX outer H s E e s'') (fun e' s'' => CX outer H s E e' s'') s'
theorem yH {sc : Scope} {n : Nat} {x : Str} (h : sc.names.lookup x = some .cell) : ∃ c,(cellsFrom n sc.names []).lookup x = some c:=by
 have q:=PySem.W.cellsFrom_some sc.names n [] (.inl h)
 exact Option.isSome_iff_exists.mp q
theorem Bz {CX : CXT} {P : Program} {w : World} {K : PySem.W.Frag} {mg : Str -> Option Value} {base : Heap} {N ps : List Str} {qual : Str} {scope : Scope} {f : Addr} {cd : Value} {A : Around} {outer : List Env} {s s1 : Shared} {H : Hp} {E : XK} {us : List Value} {vs : List V}
  (S : FnScope N ps scope) (hd : A.handled = none) (e0 : Env0 P w K mg base A outer s H) (hl : vs.length = ps.length) (r : Vals vs us)
  (x : InCallC s s.heap.objs.size (bindL (envOfC qual scope s.heap.objs.size f cd).kindOf (ps.zip us) fun _ => none) (cellsFrom (s.heap.objs.size + 1) scope.names []) (bindC (envOfC qual scope s.heap.objs.size f cd).kindOf (ps.zip us) fun _ => none) s1) :
  Inv (Bt CX P w K mg base N qual scope f cd A outer s H E) [] (start N vs) H s1:=by
 have hpl : ps.length <= N.length:=by have:=congrArg List.length S.pre; rw [List.length_take] at this; omega
 obtain ⟨h1,tk,rfl,hk⟩:=x.done
 have noA : ∀ b : Addr,b ∉ (Bt CX P w K mg base N qual scope f cd A outer s H E).ex:=fun b z => absurd (show b ∈ ([] : List Addr) from z) (by simp)
 refine ⟨⟨e0.mod,S.kind,rfl,rfl,Nat.le_refl _,fun y z c h1 h2 => ?_,fun y hy => ?_,fun y c _ h => ?_,fun _ => hd,Around.frames_deeper e0.frames,.inr ⟨rfl,rfl⟩,fun b z => absurd z (noA b),e0.bs,e0.bsz,fun b _ _ => noA b,fun b z => absurd z (noA b),e0.funs,e0.frf⟩,
  rfl,e0.bare,Un.kept hk,⟨_,x.toInCall.ns,fun i y v h1 h2 h3 => ?_⟩,fun y c h => ⟨_,x.cell y c h⟩,e0.hok.fresh (Nat.le_refl _),fun y c h => ?_,fun p hp => absurd (show p ∈ ([] : List (Addr × Obj)) from hp) (by simp),e0.hok.kept hk,?_⟩
 ·exact name_of_addr x.apart (PySem.mem_of_lookup h1) (PySem.mem_of_lookup h2)
 ·have hy : scope.names.lookup y = some .cell \/ scope.names.lookup y = some .free:=hy
  rcases hy with hy | hy
  ·exact yH hy
  ·exact absurd rfl (S.nofree _ (PySem.mem_of_lookup hy))
 ·exact Nat.le_of_lt (x.above y c (PySem.mem_of_lookup h))
 ·have hi : i < vs.length:=by
   unfold start at h2
   by_cases hi : i < vs.length
   ·exact hi
   ·rw [List.getElem?_append_right (by simpa using hi)] at h2
    rw [List.getElem?_replicate] at h2
    split at h2 <;> cases h2
  have ha : vs[i]? = some v:=by
   unfold start at h2
   rw [List.getElem?_append_left (by simpa using hi),List.getElem?_map] at h2
   cases e : vs[i]? with
   | none => rw [e] at h2; cases h2
   | some a => rw [e] at h2; cases h2; rfl
  obtain ⟨u,hu,rv⟩:=r.get ha
  have hp : ps[i]? = some y:=by
   rw [<- S.pre,List.getElem?_take_of_lt (by omega)]; exact h1
  have ndP : ps.Nodup:=by rw [<- S.pre]; exact S.nd.sublist (List.take_sublist _ _)
  refine ⟨u,rv,?_⟩
  rcases S.par y (List.mem_of_getElem? hp) with k | k
  ·exact .inl ⟨k,vW ndP hp hu k⟩
  ·obtain ⟨c,e⟩:=yH (n:=s.heap.objs.size + 1) k
   refine .inr ⟨.inl k,c,e,?_⟩
   have q:=x.cell y c e
   rw [vU ndP hp hu (by show scope.names.lookup y ≠ _; rw [k]; decide)] at q
   exact q
 ·exact e0.hok.fresh (Nat.le_of_lt (x.above y c (PySem.mem_of_lookup h)))
 ·unfold start
  show _ = N.length
  rw [List.length_append,List.length_map,List.length_replicate]
  omega
theorem FN {CX : CXT} {P : Program} {w : World} {K : PySem.W.Frag} {mg : Str -> Option Value} {base : Heap} {k : Nat} {f : Addr} {name qual : Str} {params : Arguments} {body : List Stmt} {scope : Scope} {dV kV doc pm cdv ct oc : Value} {an od : Option Addr}
  {osl : Array (Option Value)} {N ps : List Str} {sp : Sp} (lk : K.lookup f = some ⟨oc,od,.func (PySem.W.fnOf name qual params body scope dV kV doc pm an cdv ct),osl⟩) (hcd : PySem.W.codeIn K cdv qual = true) (S : FnScope N ps scope)
  (len : ∀ vs H Q E,sp vs H Q E -> vs.length = ps.length)
  (hbody : ∀ (A : Around) (outer : List Env) (s : Shared) (H : Hp) (vs : List V) (Q : VK) (E : XK),Room k (A.deeper (envOfC qual scope s.heap.objs.size f cdv)) -> sp vs H Q E ->
   ∃ t,PSs (Bt CX P w K mg base N qual scope f cdv A outer s H E) body t /\ t { nx:=fun _ H' => Q .non H',rt:=Q } (start N vs) H) :
  FnOk P w K mg base CX (k + 1) f (PySem.W.fnOf name qual params body scope dV kV doc pm an cdv ct) ps sp:=by
 refine ⟨len,fun A outer s H args us vs Q E hr e0 hb r hsp => ?_⟩
 have hl:=len _ _ _ _ hsp
 have KX : K.In s.heap:=e0.mod.kin.keeps fun b o e => (e0.bs b o e).1
 have lim : s.heap.NoLimit:=e0.mod.nolimit.keeps fun b o e => (e0.bs b o e).1
 have hkind : ∀ y ∈ ps.zip us,scope.names.lookup y.1 = some .local \/ (scope.names.lookup y.1 = some .cell /\ ((cellsFrom (s.heap.objs.size + 1) scope.names []).lookup y.1).isSome = true):=fun ⟨n,v⟩ hy => by
  rcases S.par n (List.of_mem_zip hy).1 with q | q
  ·exact .inl q
  ·exact .inr ⟨q,PySem.W.cellsFrom_some _ _ _ (.inl q)⟩
 refine codeAny_call_function hr.depth (KX _ _ lk) rfl S.co S.gen rfl (PySem.W.codeRec_of KX hcd) (hb _ _ _ _ ?_)
 refine wpAny_newFunctionEnv_cells S.kind hkind fun env he s1 x => ?_
 subst he
 refine ⟨lim.keeps x.toInCall.keep,codeAny_func ?_⟩
 obtain ⟨t,ht,hq⟩:=hbody A outer s H vs Q E (hr.deeper _) hsp
 have I : Inv (Bt CX P w K mg base N qual scope f cdv A outer s H E) [] (start N vs) H s1:=Bz S hr.hd e0 hl r x
 refine wpAny_mono (ht [] s1 (start N vs) H _ I hq) (fun fl s' hs => ?_) fun e s' hs => hs
 have fin : ∀ {σ' : St} {H' : Hp} {v : V} {u : Value},Inv (Bt CX P w K mg base N qual scope f cdv A outer s H E) [] σ' H' s' -> RelV v u -> Q v H' -> CE outer P w H s Q u s' :=
  fun {σ' H' v u} J rv q => ⟨v,H',J.os,J.bare,J.base,J.hok,rv,q⟩
 cases fl with
 | ret u =>
  obtain ⟨v,σ',H',J,rv,q⟩:=hs
  exact fin J rv q
 | next =>
  obtain ⟨σ',H',J,q⟩:=hs
  exact fin (v:=V.non) (u:=Value.none) J rfl q
 | brk =>
  obtain ⟨_,_,_,q⟩:=hs
  exact False.elim q
 | cont =>
  obtain ⟨_,_,_,q⟩:=hs
  exact False.elim q
end L2
namespace L2
open PySem PySem.Spec PyProof.Rows
section
variable {X : Cx} {x : Str} {p pos : Pos} {e : Expr} {es : List Expr} {t : TA} {id T : String} {r : List V -> Hp -> VK -> Prop}
def tCB (r : List V -> Hp -> VK -> Prop) (t : TA) : TE:=fun σ H Q => t σ H fun vs H1 => r vs H1 Q
theorem aB (hc : fk X (.builtin id) r) (hg : Gl X x) (hm : X.mg x = none) (hv : bootBuiltins x = some (.builtin id)) (ha : PA X (e :: es) t) (hn : x ≠ "__name__" := by decide) (hdb : (x == ("__debug__" : Str)) = false:=by decide)
  (he : starEach (e :: es) X.env = (false,eval e X.env) :: starEach es X.env:=by rfl) (hpl : (backTo pos (starEach es X.env)).any (·.1) = false:=by rfl) : PE X (.Call (.Name x p) (e :: es) [] pos) (tCB r t):=by
 intro pins s σ H Q I h
 refine wpAny_Call_Name_kw (sO I hg hm hv ?_ hn hdb)
 exact PyProof.Rows.callWith_builtin1 (thn (ha pos pins s σ H _ I h) fun us s1 ⟨vs,H1,I1,r1,q1⟩ => hc pins s1 σ H1 vs us Q I1 r1 q1) he hpl
theorem bo (hc : fk X (.type T) r) (hg : Gl X x) (hm : X.mg x = none) (hv : bootBuiltins x = some (.type T)) (ha : PA X (e :: es) t) (hn : x ≠ "__name__" := by decide) (hdb : (x == ("__debug__" : Str)) = false:=by decide)
  (he : starEach (e :: es) X.env = (false,eval e X.env) :: starEach es X.env:=by rfl) (hpl : (backTo pos (starEach es X.env)).any (·.1) = false:=by rfl) : PE X (.Call (.Name x p) (e :: es) [] pos) (tCB r t):=by
 intro pins s σ H Q I h
 refine wpAny_Call_Name_kw (sO I hg hm hv ?_ hn hdb)
 exact PyProof.Rows.callWith_type1 (thn (ha pos pins s σ H _ I h) fun us s1 ⟨vs,H1,I1,r1,q1⟩ => hc pins s1 σ H1 vs us Q I1 r1 q1) he hpl
end
end L2
namespace HT
open PySem PyProof.Rows
section
open PySem.SeqAt
open PySem.AutoSeq1 (wpAny_loadPart')
open PySem.MeetsSeq PySem.MeetsSeq2 PySem.MeetsSeq3
end
section
variable {prog : Program} {w : World} {A : Around} {E : Value -> Shared -> Prop} {s : Shared}
theorem cat_tup {t b : Addr} {vs ws : List Value} {Q : Value -> Shared -> Prop} (ht : IsTup s.heap t vs.toArray) (hb : IsTup s.heap b ws.toArray) (hv : vs ≠ [])
  (h1 : ws = [] -> Q (.ref t) s) (h2 : ws ≠ [] -> Q (.ref s.heap.objs.size) { s with heap:=s.heap.push { cls:=.type "tuple",data:=.seq (vs ++ ws).toArray } })
  (hsz : vs.length + ws.length <= sizeLine) : wpAny (model prog w) A (binaryOp .Add (.ref t) (.ref b)) Q E s:=by
 obtain ⟨⟨cls,dd,data,sl⟩,ho,hc,n,hd⟩:=id ht
 obtain ⟨⟨cls2,dd2,data2,sl2⟩,ho2,hc2,n2,hd2⟩:=id hb
 simp only at hc hd hc2 hd2
 subst hc hd hc2 hd2
 have e : vs.toArray ++ ws.toArray = (vs ++ ws).toArray:=by simp
 by_cases hw : ws = []
 ·exact concat_meets ⟨_,ho,rfl⟩ ⟨_,ho2,rfl⟩ noFill_tuple_add seq_tuple_add PySem.F.slot_tuple_add PySem.F.entry_tuple_add (PySem.F.args_tuple_add_2 _ _)
   (tuple_addW1 t b vs.toArray ws.toArray n n2 dd dd2 sl sl2 (by simpa using hv) (by simp [hw])) ⟨ho,ho2,h1 hw⟩
 ·refine concat_meets ⟨_,ho,rfl⟩ ⟨_,ho2,rfl⟩ noFill_tuple_add seq_tuple_add PySem.F.slot_tuple_add PySem.F.entry_tuple_add (PySem.F.args_tuple_add_2 _ _)
   (tuple_addW2 t b vs.toArray ws.toArray n n2 dd dd2 sl sl2 (by simpa using hv) (by simpa using hw) (by rw [List.size_toArray,List.size_toArray]; exact hsz)) ⟨ho,ho2,?_⟩
  rw [e]
  exact h2 hw
def sIx (n d : Nat) : Option Int -> Nat
 | none => d
 | some v => if v < 0 then (v + (n : Int)).toNat else min v.toNat n
end
end HT
namespace L2
open PySem PySem.Spec PyProof.Rows
abbrev TO:=St -> Hp -> (Option Int -> Hp -> Prop) -> Prop
def PO (X : Cx) (e : Option Expr) (t : TO) : Prop:=
 ∀ (pins : List (Addr × Obj)) (s : Shared) (σ : St) (H : Hp) (Q : Option Int -> Hp -> Prop),Inv X pins σ H s -> t σ H Q ->
  wpAny (model X.prog X.w) X.A (evalPart e X.env) (fun u s' => ∃ o H',Inv X pins σ H' s' /\ IsPart u o /\ Q o H') X.xe s
def EB : TO:=fun _ H Q => Q none H
def Gj (t : TE) : TO:=fun σ H Q => t σ H fun x H1 => ∃ i,x = .int i /\ Q (some i) H1
section
variable {X : Cx} {e : Expr} {te : TE} {lo hi : Option Expr} {tl th : TO} {pos p2 : Pos}
theorem El : PO X none EB:=by
 intro pins s σ H Q I h
 rw [evalPart_none]
 exact wpAny_pure ⟨none,H,I,.none,h⟩
theorem x9 (h : PE X e te) : PO X (some e) (Gj te):=by
 intro pins s σ H Q I hw
 rw [evalPart_some]
 refine thn (h pins s σ H _ I hw) fun u s1 ⟨x,H1,I1,r1,q1⟩ => ?_
 obtain ⟨i,rfl,q⟩:=q1
 obtain ⟨t,rfl⟩:=r1
 exact ⟨some i,H1,I1,.int i t,q⟩
def SlR (X : Cx) (r : V -> Option Int -> Option Int -> Hp -> VK -> Prop) : Prop:=
 ∀ (pins : List (Addr × Obj)) (s : Shared) (σ : St) (H : Hp) (x : V) (v vl vu : Value) (lo hi : Option Int) (sl : Addr) (Q : VK),Inv X pins σ H s -> RelV x v -> s.heap.IsSliceOf sl vl vu .none -> IsPart vl lo -> IsPart vu hi -> r x lo hi H Q ->
  ∃ T id,typeLookup (.type T) "__getitem__" = pure (some (.builtin id)) /\ s.TypeIs v T /\ wpAny (model X.prog X.w) X.A (getItem v (.ref sl)) (EP X pins σ Q) X.xe s
def tSl (r : V -> Option Int -> Option Int -> Hp -> VK -> Prop) (te : TE) (tl th : TO) : TE:=fun σ H Q => te σ H fun x H1 => tl σ H1 fun l H2 => th σ H2 fun u H3 => r x l u H3 Q
theorem zm {r : V -> Option Int -> Option Int -> Hp -> VK -> Prop} (hr : SlR X r) (he : PE X e te) (hl : PO X lo tl) (hu : PO X hi th) : PE X (.Subscript e (.Slice lo hi none p2) pos) (tSl r te tl th):=by
 intro pins s σ H Q I h
 refine Subscript_ (thn (he pins s σ H _ I h) fun v s1 ⟨x,H1,I1,r1,q1⟩ => ?_)
 refine wpAny_Slice (thn (hl pins s1 σ H1 _ I1 q1) fun vl s2 ⟨l,H2,I2,pl,q2⟩ => thn (hu pins s2 σ H2 _ I2 q2) fun vu s3 ⟨u,H3,I3,pu,q3⟩ => ?_)
 rw [evalPart_none]
 refine wpAny_pure ?_
 have I4 : Inv X pins σ H3 { s3 with heap:=s3.heap.push { cls:=.type "slice",data:=.fields #[vl,vu,.none] } }:=I3.kept (t' := s3.toks) fun b ob q => Heap.get?_push_of_some _ q
 obtain ⟨T,id,hT,ht,hg⟩:=hr pins { s3 with heap:=s3.heap.push { cls:=.type "slice",data:=.fields #[vl,vu,.none] } } σ H3 x v vl vu l u s3.heap.objs.size Q I4 r1 (Heap.IsSliceOf.new ..) pl pu q3
 show wpAny (model X.prog X.w) X.A (subscriptTail e (.Slice lo hi none p2) v (.ref s3.heap.objs.size)) (EP X pins σ Q) X.xe { s3 with heap:=s3.heap.push { cls:=.type "slice",data:=.fields #[vl,vu,.none] } }
 exact tail_any (ops:=[.ref s3.heap.objs.size,v]) ht hT hg (by with_unfolding_all rfl)
def Bs (xs : List V) (lo hi : Option Int) : List V:=(xs.drop (HT.sIx xs.length 0 lo)).take (HT.sIx xs.length xs.length hi - HT.sIx xs.length 0 lo)
theorem yM (xs : List V) (lo hi : Option Int) : (Bs xs lo hi).length <= xs.length:=by
 unfold Bs
 rw [List.length_take,List.length_drop]
 omega
def F4 (K : PySem.W.Frag) : R2:=fun x y H Q => ∃ a b xs ys,x = .ref a /\ y = .ref b /\ SqT K H a xs /\ SqT K H b ys /\ xs ≠ [] /\ xs.length + ys.length <= sizeLine /\
 (ys = [] -> Q (.ref a) H) /\ (ys ≠ [] -> ∀ p,H p = none -> Q (.ref p) (upd H p (.tup (xs ++ ys))))
theorem Vals.nil_iff {xs : List V} {us : List Value} (r : Vals xs us) : us = [] ↔ xs = []:=by
 cases r with
 | nil => simp
 | cons _ _ => simp
theorem Ef : OpR X (binaryOp .Add) (F4 X.K):=by
 intro pins s σ H x y v u Q I rx ry h
 obtain ⟨a,b,xs,ys,rfl,rfl,ha,hb,hx,hz,q1,q2⟩:=h
 cases rx
 cases ry
 obtain ⟨its,r1,p1,_⟩:=I.tuple ha
 obtain ⟨its2,r2,p2,_⟩:=I.tuple hb
 refine HT.cat_tup p1 p2 (fun z => hx (r1.nil_iff.mp z)) (fun z => ⟨.ref a,H,I,rfl,q1 (r2.nil_iff.mp z)⟩) (fun z => ?_) (by rw [<- r1.length,<- r2.length]; exact hz)
 refine ⟨.ref s.heap.objs.size,_,I.laid (t' := s.toks) (o:=.tup (xs ++ ys)) (fun b ob q => Heap.get?_push_of_some _ q) (Nat.le_refl _) ?_,rfl,q2 (fun w => z (r2.nil_iff.mpr w)) _ (I.hok.fresh (Nat.le_refl _))⟩
 exact ⟨by rw [List.length_append]; exact hz,_,r1.append r2,IsTup.new _ _⟩
end
end L2
namespace L2
open PySem PySem.Spec PyProof.Rows
def ixN (n : Nat) (i : Int) : Option Nat:=if 0 <= i then (if i < n then some i.toNat else none) else if -(n : Int) <= i then some (i + n).toNat else none
def atI {α : Type} (xs : List α) (i : Int) : Option α:=(ixN xs.length i).bind fun j => xs[j]?
theorem AN {n : Nat} {i : Int} {j : Nat} (h : ixN n i = some j) : seqIndex? i n = some j /\ j < n /\ -(n : Int) <= i /\ i < n:=by
 unfold ixN at h
 by_cases h0 : 0 <= i
 ·rw [if_pos h0] at h
  by_cases h1 : i < n
  ·rw [if_pos h1] at h
   have e : i.toNat = j:=Option.some.inj h
   exact ⟨by rw [seqIndex_of h0 h1,e],by omega,by omega,h1⟩
  ·rw [if_neg h1] at h; cases h
 ·rw [if_neg h0] at h
  by_cases h1 : -(n : Int) <= i
  ·rw [if_pos h1] at h
   have e : (i + n).toNat = j:=Option.some.inj h
   exact ⟨by rw [seqIndex_neg (by omega) h1,e],by omega,h1,by omega⟩
  ·rw [if_neg h1] at h; cases h
theorem wL {α : Type} {xs : List α} {i : Int} {v : α} (h : atI xs i = some v) : ∃ j,seqIndex? i xs.length = some j /\ xs[j]? = some v /\ j < xs.length /\ -(xs.length : Int) <= i /\ i < xs.length:=by
 unfold atI at h
 cases e : ixN xs.length i with
 | none => rw [e] at h; cases h
 | some j =>
  rw [e] at h
  obtain ⟨h1,h2,h3,h4⟩:=AN e
  exact ⟨j,h1,h,h2,h3,h4⟩
theorem AD {α : Type} {xs : List α} {j : Nat} {v : α} (h : xs[j]? = some v) : atI xs (j : Int) = some v:=by
 have hj : j < xs.length:=(List.getElem?_eq_some_iff.mp h).1
 have e : ixN xs.length (j : Int) = some j:=by
  unfold ixN
  rw [if_pos (by omega),if_pos (by omega)]; simp
 unfold atI; rw [e]; exact h
def AA (b : Expr) : Prop := ∀ o i,subscripted b false o i = operate [o,i] (getItem o i)
def IxR (X : Cx) (r : R2) : Prop:=
 ∀ (value slice : Expr) (pins : List (Addr × Obj)) (s : Shared) (σ : St) (H : Hp) (x y : V) (v u : Value) (Q : VK),Inv X pins σ H s -> RelV x v -> RelV y u -> r x y H Q ->
  subscripted slice false v u = operate [v,u] (getItem v u) -> wpAny (model X.prog X.w) X.A (subscriptTail value slice v u) (EP X pins σ Q) X.xe s
def MtR (X : Cx) (id : String) (r : V -> List V -> Hp -> VK -> Prop) : Prop:=
 ∀ (pins : List (Addr × Obj)) (s : Shared) (σ : St) (H : Hp) (x : V) (xs : List V) (v : Value) (us : List Value) (Q : VK),Inv X pins σ H s -> RelV x v -> Vals xs us -> r x xs H Q ->
  wpAny (model X.prog X.w) X.A (call (.builtin id) (v :: us)) (EP X pins σ Q) X.xe s
section
variable {X : Cx} {a b : Expr} {ta tb : TE} {pos : Pos}
theorem aV {r : R2} (hr : IxR X r) (ha : PE X a ta) (hb : PE X b tb) (hs : AA b) : PE X (.Subscript a b pos) (tOp r ta tb):=by
 intro pins s σ H Q I h
 exact Subscript_ (EU ha hb I h fun v u s2 x y H2 I2 rx ry q => hr a b pins s2 σ H2 x y v u Q I2 rx ry q (hs _ _))
def F5 (K : PySem.W.Frag) : R2:=fun x y H Q => ∃ p xs i v,x = .ref p /\ y = .int i /\ SqL K H p xs /\ atI xs i = some v /\ Q v H
def GR (K : PySem.W.Frag) : R2:=fun x y H Q => ∃ p xs i v,x = .ref p /\ y = .int i /\ SqT K H p xs /\ atI xs i = some v /\ Q v H
def F6 : R2:=fun x y H Q => ∃ z i c,x = .str z /\ y = .int i /\ z.length <= sizeLine /\ atI z.cps.toList i = some c /\ Q (.str ⟨#[c]⟩) H
theorem aS : IxR X (F5 X.K):=by
 intro value slice pins s σ H x y v u Q I rx ry h hs
 obtain ⟨p,xs,i,z,rfl,rfl,hq,he,q⟩:=h
 cases rx
 obtain ⟨t,rfl⟩:=ry
 obtain ⟨its,r,pl,hz⟩:=I.list hq
 obtain ⟨j,h1,h2,h3,h4,h5⟩:=wL he
 obtain ⟨w,ew,rw'⟩:=r.get h2
 have hl:=r.length
 have hn:=pQ
 have fin : EP X pins σ Q w s:=⟨z,H,I,rw',q⟩
 by_cases h0 : 0 <= i
 ·have hj : i.toNat = j:=by
   rw [seqIndex_of h0 h5] at h1
   exact Option.some.inj h1
  exact item_listR pl.isList h0 (by omega) (by rw [hj]; simpa using ew) fin hs
 ·have hj : (i + (its.toArray.size : Int)).toNat = j:=by
   rw [seqIndex_neg (by omega) h4] at h1
   rw [List.size_toArray,<- hl]
   exact Option.some.inj h1
  exact subscriptTail_builtinR (x:=w) pl.isList.typeIs slot_list_getitem.lookup
   (wpAny_getItem_list_neg (Q:=fun r s' => r = w /\ EP X pins σ Q r s') pl.isList (by omega) (by rw [List.size_toArray] <;> omega) (by omega) (by rw [hj]; simpa using ew) ⟨rfl,fin⟩) hs
theorem cO : IxR X (GR X.K):=by
 intro value slice pins s σ H x y v u Q I rx ry h hs
 obtain ⟨p,xs,i,z,rfl,rfl,hq,he,q⟩:=h
 cases rx
 obtain ⟨t,rfl⟩:=ry
 obtain ⟨its,r,pl,hz⟩:=I.tuple hq
 obtain ⟨j,h1,h2,h3,h4,h5⟩:=wL he
 obtain ⟨w,ew,rw'⟩:=r.get h2
 have hl:=r.length
 have hn:=pQ
 have fin : EP X pins σ Q w s:=⟨z,H,I,rw',q⟩
 exact subscriptTail_builtinR (x:=w) pl.typeIs slot_tuple_getitem.lookup
  (getItem_tuple (j:=j) (Q:=fun r s' => r = w /\ EP X pins σ Q r s') pl (by omega) (by omega) (by rw [List.size_toArray,<- hl]; exact h1) (by simpa using ew) ⟨rfl,fin⟩) hs
theorem xk : IxR X F6:=by
 intro value slice pins s σ H x y v u Q I rx ry h hs
 obtain ⟨z,i,c,rfl,rfl,hz,he,q⟩:=h
 obtain ⟨t,rfl⟩:=rx
 obtain ⟨t',rfl⟩:=ry
 obtain ⟨j,h1,h2,h3,h4,h5⟩:=wL he
 have hl : z.cps.toList.length = z.length:=by simp [Str.length]
 rw [hl] at h1 h4 h5
 have hn:=pQ
 exact tail_any (typeIs_str s z t) slot_str_getitem.lookup (getItem_str (c:=c) (by
  have e1 : decide (i < -(2 ^ 63 : Int)) = false:=decide_eq_false (by omega)
  have e2 : decide (i ≥ 2 ^ 63) = false:=decide_eq_false (by omega)
  rw [e1,e2,Bool.or_false]) (by rw [h1]; simpa using h2) ⟨.str ⟨#[c]⟩,H,I.tok _,⟨_,rfl⟩,q⟩) hs
theorem Ad (its : List Value) (n j : Nat) (u : Value) : Obj.mapSeq (·.setIfInBounds j u) { cls:=.type "list",data:=.seq its.toArray n } = { cls:=.type "list",data:=.seq (its.set j u).toArray n }:=by
 simp [Obj.mapSeq]
theorem Inv.lst {pins : List (Addr × Obj)} {σ : St} {H : Hp} {s : Shared} {p : Addr} {xs : List V} (I : Inv X pins σ H s) (h : H p = some (.lst xs)) :
  ∃ (its : List Value) (n : Nat),Vals xs its /\ s.heap.get? p = some { cls:=.type "list",data:=.seq its.toArray n } /\ xs.length <= sizeLine:=by
 obtain ⟨z,its,n,r,e⟩:=I.hok p _ h
 exact ⟨its,n,r,e,z⟩
theorem Inv.lstUpd {pins : List (Addr × Obj)} {σ : St} {H : Hp} {s : Shared} {p : Addr} {xs ys : List V} {its its' : List Value} {n n' : Nat} {f : Obj -> Obj} (I : Inv X pins σ H s) (h : H p = some (.lst xs))
  (ho : s.heap.get? p = some { cls:=.type "list",data:=.seq its.toArray n }) (hf : f { cls:=.type "list",data:=.seq its.toArray n } = { cls:=.type "list",data:=.seq its'.toArray n' }) (r : Vals ys its') (hz : ys.length <= sizeLine) (t : Nat) :
  Inv X pins σ (upd H p (.lst ys)) { s with heap:=s.heap.update p f,toks:=t }:=by
 have e : (s.heap.update p f).get? p = some { cls:=.type "list",data:=.seq its'.toArray n' }:=by
  rw [Heap.get?_update_self f ho (by rw [hf] <;> rfl),hf]
 refine I.write (x:=p) (e:=p) (by rw [h]; trivial) (.inl rfl) (fun b u hb q => (Heap.get?_update_other _ _ (Ne.symm hb)).trans q) ⟨_,e⟩ ?_
 exact ⟨hz,its',n',r,e⟩
def F8 : V -> V -> V -> Hp -> (Hp -> Prop) -> Prop:=fun o i v H Q => ∃ p xs k j,o = .ref p /\ i = .int k /\ H p = some (.lst xs) /\ ixN xs.length k = some j /\ Q (upd H p (.lst (xs.set j v)))
theorem set_list : FJ X F8:=by
 intro pins s σ H o i v ov iv u Q I ro ri rv h
 obtain ⟨p,xs,k,j,rfl,rfl,hp,hj,q⟩:=h
 cases ro
 obtain ⟨t,rfl⟩:=ri
 obtain ⟨its,n,r,ho,hz⟩:=I.lst hp
 obtain ⟨h1,h2,h3,h4⟩:=AN hj
 have hl:=r.length
 have hn:=pQ
 have I' : Inv X pins σ (upd H p (.lst (xs.set j v))) { s with heap:=s.heap.update p (Obj.mapSeq (·.setIfInBounds j u)) }:=
  I.lstUpd hp ho (Ad its n j u) (r.set rv j) (by rw [List.length_set]; exact hz) s.toks
 by_cases h0 : 0 <= k
 ·have hk : k.toNat = j:=by
   rw [seqIndex_of h0 h4] at h1
   exact Option.some.inj h1
  exact PySem.W.ki_setAt ho h0 (by omega) (by rw [List.size_toArray,<- hl]; exact h4) (by rw [hk]; exact ⟨_,I',q⟩)
 ·have hk : (k + (its.toArray.size : Int)).toNat = j:=by
   rw [seqIndex_neg (by omega) h3] at h1
   rw [List.size_toArray,<- hl]
   exact Option.some.inj h1
  exact PySem.W.ki_setBack ho (by omega) (by rw [List.size_toArray,<- hl]; exact h3) (by omega) (by rw [hk]; exact ⟨_,I',q⟩)
theorem ym (lo hi : Option Int) (n : Nat) : (sliceBounds lo hi none n).1 = ((HT.sIx n 0 lo : Nat) : Int) /\ (sliceBounds lo hi none n).2.1 = ((HT.sIx n n hi : Nat) : Int) /\ (sliceBounds lo hi none n).2.2 = 1:=by
 refine ⟨?_,?_,rfl⟩
 ·cases lo with
  | none => simp [sliceBounds,HT.sIx]
  | some i =>
   simp only [sliceBounds,HT.sIx,Option.getD_none,show (1 : Int) > 0 by decide,if_true]
   by_cases h : i < 0
   ·simp only [h,if_true] <;> omega
   ·simp only [h,if_false] <;> omega
 ·cases hi with
  | none => simp [sliceBounds,HT.sIx]
  | some i =>
   simp only [sliceBounds,HT.sIx,Option.getD_none,show (1 : Int) > 0 by decide,if_true]
   by_cases h : i < 0
   ·simp only [h,if_true] <;> omega
   ·simp only [h,if_false] <;> omega
theorem vP (its : List Value) (lo hi : Option Int) : slicePick its.toArray lo hi none = ((its.drop (HT.sIx its.length 0 lo)).take (HT.sIx its.length its.length hi - HT.sIx its.length 0 lo)).toArray:=by
 obtain ⟨h1,h2,h3⟩:=ym lo hi its.toArray.size
 unfold slicePick
 rw [h1,h2,h3]
 simp only [sliceRange_one,pick_run,List.size_toArray] <;> rfl
def GU (K : PySem.W.Frag) : V -> Option Int -> Option Int -> Hp -> VK -> Prop:=fun x lo hi H Q => ∃ a xs,x = .ref a /\ SqL K H a xs /\ ∀ p,H p = none -> Q (.ref p) (upd H p (.lst (Bs xs lo hi)))
theorem Es : SlR X (GU X.K):=by
 intro pins s σ H x v vl vu lo hi sl Q I rx hs pl pu h
 obtain ⟨a,xs,rfl,hx,q⟩:=h
 cases rx
 obtain ⟨its,r,ht,hz⟩:=I.list hx
 have hlen:=r.length
 refine ⟨"list",_,slot_list_getitem.lookup,ht.isList.typeIs,?_⟩
 refine wpAny_getItem_list_slice ht.isList hs pl pu .none (by simp) ?_ (by rw [List.size_toArray] <;> omega)
 rw [vP,<- hlen]
 refine ⟨.ref s.heap.objs.size,_,I.laid (t' := s.toks) (o:=.lst (Bs xs lo hi)) (fun b ob q => Heap.get?_push_of_some _ q) (Nat.le_refl _) ?_,rfl,q _ (I.hok.fresh (Nat.le_refl _))⟩
 exact ⟨Nat.le_trans (yM xs lo hi) hz,_,0,(r.drop (HT.sIx xs.length 0 lo)).take (HT.sIx xs.length xs.length hi - HT.sIx xs.length 0 lo),Heap.get?_push_size _ rfl⟩
def qr : V -> Bool
 | .non => true
 | .bl _ => true
 | .int _ => true
 | .str _ => true
 | _ => false
def eqV : V -> V -> Bool
 | .non,.non => true
 | .bl a,.bl b => a == b
 | .bl a,.int b => (if a then 1 else 0) == b
 | .int a,.bl b => a == (if b then 1 else 0)
 | .int a,.int b => a == b
 | .str a,.str b => a == b
 | _,_ => false
theorem EZ {A : Around} {s : Shared} {y x : V} {u v : Value} (ry : RelV y u) (rx : RelV x v) (fy : qr y = true) (fx : qr x = true) : SeqAt.EqAt A s u v (eqV y x):=by
 cases y with
 | non =>
  cases ry
  cases x with
  | non => cases rx; exact SeqAt.EqAt.same _
  | bl b => cases rx; exact SeqAt.EqAt.none_bool b
  | int b => obtain ⟨t,rfl⟩:=rx; exact SeqAt.EqAt.none_int b t
  | str b => obtain ⟨t,rfl⟩:=rx; exact SeqAt.EqAt.none_str b t
  | _ => exact absurd (show false = true from fx) Bool.false_ne_true
 | bl a =>
  cases ry
  cases x with
  | non => cases rx; exact SeqAt.EqAt.bool_none a
  | bl b => cases rx; exact SeqAt.EqAt.bool_bool a b
  | int b => obtain ⟨t,rfl⟩:=rx; exact SeqAt.EqAt.bool_int a b t
  | str b => obtain ⟨t,rfl⟩:=rx; exact SeqAt.EqAt.bool_str a b t
  | _ => exact absurd (show false = true from fx) Bool.false_ne_true
 | int a =>
  obtain ⟨t',rfl⟩:=ry
  cases x with
  | non => cases rx; exact SeqAt.EqAt.int_none a t'
  | bl b => cases rx; exact SeqAt.EqAt.int_bool a t' b
  | int b => obtain ⟨t,rfl⟩:=rx; exact SeqAt.EqAt.int_int a t' b t
  | str b => obtain ⟨t,rfl⟩:=rx; exact SeqAt.EqAt.int_str a t' b t
  | _ => exact absurd (show false = true from fx) Bool.false_ne_true
 | str a =>
  obtain ⟨t',rfl⟩:=ry
  cases x with
  | non => cases rx; exact SeqAt.EqAt.str_none a t'
  | bl b => cases rx; exact SeqAt.EqAt.str_bool a t' b
  | int b => obtain ⟨t,rfl⟩:=rx; exact SeqAt.EqAt.str_int a t' b t
  | str b => obtain ⟨t,rfl⟩:=rx; exact SeqAt.EqAt.str_str a t' b t
  | _ => exact absurd (show false = true from fx) Bool.false_ne_true
 | _ => exact absurd (show false = true from fy) Bool.false_ne_true
def eqU (x : V) (u : Value) : Bool:=match u with
 | .none => eqV .non x
 | .bool b => eqV (.bl b) x
 | .int i _ => eqV (.int i) x
 | .str z _ => eqV (.str z) x
 | _ => false
theorem Cq {x y : V} {u : Value} (r : RelV y u) (f : qr y = true) : eqU x u = eqV y x:=by
 cases y with
 | non => cases r; rfl
 | bl b => cases r; rfl
 | int i => obtain ⟨t,rfl⟩:=r; rfl
 | str z => obtain ⟨t,rfl⟩:=r; rfl
 | _ => exact absurd (show false = true from f) Bool.false_ne_true
theorem nY {x : V} : ∀ {xs : List V} {us : List Value},Vals xs us -> xs.all qr = true -> us.any (eqU x) = xs.any fun y => eqV y x
 | _,_,.nil,_ => rfl
 | y :: xs,u :: us,.cons r t,f => by
  rw [List.all_cons,Bool.and_eq_true] at f
  rw [List.any_cons,List.any_cons,Cq r f.1,nY t f.2]
theorem lu {A : Around} {s : Shared} {x : V} {v : Value} (rx : RelV x v) (fx : qr x = true) : ∀ {xs : List V} {us : List Value},Vals xs us -> xs.all qr = true -> ∀ u ∈ us,SeqAt.EqAt A s u v (eqU x u)
 | _,_,.nil,_ => fun u hu => by cases hu
 | y :: xs,u :: us,.cons r t,f => fun u' hu => by
  rw [List.all_cons,Bool.and_eq_true] at f
  rcases List.mem_cons.mp hu with rfl | hu
  ·rw [Cq r f.1]; exact EZ r rx f.1 fx
  ·exact lu rx fx t f.2 u' hu
def inV (x : V) (xs : List V) : Bool:=xs.any fun y => eqV y x
def rIn (K : PySem.W.Frag) (neg : Bool) : R2:=fun x y H Q => ∃ p xs,y = .ref p /\ (SqL K H p xs \/ SqT K H p xs) /\ qr x = true /\ xs.all qr = true /\ Q (.bl (if neg then !inV x xs else inV x xs)) H
theorem pZ : OpR X (compareOp .In) (rIn X.K false):=by
 intro pins s σ H x y v u Q I rx ry h
 obtain ⟨p,xs,rfl,hq,fx,fs,q⟩:=h
 cases ry
 rcases hq with hq | hq
 ·obtain ⟨its,r,pl,hz⟩:=I.list hq
  refine SeqAt.in_listAt (eqU x) pl.isList (fun w hw => lu rx fx r fs w (by simpa using hw)) ⟨.bl _,H,I,rfl,?_⟩
  rw [show its.toArray.any (eqU x) = its.any (eqU x) by simp,nY r fs]
  exact q
 ·obtain ⟨its,r,pl,hz⟩:=I.tuple hq
  refine SeqAt.in_tupleAt (eqU x) pl (fun w hw => lu rx fx r fs w (by simpa using hw)) ⟨.bl _,H,I,rfl,?_⟩
  rw [show its.toArray.any (eqU x) = its.any (eqU x) by simp,nY r fs]
  exact q
theorem xT : OpR X (compareOp .NotIn) (rIn X.K true):=by
 intro pins s σ H x y v u Q I rx ry h
 obtain ⟨p,xs,rfl,hq,fx,fs,q⟩:=h
 cases ry
 rcases hq with hq | hq
 ·obtain ⟨its,r,pl,hz⟩:=I.list hq
  refine SeqAt.notIn_listAt (eqU x) pl.isList (fun w hw => lu rx fx r fs w (by simpa using hw)) ⟨.bl _,H,I,rfl,?_⟩
  rw [show its.toArray.any (eqU x) = its.any (eqU x) by simp,nY r fs]
  exact q
 ·obtain ⟨its,r,pl,hz⟩:=I.tuple hq
  refine SeqAt.notIn_tupleAt (eqU x) pl (fun w hw => lu rx fx r fs w (by simpa using hw)) ⟨.bl _,H,I,rfl,?_⟩
  rw [show its.toArray.any (eqU x) = its.any (eqU x) by simp,nY r fs]
  exact q
theorem aX : fk X (.builtin "len") (fun xs H Q => ∃ p ys,xs = [.ref p] /\ (SqL X.K H p ys \/ SqT X.K H p ys) /\ Q (.int ys.length) H):=by
 intro pins s σ H xs us Q I r h
 obtain ⟨p,ys,rfl,hq,q⟩:=h
 obtain ⟨u,rfl,rx⟩:=vals1 r
 cases rx
 have hn:=pQ
 rcases hq with hq | hq
 ·obtain ⟨its,r',pl,hz⟩:=I.list hq
  have hlen:=r'.length
  exact Calls.call_len_list pl.isList (by simp only [List.size_toArray] <;> omega) ⟨.int ys.length,H,I.tok _,⟨s.toks + 1,by rw [List.size_toArray,hlen]⟩,q⟩
 ·obtain ⟨its,r',pl,hz⟩:=I.tuple hq
  have hlen:=r'.length
  exact len_tuple pl (by simp only [List.size_toArray] <;> omega) ⟨.int ys.length,H,I.tok _,⟨s.toks + 1,by rw [List.size_toArray,hlen]⟩,q⟩
theorem cw : fk X (.builtin "len") (fun xs H Q => ∃ z,xs = [.str z] /\ z.length <= sizeLine /\ Q (.int z.length) H):=by
 intro pins s σ H xs us Q I r h
 obtain ⟨z,rfl,hz,q⟩:=h
 obtain ⟨u,rfl,t,rfl⟩:=vals1 r
 have hn:=pQ
 exact len_str (by omega) ⟨.int z.length,H,I.tok _,⟨_,rfl⟩,q⟩
theorem my : fk X (.type "tuple") (fun xs H Q => ∃ p ys,xs = [.ref p] /\ ((SqL X.K H p ys /\ ∀ l,H l = none -> Q (.ref l) (upd H l (.tup ys))) \/ (SqT X.K H p ys /\ Q (.ref p) H))):=by
 intro pins s σ H xs us Q I r h
 obtain ⟨p,ys,rfl,h⟩:=h
 obtain ⟨u,rfl,rx⟩:=vals1 r
 cases rx
 rcases h with ⟨hq,q⟩ | ⟨hq,q⟩
 ·obtain ⟨its,r',pl,hz⟩:=I.list hq
  have hlen:=r'.length
  refine call_tuple_list pl.isList (fun h' kp => ?_) (by simp only [List.size_toArray] <;> omega)
  have I1 : Inv X pins σ H { s with heap:=h' }:=I.kept (t' := s.toks) kp
  have I2 : Inv X pins σ (upd H h'.objs.size (.tup ys)) { s with heap:=h'.push { cls:=.type "tuple",data:=.seq its.toArray } }:=
   I1.laid (t' := s.toks) (fun b o e => Heap.get?_push_of_some _ e) (Nat.le_refl _) (show ObjOk X.prog X.w _ _ _ (.tup ys) from ⟨hz,its,r',IsTup.new _ _⟩)
  exact ⟨.ref h'.objs.size,_,I2,rfl,q _ (I1.hok.fresh (Nat.le_refl _))⟩
 ·obtain ⟨its,r',pl,hz⟩:=I.tuple hq
  exact call_tuple_same pl ⟨.ref p,H,I,rfl,q⟩
def tyV (K : PySem.W.Frag) (T : String) (x : V) (H : Hp) : Prop:=match x with
 | .str _ => T = "str"
 | .int _ => T = "int"
 | .ref p => (T = "list" /\ ∃ xs,SqL K H p xs) \/ (T = "tuple" /\ ∃ o,K.lookup p = some o /\ o.cls = .type "tuple" /\ o.dict = none) \/
   (T = "dict" /\ ((∃ kvs,H p = some (.dK kvs)) \/ ∃ kvs,H p = some (.dT kvs))) \/ (T = "set" /\ ∃ S n,H p = some (.set S n))
 | _ => False
theorem Dt {pins : List (Addr × Obj)} {σ : St} {H : Hp} {s : Shared} {T : String} {x : V} {v : Value} (I : Inv X pins σ H s) (r : RelV x v) (ty : tyV X.K T x H) :
  s.TypeIs v T /\ ∀ a,v = .ref a -> ∃ ob,s.heap.get? a = some ob /\ ob.dict = none:=by
 cases x with
 | str z =>
  obtain ⟨t,rfl⟩:=r
  cases (show T = "str" from ty)
  exact ⟨typeIs_str s z t,fun _ e => nomatch e⟩
 | int i =>
  obtain ⟨t,rfl⟩:=r
  cases (show T = "int" from ty)
  exact ⟨typeIs_int s i t,fun _ e => nomatch e⟩
 | ref p =>
  cases r
  rcases ty with ⟨rfl,xs,hq⟩ | ⟨rfl,o,hk,hc,hd⟩ | ⟨rfl,hk⟩ | ⟨rfl,S,n,hk⟩
  ·obtain ⟨its,_,pl,_⟩:=I.list hq
   refine ⟨pl.isList.typeIs,fun a e => ?_⟩
   cases e
   obtain ⟨o,n,e,c,hd,_⟩:=pl
   exact ⟨o,e,hd⟩
  ·refine ⟨⟨o,I.kIn p o hk,hc⟩,fun a e => ?_⟩
   cases e
   exact ⟨o,I.kIn _ o hk,hd⟩
  ·have z : ∃ o,s.heap.get? p = some o /\ o.ExactDict:=by
    rcases hk with ⟨kvs,hk⟩ | ⟨kvs,hk⟩
    ·obtain ⟨_,_,_,_,o,_,_,e,ex,_⟩:=I.hok p _ hk
     exact ⟨o,e,ex⟩
    ·obtain ⟨_,_,_,_,o,_,_,e,ex,_⟩:=I.hok p _ hk
     exact ⟨o,e,ex⟩
   obtain ⟨o,e,ex⟩:=z
   refine ⟨⟨o,e,ex.1⟩,fun a e2 => ?_⟩
   cases e2
   exact ⟨o,e,ex.2.1⟩
  ·obtain ⟨o,_,_,_,e,ex,_⟩:=I.hok p _ hk
   refine ⟨⟨o,e,ex.1⟩,fun a e2 => ?_⟩
   cases e2
   exact ⟨o,e,ex.2.1⟩
 | _ => exact False.elim ty
def GX (K : PySem.W.Frag) (T : String) (r : V -> List V -> Hp -> VK -> Prop) (to : TE) : TE:=fun σ H Q => to σ H fun x H1 => tyV K T x H1 /\ r x [] H1 Q
def tBM (K : PySem.W.Frag) (T : String) (r : V -> List V -> Hp -> VK -> Prop) (to : TE) (t : TA) : TE:=fun σ H Q => to σ H fun x H1 => tyV K T x H1 /\ t σ H1 fun xs H2 => r x xs H2 Q
variable {o e : Expr} {es : List Expr} {to : TE} {t : TA} {name : Str} {apos cpos : Pos} {T id : String} {r : V -> List V -> Hp -> VK -> Prop}
theorem tG (pa : PlainAttrs T) (slot : Slot T name id) (hty : typeOf (.builtin id) = pure (.type "method_descriptor")) (hm : MtR X id r) (ho : PE X o to)
  (hbase : attributeBase o name X.env (eval o X.env) = eval o X.env:=by rfl) (hline : (apos.endLine == cpos.line) = true:=by rfl) : PE X (.Call (.Attribute o name apos) [] [] cpos) (GX X.K T r to):=by
 intro pins s σ H Q I h
 refine wpAny_Call_method0_late hbase hline (thn (ho pins s σ H _ I h) fun v s1 ⟨x,H1,I1,r1,ty,q1⟩ => ?_)
 obtain ⟨h1,h2⟩:=Dt I1 r1 ty
 exact ⟨T,id,pa,slot,hty,h1,h2,Calls.callWith_builtin rfl (PySem.evalArgs_none (hm pins s1 σ H1 x [] v [] Q I1 r1 .nil q1))⟩
theorem eG (pa : PlainAttrs T) (slot : Slot T name id) (hty : typeOf (.builtin id) = pure (.type "method_descriptor")) (hm : MtR X id r) (ho : PE X o to) (ha : PA X (e :: es) t)
  (hbase : attributeBase o name X.env (eval o X.env) = eval o X.env:=by rfl)
  (hfew : ((backTo cpos (starEach (e :: es) X.env)).all (fun x => !x.1) && (backToKw cpos (keywordEach [] X.env)).all (fun x => x.1.isSome)
   && decide ((e :: es).length + ([] : List Keyword).length + (if ([] : List Keyword).isEmpty then 0 else 1) < 30)) = true:=by rfl)
  (hline : (apos.endLine == cpos.line) = true:=by rfl) (hs : starEach (e :: es) X.env = (false,eval e X.env) :: starEach es X.env:=by rfl) (hplain : (backTo cpos (starEach es X.env)).any (·.1) = false:=by rfl) :
  PE X (.Call (.Attribute o name apos) (e :: es) [] cpos) (tBM X.K T r to t):=by
 intro pins s σ H Q I h
 refine wpAny_Call_method_late hbase hfew hline rfl (thn (ho pins s σ H _ I h) fun v s1 ⟨x,H1,I1,r1,ty,q1⟩ => ?_)
 obtain ⟨h1,h2⟩:=Dt I1 r1 ty
 refine ⟨T,id,pa,slot,hty,h1,h2,?_⟩
 have hA:=ha cpos pins s1 σ H1 _ I1 q1
 rw [hs] at hA ⊢
 refine Calls.callWith_builtin (by show (false || (backTo cpos (starEach es X.env)).any (·.1)) = false; rw [hplain] <;> rfl) (Calls.evalArgs_plain ?_)
 exact thn hA fun us s2 ⟨vs,H2,I2,r2,q2⟩ => hm pins s2 σ H2 x vs v us Q I2 r1 r2 q2
/- xs.append(e),list.index on a module's tuple .. are MtR facts of 06m -/
end
end L2
namespace L2
open PySem PySem.Spec PyProof.Rows
def MtM (X : Cx) (id : String) (r : V -> List V -> Hp -> VK -> Prop) : Prop:=
 ∀ (pins : List (Addr × Obj)) (s : Shared) (σ : St) (H : Hp) (x : V) (xs : List V) (v : Value) (us : List Value) (Q : VK),Inv X pins σ H s -> RelV x v -> Vals xs us -> r x xs H Q ->
  wpAny (model X.prog X.w) X.A (call (.builtin id) (v :: us)) (EP X pins σ Q) X.xe s
theorem Vals.one : ∀ {x : V} {us : List Value},Vals [x] us -> ∃ u,us = [u] /\ RelV x u
 | _,_,.cons r .nil => ⟨_,rfl,r⟩
theorem Vals.two : ∀ {x y : V} {us : List Value},Vals [x,y] us -> ∃ u v,us = [u,v] /\ RelV x u /\ RelV y v
 | _,_,_,.cons r (.cons q .nil) => ⟨_,_,rfl,r,q⟩
theorem Vals.zero : ∀ {us : List Value},Vals [] us -> us = []
 | _,.nil => rfl
theorem Vals.dropLast {xs : List V} {us : List Value} (h : Vals xs us) : Vals xs.dropLast us.dropLast:=by
 induction h with
 | nil => exact .nil
 | cons r t ih =>
  cases t with
  | nil => exact .nil
  | cons q t' => exact .cons r ih
theorem zV {α : Type} (l : List α) : l.eraseIdx (l.length - 1) = l.dropLast:=by
 induction l with
 | nil => rfl
 | cons a r ih =>
  cases r with
  | nil => rfl
  | cons b r =>
   have e : (a :: b :: r).length - 1 = ((b :: r).length - 1) + 1:=by
    have h1 : (a :: b :: r).length = r.length + 2:=rfl
    have h2 : (b :: r).length = r.length + 1:=rfl
    omega
   rw [e,List.eraseIdx_cons_succ,ih]
   all_goals rfl
section
variable {X : Cx} {pins : List (Addr × Obj)} {σ : St} {H : Hp} {s : Shared} {l b : Addr} {xs ys zs : List V}
theorem Inv.lset {its its' : List Value} {n : Nat} {f : Array Value -> Array Value} {t' : Nat} (I : Inv X pins σ H s) (hH : H l = some (.lst xs))
  (e : s.heap.get? l = some { cls:=.type "list",data:=.seq its.toArray n }) (hf : f its.toArray = its'.toArray) (hv : Vals ys its') (hz : ys.length <= sizeLine) :
  Inv X pins σ (upd H l (.lst ys)) { s with heap:=s.heap.update l (Obj.mapSeq f),toks:=t' }:=by
 have q:=PySem.IsL.update e f
 rw [hf] at q
 refine I.write (x:=l) (e:=l) (by rw [hH]; exact trivial) (.inl rfl) (fun b' u hb hu => (Heap.get?_update_other s.heap (Obj.mapSeq f) (Ne.symm hb)).trans hu) ⟨_,q⟩ ?_
 exact ⟨hz,its',_,hv,q⟩
theorem Inv.lnew {its : List Value} {t' : Nat} (I : Inv X pins σ H s) (hv : Vals ys its) (hz : ys.length <= sizeLine) :
  Inv X pins σ (upd H s.heap.objs.size (.lst ys)) { s with heap:=s.heap.push { cls:=.type "list",data:=.seq its.toArray },toks:=t' }:=
 I.laid (fun _ _ q => Heap.get?_push_of_some _ q) (Nat.le_refl _) ⟨hz,its,0,hv,Heap.get?_push_size _ rfl⟩
theorem Inv.fresh (I : Inv X pins σ H s) : H s.heap.objs.size = none:=I.hok.fresh (Nat.le_refl _)
theorem Inv.lstM (I : Inv X pins σ H s) (hH : H l = some (.lst xs)) : xs.length <= sizeLine /\ ∃ (its : List Value) (n : Nat),Vals xs its /\ xs.length = its.length /\ s.heap.get? l = some { cls:=.type "list",data:=.seq its.toArray n }:=by
 obtain ⟨z,its,n,r,e⟩:=I.hok l _ hH
 exact ⟨z,its,n,r,r.length,e⟩
end
section
variable {X : Cx}
def Eo : V -> List V -> Hp -> VK -> Prop:=fun x vs H Q => ∃ l xs y,x = .ref l /\ vs = [y] /\ H l = some (.lst xs) /\ xs.length < sizeLine /\ Q .non (upd H l (.lst (xs ++ [y])))
theorem bh : MtM X "list.append" Eo:=by
 intro pins s σ H x vs v us Q I rx rv h
 obtain ⟨l,xs,y,rfl,rfl,hH,hz,q⟩:=h
 cases rx
 obtain ⟨u,rfl,ru⟩:=rv.one
 obtain ⟨z,its,n,r,hl,e⟩:=I.lstM hH
 refine call_meets F.slot_list_append ⟨_,e,rfl⟩ F.entry_list_append (F.args_list_append_2 _ _) (PySem.list_append l its.toArray n u (by rw [List.size_toArray]; omega)) ⟨e,?_⟩
 refine ⟨.non,_,I.lset (its' := its ++ [u]) hH e (by simp) (r.append (.cons ru .nil)) ?_,rfl,q⟩
 rw [List.length_append,List.length_singleton]
 omega
def GS : V -> List V -> Hp -> VK -> Prop:=fun x vs H Q => ∃ l xs y,x = .ref l /\ vs = [] /\ H l = some (.lst xs) /\ xs[xs.length - 1]? = some y /\ Q y (upd H l (.lst xs.dropLast))
theorem sS : MtM X "list.pop" GS:=by
 intro pins s σ H x vs v us Q I rx rv h
 obtain ⟨l,xs,y,rfl,rfl,hH,hy,q⟩:=h
 cases rx
 have hus:=rv.zero
 subst hus
 obtain ⟨z,its,n,r,hl,e⟩:=I.lstM hH
 obtain ⟨u,hu,ru⟩:=r.get hy
 have hy' : its.toArray[its.toArray.size - 1]? = some u:=by
  show its.toArray[its.length - 1]? = some u
  rw [<- Array.getElem?_toList,<- hl]
  exact hu
 refine call_meets F.slot_list_pop ⟨_,e,rfl⟩ F.entry_list_pop (F.args_list_pop_1 _) (MeetsSeq.list_pop_last l its.toArray n u hy' (by rw [List.size_toArray]; omega)) ⟨e,?_⟩
 refine ⟨y,_,I.lset (its' := its.dropLast) hH e ?_ r.dropLast ?_,ru,q⟩
 ·show its.toArray.eraseIdxIfInBounds (its.toArray.size - 1) = its.dropLast.toArray
  rw [List.size_toArray,List.eraseIdxIfInBounds_toArray,zV]
 ·rw [List.length_dropLast]
  omega
def GP : R2:=fun x y H Q => ∃ l b xs zs,x = .ref l /\ y = .ref b /\ H l = some (.lst xs) /\ H b = some (.lst zs) /\ xs.length + zs.length <= sizeLine /\ ∀ p,H p = none -> Q (.ref p) (upd H p (.lst (xs ++ zs)))
theorem xS : OpR X (binaryOp .Add) GP:=by
 intro pins s σ H x y v u Q I rx ry h
 obtain ⟨l,b,xs,zs,rfl,rfl,hH,hB,hz,q⟩:=h
 cases rx
 cases ry
 obtain ⟨z,its,n,r,hl,e⟩:=I.lstM hH
 obtain ⟨z2,its2,n2,r2,hl2,e2⟩:=I.lstM hB
 refine PySem.P.add_list e e2 ?_ (by rw [List.size_toArray,List.size_toArray]; omega)
 have ea : its.toArray ++ its2.toArray = (its ++ its2).toArray:=by simp
 rw [ea]
 exact ⟨.ref _,_,I.lnew (t' := s.toks) (r.append r2) (by rw [List.length_append]; omega),rfl,q _ I.fresh⟩
end
section
variable {prog : Program} {w : World} {A : Around} {E : Value -> Shared -> Prop} {s : Shared}
end
section
variable {X : Cx}
end
end L2
namespace Att
open PySem PySem.W PySem.Calls PyProof.Rows
theorem qM {P : Params} {h : Heap} : ∀ (ns : List Int) (vs : List Value),WellAll P h vs (ns.map WData.int) -> IntsAre vs ns:=by
 intro ns
 induction ns with
 | nil =>
  intro vs w
  rw [List.map_nil] at w
  cases w
  exact .nil
 | cons n ns ih =>
  intro vs w
  rw [List.map_cons] at w
  cases w with
  | cons a b =>
   cases a
   exact .cons _ _ (ih _ b)
theorem BX {l : OpenLaw} {n : Nat} (hn : l.most = some n) {P : Params} {h : Heap} {args : List WData} {vals : List Value}
  (hpre : l.row.toRowW.claim.pre args = true) (hwl : WellAll P h vals args) :
  ∃ a vs ns,vals = [Value.ref a] /\ args = [WData.list (ns.map WData.int)] /\ h.get? a = some { cls:=.type "list",data:=.seq vs.toArray } /\ IntsAre vs ns /\ ns.length <= n:=by
 have hsh : WShape.hasAll [] args [.list .int] = true:=(pre_splitW hpre).1
 have hc : l.pre.holds [] { args:=args } = true:=(pre_splitW hpre).2
 obtain ⟨d,r,rfl,h1,h2⟩:=hasAllW_cons hsh
 obtain rfl:=hasAllW_nil h2
 obtain ⟨xs,rfl,h3⟩:=hasW_list h1
 obtain ⟨ns,rfl⟩:=items_int h3
 have hlen : ns.length <= n:=by
  unfold OpenLaw.pre at hc
  have h4 : (WTm.not (.lt (.lit (.int (n : Int))) (.len (.arg 0)))).holds [] { args:=[.list (ns.map .int)] } = true:=by
   have h4:=(holds_andW hc).1
   rw [hn] at h4
   exact h4
  have h5:=condW_of h4 (w_not (w_lt w_lit (w_len_list (w_arg rfl))))
  rw [List.length_map] at h5
  refine Nat.le_of_not_lt fun q => ?_
  have q' : (n : Int) < ((ns.length : Nat) : Int):=by omega
  first
   | (rw [decide_eq_true q'] at h5; exact absurd h5 (by decide))
   | (simp at h5; omega)
 cases hwl with
 | cons w1 w2 =>
  cases w2
  cases w1 with
  | list ho hall => exact ⟨_,_,ns,rfl,rfl,ho,qM ns _ hall,hlen⟩
theorem BW (l : OpenLaw) (args : List WData) : l.row.toRowW.claim.post args (.bool true) args = true:=
 postW_of (r:=l.row.toRowW) (X:=(true == true))
  (show WShape.has [] (.bool true) .bool = true by first | rfl | decide | simp [WShape.has,WShape.arms,WShape.armsAll])
  (show (WTm.eq .res (.lit (.bool true))).value [] { args:=args,res:=some (.bool true),after:=args } = some (.bool (true == true)) from w_eq_bool (w_res rfl) w_lit) rfl
theorem attach_call {l : OpenLaw} {n : Nat} {q : Program} {loose : List Str} {XP : (Str -> Option Value) -> Heap -> Prop} {YP : World -> Heap -> Prop} {d : DefRec}
  (hn : l.most = some n) (hdf : d.params.defaults = [])
  (call : ∀ (w : World) (s₀ s₁ : Shared) (mg mb : Str -> Option Value) (fa : Addr) (o : Obj) (pm cd doc : Value) (a : Addr) (vs : List Value) (ns : List Int),
   Ground q loose [] XP w s₀ mg mb s₁.heap -> YP w s₁.heap ->
   s₁.heap.get? fa = some o -> o.data = .func (docDef d.name d.params d.body d.scope pm cd doc) -> s₁.heap.CodeRec cd d.name -> mg d.name = some (.ref fa) ->
   s₁.heap.get? a = some { cls:=.type "list",data:=.seq vs.toArray } -> IntsAre vs ns -> ns.length <= n -> s₁.gens = #[] ->
   codeAny (model l.prog w) callerA (.call (.ref fa) ⟨[.ref a],[]⟩) (fun r s' => r = .ok (.ret (.bool true)) /\ OldK s₁.heap s'.heap /\ s'.os = s₁.os /\ AllBare s'.gens) s₁) :
  WalkO q loose XP YP l.row.toRowW d [] (fun f vs => PySem.call f vs):=by
 intro w s₀ s₁ mg mb G Y fa o pm cd doc dV kV ho hd hcd hD hmg hg args vals as hpre hlay hrd hwl hlo
 obtain rfl : dV = .none:=Dflts.none hD hdf
 obtain rfl : kV = .none:=Dflts.noKw hD
 obtain ⟨a,vs,ns,rfl,rfl,hobj,hints,hlen⟩:=BX hn hpre hwl
 refine enter_call (codeAny_mono (call w s₀ s₁ mg mb fa o pm cd doc a vs ns G Y ho (fd_plain hd) hcd hmg hobj hints hlen hg) fun r s' hq => ?_)
 obtain ⟨rfl,h2,h3,h4⟩:=hq
 exact ⟨.inl ⟨.bool true,.bool true,[],rfl,fun _ => rfl,.bool true,BW l _,fun _ => ⟨List.Pairwise.nil,fun _ hm => (nomatch hm)⟩⟩,h2,h3,h4⟩
section
variable {prog : Program} {w : World} {A : Around} {E : Value -> Shared -> Prop} {s : Shared} {K : Frag}
def ledger (h : Heap) (L d : Addr) : List (Addr × Obj):=(List.range h.objs.size).filterMap fun a => if a = L \/ a = d then none else (h.get? a).map fun o => (a,o)
end
end Att
namespace L2
open PySem PySem.Spec PyProof.Rows
theorem wz : ∀ {vs : List Value} {ns : List Int},IntsAre vs ns -> Vals (ns.map V.int) vs
 | _,_,.nil => .nil
 | _,_,.cons n t h => .cons ⟨t,rfl⟩ (wz h)
def ER (H : Hp) : Prop := ∀ b,H b = none \/ ∃ o xs,H b = some (.frz o (.lst xs))
theorem CG {P : Program} {w : World} {K : PySem.W.Frag} {mg mb : Str -> Option Value} {CX : CXT} {k : Nat} {fa a : Addr} {fd : FuncData} {x : Str} {sp : Sp} {s₁ : Shared} {vs : List Value} {ns : List Int}
  (KX : K.In s₁.heap) (hns : s₁.heap.Ns mainGlobals mg) (hb : s₁.heap.Ns builtinsNs mb) (hbb : ∀ x : Str,x ≠ "__name__" -> mb x = bootBuiltins x) (hlim : s₁.heap.NoLimit) (hg : s₁.gens = #[])
  (ha : s₁.heap.get? a = some { cls:=.type "list",data:=.seq vs.toArray }) (hi : IntsAre vs ns) (hl : ns.length <= sizeLine) (hr : Room k callerA)
  (F : ∀ base : Heap,K.In base -> base.Ns mainGlobals mg -> FnOk P w K mg base CX k fa fd [x] sp) (hbind : ∀ (s : Shared) (u : Value),BindsTo s fd ⟨[u],[]⟩ [(x,u)])
  (hsp : ∀ H : Hp,ER H -> SqL K H a (ns.map V.int) -> sp [.ref a] H (fun v _ => v = .bl true) fun _ _ _ => False)
  (hCX : ∀ H e s',CX [] H s₁ (fun _ _ _ => False) e s' -> False) :
  codeAny (model P w) callerA (.call (.ref fa) ⟨[.ref a],[]⟩) (fun r s' => r = .ok (.ret (.bool true)) /\ OldK s₁.heap s'.heap /\ s'.os = s₁.os /\ AllBare s'.gens) s₁:=by
 have rv:=wz hi
 have lenV:=hi.length
 have core : ∀ H : Hp,ER H -> SqL K H a (ns.map V.int) -> HOk P w H s₁.heap -> (∀ b,H b ≠ none -> b = a) -> (H a ≠ none -> K.lookup a = none) ->
   codeAny (model P w) callerA (.call (.ref fa) ⟨[.ref a],[]⟩) (fun r s' => r = .ok (.ret (.bool true)) /\ OldK s₁.heap s'.heap /\ s'.os = s₁.os /\ AllBare s'.gens) s₁:=by
  intro H hO hS hok hA hK
  have base_of : ∀ {b : Addr} {o : Obj},s₁.heap.get? b = some o -> H b = none -> (xi s₁.heap H).get? b = some o:=fun e n => CA e n
  have noA : ∀ {b : Addr} {o : Obj} {es : Array DictEntry} {ep : Nat},s₁.heap.get? b = some o -> o.data = .dict es ep -> H b = none:=fun {b o es ep} e d => by
   cases q : H b with
   | none => rfl
   | some u =>
    have e' : b = a:=hA b (by rw [q]; simp)
    subst e'
    rw [ha] at e; cases e
    have d' : Data.seq vs.toArray _ = Data.dict es ep:=d
    cases d'
  have nsK : ∀ {b : Addr} {m : Str -> Option Value},s₁.heap.Ns b m -> (xi s₁.heap H).Ns b m:=fun {b m} ⟨o,es,ep,e,d,r⟩ => ⟨o,es,ep,base_of e (noA e d),d,r⟩
  have hKb : K.In (xi s₁.heap H):=fun b o e => base_of (KX b o e) (by
   cases q : H b with
   | none => rfl
   | some u =>
    have e' : b = a:=hA b (by rw [q]; simp)
    subst e'
    rw [hK (by rw [q]; simp)] at e; cases e)
  have hM : Mod K mg (xi s₁.heap H):=⟨hKb,nsK hns,⟨mb,nsK hb,hbb⟩,let ⟨mc,h1,h2⟩:=hlim; ⟨mc,nsK h1,h2⟩⟩
  have e0 : Env0 P w K mg (xi s₁.heap H) callerA [] s₁ H:=⟨rfl,hM,fun b o e => D3 e,Nat.le_of_eq (Bx _ _),trivial,fun b hb => absurd (show b ∈ ([] : List Addr) from hb) (by simp),hok,.of_eq hg⟩
  refine codeAny_mono ((F _ hKb (nsK hns)).run callerA [] s₁ H ⟨[.ref a],[]⟩ [.ref a] [.ref a] _ _ hr e0 (hbind s₁ (.ref a)) (.cons rfl .nil) (hsp H hO hS)) fun r s' h => ?_
  cases r with
  | error e => exact (hCX H e s' h).elim
  | ok fl =>
   cases fl with
   | next => exact False.elim h
   | brk => exact False.elim h
   | cont => exact False.elim h
   | ret u =>
    obtain ⟨v,H',os,bare,un,hok',r',q⟩:=h
    have q' : v = .bl true:=q
    subst q'
    obtain rfl : u = Value.bool true:=r'
    refine ⟨rfl,OldK.of_keep fun b o e => ?_,os,bare⟩
    cases q : H b with
    | none => exact un.keep b o e q (by intro z; exact absurd (show b ∈ ([] : List Addr) from z) (by simp)) (by simp)
    | some u =>
     rcases hO b with z | ⟨ob,xs,z⟩
     ·rw [q] at z; cases z
     ·have z2:=un.frzs b ob _ z
      obtain ⟨e1,_⟩:=hok b _ z
      obtain ⟨e2,_⟩:=hok' b _ z2
      rw [e] at e1; cases e1
      exact e2
 cases hk : K.lookup a with
 | some o =>
  have e:=KX a o hk
  rw [ha] at e
  cases e
  refine core (fun _ => none) (fun _ => .inl rfl) (.inr ⟨_,vs.toArray,_,hk,rfl,rfl,rfl,by rw [List.size_toArray,lenV]; exact hl,by simpa using rv⟩) (fun b u z => by have z' : (none : Option HO) = some u:=z; cases z') (fun b z => absurd rfl z) fun z => absurd rfl z
 | none =>
  refine core (fun b => if b = a then some (.frz { cls:=.type "list",data:=.seq vs.toArray } (.lst (ns.map V.int))) else none) (fun b => ?_) (.inl (.inr ⟨{ cls:=.type "list",data:=.seq vs.toArray },if_pos rfl⟩)) (fun b u z => ?_) (fun b z => ?_) fun _ => hk
  ·by_cases hb : b = a
   ·exact .inr ⟨_,_,if_pos hb⟩
   ·exact .inl (if_neg hb)
  ·by_cases hb : b = a
   ·have z' := (if_pos hb).symm.trans z
    cases z'
    subst hb
    exact ⟨ha,by rw [List.length_map]; exact hl,vs,_,rv,ha⟩
   ·have z' := (if_neg hb).symm.trans z
    cases z'
  ·by_cases hb : b = a
   ·exact hb
   ·exact absurd (if_neg hb) z
end L2
namespace L2
open PySem PySem.Spec PyProof.Rows
theorem walk_of {l : PySem.W.OpenLaw} {n k : Nat} {q : Program} {loose : List Str} {XP : (Str -> Option Value) -> Heap -> Prop} {YP : World -> Heap -> Prop} {d : DefRec} {K : Params -> PySem.W.Frag} {CX : World -> CXT} {sp : World -> Sp} {x : Str}
  (hn : l.most = some n) (hn2 : n <= sizeLine) (hdf : d.params.defaults = []) (hr : Room k callerA)
  (hY : ∀ (w : World) (h : Heap),YP w h -> (K w.params).In h)
  (F : ∀ (w : World) (mg : Str -> Option Value) (fa : Addr) (h : Heap),(K w.params).In h -> h.Ns mainGlobals mg -> mg d.name = some (.ref fa) ->
   ∃ fd : FuncData,(∀ (s : Shared) (u : Value),BindsTo s fd ⟨[u],[]⟩ [(x,u)]) /\
    ∀ base : Heap,(K w.params).In base -> base.Ns mainGlobals mg -> FnOk l.prog w (K w.params) mg base (CX w) k fa fd [x] (sp w))
  (hsp : ∀ (w : World) (H : Hp) (a : Addr) (ns : List Int),ns.length <= n -> ER H -> SqL (K w.params) H a (ns.map V.int) -> sp w [.ref a] H (fun v _ => v = .bl true) fun _ _ _ => False)
  (hCX : ∀ (w : World) (H : Hp) (s : Shared) (e : Value) (s' : Shared),CX w [] H s (fun _ _ _ => False) e s' -> False) :
  PySem.W.WalkO q loose XP YP l.row.toRowW d [] (fun f vs => PySem.call f vs):=by
 refine Att.attach_call hn hdf fun w s₀ s₁ mg mb fa o pm cd doc a vs ns G Y ho hd hcd hmg hobj hints hlen hg => ?_
 have KX:=hY w _ Y
 obtain ⟨fd,hb,hF⟩:=F w mg fa _ KX G.T.g hmg
 exact CG KX G.T.g G.T.b G.T.builtins G.T.nolimit hg hobj hints (Nat.le_trans hlen hn2) hr hF hb (fun H hO hS => hsp w H a ns hlen hO hS) fun H e s' => hCX w H s₁ e s'
end L2
namespace L2
open PySem PySem.Spec PyProof.Rows
def inClass (s : Stmt) (j : Nat) : Stmt:=match s with
 | .ClassDef _ _ _ body _ _ _ _ _ _ _ => body.getD j (.Pass ⟨0,0,0,0⟩)
 | _ => .Pass ⟨0,0,0,0⟩
def aD (s : Stmt) : Arguments:=match s with
 | .FunctionDef _ a _ _ _ _ _ _ _ _ => a
 | _ => { posonlyargs:=[],args:=[],vararg:=none,kwonlyargs:=[],kw_defaults:=[],kwarg:=none,defaults:=[] }
def aC (s : Stmt) : List Stmt:=match s with
 | .FunctionDef _ _ b _ _ _ _ _ _ _ => b
 | _ => []
def ai (s : Stmt) : Scope:=match s with
 | .FunctionDef _ _ _ _ _ _ sc _ _ _ => sc
 | _ => { kind:=.function,names:=[],isGenerator:=false,isCoroutine:=false }
abbrev CX0 : CXT:=fun _ _ _ _ _ _ => False
abbrev E0 : XK:=fun _ _ _ => False
theorem C4 {X : Cx} : Passes CX0 X E0:=fun _ _ _ _ _ _ _ h => h.elim
structure Fun (K : PySem.W.Frag) (x qual : Str) (st : Stmt) (f : Addr) (fd : FuncData) : Prop where
 ex : ∃ (oc : Value) (od : Option Addr) (kV doc pm : Value) (an : Option Addr) (cdv ct : Value) (osl : Array (Option Value)),
  fd = PySem.W.fnOf x qual (aD st) (aC st) (ai st) .none kV doc pm an cdv ct /\ K.lookup f = some ⟨oc,od,.func fd,osl⟩ /\ PySem.W.codeIn K cdv qual = true
 kp : PySem.W.keepIn K (.ref f) = true
section
variable {P : Program} {w : World} {K : PySem.W.Frag} {mg : Str -> Option Value} {base : Heap}
end
theorem cH {n : Nat} (h : n <= 1000) : n < sizeLine:=Nat.lt_of_le_of_lt h (by decide)
section
variable {X : Cx}
theorem pv (i : Nat) {x : Str} {pos : Pos} (hN : X.N[i]? = some x:=by rfl) (hv : Vis X.env.scope x:=by first | exact Or.inl rfl | exact Or.inr (Or.inl rfl) | exact Or.inr (Or.inr rfl)) (hd : (x == ("__debug__" : Str)) = false:=by decide)
  (hcd : (x == ("__classdict__" : Str)) = false:=by decide) : PE X (.Name x pos) (rD i):=Fm hN hv hd hcd
end
theorem b8 {A B : Prop} (h : B) : if false = true then A else B:=by
 rw [if_neg Bool.false_ne_true]
 exact h
theorem eO {A B : Prop} (h : A) : if true = true then A else B:=by
 rw [if_pos rfl]
 exact h
theorem yQ {c A B : Prop} [Decidable c] (h1 : c -> A) (h2 : ¬ c -> B) : if c then A else B:=by
 by_cases h : c
 ·rw [if_pos h]
  exact h1 h
 ·rw [if_neg h]
  exact h2 h
def Same (H H' : Hp) : Prop := ∀ b o,H b = some o -> H' b = some o
theorem Same.refl (H : Hp) : Same H H:=fun _ _ h => h
theorem Same.trans {H H1 H2 : Hp} (a : Same H H1) (b : Same H1 H2) : Same H H2:=fun c o h => b c o (a c o h)
theorem Same.free {H H' : Hp} (e : Same H H') {l : Addr} (h : H' l = Option.none) : H l = Option.none:=by
 cases q : H l with
 | none => rfl
 | some o =>
  rw [e l o q] at h
  cases h
theorem Same.seq {K : PySem.W.Frag} {H H' : Hp} {a : Addr} {xs : List V} (e : Same H H') (h : SqL K H a xs) : SqL K H' a xs:=by
 rcases h with (h | ⟨o,h⟩) | h
 ·exact .inl (.inl (e _ _ h))
 ·exact .inl (.inr ⟨o,e _ _ h⟩)
 ·exact .inr h
end L2
set_option Elab.async false
set_option linter.all false
set_option maxRecDepth 100000
namespace L2
open PySem PySem.Spec PyProof.Rows
def cf (cells : List (Str × Addr)) : List (Str × NameKind) -> List (Str × Addr) -> List (Str × Addr)
 | [],cs => cs
 | (n,k) :: r,cs => cf cells r (if k == .free then (n,(cells.lookup n).getD 0) :: cs else cs)
theorem mI {scope : Scope} {env : Env} (h : ∀ y ∈ scope.names,y.2 = .free -> ∃ c,env.cells.lookup y.1 = some c) :
  closureFor scope env = pure (cf env.cells scope.names []):=by
 have all : ∀ (ns : List (Str × NameKind)) (cs : List (Str × Addr)),(∀ y ∈ ns,y.2 = .free -> ∃ c,env.cells.lookup y.1 = some c) ->
   (forIn ns cs (fun (x : Str × NameKind) (r : List (Str × Addr)) => (match x with
    | (name,kind) => if (kind == NameKind.free) = true then (do let c <- cellOf env name; pure (ForInStep.yield ((name,c) :: r))) else pure (ForInStep.yield r) : Sem (ForInStep (List (Str × Addr))))) : Sem (List (Str × Addr)))
   = pure (cf env.cells ns cs):=by
  intro ns
  induction ns with
  | nil => intro cs _; rfl
  | cons y r ih =>
   intro cs hy
   obtain ⟨n,k⟩:=y
   rw [List.forIn_cons]
   by_cases hk : k = .free
   ·subst hk
    obtain ⟨c,e⟩:=hy (n,.free) List.mem_cons_self rfl
    have e' : env.cells.lookup n = some c:=e
    have e1 : cellOf env n = pure c:=by unfold cellOf; rw [e']
    simp only [beq_self_eq_true,if_true,e1,pure_bind]
    rw [ih _ fun z hz => hy z (List.mem_cons_of_mem _ hz)]
    simp only [cf,beq_self_eq_true,if_true,e',Option.getD_some]
   ·have hb : (k == NameKind.free) = false:=by simpa using hk
    simp only [hb,Bool.false_eq_true,if_false,pure_bind]
    rw [ih _ fun z hz => hy z (List.mem_cons_of_mem _ hz)]
    simp only [cf,hb,Bool.false_eq_true,if_false]
 unfold closureFor
 have q:=all scope.names [] h
 simp only [bind_pure]
 exact q
theorem mH (cells : List (Str × Addr)) {x : Str} {c : Addr} : ∀ (ns : List (Str × NameKind)) (cs : List (Str × Addr)),(cf cells ns cs).lookup x = some c ->
  ((x,NameKind.free) ∈ ns /\ (cells.lookup x).getD 0 = c) \/ cs.lookup x = some c
 | [],_,h => .inr h
 | (n,k) :: r,cs,h => by
  rcases mH cells r _ h with ⟨h1,h2⟩ | h1
  ·exact .inl ⟨List.mem_cons_of_mem _ h1,h2⟩
  ·by_cases hk : k = .free
   ·subst hk
    simp only [beq_self_eq_true,if_true] at h1
    by_cases hx : x = n
    ·subst hx
     simp only [List.lookup_cons,beq_self_eq_true] at h1
     exact .inl ⟨List.mem_cons_self,Option.some.inj h1⟩
    ·have hb : (x == n) = false:=by simpa using hx
     simp only [List.lookup_cons,hb] at h1
     exact .inr h1
   ·have hb : (k == NameKind.free) = false:=by simpa using hk
    simp only [hb,Bool.false_eq_true,if_false] at h1
    exact .inr h1
theorem jJ (cells : List (Str × Addr)) {x : Str} {c : Addr} (e : cells.lookup x = some c) : ∀ (ns : List (Str × NameKind)) (cs : List (Str × Addr)),((x,NameKind.free) ∈ ns \/ cs.lookup x = some c) ->
  (cf cells ns cs).lookup x = some c
 | [],_,h => by
  rcases h with h | h
  ·cases h
  ·exact h
 | (n,k) :: r,cs,h => by
  refine jJ cells e r _ ?_
  rcases h with h | h
  ·rcases List.mem_cons.mp h with z | z
   ·cases z
    right
    simp only [beq_self_eq_true,if_true,List.lookup_cons,e,Option.getD_some]
   ·exact .inl z
  ·right
   by_cases hk : (k == NameKind.free) = true
   ·rw [if_pos hk]
    by_cases hx : x = n
    ·subst hx
     simp only [List.lookup_cons,beq_self_eq_true,e,Option.getD_some]
    ·have hb : (x == n) = false:=by simpa using hx
     simp only [List.lookup_cons,hb]
     exact h
   ·rw [if_neg hk]
    exact h
theorem oG {env : Env} : ∀ {names : List (Str × NameKind)} {x : Str},names.lookup x = some .free ->
  (names.map fun (n,k) => if (k == NameKind.free && env.scope.kind == .function && env.kindOf n == some .cell) then (n,NameKind.cell) else (n,k)).lookup x = some .cell \/
  (names.map fun (n,k) => if (k == NameKind.free && env.scope.kind == .function && env.kindOf n == some .cell) then (n,NameKind.cell) else (n,k)).lookup x = some .free
 | [],_,h => by simp at h
 | (n,k) :: r,x,h => by
  have ih:=@oG env r x
  show List.lookup x ((if (k == NameKind.free && env.scope.kind == .function && env.kindOf n == some .cell) = true then (n,NameKind.cell) else (n,k)) :: _) = _ \/
   List.lookup x ((if (k == NameKind.free && env.scope.kind == .function && env.kindOf n == some .cell) = true then (n,NameKind.cell) else (n,k)) :: _) = _
  cases hx : x == n with
  | true =>
   simp only [List.lookup_cons,hx] at h
   cases h
   by_cases hc : (NameKind.free == NameKind.free && env.scope.kind == .function && env.kindOf n == some .cell) = true
   ·rw [if_pos hc]; simp only [List.lookup_cons,hx]; first | exact .inl trivial | exact .inl rfl
   ·rw [if_neg hc]; simp only [List.lookup_cons,hx]; first | exact .inr trivial | exact .inr rfl
  | false =>
   simp only [List.lookup_cons,hx] at h
   by_cases hc : (k == NameKind.free && env.scope.kind == .function && env.kindOf n == some .cell) = true
   ·rw [if_pos hc]; simp only [List.lookup_cons,hx]; exact ih h
   ·rw [if_neg hc]; simp only [List.lookup_cons,hx]; exact ih h
theorem j7 {env : Env} : ∀ {names : List (Str × NameKind)} {x : Str} {k' : NameKind},k' = .cell \/ k' = .free -> (∀ y ∈ names,y.2 ≠ .cell) ->
  (names.map fun (n,k) => if (k == NameKind.free && env.scope.kind == .function && env.kindOf n == some .cell) then (n,NameKind.cell) else (n,k)).lookup x = some k' -> (x,NameKind.free) ∈ names
 | [],_,_,_,_,h => by simp at h
 | (n,k) :: r,x,k',hk',hn,h => by
  have ih:=@j7 env r x k' hk' (fun y hy => hn y (List.mem_cons_of_mem _ hy))
  have h' : List.lookup x ((if (k == NameKind.free && env.scope.kind == .function && env.kindOf n == some .cell) = true then (n,NameKind.cell) else (n,k)) :: (r.map fun (n,k) => if (k == NameKind.free && env.scope.kind == .function && env.kindOf n == some .cell) then (n,NameKind.cell) else (n,k))) = some k' := h
  have hkc : k ≠ .cell:=hn (n,k) List.mem_cons_self
  cases hx : x == n with
  | true =>
   have hxn : x = n:=by simpa using hx
   subst hxn
   by_cases hc : (k == NameKind.free && env.scope.kind == .function && env.kindOf x == some .cell) = true
   ·have hk : k = .free:=by
     simp only [Bool.and_eq_true,beq_iff_eq] at hc
     exact hc.1.1
    subst hk
    exact List.mem_cons_self
   ·rw [if_neg hc] at h'
    simp only [List.lookup_cons,beq_self_eq_true] at h'
    have hk : k = k' := Option.some.inj h'
    rcases hk' with z | z
    ·exact absurd (hk.trans z) hkc
    ·rw [hk,z]; exact List.mem_cons_self
  | false =>
   refine List.mem_cons_of_mem _ (ih ?_)
   by_cases hc : (k == NameKind.free && env.scope.kind == .function && env.kindOf n == some .cell) = true
   ·rw [if_pos hc] at h'
    simpa only [List.lookup_cons,hx] using h'
   ·rw [if_neg hc] at h'
    simpa only [List.lookup_cons,hx] using h'
def aR (ix : List (Option Nat)) (σ : St) : St:=ix.map fun o => match o with
 | none => none
 | some i => (σ[i]?).join
structure BlkScope (NX : List Str) (scX : Scope) (N : List Str) (ix : List (Option Nat)) (sc : Scope) : Prop where
 kind : sc.kind = .function
 nd : N.Nodup
 nocell : ∀ y ∈ sc.names,y.2 ≠ .cell
 locs : ∀ y ∈ sc.names,y.2 = .local -> sc.names.lookup y.1 = some .local
 free : ∀ y ∈ sc.names,y.2 = .free -> scX.names.lookup y.1 = some .cell \/ scX.names.lookup y.1 = some .free
 len : ix.length = N.length
 at_ : ∀ p ∈ N.zip ix,∀ i,p.2 = some i -> NX[i]? = some p.1 /\ sc.names.lookup p.1 = some .free
def bO (X : Cx) (N : List Str) (scope : Scope) (fp : List Addr) (s : Shared) (H : Hp) (C : Addr) : Cx:=
 { prog:=X.prog,w:=X.w,K:=X.K,mg:=X.mg,base:=X.base,A:=X.A,N:=N,s₀:=s,H₀:=H,env:=compEnvC scope (cf X.env.cells scope.names []) C X.env,outer:=X.stack,stack:=X.stack,ex:=fp,fn:=fun _ => false,calm:=X.calm,pn:=X.pn,xe:=fun _ _ => False }
theorem qT {names : List (Str × NameKind)} {x : Str} (h : names.lookup x = some .free) : (x,NameKind.free) ∈ names:=PySem.mem_of_lookup h
section
variable {X : Cx} {pins : List (Addr × Obj)} {σ : St} {H : Hp} {s : Shared} {N : List Str} {ix : List (Option Nat)} {scope : Scope} {fp : List Addr}
theorem BlkScope.clos (S : BlkScope X.N X.env.scope N ix scope) (ok : X.Ok) : ∀ y ∈ scope.names,y.2 = .free -> ∃ c,X.env.cells.lookup y.1 = some c:=fun y hy hf => ok.has y.1 (S.free y hy hf)
theorem we {D C : Addr} {h' : Heap} {tk : Nat} {m : Str -> Option Value} (I : Inv X pins σ H s) (S : BlkScope X.N X.env.scope N ix scope) (hf : ∀ b ∈ fp,mK X pins H b)
  (hfo : ∀ b ∈ fp,∃ o,s.heap.get? b = some o /\ ∀ v,o.data ≠ .cell v)
  (hD : s.heap.objs.size <= D) (hC : s.heap.objs.size <= C) (hDC : D ≠ C) (hk : ∀ b o,s.heap.get? b = some o -> h'.get? b = some o) (hns : h'.Ns C m)
  (hl : ∃ n,h'.get? D = some { cls:=.type "list",data:=.seq ([] : List Value).toArray n }) :
  Inv (bO X N scope fp s H C) pins (aR ix σ) (upd H D (.lst [])) { s with heap:=h',toks:=tk }:=by
 have fresh : ∀ {a : Addr},s.heap.objs.size <= a -> H a = none:=fun h => I.hok.fresh h
 have cl_of : ∀ x c,(cf X.env.cells scope.names []).lookup x = some c -> X.env.cells.lookup x = some c:=fun x c e => by
  rcases mH _ _ _ e with ⟨h1,h2⟩ | h1
  ·obtain ⟨c',e'⟩:=S.clos I.ok _ h1 rfl
   have e'' : X.env.cells.lookup x = some c' := e'
   rw [e''] at h2
   rw [e'']
   exact congrArg some h2
  ·simp at h1
 have ltO : ∀ {b : Addr} {o : Obj},s.heap.get? b = some o -> b < s.heap.objs.size:=fun e => Heap.lt_size e
 have neC : ∀ {b : Addr} {o : Obj},s.heap.get? b = some o -> b ≠ C:=fun e => Nat.ne_of_lt (Nat.lt_of_lt_of_le (ltO e) hC)
 have neD : ∀ {b : Addr} {o : Obj},s.heap.get? b = some o -> b ≠ D:=fun e => Nat.ne_of_lt (Nat.lt_of_lt_of_le (ltO e) hD)
 have cellG : ∀ x c,X.env.cells.lookup x = some c -> ∃ o,s.heap.get? c = some o:=fun x c e => by
  obtain ⟨v,o,ho,_⟩:=I.cell x c e
  exact ⟨o,ho⟩
 refine ⟨⟨I.ok.mod,?_,I.ok.glob,I.ok.blt,hC,fun x y c e1 e2 => I.ok.inj x y c (cl_of x c e1) (cl_of y c e2),fun x hx => ?_,fun x c h _ => ?_,I.ok.hd,I.ok.frames,.inl rfl,fun b hb => ?_,I.bs,Nat.le_trans I.ok.bsz I.sz,fun b o e hb => ?_,fun b hb hb2 => ?_,I.stack,I.stkFree⟩,
  rfl,I.bare,Un.laid hk hD (fresh hD),⟨m,hns,fun j x v e1 e2 e3 => ?_⟩,fun x c e => ?_,?_,fun x c e => ?_,fun p hp => ?_,I.hok.laid hk hD ?_,?_⟩
 ·exact S.kind
 ·have hx' : (x,NameKind.free) ∈ scope.names:=by
   rcases hx with hx | hx
   ·exact j7 (.inl rfl) S.nocell hx
   ·exact j7 (.inr rfl) S.nocell hx
  obtain ⟨c,e⟩:=S.clos I.ok _ hx' rfl
  exact ⟨c,jJ _ e _ _ (.inl hx')⟩
 ·exact absurd (show false = true from h) Bool.false_ne_true
 ·obtain ⟨f0,f1,f2,f3,f4,f5⟩:=hf b hb
  obtain ⟨o,e,_⟩:=hfo b hb
  exact ⟨neC e,fun x c ec => f4 x c (cl_of x c ec)⟩
 ·obtain ⟨f0,f1,f2,f3,f4,f5⟩:=hf b hb
  rcases f3 with z | z
  ·exact I.ok.noex b o e z
  ·exact absurd (Nat.lt_of_lt_of_le (Heap.lt_size (I.ok.bs b o e).1) z) (Nat.lt_irrefl _)
 ·obtain ⟨f0,f1,f2,f3,f4,f5⟩:=hf b hb
  rcases List.mem_cons.mp (I.stkSub b hb2) with z | z
  ·exact f1 z
  ·exact f2 z
 ·-- a name's value
  obtain ⟨mX,hnX,hlX⟩:=id I.loc
  have hj : (aR ix σ)[j]? = some (some v):=e2
  unfold aR at hj
  rw [List.getElem?_map] at hj
  cases ej : ix[j]? with
  | none => rw [ej] at hj; cases hj
  | some o =>
   rw [ej] at hj
   cases o with
   | none => cases hj
   | some i =>
    have hj' : (σ[i]?).join = some v:=Option.some.inj hj
    have hz : (x,some i) ∈ N.zip ix:=List.mem_iff_getElem?.mpr ⟨j,by rw [List.getElem?_zip_eq_some]; exact ⟨e1,ej⟩⟩
    obtain ⟨hNi,hfr⟩:=S.at_ _ hz i rfl
    have hmem:=qT hfr
    have hσ : σ[i]? = some (some v):=by
     cases q : σ[i]? with
     | none => rw [q] at hj'; cases hj'
     | some w' =>
      rw [q] at hj'
      have q' : w' = some v:=hj'
      rw [q']
    have hvx : X.env.scope.names.lookup x = some .cell \/ X.env.scope.names.lookup x = some .free:=S.free _ hmem rfl
    obtain ⟨u,r,lk⟩:=hlX i x v hNi hσ (.inr hvx)
    refine ⟨u,r,.inr ⟨?_,?_⟩⟩
    ·exact oG hfr
    ·rcases lk with ⟨k,_⟩ | ⟨k,c,ec,ci⟩
     ·have k' : X.env.scope.names.lookup x = some .local:=k
      rcases hvx with z | z
      ·rw [z] at k'; cases k'
      ·rw [z] at k'; cases k'
     ·obtain ⟨oc,hoc,hocd⟩:=ci
      exact ⟨c,jJ _ ec _ _ (.inl hmem),oc,hk c oc hoc,hocd⟩
 ·obtain ⟨v,o,ho,hd⟩:=I.cell x c (cl_of x c e)
  exact ⟨v,o,hk c o ho,hd⟩
 ·show upd H D (.lst []) C = none
  rw [aw (Ne.symm hDC)]
  exact fresh hC
 ·obtain ⟨o,ho⟩:=cellG x c (cl_of x c e)
  rw [aw (neD ho)]
  exact I.freeC x c (cl_of x c e)
 ·obtain ⟨e,n,ne,nf,d⟩:=I.pin p hp
  refine ⟨hk _ _ e,by rw [aw (neD e)]; exact n,neC e,fun z => ?_,d⟩
  rcases List.mem_cons.mp (I.stkSub p.1 z) with q | q
  ·exact ne q
  ·exact nf q
 ·obtain ⟨n,hl⟩:=hl
  exact ⟨Nat.zero_le _,[],n,.nil,hl⟩
 ·show (aR ix σ).length = N.length
  unfold aR
  rw [List.length_map]
  exact S.len
end
end L2
set_option Elab.async false
set_option linter.all false
set_option maxRecDepth 100000
namespace L2
open PySem PySem.Spec PyProof.Rows
theorem yI {prog : Program} {w : World} {A : Around} {R : Result -> Shared -> Prop} {s : Shared} {elt target iter : Expr} {scope : Scope} {pos : Pos} {it acc : Value} {env : Env} (I : Nat -> Shared -> Prop)
  (turn : ∀ n s,I n s -> wpAny (model prog w) A (pyNext it) (fun r s₁ => match r with
   | none => R (.ok .next) s₁
   | some v => wpAny (model prog w) A (letOwnedTupleGo target it v) (fun _ s₁' => wpAny (model prog w) A (assign target env v) (fun _ s₂ => wpAny (model prog w) A (eval elt env) (fun x s₃ =>
     wpAny (model prog w) A (call (.builtin "list.append") [acc,x]) (fun _ s₄ => ∃ m,m < n /\ I m s₄) (fun _ _ => False) s₃)
     (fun _ _ => False) s₂) (fun _ _ => False) s₁') (fun _ _ => False) s₁) (fun _ _ => False) s)
  (n : Nat) (h : I n s) :
  codeAny (model prog w) A (.compLoop (.ListComp elt [⟨target,iter,[],0⟩] scope pos) 0 it acc env) R s:=by
 refine codeAny_loop rfl I (fun n s hI => ?_) n h
 show wpAny _ _ ((compTurn (.ListComp elt [⟨target,iter,[],0⟩] scope pos) 0 it acc env).onRaise (fun x => do noteFrame x env; theTreesLotGoes x)) _ _ s
 refine wpAny_noted ?_
 rw [compTurn_list1]
 refine wpAny_bind (wpAny_standAt (wpAny_bind (wpAny_mono (turn n s hI) (fun r s₁ h₁ => ?_) fun _ _ h' => h'.elim)))
 cases r with
 | none => exact wpAny_pure h₁
 | some v =>
  refine wpAny_bind (wpAny_mono h₁ (fun _ s₁' h₁' => ?_) fun _ _ h' => h'.elim)
  exact wpAny_bind (wpAny_mono h₁' (fun _ s₂ h₂ => wpAny_bind (wpAny_bind (wpAny_mono h₂ (fun x s₃ h₃ => wpAny_bind (wpAny_mono h₃
   (fun _ s₄ h₄ => wpAny_pure (wpAny_pure ⟨rfl,h₄⟩)) fun _ _ h' => h'.elim)) fun _ _ h' => h'.elim))) fun _ _ h' => h'.elim)
def vT (J : It) (ix : List (Option Nat)) (g : TG) (te : TE) (σ : St) (H : Hp) (Qd : Addr -> Hp -> Prop) : Prop:=
 ∀ D,H D = none -> ∃ W : Nat -> Nat -> St -> Hp -> Prop,(∃ m,W 0 m (aR ix σ) (upd H D (.lst []))) /\ ∀ i m σ' H',W i m σ' H' ->
  (J.stop i H' /\ Qd D H') \/ (J.go i H' /\ ∀ x H2,J.yld i H' x H2 -> g x σ' H2 fun σ3 H3 => te σ3 H3 fun y H4 => ∃ ys,H4 D = some (.lst ys) /\ ys.length < sizeLine /\ ∃ m',m' < m /\ W (i + 1) m' σ3 (upd H4 D (.lst (ys ++ [y]))))
section
variable {X : Cx} {pins : List (Addr × Obj)} {σ : St} {H : Hp} {s : Shared} {N : List Str} {ix : List (Option Nat)} {scope : Scope} {fp : List Addr} {tg elt iter : Expr} {pos spos : Pos} {J : It} {it : Addr} {tn : Nat -> Heap -> Prop} {g : TG} {te : TE} {wi : TI}
theorem Cf {Qd : Addr -> Hp -> Prop} {RR : Value -> Addr -> Result -> Shared -> Prop} {E : Value -> Shared -> Prop} (I : Inv X pins σ H s) (hc : X.calm = true) (S : BlkScope X.N X.env.scope N ix scope) (T : Turn X.prog X.w X.K tg J fp it tn) (st : tn 0 s.heap) (f2 : ∀ b ∈ fp,mK X pins H b)
  (hg : ∀ C,PG (bO X N scope fp s H C) tg g) (he : ∀ C,PE (bO X N scope fp s H C) elt te) (hW : vT J ix g te σ H Qd)
  (hR : ∀ D C s' H' m,Inv X pins σ H' s' -> s'.heap.Ns C m -> mK X pins H' C -> Qd D H' -> RR (.ref D) C (.ok .next) s') :
  wpAny (model X.prog X.w) X.A (newList []) (fun acc s₃ => wpAny (model X.prog X.w) X.A (newFunctionEnv scope X.env.globals (cf X.env.cells scope.names []) [] X.env.qual none .none (some X.env)) (fun cenv s₄ =>
   codeAny (model X.prog X.w) X.A (.compStart (.ListComp elt [⟨tg,iter,[],0⟩] scope pos) 0 (.ref it) acc { cenv with scope:=relabel scope X.env }) (RR acc cenv.locals) s₄) E s₃) E s:=by
 refine wpAny_newObj_type (wpAny_newFunctionEnv S.nocell (by intro y hy; simp at hy) (fun h₁ hns₁ hsb₁ => ?_) S.kind)
 dsimp only at hns₁ hsb₁ ⊢
 generalize hH2 : s.heap.push { cls:=.type "list",dict:=none,data:=.seq ([] : List Value).toArray } = H2 at hns₁ hsb₁ ⊢
 have hC : H2.objs.size = s.heap.objs.size + 1:=by rw [<- hH2,Heap.size_push]
 have hDC : s.heap.objs.size ≠ H2.objs.size:=by rw [hC]; exact Nat.ne_of_lt (Nat.lt_succ_self _)
 have hCle : s.heap.objs.size <= H2.objs.size:=by rw [hC]; exact Nat.le_succ _
 have below : ∀ b,b < s.heap.objs.size -> b ≠ H2.objs.size:=fun b hb => by rw [hC]; exact Nat.ne_of_lt (Nat.lt_succ_of_lt hb)
 have old : ∀ b o,s.heap.get? b = some o -> h₁.get? b = some o:=fun b o e => hsb₁.extBut b o (below b (Heap.lt_size e)) (Heap.get?_push_of_some _ (hH2 ▸ Heap.get?_push_of_some _ e))
 have hacc : ∃ n,h₁.get? s.heap.objs.size = some { cls:=.type "list",data:=.seq ([] : List Value).toArray n }:=⟨_,hsb₁.extBut _ _ hDC (Heap.get?_push_of_some _ (hH2 ▸ Heap.get?_push_size _ rfl))⟩
 have st1 : tn 0 h₁:=T.keep _ _ _ st fun b _ o e => old b o e
 have fo : ∀ b ∈ fp,∃ o,s.heap.get? b = some o /\ ∀ v,o.data ≠ .cell v:=T.obj _ _ st
 have I0 : Inv (bO X N scope fp s H H2.objs.size) pins (aR ix σ) (upd H s.heap.objs.size (.lst [])) { s with heap:=h₁,toks:=s.toks + ([] : List (Str × Value)).length }:=
  we I S f2 fo (Nat.le_refl _) hCle hDC old hns₁ hacc
 have freshD : H s.heap.objs.size = none:=I.hok.fresh (Nat.le_refl _)
 obtain ⟨W,⟨m0,w0⟩,turn⟩:=hW s.heap.objs.size freshD
 have cl_ne : ∀ b ∈ fp,b ≠ H2.objs.size:=fun b hb => by
  obtain ⟨o,e,_⟩:=fo b hb
  exact below b (Heap.lt_size e)
 have stat : ∀ {H' : Hp},(∀ b ∈ fp,H' b = none) -> ∀ b ∈ fp,mK (bO X N scope fp s H H2.objs.size) pins H' b:=fun hn b hb => by
  obtain ⟨f0,f1,f3,f4,f5,f6⟩:=f2 b hb
  exact ⟨hn b hb,cl_ne b hb,I0.ok.exfs b hb,.inl hb,(I0.ok.exf b hb).2,f6⟩
 have fr0 : ∀ b ∈ fp,(upd H s.heap.objs.size (.lst [])) b = none:=fun b hb => by
  obtain ⟨o,e,_⟩:=fo b hb
  rw [aw (Nat.ne_of_lt (Heap.lt_size e))]
  exact (f2 b hb).1
 have loop : codeAny (model X.prog X.w) X.A (.compLoop (.ListComp elt [⟨tg,iter,[],0⟩] scope pos) 0 (.ref it) (.ref s.heap.objs.size) (compEnvC scope (cf X.env.cells scope.names []) H2.objs.size X.env))
   (RR (.ref s.heap.objs.size) H2.objs.size) { s with heap:=h₁,toks:=s.toks + ([] : List (Str × Value)).length }:=by
  refine yI (fun n s' => ∃ i σ' H',Inv (bO X N scope fp s H H2.objs.size) pins σ' H' s' /\ tn i s'.heap /\ (∀ b ∈ fp,H' b = none) /\ W i n σ' H') ?_ m0 ⟨0,_,_,I0,st1,fr0,w0⟩
  rintro n s3 ⟨i,σ3,H3,I3,st3,fr3,w3⟩
  rcases turn i n σ3 H3 w3 with ⟨stop,qn⟩ | ⟨go,step⟩
  ·refine thn (T.done (bO X N scope fp s H H2.objs.size) rfl rfl rfl hc i pins s3 σ3 H3 _ I3 (stat fr3) st3 stop) fun r s4 ⟨hr,I4⟩ => ?_
   subst hr
   obtain ⟨m4,hn4,_⟩:=id I4.loc
   refine hR _ _ s4 H3 m4 ?_ hn4 (I.fpOk hCle I4.free) qn
   exact I.call' (ch:=fp) I4.os I4.base I4.hok I4.bare fun b hb => by
    obtain ⟨f0,f1,f3,f4,f5,f6⟩:=f2 b hb
    exact ⟨f4,f1,f5,f6⟩
  ·refine thn (T.item (bO X N scope fp s H H2.objs.size) rfl rfl rfl hc i pins s3 σ3 H3 _ I3 (stat fr3) st3 go) fun r s4 ⟨u,hr,h4⟩ => ?_
   subst hr
   refine thn h4 fun _ s5 ⟨x,H5,I5,r5,y5,st5,fr5⟩ => ?_
   have I5' := I5.pinned (stat fr5) (T.obj _ _ st5)
   refine thn (hg _ _ s5 σ3 H5 x u _ I5' r5 (step x H5 y5)) fun _ s6 ⟨σ6,H6,I6,q6⟩ => ?_
   refine thn (he _ _ s6 σ6 H6 _ I6 q6) fun yv s7 ⟨y,H7,I7,r7,ys,hD7,hz7,m',hm,w7⟩ => ?_
   refine thn (bh (X:=bO X N scope fp s H H2.objs.size) _ s7 σ6 H7 (.ref s.heap.objs.size) [y] (.ref s.heap.objs.size) [yv] (fun _ H8 => W (i + 1) m' σ6 H8) I7 rfl (.cons r7 .nil) ⟨_,ys,y,rfl,rfl,hD7,hz7,w7⟩) fun _ s8 ⟨_,H8,I8,_,w8⟩ => ?_
   refine ⟨m',hm,i + 1,σ6,H8,I8.unpinned,T.keep _ _ _ st5 fun b hb o e => (I8.pin (b,o) (List.mem_append_right _ (List.mem_append_right _ (cP hb e)))).1,fun b hb => ?_,w8⟩
   obtain ⟨o,e,d⟩:=T.obj _ _ st5 b hb
   exact (I8.pin (b,o) (List.mem_append_right _ (List.mem_append_right _ (cP hb e)))).2.1
 exact codeAny_compStart_list loop (T.self _ _ _ _ _ st1 loop)
def Gg (ix : List (Option Nat)) (wi : TI) (g : TG) (te : TE) : TE:=fun σ H Q => wi σ H fun J H1 => vT J ix g te σ H1 fun D H' => Q (.ref D) H'
theorem oz (hc : X.calm = true) (S : BlkScope X.N X.env.scope N ix scope) (hi : PI X tg iter wi) (hg : ∀ fp s H C,PG (bO X N scope fp s H C) tg g) (he : ∀ fp s H C,PE (bO X N scope fp s H C) elt te)
  (hs : ∀ x,foldedSetIterable iter X.env x = pure x:=by intro _; rfl) : PE X (.ListComp elt [⟨tg,iter,[],0⟩] scope pos) (Gg ix wi g te):=by
 intro pins s σ H Q I h
 rw [eval_ListComp]
 refine wpAny_comprehension_free (use:=none) rfl hs (mI (S.clos I.ok)) S.kind S.locs (thn (hi pins s σ H _ I h) fun v s1 h1 => thn h1 fun itv s2 h2 => ?_)
 obtain ⟨it,fp,tn,J,H2,e,I2,T,st2,f2,hW⟩:=h2
 subst e
 refine Cf (RR:=fun acc C => compPost (model X.prog X.w) X.A X.xe none (EP X pins σ Q) acc C) I2 hc S T st2 f2 (hg _ _ _) (he _ _ _) hW ?_
 intro D C s' H' m I' hn fC q
 exact ⟨m,hn,fun h' sb => ⟨.ref D,H',I'.turned (t' := s'.toks) (fun b o hb e => (sb.2 b hb).trans e) fC.1 fC.2.1 fC.2.2.2.1 fC.2.2.2.2.1 fC.2.2.2.2.2,rfl,q⟩⟩
end
theorem se {lo : Int} {n : Nat} {ix : List (Option Nat)} {te : TE} {σ : St} {H : Hp} {Qd : Addr -> Hp -> Prop} (Pv : Addr -> Nat -> List V -> Hp -> Prop)
  (h0 : ∀ D,H D = none -> Pv D 0 [] (upd H D (.lst [])))
  (hs : ∀ D i ys H' (Q' : VK),H D = none -> i < n -> H' D = some (.lst ys) -> Pv D i ys H' -> (∀ y H4,H4 D = some (.lst ys) -> ys.length < sizeLine -> Pv D (i + 1) (ys ++ [y]) (upd H4 D (.lst (ys ++ [y]))) -> Q' y H4) ->
   te ((aR ix σ).set 0 (some (.int (lo + i)))) H' Q')
  (hd : ∀ D ys H',H D = none -> H' D = some (.lst ys) -> Pv D n ys H' -> Qd D H') : vT (Itr lo n) ix (aE 0) te σ H Qd:=by
 intro D hD
 refine ⟨fun i m σ' H' => m = n - i /\ i <= n /\ (σ' = aR ix σ \/ ∃ t,σ' = (aR ix σ).set 0 t) /\ ∃ ys,H' D = some (.lst ys) /\ Pv D i ys H',⟨n,by simp,Nat.zero_le _,.inl rfl,[],af,h0 D hD⟩,?_⟩
 rintro i m σ' H' ⟨rfl,hi,hσ,ys,hy,p⟩
 by_cases hlt : i < n
 ·refine .inr ⟨hlt,fun x H2 y => ?_⟩
  obtain ⟨e1,e2⟩:=y
  subst e1
  subst e2
  have es : σ'.set 0 (some (V.int (lo + i))) = (aR ix σ).set 0 (some (V.int (lo + i))):=by
   rcases hσ with z | ⟨t,z⟩
   ·rw [z]
   ·rw [z,List.set_set]
  show te (σ'.set 0 (some (V.int (lo + i)))) _ _
  rw [es]
  refine hs D i ys _ _ hD hlt hy p fun y H4 h4 hz p4 => ⟨ys,h4,hz,n - (i + 1),by omega,rfl,hlt,.inr ⟨_,rfl⟩,ys ++ [y],af,p4⟩
 ·have e : i = n:=by omega
  subst e
  exact .inl ⟨Nat.le_refl _,hd D ys H' hD hy p⟩
theorem vY {K : PySem.W.Frag} {a : Addr} {xs : List V} {ix : List (Option Nat)} {te : TE} {σ : St} {H : Hp} {Qd : Addr -> Hp -> Prop} (Pv : Addr -> Nat -> List V -> Hp -> Prop)
  (h0 : ∀ D,H D = none -> Pv D 0 [] (upd H D (.lst [])))
  (hl : ∀ D i ys H',i <= xs.length -> Pv D i ys H' -> SqL K H' a xs)
  (hs : ∀ D i x ys H' (Q' : VK),H D = none -> xs[i]? = some x -> H' D = some (.lst ys) -> Pv D i ys H' -> (∀ y H4,H4 D = some (.lst ys) -> ys.length < sizeLine -> Pv D (i + 1) (ys ++ [y]) (upd H4 D (.lst (ys ++ [y]))) -> Q' y H4) ->
   te ((aR ix σ).set 0 (some x)) H' Q')
  (hd : ∀ D ys H',H D = none -> H' D = some (.lst ys) -> Pv D xs.length ys H' -> Qd D H') : vT (Itl K a) ix (aE 0) te σ H Qd:=by
 intro D hD
 refine ⟨fun i m σ' H' => m = xs.length - i /\ i <= xs.length /\ (σ' = aR ix σ \/ ∃ t,σ' = (aR ix σ).set 0 t) /\ ∃ ys,H' D = some (.lst ys) /\ Pv D i ys H',⟨xs.length,by simp,Nat.zero_le _,.inl rfl,[],af,h0 D hD⟩,?_⟩
 rintro i m σ' H' ⟨rfl,hi,hσ,ys,hy,p⟩
 have q:=hl D i ys H' hi p
 by_cases hlt : i < xs.length
 ·refine .inr ⟨⟨xs,xs[i],q,by simp [hlt]⟩,fun x H2 y => ?_⟩
  obtain ⟨e1,e2⟩:=y
  subst e1
  have ex:=e2 xs q
  have es : σ'.set 0 (some x) = (aR ix σ).set 0 (some x):=by
   rcases hσ with z | ⟨t,z⟩
   ·rw [z]
   ·rw [z,List.set_set]
  show te (σ'.set 0 (some x)) _ _
  rw [es]
  refine hs D i x ys _ _ hD ex hy p fun y H4 h4 hz p4 => ⟨ys,h4,hz,xs.length - (i + 1),by omega,rfl,hlt,.inr ⟨_,rfl⟩,ys ++ [y],af,p4⟩
 ·have e : i = xs.length:=by omega
  subst e
  exact .inl ⟨⟨xs,q,Nat.le_refl _⟩,hd D ys H' hD hy p⟩
section
variable {X : Cx}
def GQ (K : PySem.W.Frag) : List V -> Hp -> VK -> Prop:=fun xs H Q => ∃ x n t b,xs = [x,.ty n] /\ TyOf K H x t /\ PySem.W.kitOne K t (.type n) = some b /\ Q (.bl b) H
theorem fv : fk X (.builtin "isinstance") (GQ X.K):=by
 intro pins s σ H xs us Q I r h
 obtain ⟨x,n,t,b,rfl,ty,e,q⟩:=h
 obtain ⟨u,v,rfl,ru,rv⟩:=r.two
 cases (show v = Value.type n from rv)
 exact BA I ru ty e fun tk => ⟨.bl b,H,I.tok tk,rfl,q⟩
end
section
variable {prog : Program} {w : World} {A : Around} {E : Value -> Shared -> Prop} {s : Shared}
theorem vZ {it t : Addr} {items : Array Value} (hne : t ≠ it) : ∀ (n i : Nat) (s : Shared) (Q : List Value -> Shared -> Prop),s.heap.IsListIter it t i -> s.heap.IsList t items -> i + n <= items.size ->
  (∀ h',h'.IsListIter it t (i + n) -> Heap.SameBut it s.heap h' -> Q ((items.toList.drop i).take n) { s with heap:=h' }) -> wpAny (model prog w) A (draw (.ref it) n) Q E s
 | 0,i,s,Q,hit,_,_,hQ => by
  show wpAny _ _ (pure []) Q E s
  exact wpAny_pure (by simpa using hQ s.heap hit (Heap.SameBut.refl ..))
 | n + 1,i,s,Q,hit,ht,hle,hQ => by
  have hlt : i < items.size:=by omega
  show wpAny _ _ (pyNext (.ref it) >>= _) Q E s
  refine wpAny_bind (wpAny_pyNext_list_item hit ht (x:=items[i]) (by simp [hlt]) fun h₁ hit₁ hs₁ => ?_)
  refine wpAny_bind (wpAny_holding (vZ hne n (i + 1) _ _ hit₁ (ht.extBut hs₁.extBut hne) (by omega) fun h₂ hit₂ hs₂ => wpAny_pure ?_))
  have hd : items.toList.drop i = items[i] :: items.toList.drop (i + 1):=by simp [List.drop_eq_getElem_cons,hlt]
  have:=hQ h₂ (by rw [show i + (n + 1) = i + 1 + n by omega]; exact hit₂) (hs₁.trans hs₂)
  rw [hd,List.take_succ_cons] at this
  exact this
theorem qk {t : Addr} {items : Array Value} {Q : List Value -> Shared -> Prop} (hh : A.handled = none) (ht : s.heap.IsList t items)
  (hQ : ∀ h',Heap.ExtBut s.heap.objs.size s.heap h' -> Q items.toList { s with heap:=h' }) : wpAny (model prog w) A (unpackItems (.ref t) items.size none) Q E s:=by
 have hlt : t ≠ s.heap.objs.size:=by obtain ⟨o,ho,_⟩:=ht; exact Nat.ne_of_lt (Heap.lt_size ho)
 unfold unpackItems
 refine wpAny_bind ?_
 ·unfold notIterableAtAll
  refine wpAny_bind (wpAny_specialOf ht.typeIs slot_list_iter.lookup ?_)
  refine wpAny_pure ?_
  simp only [Bool.false_eq_true,if_false]
  refine wpAny_bind (wpAny_holding (wpAny_pyIter_list ht ?_))
  refine wpAny_bind (wpAny_holding (vZ hlt items.size 0 _ _ ⟨_,Heap.get?_push_size _ rfl,rfl,rfl⟩ (ht.push _) (by omega) fun h₁ hit₁ hs₁ => ?_))
  have hall : List.take items.size (List.drop 0 items.toList) = items.toList:=by
   rw [List.drop_zero]; exact List.take_of_length_le (by simp)
  rw [hall]
  rw [if_neg (by simp)]
  have ht₁ : h₁.IsList t items:=(ht.push _).extBut hs₁.extBut hlt
  refine wpAny_bind (wpAny_holding (wpAny_pyNext_list_end hh hit₁ ht₁ (by simp) fun h₂ he₂ => ?_))
  simp only [Option.isSome_none,Bool.false_eq_true,if_false]
  refine wpAny_pure (hQ h₂ fun b o hb e => he₂ b o hb (hs₁.extBut b o hb (Heap.get?_push_of_some _ e)))
theorem nZ {env : Env} {elts : List Expr} {x1} {pos : Pos} {t : Addr} {items : Array Value} {Q : Unit -> Shared -> Prop} (hh : A.handled = none) (ht : s.heap.IsList t items)
  (hn : (assignEach elts env).length = items.size) (hstar : (assignEach elts env).findIdx? (·.1) = none)
  (h : ∀ h',Heap.ExtBut s.heap.objs.size s.heap h' -> wpAny (model prog w) A (assignInOrder ((assignEach elts env).map (·.2)) items.toList) Q E { s with heap:=h' }) :
  wpAny (model prog w) A (assign (.Tuple elts x1 pos) env (.ref t)) Q E s:=by
 rw [PyProof.Rows.assign_Tuple]
 refine wpAny_bind (wpAny_standAt ?_)
 unfold unpack
 rw [hn,hstar]
 exact wpAny_bind (wpAny_holding (qk hh ht h))
end
section
variable {X : Cx} {pos : Pos}
def Gx (K : PySem.W.Frag) (n : Nat) (t : TGs) : TG:=fun v σ H Q => ∃ a xs,v = .ref a /\ SqL K H a xs /\ xs.length = n /\ t xs σ H Q
theorem xX {es : List Expr} {k : Nat} {t : TGs} {n : Nat} (hc : X.calm = true) (h : PGs X es t)
  (hn : (assignEach es X.env).length = n:=by rfl) (hst : (assignEach es X.env).findIdx? (·.1) = none:=by rfl) : PG X (.Tuple es k pos) (Gx X.K n t):=by
 intro pins s σ H v u Q I r hw
 obtain ⟨a,xs,e1,hq,hl,hw⟩:=hw
 subst e1
 cases r
 obtain ⟨its,rv,ht,hz⟩:=I.list hq
 refine nZ (I.ok.hd hc) ht.isList (by simp [hn,<- hl,rv.length]) hst fun h' hx => ?_
 have I1 : Inv X pins σ H { s with heap:=h' }:=I.kept (t' := s.toks) fun b o e => hx b o (Nat.ne_of_lt (Heap.lt_size e)) e
 exact h pins _ σ H xs _ Q I1 (by simpa using rv) hw
end
end L2
set_option Elab.async false
set_option linter.all false
set_option maxRecDepth 100000
namespace HT
open PySem PySem.Spec PyProof.Rows
section
variable {prog : Program} {w : World} {A : Around} {E : Value -> Shared -> Prop} {s : Shared}
end
end HT
namespace L2
open PySem PySem.Spec PyProof.Rows
section
variable {X : Cx}
end
structure FunD (K : PySem.W.Frag) (x qual : Str) (st : Stmt) (dV : Value) (f : Addr) (fd : FuncData) : Prop where
 ex : ∃ (oc : Value) (od : Option Addr) (kV doc pm : Value) (an : Option Addr) (cdv ct : Value) (osl : Array (Option Value)),
  fd = PySem.W.fnOf x qual (aD st) (aC st) (ai st) dV kV doc pm an cdv ct /\ K.lookup f = some ⟨oc,od,.func fd,osl⟩ /\ PySem.W.codeIn K cdv qual = true
 kp : PySem.W.keepIn K (.ref f) = true
section
variable {P : Program} {w : World} {K : PySem.W.Frag} {mg : Str -> Option Value} {base : Heap}
theorem FunD.ok {x qual : Str} {st : Stmt} {dV : Value} {f : Addr} {fd : FuncData} {N ps : List Str} {k : Nat} {sp : Sp} (F : FunD K x qual st dV f fd) (S : FnScope N ps (ai st)) (len : ∀ vs H Q E,sp vs H Q E -> vs.length = ps.length)
  (hbody : ∀ (cdv : Value) (A : Around) (outer : List Env) (s : Shared) (H : Hp) (vs : List V) (Q : VK) (E : XK),Room k (A.deeper (envOfC qual (ai st) s.heap.objs.size f cdv)) -> sp vs H Q E ->
   ∃ t,PSs (Bt CX0 P w K mg base N qual (ai st) f cdv A outer s H E).nox (aC st) t /\ t { nx:=fun _ H' => Q .non H',rt:=Q } (start N vs) H) : FnOk P w K mg base CX0 (k + 1) f fd ps sp:=by
 obtain ⟨oc,od,kV,doc,pm,an,cdv,ct,osl,rfl,lk,hcd⟩:=F.ex
 refine FN lk hcd S len fun A outer s H vs Q E hr hsp => ?_
 obtain ⟨t,h,q⟩:=hbody cdv A outer s H vs Q E hr hsp
 exact ⟨t,h.nox,q⟩
theorem FunD.binds {x qual : Str} {st : Stmt} {f : Addr} {fd : FuncData} {ps : List Str} (F : FunD K x qual st .none f fd)
  (h : ∀ (kV doc pm : Value) (an : Option Addr) (cdv ct : Value) (us : List Value),us.length = ps.length -> bindArgs (PySem.W.fnOf x qual (aD st) (aC st) (ai st) .none kV doc pm an cdv ct) ⟨us,[]⟩ = pure (ps.zip us)) : Binds K fd ps []:=by
 obtain ⟨oc,od,kV,doc,pm,an,cdv,ct,osl,rfl,lk,hcd⟩:=F.ex
 exact .all (h kV doc pm an cdv ct)
theorem aJ {x qual : Str} {st : Stmt} {f : Addr} {oc : Value} {od an : Option Addr} {osl : Array (Option Value)} {dV kV doc pm cdv ct : Value} (l : K.lookup f = some ⟨oc,od,.func (PySem.W.fnOf x qual (aD st) (aC st) (ai st) dV kV doc pm an cdv ct),osl⟩)
  (c : PySem.W.codeIn K cdv qual = true) (k : PySem.W.keepIn K (.ref f) = true) : FunD K x qual st dV f (PySem.W.fnOf x qual (aD st) (aC st) (ai st) dV kV doc pm an cdv ct):=⟨⟨oc,od,kV,doc,pm,an,cdv,ct,osl,rfl,l,c⟩,k⟩
structure DefOk (P : Program) (w : World) (K : PySem.W.Frag) (mg : Str -> Option Value) (base : Heap) (x : Str) (k : Nat) (ps : List Str) (dvs : List V) (sp : Sp) : Prop where
 ex : ∃ (f : Addr) (fd : FuncData) (ds : List Value),mg x = some (.ref f) /\ PySem.W.keepIn K (.ref f) = true /\ Vals dvs ds /\ Binds K fd ps ds /\ FnOk P w K mg base CX0 k f fd ps sp
end
section
variable {X : Cx} {x : Str} {j k : Nat} {ps : List Str} {dvs : List V} {sp : Sp} {p pos : Pos} {e : Expr} {es : List Expr} {t : TA}
theorem aU (G : DefOk X.prog X.w X.K X.mg X.base x k ps dvs sp) (hr : Room j X.A) (ha : PA X (e :: es) t) (hx : ∀ e s,X.xe e s = False:=by intro _ _; rfl) (hkj : k <= j:=by decide) (hg : Gl X x:=by rfl) (hdb : (x == ("__debug__" : Str)) = false:=by decide)
  (he : starEach (e :: es) X.env = (false,eval e X.env) :: starEach es X.env:=by rfl) (hpl : (backTo pos (starEach es X.env)).any (·.1) = false:=by rfl) :
  PE X (.Call (.Name x p) (e :: es) [] pos) (Bb sp dvs E0 t):=by
 obtain ⟨f,fd,ds,hm,hk,hd,hb,F⟩:=G.ex
 exact Eg F (hr.mono hkj) hg hm hk hb hd (fun _ _ _ _ _ _ _ h => h.elim) ha hdb he hpl
end
theorem k7 (K : PySem.W.Frag) : PySem.W.kitOne K (.type "int") (.type "int") = some true:=by with_unfolding_all rfl
theorem om (K : PySem.W.Frag) : PySem.W.kitOne K (.type "int") (.type "bool") = some false:=by with_unfolding_all rfl
theorem ah {H : Hp} {p : Addr} (h : H p = none) (o : HO) : Same H (upd H p o):=fun b u q => by rw [aw (az q h)]; exact q
theorem small {n : Nat} (h : n <= 1000) : n <= sizeLine:=Nat.le_of_lt (cH h)
theorem cc : bootBuiltins "len" = some (.builtin "len"):=by decide +kernel
theorem EW : bootBuiltins "min" = some (.builtin "min"):=by decide +kernel
theorem Cc : bootBuiltins "max" = some (.builtin "max"):=by decide +kernel
theorem bL : bootBuiltins "isinstance" = some (.builtin "isinstance"):=by decide +kernel
theorem EV : bootBuiltins "all" = some (.builtin "all"):=by decide +kernel
theorem EX : bootBuiltins "sum" = some (.builtin "sum"):=by decide +kernel
theorem i6 : bootBuiltins "sorted" = some (.builtin "sorted"):=by decide +kernel
theorem pf : bootBuiltins "int" = some (.type "int"):=by decide +kernel
theorem DQ : bootBuiltins "bool" = some (.type "bool"):=by decide +kernel
theorem r8 : bootBuiltins "tuple" = some (.type "tuple"):=by decide +kernel
theorem iC : bootBuiltins "str" = some (.type "str"):=by decide +kernel
theorem r6 : bootBuiltins "set" = some (.type "set"):=by decide +kernel
end L2
set_option Elab.async false
set_option linter.all false
set_option maxRecDepth 100000
namespace L2
open PySem PySem.Spec PyProof.Rows
def BIG : Int:=2 ^ 4000
theorem Cb {k : Int} (h0 : 0 <= k) (h : k < BIG) : k.natAbs.log2 < 4000:=by
 rcases Nat.eq_zero_or_pos k.natAbs with z | hp
 ·rw [z]; decide +kernel
 ·refine (Nat.log2_lt (by omega)).mpr ?_
  have e : BIG = ((2 ^ 4000 : Nat) : Int):=by unfold BIG; norm_cast
  rw [e] at h
  omega
def FH (i j : Int) : Prop:=0 < j /\ j < BIG
section
variable {X : Cx}
end
section
variable {X : Cx} {tg : Expr}
end
theorem oW {c : TT} {tb : TS} {D : Ends} {σ : St} {H : Hp} (Pv : Nat -> St -> Hp -> Prop) (h0 : ∃ m,Pv m σ H)
  (hs : ∀ m σ H,Pv m σ H -> c σ H fun b H1 => if b = true then ∃ N : St -> Hp -> Prop,(∀ σ' H',N σ' H' -> ∃ m',m' < m /\ Pv m' σ' H') /\ tb { D with nx:=N,ct:=N,bk:=D.nx } σ H1 else D.nx σ H1) : qj c tb D σ H:=⟨Pv,h0,hs⟩
end L2
set_option Elab.async false
set_option linter.all false
set_option maxRecDepth 100000
namespace L2
open PySem PySem.Spec PyProof.Rows
section
variable {X : Cx} {pins : List (Addr × Obj)} {σ : St} {H : Hp} {s : Shared}
end
section
variable {X : Cx} {tg : Expr}
end
section
variable {X : Cx}
end
end L2
set_option Elab.async false
set_option linter.all false
set_option maxRecDepth 100000
namespace PySem
section
variable {prog : Program} {w : World} {A : Around} {R : Result -> Shared -> Prop} {I : Addr} {fp wr : List Addr} {n : Nat} {P : Nat -> Value -> Prop} {St : Nat -> Heap -> Prop}
end
section
variable {prog : Program} {w : World} {A : Around} {E : Value -> Shared -> Prop} {s : Shared}
end
end PySem
namespace L2
open PySem PySem.Spec PyProof.Rows
section
variable {X : Cx}
variable {p pos kpos : Pos} {e d : Expr} {ta : TA} {td : TE}
end
section
variable {prog : Program} {w : World} {A : Around} {E : Value -> Shared -> Prop} {s : Shared}
end
section
variable {X : Cx} {e : Expr} {te : TE} {lo hi : Option Expr} {st : Expr} {tl th ts : TO} {pos p2 : Pos}
end
section
variable {X : Cx} {tg : Expr}
end
theorem Ci {K : PySem.W.Frag} {a : Addr} {xs : List V} {ix : List (Option Nat)} {te : TE} {σ : St} {H : Hp} {Qd : Addr -> Hp -> Prop} (Pv : Addr -> Nat -> List V -> Hp -> Prop)
  (h0 : ∀ D,H D = none -> Pv D 0 [] (upd H D (.lst [])))
  (hl : ∀ D i ys H',i <= xs.length -> Pv D i ys H' -> SqT K H' a xs)
  (hs : ∀ D i x ys H' (Q' : VK),H D = none -> xs[i]? = some x -> H' D = some (.lst ys) -> Pv D i ys H' -> (∀ y H4,H4 D = some (.lst ys) -> ys.length < sizeLine -> Pv D (i + 1) (ys ++ [y]) (upd H4 D (.lst (ys ++ [y]))) -> Q' y H4) ->
   te ((aR ix σ).set 0 (some x)) H' Q')
  (hd : ∀ D ys H',H D = none -> H' D = some (.lst ys) -> Pv D xs.length ys H' -> Qd D H') : vT (Itt K a) ix (aE 0) te σ H Qd:=by
 intro D hD
 refine ⟨fun i m σ' H' => m = xs.length - i /\ i <= xs.length /\ (σ' = aR ix σ \/ ∃ t,σ' = (aR ix σ).set 0 t) /\ ∃ ys,H' D = some (.lst ys) /\ Pv D i ys H',⟨xs.length,by simp,Nat.zero_le _,.inl rfl,[],af,h0 D hD⟩,?_⟩
 rintro i m σ' H' ⟨rfl,hi,hσ,ys,hy,p⟩
 have q:=hl D i ys H' hi p
 by_cases hlt : i < xs.length
 ·refine .inr ⟨⟨xs,xs[i],q,by simp [hlt]⟩,fun x H2 y => ?_⟩
  obtain ⟨e1,e2⟩:=y
  subst e1
  have ex:=e2 xs q
  have es : σ'.set 0 (some x) = (aR ix σ).set 0 (some x):=by
   rcases hσ with z | ⟨t,z⟩
   ·rw [z]
   ·rw [z,List.set_set]
  show te (σ'.set 0 (some x)) _ _
  rw [es]
  refine hs D i x ys _ _ hD ex hy p fun y H4 h4 hz p4 => ⟨ys,h4,hz,xs.length - (i + 1),by omega,rfl,hlt,.inr ⟨_,rfl⟩,ys ++ [y],af,p4⟩
 ·have e : i = xs.length:=by omega
  subst e
  exact .inl ⟨⟨xs,q,Nat.le_refl _⟩,hd D ys H' hD hy p⟩
section
variable {X : Cx}
theorem yR (K : PySem.W.Frag) (h : X.K = K:=by rfl) : IxR X (F5 K):=by subst h; exact aS
end
end L2
set_option Elab.async false
set_option linter.all false
set_option maxRecDepth 100000
namespace L2
open PySem PySem.Spec PyProof.Rows
section
variable {κ : Type} [DecidableEq κ]
end
section
variable {P : Program} {w : World} {H : Hp} {h : Heap} {a : Addr}
end
section
variable {X : Cx} {pins : List (Addr × Obj)} {σ : St} {H : Hp} {s : Shared} {a : Addr} {y v : V} {u r : Value} {o : Option V} {A : Around} {E : Value -> Shared -> Prop}
end
section
variable {X : Cx} {pins : List (Addr × Obj)} {σ : St} {H : Hp} {s : Shared} {a : Addr} {kvs : List (Key × V)} {k : Key} {u : Value} {A : Around} {E : Value -> Shared -> Prop}
end
section
variable {X : Cx} {o i e value : Expr} {pos pos' tpos : Pos} {td ty tv : TE}
end
section
variable {X : Cx} {pos : Pos}
end
structure M1 (X : Cx) (o : Expr) (m : Str) (apos : Pos) (e : Expr) (cpos : Pos) : Prop where
 base : attributeBase o m X.env (eval o X.env) = eval o X.env
 few : ((backTo cpos (starEach [e] X.env)).all (fun x => !x.1) && (backToKw cpos (keywordEach [] X.env)).all (fun x => x.1.isSome)
  && decide (([e] : List Expr).length + ([] : List Keyword).length + (if ([] : List Keyword).isEmpty then 0 else 1) < 30)) = true
 line : (apos.endLine == cpos.line) = true
 trees : backTo cpos (starEach [e] X.env) = [(false,eval e X.env)]
structure M2 (X : Cx) (o : Expr) (m : Str) (apos : Pos) (e f : Expr) (cpos : Pos) : Prop where
 base : attributeBase o m X.env (eval o X.env) = eval o X.env
 few : ((backTo cpos (starEach [e,f] X.env)).all (fun x => !x.1) && (backToKw cpos (keywordEach [] X.env)).all (fun x => x.1.isSome)
  && decide (([e,f] : List Expr).length + ([] : List Keyword).length + (if ([] : List Keyword).isEmpty then 0 else 1) < 30)) = true
 line : (apos.endLine == cpos.line) = true
 trees : backTo cpos (starEach [e,f] X.env) = [(false,eval e X.env),(false,eval f X.env)]
section
variable {X : Cx} {pins : List (Addr × Obj)} {σ : St} {H : Hp} {s : Shared} {a : Addr} {y d : V} {u r : Value} {o : Option V} {A : Around} {E : Value -> Shared -> Prop}
end
section
variable {X : Cx} {o e f : Expr} {apos cpos : Pos} {td ty tx : TE}
end
section
variable {X : Cx} {pins : List (Addr × Obj)} {σ : St} {H : Hp} {s : Shared} {a : Addr} {kvs : List (Key × V)} {A : Around} {E : Value -> Shared -> Prop}
end
section
variable {X : Cx} {pins : List (Addr × Obj)} {σ : St} {H : Hp} {s : Shared} {a : Addr} {y : V} {u : Value} {A : Around} {E : Value -> Shared -> Prop}
end
end L2
namespace L2
open PySem PySem.Spec PyProof.Rows
section
variable {κ : Type} [DecidableEq κ]
end
end L2
set_option Elab.async false
set_option linter.all false
set_option maxRecDepth 100000
namespace PySem
open Sem (wp)
open Builtin
end PySem
namespace L2
open PySem PySem.Spec PyProof.Rows
section
variable {X : Cx}
def EH (K : PySem.W.Frag) : R2:=fun x y H Q => ∃ a b xs ys,x = .ref a /\ y = .ref b /\ SqT K H a xs /\ SqT K H b ys /\ xs.length + ys.length <= sizeLine /\
 (xs = [] -> Q (.ref b) H) /\ (xs ≠ [] -> ys = [] -> Q (.ref a) H) /\ (xs ≠ [] -> ys ≠ [] -> ∀ p,H p = none -> Q (.ref p) (upd H p (.tup (xs ++ ys))))
theorem ow : OpR X (binaryOp .Add) (EH X.K):=by
 intro pins s σ H x y v u Q I rx ry h
 obtain ⟨a,b,xs,ys,rfl,rfl,ha,hb,hz,q0,q1,q2⟩:=h
 by_cases hx : xs = []
 ·cases rx
  cases ry
  obtain ⟨its,r1,p1,_⟩:=I.tuple ha
  obtain ⟨its2,r2,p2,_⟩:=I.tuple hb
  obtain ⟨⟨cls,dd,data,sl⟩,ho,hc,n,hd⟩:=id p1
  obtain ⟨⟨cls2,dd2,data2,sl2⟩,ho2,hc2,n2,hd2⟩:=id p2
  simp only at hc hd hc2 hd2
  subst hc hd hc2 hd2
  have e : its = []:=r1.nil_iff.mpr hx
  exact concat_meets ⟨_,ho,rfl⟩ ⟨_,ho2,rfl⟩ noFill_tuple_add seq_tuple_add PySem.F.slot_tuple_add PySem.F.entry_tuple_add (PySem.F.args_tuple_add_2 _ _)
   (tuple_addW0 a b its.toArray its2.toArray n n2 dd dd2 sl sl2 (by simp [e])) ⟨ho,ho2,⟨.ref b,H,I,rfl,q0 hx⟩⟩
 ·exact Ef pins s σ H _ _ v u Q I rx ry ⟨a,b,xs,ys,rfl,rfl,ha,hb,hx,hz,q1 hx,q2 hx⟩
def GO (K : PySem.W.Frag) : List V -> Hp -> VK -> Prop:=fun xs H Q => ∃ (a : Addr) (bs : List Bool),xs = [.ref a] /\ SqL K H a (bs.map V.bl) /\ Q (.bl (bs.all id)) H
theorem Ce (hc : X.calm = true) : fk X (.builtin "all") (GO X.K):=by
 intro pins s σ H xs us Q I r h
 obtain ⟨a,bs,rfl,hS,q⟩:=h
 obtain ⟨u,rfl,ru⟩:=r.one
 cases (show u = Value.ref a from ru)
 obtain ⟨its,rv,ht,hz⟩:=I.list hS
 have hlen:=rv.length
 rw [List.length_map] at hlen
 have hlt : a < s.heap.objs.size:=by obtain ⟨_,e,_⟩:=ht.isList; exact Heap.lt_size e
 refine call_all_walk (wpAny_pyIter_list ht.isList ?_)
 have W:=Walks.list (prog:=X.prog) (w:=X.w) (A:=X.A.in1) (I.ok.hd hc) s.heap.objs.size a (Nat.ne_of_lt hlt) its.toArray
 refine ⟨_,_,_,_,_,_,fun i => bs.getD i false,rfl,W,⟨⟨_,Heap.get?_push_size _ rfl,rfl,rfl⟩,ht.isList.push _⟩,fun i v s' Q' E' hv hQ => ?_,fun h' tk hk => ?_⟩
 ·have e' : its[i]? = some v:=by simpa using hv
  have hi : i < bs.length:=by rw [hlen]; exact (List.getElem?_eq_some_iff.mp e').1
  obtain ⟨u,hu,ru⟩:=rv.get (i:=i) (x:=.bl bs[i]) (by simp [hi])
  rw [e'] at hu
  cases hu
  cases (show v = Value.bool bs[i] from ru)
  refine wpAny_truthy_bool ?_
  have : bs.getD i false = bs[i]:=by simp [hi]
  rw [<- this]
  exact hQ
 ·have I1 : Inv X pins σ H { s with heap:=h',toks:=tk }:=I.kept (t' := tk) fun b o e => hk b o (fun hm => by
   rw [List.mem_singleton.mp hm] at e
   exact Nat.lt_irrefl _ (Heap.lt_size e)) (Heap.get?_push_of_some _ e)
  refine ⟨.bl (bs.all id),H,I1,?_,q⟩
  show Value.bool _ = Value.bool _
  congr 1
  rw [List.size_toArray,<- hlen]
  have : (List.range bs.length).all (fun i => bs.getD i false) = bs.all id:=by
   have e : bs = (List.range bs.length).map fun i => bs.getD i false:=by
    apply List.ext_getElem?
    intro i
    rcases Nat.lt_or_ge i bs.length with q | q
    ·simp [q]
    ·simp [q]
   conv => rhs; rw [e]
   rw [List.all_map]
   rfl
  exact this
end
inductive Pl (H : Hp) : V -> Prop where
 | non : Pl H .non
 | bl (b : Bool) : Pl H (.bl b)
 | int (i : Int) : Pl H (.int i)
 | str (x : Str) : Pl H (.str x)
 | lst {a : Addr} {xs : List V} (e : H a = some (.lst xs)) : Pl H (.ref a)
 | tup {a : Addr} {xs : List V} (e : H a = some (.tup xs)) : Pl H (.ref a)
 | dK {a : Addr} {kvs : List (Key × V)} (e : H a = some (.dK kvs)) : Pl H (.ref a)
structure PEW (X : Cx) (e : Expr) (t : TE) : Prop where
 out : PE X e t
structure PAW (X : Cx) (es : List Expr) (t : TA) : Prop where
 out : PA X es t
structure PTW (X : Cx) (e : Expr) (t : TT) : Prop where
 out : PT X e t
structure PSW (X : Cx) (s : Stmt) (t : TS) : Prop where
 out : PS X s t
structure PSsW (X : Cx) (s : List Stmt) (t : TS) : Prop where
 out : PSs X s t
section
variable {X : Cx} {a b e : Expr} {es : List Expr} {ta tb te : TE} {t : TA} {pos : Pos}
theorem eE : PAW X [] gW:=⟨ae⟩
theorem av (ha : PEW X e te) (hr : PAW X es t) (hs : starEach (e :: es) X.env = (false,eval e X.env) :: starEach es X.env:=by rfl) : PAW X (e :: es) (bb te t):=⟨aa ha.out hr.out hs⟩
theorem kr (h : PAW X es t) : PEW X (.List es pos) (Gh t):=⟨cR h.out⟩
theorem EM {x1} (h : PAW X es t) : PEW X (.Tuple es x1 pos) (kd t):=⟨a8 h.out⟩
theorem EC {r : R2} (hr : IxR X r) (ha : PEW X a ta) (hb : PEW X b tb) (hs : AA b) : PEW X (.Subscript a b pos) (tOp r ta tb):=⟨aV hr ha.out hb.out hs⟩
variable {st : Stmt} {rest : List Stmt} {ts us : TS}
theorem yy : PSsW X [] aK:=⟨aH⟩
theorem ay (h1 : PSW X st ts) (h2 : PSsW X rest us) : PSsW X (st :: rest) (zE ts us):=⟨aj h1.out h2.out⟩
theorem c8 (h1 : PSW X st ts) : PSsW X [st] ts:=⟨ao h1.out⟩
theorem qz (he : PEW X e te) : PSW X (.Return (some e) pos) (Gk te):=⟨aG he.out⟩
theorem FG (he : PEW X e te) (hs : swapsWith e none pos.line X.env = pure false:=by rfl) : PSW X (.Expr e pos) (EJ te):=⟨bC he.out hs⟩
theorem Be {i : Nat} {x : Str} {pos' : Pos} (hN : X.N.Nodup) (hi : X.N[i]? = some x) (hx : Loc X.env.scope x) (he : PEW X e te) (hs : swapsWith e (some (.Name x pos')) pos.line X.env = pure false:=by rfl) (hf : X.fn x = true \/ X.env.scope.names.lookup x = some .local:=by first | exact .inl rfl | exact .inr rfl | assumption) :
  PSW X (.Assign [.Name x pos'] e pos) (uj te (aE i)):=⟨aA hN hi hx he.out hs hf⟩
theorem B5 {c : Expr} {a b : List Stmt} {tc : TT} {u : TS} (hc : PTW X c tc) (ha : PSsW X a ts) (hb : PSsW X b u) : PSW X (.If c a b pos) (Dq tc ts u):=⟨bc hc.out ha.out hb.out⟩
theorem Gp {tg iter : Expr} {body : List Stmt} {wi : TI} {g : TG} {tb : TS} (hp : PassesOwn (model X.prog X.w) X.A X.env X.xe) (hc : X.calm = true) (hi : PI X tg iter wi) (hg : PG X tg g) (hb : PSsW X body tb)
  (hs : ∀ x,foldedSetIterable iter X.env x = pure x:=by intro _; rfl) : PSW X (.For tg iter body [] pos) (EA wi g tb):=⟨lD hp hc hi hg hb.out hs⟩
theorem mS {b : List Stmt} {R : TS -> Prop} (h : PSsW X b ts) (r : R ts) : ∃ t,PSs X b t /\ R t:=⟨ts,h.out,r⟩
end
end L2
set_option Elab.async false
set_option linter.all false
set_option maxRecDepth 100000
namespace L2
open PySem PySem.Spec PyProof.Rows
def CX1 (P : Program) (w : World) : CXT:=fun outer H s E e s' => ∃ (ea t C : Addr) (B : Heap) (H' : Hp),e = .ref ea /\ s'.os = s.os /\ AllBare s'.gens /\ Un (frs outer) [] H H' s.heap s'.heap /\ HOk P w H' B /\
 Heap.FlyingW B outer ea (.ref C) (.ref t) s'.heap /\ (∀ b o,s.heap.get? b = some o -> b ∉ frs outer -> ∃ o',B.get? b = some o') /\ H' ea = none /\ E (.ref C) none H'
section
variable {P : Program} {w : World} {K : PySem.W.Frag} {mg : Str -> Option Value} {base : Heap} {N : List Str} {qual : Str} {scope : Scope} {f : Addr} {cd : Value} {A : Around} {outer : List Env} {s : Shared} {H : Hp} {E : XK}
end
end L2
set_option Elab.async false
set_option linter.all false
set_option maxRecDepth 100000
namespace L2
open PySem PySem.Spec PyProof.Rows
abbrev VEm : List Value:=[.type "ValueError",.type "Exception",.type "BaseException",.type "object"]
section
variable {X : Cx} {x : Str} {j k : Nat} {ps : List Str} {dvs : List V} {sp : Sp} {p pos cpos : Pos} {e : Expr} {es : List Expr} {t : TA} {C : Addr} {E : XK}
end
structure DefX (P : Program) (w : World) (K : PySem.W.Frag) (mg : Str -> Option Value) (base : Heap) (x : Str) (k : Nat) (ps : List Str) (dvs : List V) (sp : Sp) : Prop where
 ex : ∃ (f : Addr) (fd : FuncData) (ds : List Value),mg x = some (.ref f) /\ PySem.W.keepIn K (.ref f) = true /\ Vals dvs ds /\ Binds K fd ps ds /\ FnOk P w K mg base (CX1 P w) k f fd ps sp
section
variable {X : Cx} {x : Str} {j k : Nat} {ps : List Str} {dvs : List V} {sp : Sp} {p pos : Pos} {e : Expr} {es : List Expr} {t : TA} {E : XK}
end
section
variable {P : Program} {w : World} {K : PySem.W.Frag} {mg : Str -> Option Value} {base : Heap}
end
section
variable {X : Cx} {e v1 v2 : Expr} {es rest : List Expr} {pos : Pos} {te : TE} {n : Nat}
abbrev TF:=St -> Hp -> (Str -> Hp -> Prop) -> Prop
def PF (X : Cx) (e : Expr) (t : TF) : Prop := ∀ (pins : List (Addr × Obj)) (s : Shared) (σ : St) (H : Hp) (Q : Str -> Hp -> Prop),Inv X pins σ H s -> t σ H Q ->
 wpAny (model X.prog X.w) X.A (eval e X.env) (fun u s' => ∃ x tk H',u = .str x tk /\ Inv X pins σ H' s' /\ x.length <= 1000 /\ Q x H') X.xe s
theorem gT {x : Str} {k : Nat} {pos : Pos} (hx : x.length <= 1000:=by decide) : PF X (.Constant (.str x) k pos) (fun _ H Q => Q x H):=fun pins s σ H Q I q =>
 Calls.Constant_str (show _ from ⟨x,_,H,rfl,I.tok _,hx,q⟩)
def GY (te : TE) : TF:=fun σ H Q => te σ H fun v H1 => (∃ x,v = .str x /\ x.length <= 1000 /\ Q x H1) \/ ∃ i : Int,v = .int i /\ i.natAbs.log2 < 1920 /\ (Str.ofString (toString i)).length <= 1000 /\ Q (Str.ofString (toString i)) H1
theorem lB (he : PE X e te) : PF X (.FormattedValue e (-1) none pos) (GY te):=by
 intro pins s σ H Q I h
 refine FormattedValue_plain (thn (he pins s σ H _ I h) fun u s1 ⟨v,H1,I1,r,q⟩ => ?_)
 rcases q with ⟨x,rfl,hx,q⟩ | ⟨i,rfl,hd,hx,q⟩
 ·obtain ⟨tk,rfl⟩:=(show ∃ t,u = Value.str x t from r)
  exact formatField_str (fun t' tk' => ⟨x,t',H1,rfl,I1.tok _,hx,q⟩) (Nat.le_trans hx (by decide))
 ·obtain ⟨tk,rfl⟩:=(show ∃ t,u = Value.int i t from r)
  exact formatField_int_small hd ⟨_,_,H1,rfl,I1.tok _,hx,q⟩
end
end L2
set_option Elab.async false
set_option linter.all false
set_option maxRecDepth 100000
namespace L2
open PySem PySem.Spec PySem.W PySem.Builtin PySem.Builtin.Getset_descriptor
structure XCls (K : PySem.W.Frag) (C : Addr) : Prop where
 ga : findIn K (.ref C) "__getattribute__" = some (some (.builtin "BaseException.__getattribute__"))
 gt : findIn K (.ref C) "__getattr__" = some none
 cl : findIn K (.ref C) "__class__" = some (some (.builtin "object.__class__"))
 gg : specialIn K (.builtin "object.__class__") "__get__" = some (some (.builtin "getset_descriptor.__get__"))
 tk : takesIn K (.builtin "object.__class__") = some true
 ob : mroIn K C (.type "object") = some true
 be : mroIn K C (.type "BaseException") = some true
 ci : (clsIn K C).isSome = true
section
variable {prog : Program} {w : World} {A : Around} {E : Value -> Shared -> Prop} {s : Shared} {K : PySem.W.Frag} {ea C : Addr} {ob : Obj}
end
end L2
set_option Elab.async false
set_option linter.all false
set_option maxRecDepth 100000
namespace L2
open PySem PySem.Spec PyProof.Rows
section
variable {X : Cx} {pins : List (Addr × Obj)} {σ : St} {H : Hp} {s : Shared} {E : XK} {ea : Addr}
abbrev TXE:=St -> Hp -> VK -> XK -> Prop
abbrev TX:=Ends -> XK -> St -> Hp -> Prop
end
section
variable {X : Cx} {x : Str} {j k : Nat} {ps : List Str} {dvs : List V} {sp : Sp} {p pos : Pos} {e : Expr} {es : List Expr} {t : TA} {E : XK}
end
section
variable {P : Program} {w : World} {fs : List Addr} {H H1 : Hp} {h h1 : Heap} {ea C : Addr} {o : HO}
end
section
variable {X : Cx} {pins : List (Addr × Obj)} {σ : St} {H : Hp} {s : Shared} {E : XK}
end
section
variable {X : Cx} {pins : List (Addr × Obj)} {σ : St} {H : Hp} {s s' : Shared} {E : XK} {C F : Addr} {i : Nat} {x n : Str} {np pos hpos : Pos} {body : List Stmt} {b₀ : Stmt} {suite : List Stmt} {tb : TX} {ts : TS}
end
end L2
set_option Elab.async false
set_option linter.all false
set_option maxRecDepth 100000
namespace L2
open PySem PySem.Spec PyProof.Rows
structure RoomH (k : Nat) (A : Around) : Prop where
 dp : A.depth + 3 * k + 5 < recursionLimit
 un : A.units + 16 * k + 200 < cLine
structure FnOkH (P : Program) (w : World) (K : PySem.W.Frag) (mg : Str -> Option Value) (base : Heap) (CX : CXT) (k : Nat) (f : Addr) (fd : FuncData) (ps : List Str) (sp : Sp) : Prop where
 len : ∀ vs H Q E,sp vs H Q E -> vs.length = ps.length
 run : ∀ (A : Around) (outer : List Env) (s : Shared) (H : Hp) (args : Args) (us : List Value) (vs : List V) (Q : VK) (E : XK),RoomH k A -> Env0 P w K mg base A outer s H -> BindsTo s fd args (ps.zip us) -> Vals vs us -> sp vs H Q E ->
  codeAny (model P w) A (.call (.ref f) args) (CR CX outer P w H s Q E) s
structure DefH (P : Program) (w : World) (K : PySem.W.Frag) (mg : Str -> Option Value) (base : Heap) (x : Str) (k : Nat) (ps : List Str) (dvs : List V) (sp : Sp) : Prop where
 ex : ∃ (f : Addr) (fd : FuncData) (ds : List Value),mg x = some (.ref f) /\ PySem.W.keepIn K (.ref f) = true /\ Vals dvs ds /\ Binds K fd ps ds /\ FnOkH P w K mg base CX0 k f fd ps sp
section
variable {P : Program} {w : World} {K : PySem.W.Frag} {mg : Str -> Option Value} {base : Heap}
end
section
variable {X : Cx} {x : Str} {j k : Nat} {ps : List Str} {dvs : List V} {sp : Sp} {p pos : Pos} {e : Expr} {es : List Expr} {t : TA}
end
section
variable {X : Cx}
end
end L2
set_option Elab.async false
set_option linter.all false
set_option maxRecDepth 100000
namespace L2
open PySem PySem.Spec PyProof.Rows
section
variable {X : Cx}
end
end L2
set_option Elab.async false
set_option linter.all false
set_option maxRecDepth 100000
namespace L2
open PySem PySem.Spec PyProof.Rows
section
variable {prog : Program} {w : World} {A : Around} {E : Value -> Shared -> Prop} {s : Shared} {it l S : Addr} {items : Array Value}
end
section
variable {X : Cx} {a : Expr} {ta : TA} {p p2 pos pos2 : Pos}
end
end L2
set_option Elab.async false
set_option linter.all false
set_option maxRecDepth 100000
namespace L2
open PySem PySem.Spec PyProof.Rows
section
variable {X : Cx}
end
end L2
set_option Elab.async false
set_option linter.all false
set_option maxRecDepth 100000
namespace L2
open PySem PySem.Spec PyProof.Rows
theorem wQ {prog : Program} {w : World} {A : Around} {R : Result -> Shared -> Prop} {s : Shared} {elt target iter cond : Expr} {scope : Scope} {pos : Pos} {it acc : Value} {env : Env} (I : Nat -> Shared -> Prop)
  (turn : ∀ n s,I n s -> wpAny (model prog w) A (pyNext it) (fun r s₁ => match r with
   | none => R (.ok .next) s₁
   | some v => wpAny (model prog w) A (letOwnedTupleGo target it v) (fun _ s₁' => wpAny (model prog w) A (assign target env v) (fun _ s₂ => wpAny (model prog w) A (isTrue cond env (eval cond env)) (fun ok s₂' =>
     if ok = true then wpAny (model prog w) A (eval elt env) (fun x s₃ =>
     wpAny (model prog w) A (call (.builtin "list.append") [acc,x]) (fun _ s₄ => ∃ m,m < n /\ I m s₄) (fun _ _ => False) s₃)
     (fun _ _ => False) s₂' else ∃ m,m < n /\ I m s₂') (fun _ _ => False) s₂) (fun _ _ => False) s₁') (fun _ _ => False) s₁) (fun _ _ => False) s)
  (n : Nat) (h : I n s) :
  codeAny (model prog w) A (.compLoop (.ListComp elt [⟨target,iter,[cond],0⟩] scope pos) 0 it acc env) R s:=by
 refine codeAny_loop rfl I (fun n s hI => ?_) n h
 show wpAny _ _ ((compTurn (.ListComp elt [⟨target,iter,[cond],0⟩] scope pos) 0 it acc env).onRaise (fun x => do noteFrame x env; theTreesLotGoes x)) _ _ s
 refine wpAny_noted ?_
 rw [compTurn_list]
 refine wpAny_bind (wpAny_standAt (wpAny_bind (wpAny_mono (turn n s hI) (fun r s₁ h₁ => ?_) fun _ _ h' => h'.elim)))
 cases r with
 | none => exact wpAny_pure h₁
 | some v =>
  refine wpAny_bind (wpAny_mono h₁ (fun _ s₁' h₁' => ?_) fun _ _ h' => h'.elim)
  refine wpAny_bind (wpAny_mono h₁' (fun _ s₂ h₂ => wpAny_bind (wpAny_mono (wpAny_tests_one h₂) (fun ok s₃ h₃ => ?_) fun _ _ h' => h'.elim)) fun _ _ h' => h'.elim)
  cases ok with
  | false => exact wpAny_pure ⟨rfl,h₃⟩
  | true => exact wpAny_bind (wpAny_bind (wpAny_mono h₃ (fun x s₄ h₄ => wpAny_bind (wpAny_mono h₄ (fun _ s₅ h₅ => wpAny_pure (wpAny_pure ⟨rfl,h₅⟩)) fun _ _ h' => h'.elim)) fun _ _ h' => h'.elim))
def zG (J : It) (ix : List (Option Nat)) (g : TG) (tc : TT) (te : TE) (σ : St) (H : Hp) (Qd : Addr -> Hp -> Prop) : Prop:=
 ∀ D,H D = none -> ∃ W : Nat -> Nat -> St -> Hp -> Prop,(∃ m,W 0 m (aR ix σ) (upd H D (.lst []))) /\ ∀ i m σ' H',W i m σ' H' ->
  (J.stop i H' /\ Qd D H') \/ (J.go i H' /\ ∀ x H2,J.yld i H' x H2 -> g x σ' H2 fun σ3 H3 => tc σ3 H3 fun b H4 => if b = true then te σ3 H4 fun y H5 => ∃ ys,H5 D = some (.lst ys) /\ ys.length < sizeLine /\ ∃ m',m' < m /\ W (i + 1) m' σ3 (upd H5 D (.lst (ys ++ [y]))) else ∃ m',m' < m /\ W (i + 1) m' σ3 H4)
section
variable {X : Cx} {pins : List (Addr × Obj)} {σ : St} {H : Hp} {s : Shared} {N : List Str} {ix : List (Option Nat)} {scope : Scope} {fp : List Addr} {tg elt iter cond : Expr} {tc : TT} {pos spos : Pos} {J : It} {it : Addr} {tn : Nat -> Heap -> Prop} {g : TG} {te : TE} {wi : TI}
theorem Br {Qd : Addr -> Hp -> Prop} {RR : Value -> Addr -> Result -> Shared -> Prop} {E : Value -> Shared -> Prop} (I : Inv X pins σ H s) (hc : X.calm = true) (S : BlkScope X.N X.env.scope N ix scope) (T : Turn X.prog X.w X.K tg J fp it tn) (st : tn 0 s.heap) (f2 : ∀ b ∈ fp,mK X pins H b)
  (hg : ∀ C,PG (bO X N scope fp s H C) tg g) (ht : ∀ C,PT (bO X N scope fp s H C) cond tc) (he : ∀ C,PE (bO X N scope fp s H C) elt te) (hW : zG J ix g tc te σ H Qd)
  (hR : ∀ D C s' H' m,Inv X pins σ H' s' -> s'.heap.Ns C m -> mK X pins H' C -> Qd D H' -> RR (.ref D) C (.ok .next) s') :
  wpAny (model X.prog X.w) X.A (newList []) (fun acc s₃ => wpAny (model X.prog X.w) X.A (newFunctionEnv scope X.env.globals (cf X.env.cells scope.names []) [] X.env.qual none .none (some X.env)) (fun cenv s₄ =>
   codeAny (model X.prog X.w) X.A (.compStart (.ListComp elt [⟨tg,iter,[cond],0⟩] scope pos) 0 (.ref it) acc { cenv with scope:=relabel scope X.env }) (RR acc cenv.locals) s₄) E s₃) E s:=by
 refine wpAny_newObj_type (wpAny_newFunctionEnv S.nocell (by intro y hy; simp at hy) (fun h₁ hns₁ hsb₁ => ?_) S.kind)
 dsimp only at hns₁ hsb₁ ⊢
 generalize hH2 : s.heap.push { cls:=.type "list",dict:=none,data:=.seq ([] : List Value).toArray } = H2 at hns₁ hsb₁ ⊢
 have hC : H2.objs.size = s.heap.objs.size + 1:=by rw [<- hH2,Heap.size_push]
 have hDC : s.heap.objs.size ≠ H2.objs.size:=by rw [hC]; exact Nat.ne_of_lt (Nat.lt_succ_self _)
 have hCle : s.heap.objs.size <= H2.objs.size:=by rw [hC]; exact Nat.le_succ _
 have below : ∀ b,b < s.heap.objs.size -> b ≠ H2.objs.size:=fun b hb => by rw [hC]; exact Nat.ne_of_lt (Nat.lt_succ_of_lt hb)
 have old : ∀ b o,s.heap.get? b = some o -> h₁.get? b = some o:=fun b o e => hsb₁.extBut b o (below b (Heap.lt_size e)) (Heap.get?_push_of_some _ (hH2 ▸ Heap.get?_push_of_some _ e))
 have hacc : ∃ n,h₁.get? s.heap.objs.size = some { cls:=.type "list",data:=.seq ([] : List Value).toArray n }:=⟨_,hsb₁.extBut _ _ hDC (Heap.get?_push_of_some _ (hH2 ▸ Heap.get?_push_size _ rfl))⟩
 have st1 : tn 0 h₁:=T.keep _ _ _ st fun b _ o e => old b o e
 have fo : ∀ b ∈ fp,∃ o,s.heap.get? b = some o /\ ∀ v,o.data ≠ .cell v:=T.obj _ _ st
 have I0 : Inv (bO X N scope fp s H H2.objs.size) pins (aR ix σ) (upd H s.heap.objs.size (.lst [])) { s with heap:=h₁,toks:=s.toks + ([] : List (Str × Value)).length }:=
  we I S f2 fo (Nat.le_refl _) hCle hDC old hns₁ hacc
 have freshD : H s.heap.objs.size = none:=I.hok.fresh (Nat.le_refl _)
 obtain ⟨W,⟨m0,w0⟩,turn⟩:=hW s.heap.objs.size freshD
 have cl_ne : ∀ b ∈ fp,b ≠ H2.objs.size:=fun b hb => by
  obtain ⟨o,e,_⟩:=fo b hb
  exact below b (Heap.lt_size e)
 have stat : ∀ {H' : Hp},(∀ b ∈ fp,H' b = none) -> ∀ b ∈ fp,mK (bO X N scope fp s H H2.objs.size) pins H' b:=fun hn b hb => by
  obtain ⟨f0,f1,f3,f4,f5,f6⟩:=f2 b hb
  exact ⟨hn b hb,cl_ne b hb,I0.ok.exfs b hb,.inl hb,(I0.ok.exf b hb).2,f6⟩
 have fr0 : ∀ b ∈ fp,(upd H s.heap.objs.size (.lst [])) b = none:=fun b hb => by
  obtain ⟨o,e,_⟩:=fo b hb
  rw [aw (Nat.ne_of_lt (Heap.lt_size e))]
  exact (f2 b hb).1
 have loop : codeAny (model X.prog X.w) X.A (.compLoop (.ListComp elt [⟨tg,iter,[cond],0⟩] scope pos) 0 (.ref it) (.ref s.heap.objs.size) (compEnvC scope (cf X.env.cells scope.names []) H2.objs.size X.env))
   (RR (.ref s.heap.objs.size) H2.objs.size) { s with heap:=h₁,toks:=s.toks + ([] : List (Str × Value)).length }:=by
  refine wQ (fun n s' => ∃ i σ' H',Inv (bO X N scope fp s H H2.objs.size) pins σ' H' s' /\ tn i s'.heap /\ (∀ b ∈ fp,H' b = none) /\ W i n σ' H') ?_ m0 ⟨0,_,_,I0,st1,fr0,w0⟩
  rintro n s3 ⟨i,σ3,H3,I3,st3,fr3,w3⟩
  rcases turn i n σ3 H3 w3 with ⟨stop,qn⟩ | ⟨go,step⟩
  ·refine thn (T.done (bO X N scope fp s H H2.objs.size) rfl rfl rfl hc i pins s3 σ3 H3 _ I3 (stat fr3) st3 stop) fun r s4 ⟨hr,I4⟩ => ?_
   subst hr
   obtain ⟨m4,hn4,_⟩:=id I4.loc
   refine hR _ _ s4 H3 m4 ?_ hn4 (I.fpOk hCle I4.free) qn
   exact I.call' (ch:=fp) I4.os I4.base I4.hok I4.bare fun b hb => by
    obtain ⟨f0,f1,f3,f4,f5,f6⟩:=f2 b hb
    exact ⟨f4,f1,f5,f6⟩
  ·refine thn (T.item (bO X N scope fp s H H2.objs.size) rfl rfl rfl hc i pins s3 σ3 H3 _ I3 (stat fr3) st3 go) fun r s4 ⟨u,hr,h4⟩ => ?_
   subst hr
   refine thn h4 fun _ s5 ⟨x,H5,I5,r5,y5,st5,fr5⟩ => ?_
   have I5' := I5.pinned (stat fr5) (T.obj _ _ st5)
   refine thn (hg _ _ s5 σ3 H5 x u _ I5' r5 (step x H5 y5)) fun _ s6 ⟨σ6,H6,I6,q6⟩ => ?_
   refine thn (ht _ _ s6 σ6 H6 _ I6 q6) fun ok s6' ⟨H6',I6',q6'⟩ => ?_
   cases ok with
   | false =>
    obtain ⟨m',hm,w7⟩:=q6'
    refine ⟨m',hm,i + 1,σ6,H6',I6'.unpinned,T.keep _ _ _ st5 fun b hb o e => (I6'.pin (b,o) (List.mem_append_right _ (List.mem_append_right _ (cP hb e)))).1,fun b hb => ?_,w7⟩
    obtain ⟨o,e,d⟩:=T.obj _ _ st5 b hb
    exact (I6'.pin (b,o) (List.mem_append_right _ (List.mem_append_right _ (cP hb e)))).2.1
   | true =>
    refine thn (he _ _ s6' σ6 H6' _ I6' q6') fun yv s7 ⟨y,H7,I7,r7,ys,hD7,hz7,m',hm,w7⟩ => ?_
    refine thn (bh (X:=bO X N scope fp s H H2.objs.size) _ s7 σ6 H7 (.ref s.heap.objs.size) [y] (.ref s.heap.objs.size) [yv] (fun _ H8 => W (i + 1) m' σ6 H8) I7 rfl (.cons r7 .nil) ⟨_,ys,y,rfl,rfl,hD7,hz7,w7⟩) fun _ s8 ⟨_,H8,I8,_,w8⟩ => ?_
    refine ⟨m',hm,i + 1,σ6,H8,I8.unpinned,T.keep _ _ _ st5 fun b hb o e => (I8.pin (b,o) (List.mem_append_right _ (List.mem_append_right _ (cP hb e)))).1,fun b hb => ?_,w8⟩
    obtain ⟨o,e,d⟩:=T.obj _ _ st5 b hb
    exact (I8.pin (b,o) (List.mem_append_right _ (List.mem_append_right _ (cP hb e)))).2.1
 exact codeAny_compStart_list loop (T.self _ _ _ _ _ st1 loop)
def Fy (ix : List (Option Nat)) (wi : TI) (g : TG) (tc : TT) (te : TE) : TE:=fun σ H Q => wi σ H fun J H1 => zG J ix g tc te σ H1 fun D H' => Q (.ref D) H'
end
theorem zQ {K : PySem.W.Frag} {a : Addr} {xs : List V} {ix : List (Option Nat)} {tc : TT} {te : TE} {σ : St} {H : Hp} {Qd : Addr -> Hp -> Prop} (Pv : Addr -> Nat -> List V -> Hp -> Prop)
  (h0 : ∀ D,H D = none -> Pv D 0 [] (upd H D (.lst [])))
  (hl : ∀ D i ys H',i <= xs.length -> Pv D i ys H' -> SqL K H' a xs)
  (hs : ∀ D i x ys H' (Qy : VK) (Qn : Hp -> Prop),H D = none -> xs[i]? = some x -> H' D = some (.lst ys) -> Pv D i ys H' -> (∀ y H4,H4 D = some (.lst ys) -> ys.length < sizeLine -> Pv D (i + 1) (ys ++ [y]) (upd H4 D (.lst (ys ++ [y]))) -> Qy y H4) ->
   (∀ H4,H4 D = some (.lst ys) -> Pv D (i + 1) ys H4 -> Qn H4) -> tc ((aR ix σ).set 0 (some x)) H' fun b H4 => if b = true then te ((aR ix σ).set 0 (some x)) H4 Qy else Qn H4)
  (hd : ∀ D ys H',H D = none -> H' D = some (.lst ys) -> Pv D xs.length ys H' -> Qd D H') : zG (Itl K a) ix (aE 0) tc te σ H Qd:=by
 intro D hD
 refine ⟨fun i m σ' H' => m = xs.length - i /\ i <= xs.length /\ (σ' = aR ix σ \/ ∃ t,σ' = (aR ix σ).set 0 t) /\ ∃ ys,H' D = some (.lst ys) /\ Pv D i ys H',⟨xs.length,by simp,Nat.zero_le _,.inl rfl,[],af,h0 D hD⟩,?_⟩
 rintro i m σ' H' ⟨rfl,hi,hσ,ys,hy,p⟩
 have q:=hl D i ys H' hi p
 by_cases hlt : i < xs.length
 ·refine .inr ⟨⟨xs,xs[i],q,by simp [hlt]⟩,fun x H2 y => ?_⟩
  obtain ⟨e1,e2⟩:=y
  subst e1
  have ex:=e2 xs q
  have es : σ'.set 0 (some x) = (aR ix σ).set 0 (some x):=by
   rcases hσ with z | ⟨t,z⟩
   ·rw [z]
   ·rw [z,List.set_set]
  show tc (σ'.set 0 (some x)) _ _
  rw [es]
  exact hs D i x ys _ _ _ hD ex hy p (fun y H4 h4 hz p4 => ⟨ys,h4,hz,xs.length - (i + 1),by omega,rfl,hlt,.inr ⟨_,rfl⟩,ys ++ [y],af,p4⟩) fun H4 h4 p4 => ⟨xs.length - (i + 1),by omega,rfl,hlt,.inr ⟨_,rfl⟩,ys,h4,p4⟩
 ·have e : i = xs.length:=by omega
  subst e
  exact .inl ⟨⟨xs,q,Nat.le_refl _⟩,hd D ys H' hD hy p⟩
end L2
set_option Elab.async false
set_option linter.all false
set_option maxRecDepth 100000
set_option maxHeartbeats 4000000
namespace L2
open PySem PySem.Spec PyProof.Rows
open AutoSeq1 (wpAny_loadPart')
section
variable {prog : Program} {w : World} {A : Around} {E : Value -> Shared -> Prop} {s : Shared}
theorem oo {it t : Addr} {i : Nat} {items : Array Value} {x : Value} {Q : Value -> Shared -> Prop} (hit : s.heap.IsTupleIter it t i) (ht : s.heap.IsTuple t items) (hx : items[i]? = some x)
  (hQ : ∀ h',h'.IsTupleIter it t (i + 1) -> Heap.SameBut it s.heap h' -> Q x { s with heap:=h' }) : wpAny (model prog w) A (Builtin.SmallTypes.nextOf (.ref it)) Q E s:=by
 obtain ⟨o,ho,hc,hd⟩:=id hit
 obtain ⟨ol,hol,_,nl,hdl⟩:=ht
 unfold Builtin.SmallTypes.nextOf
 refine wpAny_bind (wpAny_callSpecial?_slot (name:=Str.ofString "__next__") hit.typeIs F.slot_tuple_iterator_next
  (wpAny_call_entry F.slot_tuple_iterator_next hit.typeIs F.entry_tuple_iterator_next ?_ (F.args_tuple_iterator_next_1 _)))
 show wpAny _ _ (field (.ref it) 0 >>= _) _ _ s
 refine wpAny_bind (wpAny_field ho hd (x:=.ref t) rfl ?_)
 show wpAny _ _ (if (Value.ref t == Value.none) = true then _ else _) _ _ s
 rw [if_neg (show ¬ ((Value.ref t == Value.none) = true) from Bool.false_ne_true)]
 show wpAny _ _ (field (.ref it) 1 >>= _) _ _ s
 refine wpAny_bind (wpAny_field ho hd (x:=.int i 0) rfl ?_)
 show wpAny _ _ (seqItems? (.ref t) >>= _) _ _ s
 refine wpAny_bind (wpAny_seqItems hol hdl ?_)
 simp only [Int.toNat_natCast,hx]
 refine wpAny_bind (wpAny_setField ho hd (by simp) (wpAny_pure ⟨x,rfl,wpAny_pure (hQ _ ?_ (Heap.SameBut.update ..))⟩))
 exact ⟨_,Heap.get?_update_self _ ho (Obj.isFreed_of_fields (Obj.data_mapFields hd _)),(Obj.cls_mapFields ..).trans hc,by
  rw [Obj.data_mapFields hd]; simp [rawInt]⟩
theorem pS {it t : Addr} {i : Nat} {items : Array Value} {Q : Value -> Shared -> Prop} (hh : A.handled = none) (hit : s.heap.IsTupleIter it t i) (ht : s.heap.IsTuple t items) (hx : items[i]? = none)
  (hE : ∀ h' e,Heap.ExtBut it s.heap h' -> (∃ o,h'.get? e = some o /\ o.cls = .type "StopIteration") -> E (.ref e) { s with heap:=h' }) : wpAny (model prog w) A (Builtin.SmallTypes.nextOf (.ref it)) Q E s:=by
 obtain ⟨o,ho,hc,hd⟩:=id hit
 obtain ⟨ol,hol,_,nl,hdl⟩:=ht
 unfold Builtin.SmallTypes.nextOf
 refine wpAny_bind (wpAny_callSpecial?_slot (name:=Str.ofString "__next__") hit.typeIs F.slot_tuple_iterator_next
  (wpAny_call_entry F.slot_tuple_iterator_next hit.typeIs F.entry_tuple_iterator_next ?_ (F.args_tuple_iterator_next_1 _)))
 show wpAny _ _ (field (.ref it) 0 >>= _) _ _ s
 refine wpAny_bind (wpAny_field ho hd (x:=.ref t) rfl ?_)
 show wpAny _ _ (if (Value.ref t == Value.none) = true then _ else _) _ _ s
 rw [if_neg (show ¬ ((Value.ref t == Value.none) = true) from Bool.false_ne_true)]
 show wpAny _ _ (field (.ref it) 1 >>= _) _ _ s
 refine wpAny_bind (wpAny_field ho hd (x:=.int i 0) rfl ?_)
 show wpAny _ _ (seqItems? (.ref t) >>= _) _ _ s
 refine wpAny_bind (wpAny_seqItems hol hdl ?_)
 simp only [Int.toNat_natCast,hx]
 refine wpAny_bind (wpAny_rule (wpAny_bind (wpAny_setField ho hd (by simp) ?_)))
 show wpAny _ _ (newExc (.type "StopIteration") [] >>= _) _ _ _
 refine wpAny_bind ?_
 simp only [newExc,newTuple]
 refine wpAny_bind (wpAny_newObj_type ?_ (by size_fits))
 refine wpAny_bind (m:=firstArgMember _ _) (wpAny_of_eq (a:=Value.none) (by first | rfl | (simp only [firstArgMember]; rfl)) ?_)
 refine wpAny_newObj_type ?_ (by size_fits)
 simp only [raiseNew]
 refine wpAny_bind (wpAny_handled ?_)
 first | rw [show A.in1.handled = none from hh] | rw [hh]
 refine wpAny_bind (wpAny_pure (wpAny_throw ?_))
 exact hE _ _ (((Heap.SameBut.update ..).extBut.push _).push _) ⟨_,Heap.get?_push_size _ rfl,rfl⟩
end
theorem ng {prog : Program} {w : World} {A : Around} (hh : A.handled = none) (it t : Addr) (hne : t ≠ it) (items : Array Value) :
  Draws prog w A it [it,t] items.size (fun i v => items[i]? = some v) (fun i h => h.IsTupleIter it t i /\ h.IsTuple t items) where
 live:=fun _ _ st => let ⟨o,ho,_⟩:=st.1; ⟨o,ho⟩
 frame:=fun _ _ _ st hk => ⟨st.1.at fun o e => hk it (by simp) o e,st.2.at fun o e => hk t (by simp) o e⟩
 item:=fun i s Q E hi st hQ => by
  refine oo st.1 st.2 (x:=items[i]) (by simp [hi]) fun h' hit' hs' => ?_
  exact hQ _ h' s.toks (by simp [hi]) ⟨hit',st.2.at fun o e => (hs'.2 t hne).trans e⟩ hs'
 done:=fun s Q E st hE => pS hh st.1 st.2 (by simp) hE
end L2
set_option Elab.async false
set_option linter.all false
set_option maxRecDepth 100000
set_option maxHeartbeats 4000000
namespace L2
open PySem PySem.Spec PyProof.Rows
section
variable {X : Cx} {pins : List (Addr × Obj)} {σ : St} {H : Hp} {s : Shared} {h' : Heap}
end
section
variable {X : Cx}
end
end L2
set_option Elab.async false
set_option linter.all false
set_option maxRecDepth 100000
set_option maxHeartbeats 4000000
namespace L2
open PySem PySem.Spec PyProof.Rows
section
variable {X : Cx} {a : Expr} {ta : TA} {p p2 pos pos2 : Pos}
end
structure DefMk (P : Program) (w : World) (K : PySem.W.Frag) (mg : Str -> Option Value) (base : Heap) (x : Str) (C : Addr) (k : Nat) (ps : List Str) (sp : Sp) : Prop where
 m : mg x = some (.ref C)
 cl : Cls K C
 ex : ∃ (f : Addr) (fd : FuncData),Mk K C f /\ Binds K fd ps [] /\ FnOk P w K mg base CX0 k f fd ps sp
theorem Fj {X : Cx} {x : Str} {C : Addr} {j k : Nat} {ps : List Str} {sp : Sp} {p pos : Pos} {e : Expr} {es : List Expr} {t : TA} (G : DefMk X.prog X.w X.K X.mg X.base x C k ps sp) (hr : Room j X.A) (ha : PA X (e :: es) t) (hkj : k + 1 <= j:=by decide) (hg : Gl X x:=by rfl) (hdb : (x == ("__debug__" : Str)) = false:=by decide)
  (he : starEach (e :: es) X.env = (false,eval e X.env) :: starEach es X.env:=by rfl) (hpl : (backTo pos (starEach es X.env)).any (·.1) = false:=by rfl) : PE X (.Call (.Name x p) (e :: es) [] pos) (EK C sp [] E0 t):=by
 obtain ⟨f,fd,M,hb,F⟩:=G.ex
 exact Eh M F (hr.mono hkj) hg G.m hb .nil C4 ha hdb he hpl
structure DefMe (P : Program) (w : World) (K : PySem.W.Frag) (mg : Str -> Option Value) (base : Heap) (C : Addr) (m : Str) (k : Nat) (ps : List Str) (sp : Sp) : Prop where
 cl : Cls K C
 ex : ∃ (f : Addr) (fd : FuncData),Meth K C m f /\ Binds K fd ps [] /\ FnOk P w K mg base CX0 k f fd ps sp
theorem b6 {X : Cx} {m : Str} {C : Addr} {j k : Nat} {ps : List Str} {sp : Sp} {apos pos : Pos} {o e : Expr} {es : List Expr} {ta : TE} {t : TA} {pl : Sem Bool} (G : DefMe X.prog X.w X.K X.mg X.base C m k ps sp) (hr : Room j X.A) (ho : PE X o ta) (ha : PA X (e :: es) t) (hkj : k <= j:=by decide)
  (hst : starEach (e :: es) X.env = (false,eval e X.env) :: starEach es X.env:=by rfl) (hpl : (backTo pos (starEach es X.env)).any (·.1) = false:=by rfl)
  (ht : eval (.Call (.Attribute o m apos) (e :: es) [] pos) X.env = (do
   let ov <- eval o X.env
   standAt apos.atName
   let (f,first) <- holding [ov] (getMethod ov m pl)
   callWith pos f first (backTo pos (starEach (e :: es) X.env)) (backToKw pos (keywordEach [] X.env))):=by rfl) :
  PE X (.Call (.Attribute o m apos) (e :: es) [] pos) (Bc C m sp [] E0 ta t):=by
 obtain ⟨f,fd,hm,hb,F⟩:=G.ex
 exact Ei ho G.cl hm F (hr.mono hkj) hb .nil C4 ha hst hpl ht
end L2
set_option Elab.async false
set_option linter.all false
set_option maxRecDepth 100000
set_option maxHeartbeats 4000000
namespace L2
open PySem PySem.Spec PyProof.Rows
section
variable {prog : Program} {w : World} {A : Around} {E : Value -> Shared -> Prop} {s : Shared}
structure ZipFar (z TI TO i1 i2 : Addr) (fp1 fp2 : List Addr) : Prop where
 TIz : TI ≠ z
 TOz : TO ≠ z
 TITO : TI ≠ TO
 i1z : i1 ≠ z
 i2z : i2 ≠ z
 TIi1 : TI ≠ i1
 TIi2 : TI ≠ i2
 TOi1 : TO ≠ i1
 TOi2 : TO ≠ i2
 i12 : i1 ≠ i2
 z1 : z ∉ fp1
 TO1 : TO ∉ fp1
 i21 : i2 ∉ fp1
 z2 : z ∉ fp2
 TO2 : TO ∉ fp2
 i12' : i1 ∉ fp2
variable {z TI TO i1 i2 : Addr} {fp1 fp2 : List Addr} {n1 n2 k : Nat} {P1 P2 : Nat -> Value -> Prop} {St1 St2 : Nat -> Heap -> Prop} {a b : Value}
theorem B6 {Q : Value -> Shared -> Prop} (D1 : Draws prog w A.in1 i1 fp1 n1 P1 St1) (D2 : Draws prog w A.in1 i2 fp2 n2 P2 St2) (F : ZipFar z TI TO i1 i2 fp1 fp2)
  (hz : IsZip s.heap z TI TO .none) (hTI : IsPair s.heap TI (.ref i1) (.ref i2)) (hTO : IsPair s.heap TO a b) (s1 : St1 k s.heap) (s2 : St2 k s.heap) (l1 : k < n1) (l2 : k < n2)
  (hQ : ∀ x y h' tk,P1 k x -> P2 k y -> IsZip h' z TI TO (rawInt s.heap.objs.size) -> IsPair h' TO x y -> St1 (k + 1) h' -> St2 (k + 1) h' -> IsPair h' s.heap.objs.size x y ->
   (∀ c o,c ≠ z -> c ≠ TO -> c ≠ i1 -> c ≠ i2 -> s.heap.get? c = some o -> h'.get? c = some o) -> Q (.ref s.heap.objs.size) { s with heap:=h',toks:=tk }) :
  wpAny (model prog w) A.in1 (Builtin.«zip.__next__» ⟨[.ref z],[]⟩) (fun fin s' => ∃ v,fin = .done (.ret v) /\ Q v s') E s:=by
 obtain ⟨hp,g,d,tk0,os⟩:=s
 show wpAny _ _ (field (.ref z) 2 >>= _) _ _ _
 refine wpAny_bind (wpAny_field hz rfl (x:=.bool false) rfl ?_)
 show wpAny _ _ (field (.ref z) 3 >>= _) _ _ _
 refine wpAny_bind (wpAny_field hz rfl (x:=.ref TI) rfl ?_)
 refine wpAny_bind (wpAny_seqItems hTI rfl ?_)
 show wpAny _ _ (Builtin.SmallTypes.ownedTupleIsFree (.ref z) >>= _) _ _ _
 refine wpAny_bind ?_
 unfold Builtin.SmallTypes.ownedTupleIsFree
 refine wpAny_bind (wpAny_field hz rfl (x:=.none) rfl (wpAny_pure ?_))
 simp only [if_true]
 refine wpAny_bind (wpAny_rule ?_)
 refine wpAny_bind (wpAny_field hz rfl (x:=.ref TO) rfl ?_)
 refine wpAny_bind (wpAny_setField_rec hz (by simp) fun h₁ hz₁ hs₁ => ?_)
 replace hz₁ : IsZip h₁ z TI TO .ellipsis:=hz₁
 replace hs₁ : Heap.SameBut z hp h₁:=hs₁
 refine wpAny_bind ?_
 simp only [List.zipIdx_cons,List.zipIdx_nil,List.forIn_cons,List.forIn_nil]
 refine wpAny_bind (wpAny_bind (wpAny_onRaise ?_))
 show wpAny _ _ (Builtin.SmallTypes.nextOf (.ref i1) >>= _) _ _ _
 have q1 : St1 k h₁:=D1.frame _ _ _ s1 fun c hc o e => hs₁.extBut c o (fun x => F.z1 (x ▸ hc)) e
 refine wpAny_bind (D1.item k _ _ _ l1 q1 fun x h₂ tk1 hx q2 hs₂ => wpAny_pure ?_)
 replace hs₂ : Heap.SameBut i1 h₁ h₂:=hs₂
 have hTO₂ : IsPair h₂ TO a b:=hs₂.extBut _ _ F.TOi1 (hs₁.extBut _ _ F.TOz hTO)
 refine wpAny_bind (wpAny_seqItems (s:=⟨h₂,g,d,tk1,os⟩) hTO₂ rfl ?_)
 refine wpAny_bind (wpAny_updateSeq_pair (s:=⟨h₂,g,d,tk1,os⟩) hTO₂ fun h₃ hTO₃ hs₃ => ?_)
 replace hTO₃ : IsPair h₃ TO x b:=hTO₃
 replace hs₃ : Heap.SameBut TO h₂ h₃:=hs₃
 refine wpAny_bind (wpAny_letGo (wpAny_pure ?_))
 refine wpAny_bind (wpAny_bind (wpAny_onRaise ?_))
 show wpAny _ _ (Builtin.SmallTypes.nextOf (.ref i2) >>= _) _ _ _
 have r3 : St2 k h₃:=D2.frame _ _ _ s2 fun c hc o e => hs₃.extBut c o (fun x => F.TO2 (x ▸ hc)) (hs₂.extBut c o (fun x => F.i12' (x ▸ hc)) (hs₁.extBut c o (fun x => F.z2 (x ▸ hc)) e))
 refine wpAny_bind (D2.item k _ _ _ l2 r3 fun y h₄ tk2 hy r4 hs₄ => wpAny_pure ?_)
 replace hs₄ : Heap.SameBut i2 h₃ h₄:=hs₄
 have hTO₄ : IsPair h₄ TO x b:=hs₄.extBut _ _ F.TOi2 hTO₃
 refine wpAny_bind (wpAny_seqItems (s:=⟨h₄,g,d,tk2,os⟩) hTO₄ rfl ?_)
 refine wpAny_bind (wpAny_updateSeq_pair (s:=⟨h₄,g,d,tk2,os⟩) hTO₄ fun h₅ hTO₅ hs₅ => ?_)
 replace hTO₅ : IsPair h₅ TO x y:=hTO₅
 replace hs₅ : Heap.SameBut TO h₄ h₅:=hs₅
 refine wpAny_bind (wpAny_letGo (wpAny_pure (wpAny_pure ?_)))
 refine wpAny_bind (wpAny_seqItems (s:=⟨h₅,g,d,tk2,os⟩) hTO₅ rfl ?_)
 refine wpAny_bind (wpAny_newTuple ?_)
 have hsz : h₅.objs.size = hp.objs.size:=by rw [hs₅.1,hs₄.1,hs₃.1,hs₂.1,hs₁.1]
 have hz₅ : IsZip h₅ z TI TO .ellipsis:=hs₅.extBut _ _ F.TOz.symm (hs₄.extBut _ _ F.i2z.symm (hs₃.extBut _ _ F.TOz.symm (hs₂.extBut _ _ F.i1z.symm hz₁)))
 have hk₅ : ∀ c o,c ≠ z -> c ≠ TO -> c ≠ i1 -> c ≠ i2 -> hp.get? c = some o -> h₅.get? c = some o:=fun c o c1 c2 c3 c4 e =>
  hs₅.extBut _ _ c2 (hs₄.extBut _ _ c4 (hs₃.extBut _ _ c2 (hs₂.extBut _ _ c3 (hs₁.extBut _ _ c1 e))))
 have q5 : St1 (k + 1) h₅:=D1.frame _ _ _ q2 fun c hc o e => hs₅.extBut c o (fun x => F.TO1 (x ▸ hc)) (hs₄.extBut c o (fun x => F.i21 (x ▸ hc)) (hs₃.extBut c o (fun x => F.TO1 (x ▸ hc)) e))
 have r5 : St2 (k + 1) h₅:=D2.frame _ _ _ r4 fun c hc o e => hs₅.extBut c o (fun x => F.TO2 (x ▸ hc)) e
 have hzlt : z < h₅.objs.size:=Heap.lt_size hz₅
 show wpAny _ _ (Builtin.SmallTypes.ownedTupleHandOut (.ref z) (.ref h₅.objs.size) >>= _) _ _ _
 refine wpAny_bind ?_
 unfold Builtin.SmallTypes.ownedTupleHandOut
 have hz₆ : IsZip (h₅.push { cls:=.type "tuple",data:=.seq #[x,y] }) z TI TO .ellipsis:=Heap.get?_push_of_some _ hz₅
 refine wpAny_bind (wpAny_setField_rec (s:=⟨h₅.push { cls:=.type "tuple",data:=.seq #[x,y] },g,d,tk2,os⟩) hz₆ (by simp) fun h₇ hz₇ hs₇ => ?_)
 replace hz₇ : IsZip h₇ z TI TO (rawInt h₅.objs.size):=hz₇
 replace hs₇ : Heap.SameBut z (h₅.push { cls:=.type "tuple",data:=.seq #[x,y] }) h₇:=hs₇
 refine wpAny_setField_rec (s:=⟨h₇,g,d,tk2,os⟩) hz₇ (by simp) fun h₈ hz₈ hs₈ => ?_
 replace hz₈ : IsZip h₈ z TI TO (rawInt h₅.objs.size):=hz₈
 replace hs₈ : Heap.SameBut z h₇ h₈:=hs₈
 have up : ∀ c o,c ≠ z -> h₅.get? c = some o -> h₈.get? c = some o:=fun c o c1 e => hs₈.extBut _ _ c1 (hs₇.extBut _ _ c1 (Heap.get?_push_of_some _ e))
 have hT₈ : IsPair h₈ h₅.objs.size x y:=hs₈.extBut _ _ (Nat.ne_of_gt hzlt) (hs₇.extBut _ _ (Nat.ne_of_gt hzlt) (Heap.get?_push_size _ rfl))
 rw [hsz] at hz₈ hT₈
 refine wpAny_pure ⟨_,rfl,?_⟩
 show Q (.ref h₅.objs.size) _
 rw [hsz]
 exact hQ x y h₈ tk2 hx hy hz₈ (up _ _ F.TOz hTO₅) (D1.frame _ _ _ q5 fun c hc o e => up c o (fun x => F.z1 (x ▸ hc)) e) (D2.frame _ _ _ r5 fun c hc o e => up c o (fun x => F.z2 (x ▸ hc)) e) hT₈ fun c o c1 c2 c3 c4 e => up c o c1 (hk₅ c o c1 c2 c3 c4 e)
theorem DI {Q : PySem.Fin -> Shared -> Prop} (D1 : Draws prog w A.in1 i1 fp1 n1 P1 St1) (F : ZipFar z TI TO i1 i2 fp1 fp2)
  (hz : IsZip s.heap z TI TO .none) (hTI : IsPair s.heap TI (.ref i1) (.ref i2)) (s1 : St1 n1 s.heap)
  (hE : ∀ h' e,(∀ c o,c ≠ z -> c ≠ TO -> c ≠ i1 -> c ≠ i2 -> s.heap.get? c = some o -> h'.get? c = some o) -> (∃ o,h'.get? e = some o /\ o.cls = .type "StopIteration") -> E (.ref e) { s with heap:=h' }) :
  wpAny (model prog w) A.in1 (Builtin.«zip.__next__» ⟨[.ref z],[]⟩) Q E s:=by
 obtain ⟨hp,g,d,tk0,os⟩:=s
 show wpAny _ _ (field (.ref z) 2 >>= _) _ _ _
 refine wpAny_bind (wpAny_field hz rfl (x:=.bool false) rfl ?_)
 show wpAny _ _ (field (.ref z) 3 >>= _) _ _ _
 refine wpAny_bind (wpAny_field hz rfl (x:=.ref TI) rfl ?_)
 refine wpAny_bind (wpAny_seqItems hTI rfl ?_)
 show wpAny _ _ (Builtin.SmallTypes.ownedTupleIsFree (.ref z) >>= _) _ _ _
 refine wpAny_bind ?_
 unfold Builtin.SmallTypes.ownedTupleIsFree
 refine wpAny_bind (wpAny_field hz rfl (x:=.none) rfl (wpAny_pure ?_))
 simp only [if_true]
 refine wpAny_bind (wpAny_rule ?_)
 refine wpAny_bind (wpAny_field hz rfl (x:=.ref TO) rfl ?_)
 refine wpAny_bind (wpAny_setField_rec hz (by simp) fun h₁ hz₁ hs₁ => ?_)
 replace hz₁ : IsZip h₁ z TI TO .ellipsis:=hz₁
 replace hs₁ : Heap.SameBut z hp h₁:=hs₁
 refine wpAny_bind ?_
 simp only [List.zipIdx_cons,List.zipIdx_nil,List.forIn_cons,List.forIn_nil]
 refine wpAny_bind (wpAny_bind (wpAny_onRaise ?_))
 show wpAny _ _ (Builtin.SmallTypes.nextOf (.ref i1) >>= _) _ _ _
 have q1 : St1 n1 h₁:=D1.frame _ _ _ s1 fun c hc o e => hs₁.extBut c o (fun x => F.z1 (x ▸ hc)) e
 refine wpAny_bind (D1.done _ _ _ q1 fun h₂ e hs₂ he => ?_)
 obtain ⟨oe,hoe,hce⟩:=he
 have hz₂ : IsZip h₂ z TI TO .ellipsis:=hs₂ _ _ F.i1z.symm hz₁
 have hez : e ≠ z:=fun x => by subst x; rw [hz₂] at hoe; cases hoe; simp at hce
 exact wpAny_setField_rec (s:=⟨h₂,g,d,tk0,os⟩) hz₂ (by simp) fun h₃ _ hs₃ => hE h₃ e (fun c o c1 _ c3 _ x => Heap.SameBut.extBut hs₃ _ _ c1 (hs₂ _ _ c3 (hs₁.extBut _ _ c1 x))) ⟨oe,Heap.SameBut.extBut hs₃ _ _ hez hoe,hce⟩
end
theorem sR (l1 l2 : Addr) (xs ys : Array Value) :
  Meets (Builtin.«zip.__new__» ⟨[.type "zip",.ref l1,.ref l2],[]⟩) (fun _ R s => s.heap.IsTuple l1 xs /\ s.heap.IsTuple l2 ys /\
   R (.ok (.ret (.ref (s.heap.objs.size + 4)))) { s with heap:=((((s.heap.push { cls:=.type "tuple_iterator",data:=.fields #[.ref l1,.int 0 0] }).push { cls:=.type "tuple_iterator",data:=.fields #[.ref l2,.int 0 0] }).push { cls:=.type "tuple",data:=.seq #[.ref s.heap.objs.size,.ref (s.heap.objs.size + 1)] }).push { cls:=.type "tuple",data:=.seq #[.none,.none] }).push { cls:=.type "zip",data:=.fields #[.none,.bool false,.bool false,.ref (s.heap.objs.size + 2),.ref (s.heap.objs.size + 3)] } }):=
 .of_wp fun prog w A R s h => by
  obtain ⟨hp,g,d,tk,os⟩:=s; obtain ⟨hl1,hl2,h⟩:=h
  have hsub:=sub_zip
  have hL1 : Heap.IsTuple (Shared.heap ⟨hp,g,d,tk,os⟩) l1 xs:=hl1
  have hL2 : Heap.IsTuple (Shared.heap ⟨hp.push { cls:=.type "tuple_iterator",data:=.fields #[.ref l1,.int 0 0] },g,d,tk,os⟩) l2 ys:=hl2.at fun o e => Heap.get?_push_of_some _ e
  wp_walk using wpAny_pyIter_tuple hL1,wpAny_pyIter_tuple hL2
  refine ⟨_,rfl,?_⟩
  simp only [Heap.size_push] at h ⊢
  exact h
end L2
set_option Elab.async false
set_option linter.all false
set_option maxRecDepth 100000
set_option maxHeartbeats 4000000
namespace L2
open PySem PySem.Spec PyProof.Rows
section
variable {X : Cx} {pins : List (Addr × Obj)} {σ : St} {H : Hp} {s : Shared} {h' : Heap}
theorem Inv.turnedL {t' : Nat} {ch : List Addr} (I : Inv X pins σ H s) (k : ∀ b o,b ∉ ch -> s.heap.get? b = some o -> h'.get? b = some o) (fc : ∀ b ∈ ch,mK X pins H b) (hb' : ∀ b ∈ ch,∀ o,s.heap.get? b = some o -> True) : Inv X pins σ H { s with heap:=h',toks:=t' }:=by
 have nn : ∀ b u,H b = some u -> b ∉ ch:=fun b u q z => by
  have:=(fc b z).1
  rw [q] at this
  cases this
 refine I.step (g' := s.gens) (d' := s.drawn) (ch:=ch) (fun b hb => ?_) (fun b o _ _ hc q _ => k b o hc q) (fun b o _ _ hc q _ => ⟨o.slots,k b o hc q⟩) (fun _ _ _ _ n => n)
  (fun b o hc q => ⟨o,k b o hc q⟩) (fun _ _ q => q) (fun _ _ _ q => q) (fun b ps q => ⟨#[],by rw [q]; simp⟩) (fun m hm => ?_) (fun b u q => ?_) I.bare
 ·exact ⟨(fc b hb).2.2.2.1,(fc b hb).2.1,(fc b hb).2.2.2.2.1,(fc b hb).2.2.2.2.2⟩
 ·obtain ⟨o,es,ep,ho,r⟩:=hm
  exact ⟨o,es,ep,k _ o (fun z => (fc _ z).2.1 rfl) ho,r⟩
 ·refine (I.hok b u q).stay (fun c v hc z => k c v ?_ z) (fun _ z => z) fun _ _ z => z
  rcases hc with z | z
  ·rw [z]; exact nn b u q
  ·exact nn c _ z
end
theorem Bo {prog : Program} {w : World} {A : Around} {E : Value -> Shared -> Prop} {s : Shared} {l1 l2 : Addr} {xs ys : Array Value} {Q : Value -> Shared -> Prop} (hl1 : s.heap.IsTuple l1 xs) (hl2 : s.heap.IsTuple l2 ys)
  (h : ∀ h',IsZip h' (s.heap.objs.size + 4) (s.heap.objs.size + 2) (s.heap.objs.size + 3) .none -> IsPair h' (s.heap.objs.size + 2) (.ref s.heap.objs.size) (.ref (s.heap.objs.size + 1)) ->
   IsPair h' (s.heap.objs.size + 3) .none .none -> h'.IsTupleIter s.heap.objs.size l1 0 -> h'.IsTupleIter (s.heap.objs.size + 1) l2 0 ->
   (∀ c o,s.heap.get? c = some o -> h'.get? c = some o) -> Q (.ref (s.heap.objs.size + 4)) { s with heap:=h' }) :
  wpAny (model prog w) A (call (.type "zip") [.ref l1,.ref l2]) Q E s:=by
 refine callType_new F.called_zip (by decide) (F.typeCall_zip_2 _ _) (F.newCall_zip_2 _ _) (fun obj => F.args_object_init_3 obj _ _) F.entry_zip_new
  (sR l1 l2 xs ys) ⟨hl1,hl2,?_⟩
 obtain ⟨h1,e1⟩ : ∃ h1,s.heap.push { cls:=.type "tuple_iterator",data:=.fields #[.ref l1,.int 0 0] } = h1:=⟨_,rfl⟩
 obtain ⟨h2,e2⟩ : ∃ h2,h1.push { cls:=.type "tuple_iterator",data:=.fields #[.ref l2,.int 0 0] } = h2:=⟨_,rfl⟩
 obtain ⟨h3,e3⟩ : ∃ h3,h2.push { cls:=.type "tuple",data:=.seq #[.ref s.heap.objs.size,.ref (s.heap.objs.size + 1)] } = h3:=⟨_,rfl⟩
 obtain ⟨h4,e4⟩ : ∃ h4,h3.push { cls:=.type "tuple",data:=.seq #[.none,.none] } = h4:=⟨_,rfl⟩
 obtain ⟨h5,e5⟩ : ∃ h5,h4.push { cls:=.type "zip",data:=.fields #[.none,.bool false,.bool false,.ref (s.heap.objs.size + 2),.ref (s.heap.objs.size + 3)] } = h5:=⟨_,rfl⟩
 have z1 : h1.objs.size = s.heap.objs.size + 1:=by rw [<- e1]; exact Heap.size_push ..
 have z2 : h2.objs.size = s.heap.objs.size + 2:=by rw [<- e2,Heap.size_push,z1]
 have z3 : h3.objs.size = s.heap.objs.size + 3:=by rw [<- e3,Heap.size_push,z2]
 have z4 : h4.objs.size = s.heap.objs.size + 4:=by rw [<- e4,Heap.size_push,z3]
 have u5 : ∀ {c o},h4.get? c = some o -> h5.get? c = some o:=fun e => by rw [<- e5]; exact Heap.get?_push_of_some _ e
 have u4 : ∀ {c o},h3.get? c = some o -> h5.get? c = some o:=fun e => u5 (by rw [<- e4]; exact Heap.get?_push_of_some _ e)
 have u3 : ∀ {c o},h2.get? c = some o -> h5.get? c = some o:=fun e => u4 (by rw [<- e3]; exact Heap.get?_push_of_some _ e)
 have u2 : ∀ {c o},h1.get? c = some o -> h5.get? c = some o:=fun e => u3 (by rw [<- e2]; exact Heap.get?_push_of_some _ e)
 have g5 : IsZip h5 (s.heap.objs.size + 4) (s.heap.objs.size + 2) (s.heap.objs.size + 3) .none:=by
  rw [<- z4,<- e5]; exact Heap.get?_push_size _ rfl
 have g4 : IsPair h5 (s.heap.objs.size + 3) .none .none:=u5 (by rw [<- z3,<- e4]; exact Heap.get?_push_size _ rfl)
 have g3 : IsPair h5 (s.heap.objs.size + 2) (.ref s.heap.objs.size) (.ref (s.heap.objs.size + 1)):=u4 (by rw [<- z2,<- e3]; exact Heap.get?_push_size _ rfl)
 have g2 : h5.IsTupleIter (s.heap.objs.size + 1) l2 0:=⟨_,u3 (by rw [<- z1,<- e2]; exact Heap.get?_push_size _ rfl),rfl,rfl⟩
 have g1 : h5.IsTupleIter s.heap.objs.size l1 0:=⟨_,u2 (by rw [<- e1]; exact Heap.get?_push_size _ rfl),rfl,rfl⟩
 show _ /\ _
 rw [e1,e2,e3,e4,e5]
 exact ⟨⟨_,g5,rfl⟩,h _ g5 g3 g4 g1 g2 fun c o x => u2 (by rw [<- e1]; exact Heap.get?_push_of_some _ x)⟩
def Itz (K : PySem.W.Frag) (a b : Addr) : It:=
 ⟨fun i H => ∃ xs ys x y,SqT K H a xs /\ SqT K H b ys /\ xs[i]? = some x /\ ys[i]? = some y,
  fun i H v H' => ∃ T x y,v = .ref T /\ H T = none /\ H' = upd H T (.tup [x,y]) /\ (∀ xs,SqT K H a xs -> xs[i]? = some x) /\ ∀ ys,SqT K H b ys -> ys[i]? = some y,
  fun i H => ∃ xs,SqT K H a xs /\ xs.length = i⟩
theorem Cs {z TI TO i1 i2 a b : Addr} (h1 : TI ≠ z) (h2 : TO ≠ z) (h3 : TI ≠ TO) (h4 : i1 ≠ z) (h5 : i2 ≠ z) (h6 : TI ≠ i1) (h7 : TI ≠ i2) (h8 : TO ≠ i1) (h9 : TO ≠ i2) (h10 : i1 ≠ i2) (ha : ∀ c ∈ [z,TO,i1,i2],a ≠ c) (hb : ∀ c ∈ [z,TO,i1,i2],b ≠ c) :
  ZipFar z TI TO i1 i2 [i1,a] [i2,b]:=by
 have a1:=ha z (by simp)
 have a2:=ha TO (by simp)
 have a3:=ha i2 (by simp)
 have b1:=hb z (by simp)
 have b2:=hb TO (by simp)
 have b3:=hb i1 (by simp)
 exact ⟨h1,h2,h3,h4,h5,h6,h7,h8,h9,h10,by simp [Ne.symm h4,Ne.symm a1],by simp [h8,Ne.symm a2],by simp [Ne.symm h10,Ne.symm a3],by simp [Ne.symm h5,Ne.symm b1],by simp [h9,Ne.symm b2],by simp [h10,Ne.symm b3]⟩
theorem B4 {P : Program} {w : World} {K : PySem.W.Frag} {elts : List Expr} {x1 : _} {pos : Pos} (a b z TI TO i1 i2 : Addr) (h1 : TI ≠ z) (h2 : TO ≠ z) (h3 : TI ≠ TO) (h4 : i1 ≠ z) (h5 : i2 ≠ z) (h6 : TI ≠ i1) (h7 : TI ≠ i2) (h8 : TO ≠ i1) (h9 : TO ≠ i2) (h10 : i1 ≠ i2)
  (ha : ∀ c ∈ [z,TI,TO,i1,i2],a ≠ c) (hb : ∀ c ∈ [z,TI,TO,i1,i2],b ≠ c) :
  Turn P w K (.Tuple elts x1 pos) (Itz K a b) [z,TI,TO,i1,i2] z (fun i h => IsZip h z TI TO .none /\ IsPair h TI (.ref i1) (.ref i2) /\ (∃ u v,IsPair h TO u v) /\ h.IsTupleIter i1 a i /\ h.IsTupleIter i2 b i) where
 mem:=by simp
 obj:=fun i h st c hc => by
  obtain ⟨hz,hTI,⟨u,v,hTO⟩,hi1,hi2⟩:=st
  simp only [List.mem_cons,List.not_mem_nil,or_false] at hc
  rcases hc with rfl | rfl | rfl | rfl | rfl
  ·exact ⟨_,hz,fun v z => by have z' : Data.fields _ = Data.cell v:=z; cases z'⟩
  ·exact ⟨_,hTI,fun v z => by have z' : Data.seq _ _ = Data.cell v:=z; cases z'⟩
  ·exact ⟨_,hTO,fun v z => by have z' : Data.seq _ _ = Data.cell v:=z; cases z'⟩
  ·obtain ⟨o,e,c,d⟩:=hi1
   exact ⟨o,e,fun v z => by rw [d] at z; cases z⟩
  ·obtain ⟨o,e,c,d⟩:=hi2
   exact ⟨o,e,fun v z => by rw [d] at z; cases z⟩
 keep:=fun i h h' st k => by
  obtain ⟨hz,hTI,⟨u,v,hTO⟩,hi1,hi2⟩:=st
  exact ⟨k z (by simp) _ hz,k TI (by simp) _ hTI,⟨u,v,k TO (by simp) _ hTO⟩,hi1.at fun o e => k i1 (by simp) o e,hi2.at fun o e => k i2 (by simp) o e⟩
 item:=by
  intro X hP hw hK hc i pins s σ H E I hf st hg
  subst hP hw hK
  obtain ⟨xs,ys,x,y,hq1,hq2,hx,hy⟩:=hg
  obtain ⟨its,rv,p1,_⟩:=I.tuple hq1
  obtain ⟨jts,rw',p2,_⟩:=I.tuple hq2
  obtain ⟨u,hu,ru⟩:=rv.get hx
  obtain ⟨v,hv,rv2⟩:=rw'.get hy
  obtain ⟨hz,hTI,⟨o1,o2,hTO⟩,hi1,hi2⟩:=st
  have FF:=Cs (a:=a) (b:=b) h1 h2 h3 h4 h5 h6 h7 h8 h9 h10 (fun c hc => ha c (by simp only [List.mem_cons,List.not_mem_nil,or_false] at hc ⊢; rcases hc with h | h | h | h <;> simp [h])) (fun c hc => hb c (by simp only [List.mem_cons,List.not_mem_nil,or_false] at hc ⊢; rcases hc with h | h | h | h <;> simp [h]))
  have l1 : i < its.toArray.size:=by have : i < its.length:=(List.getElem?_eq_some_iff.mp hu).1; simpa using this
  have l2 : i < jts.toArray.size:=by have : i < jts.length:=(List.getElem?_eq_some_iff.mp hv).1; simpa using this
  have hh : X.A.in1.handled = none:=I.ok.hd hc
  have D1:=ng (prog:=X.prog) (w:=X.w) (A:=X.A.in1) hh i1 a (ha i1 (by simp)) its.toArray
  have D2:=ng (prog:=X.prog) (w:=X.w) (A:=X.A.in1) hh i2 b (hb i2 (by simp)) jts.toArray
  have hT : s.TypeIs (.ref z) "zip" := ⟨_,hz,rfl⟩
  unfold pyNext
  refine wpAny_bind (wpAny_attempt (wpAny_callSpecial?_slot (name:=Str.ofString "__next__") hT F.slot_zip_next (wpAny_call_entry F.slot_zip_next hT F.entry_zip_next ?_ (F.args_zip_next_1 _))))
  refine B6 D1 D2 FF hz hTI hTO ⟨hi1,p1⟩ ⟨hi2,p2⟩ l1 l2 fun x' y' h' tk hx' hy' a1 a2 a3 a4 a5 a7 => wpAny_pure ?_
  have ex : x' = u:=by
   have : its.toArray[i]? = some u:=by simpa using hu
   rw [this] at hx'
   exact (Option.some.inj hx').symm
  have ey : y' = v:=by
   have : jts.toArray[i]? = some v:=by simpa using hv
   rw [this] at hy'
   exact (Option.some.inj hy').symm
  subst ex ey
  refine ⟨_,rfl,wpAny_letOwnedTupleGo_zip (s:={ s with heap:=h',toks:=tk }) a1 fun h2' hz' hs' => ?_⟩
  have fr : H s.heap.objs.size = none:=I.hok.fresh (Nat.le_refl _)
  have I1 : Inv X pins σ (upd H s.heap.objs.size (.tup [x,y])) { s with heap:=s.heap.push { cls:=.type "tuple",data:=.seq #[x',y'] },toks:=tk }:=
   I.laid (o:=.tup [x,y]) (fun b ob q => Heap.get?_push_of_some _ q) (Nat.le_refl _) ⟨by show 2 <= sizeLine; decide,[x',y'],.cons ru (.cons rv2 .nil),⟨_,Heap.get?_push_size _ rfl,rfl,_,rfl⟩⟩
  have lt : ∀ c ∈ [z,TI,TO,i1,i2],c < s.heap.objs.size:=fun c hc => by
   simp only [List.mem_cons,List.not_mem_nil,or_false] at hc
   rcases hc with rfl | rfl | rfl | rfl | rfl
   ·exact Heap.lt_size hz
   ·exact Heap.lt_size hTI
   ·exact Heap.lt_size hTO
   ·obtain ⟨o,e1,_⟩:=hi1; exact Heap.lt_size e1
   ·obtain ⟨o,e1,_⟩:=hi2; exact Heap.lt_size e1
  have f2 : ∀ c ∈ [z,TI,TO,i1,i2],mK X pins (upd H s.heap.objs.size (.tup [x,y])) c:=fun c hc => by
   refine ⟨?_,(hf c hc).2⟩
   rw [aw (Nat.ne_of_lt (lt c hc))]
   exact (hf c hc).1
  have I2 : Inv X pins σ (upd H s.heap.objs.size (.tup [x,y])) { s with heap:=h2',toks:=tk }:=by
   refine Inv.turnedL (s:={ s with heap:=s.heap.push { cls:=.type "tuple",data:=.seq #[x',y'] },toks:=tk }) (t' := tk) (h' := h2') (ch:=[z,TI,TO,i1,i2]) I1 (fun c o hc q => ?_) f2 (fun _ _ _ _ => trivial)
   simp only [List.mem_cons,List.not_mem_nil,or_false,not_or] at hc
   refine (hs'.2 c hc.1).trans ?_
   rcases Heap.get?_push_cases (show (s.heap.push { cls:=.type "tuple",data:=.seq #[x',y'] }).get? c = some o from q) with ⟨rfl,rfl⟩ | q
   ·exact a5
   ·exact a7 c o hc.1 hc.2.2.1 hc.2.2.2.1 hc.2.2.2.2 q
  refine ⟨.ref s.heap.objs.size,_,I2,rfl,⟨s.heap.objs.size,x,y,rfl,fr,rfl,fun ys hy => by rw [I.tuple_inj hy hq1]; exact hx,fun ys hy' => by rw [I.tuple_inj hy' hq2]; exact hy⟩,⟨hz',?_,⟨x',y',?_⟩,?_,?_⟩,fun b hb => (f2 b hb).1⟩
  ·exact (hs'.2 TI h1).trans (a7 _ _ h1 h3 h6 h7 hTI)
  ·exact (hs'.2 TO h2).trans a2
  ·exact a3.1.at fun o e => (hs'.2 i1 h4).trans e
  ·exact a4.1.at fun o e => (hs'.2 i2 h5).trans e
 done:=by
  intro X hP hw hK hc i pins s σ H E I hf st hg
  subst hP hw hK
  obtain ⟨xs,hq,hx⟩:=hg
  obtain ⟨its,rv,p1,_⟩:=I.tuple hq
  obtain ⟨hz,hTI,⟨o1,o2,hTO⟩,hi1,hi2⟩:=st
  have FF:=Cs (a:=a) (b:=b) h1 h2 h3 h4 h5 h6 h7 h8 h9 h10 (fun c hc => ha c (by simp only [List.mem_cons,List.not_mem_nil,or_false] at hc ⊢; rcases hc with h | h | h | h <;> simp [h])) (fun c hc => hb c (by simp only [List.mem_cons,List.not_mem_nil,or_false] at hc ⊢; rcases hc with h | h | h | h <;> simp [h]))
  have hh : X.A.in1.handled = none:=I.ok.hd hc
  have D1:=ng (prog:=X.prog) (w:=X.w) (A:=X.A.in1) hh i1 a (ha i1 (by simp)) its.toArray
  have hl:=rv.length
  have ei : i = its.toArray.size:=by simp; omega
  rw [ei] at hi1
  have hT : s.TypeIs (.ref z) "zip" := ⟨_,hz,rfl⟩
  unfold pyNext
  refine wpAny_bind (wpAny_attempt (wpAny_callSpecial?_slot (name:=Str.ofString "__next__") hT F.slot_zip_next (wpAny_call_entry F.slot_zip_next hT F.entry_zip_next ?_ (F.args_zip_next_1 _))))
  refine DI D1 FF hz hTI ⟨hi1,p1⟩ fun h' e hk he => ?_
  obtain ⟨o,ho,hcl⟩:=he
  refine wpAny_bind (wpAny_isInstance (T := "StopIteration") (b:=true) ⟨o,ho,hcl⟩ isSubtype_stop ?_)
  refine wpAny_pure ⟨rfl,I.turnedL (t' := s.toks) (ch:=[z,TI,TO,i1,i2]) (fun c o hc q => ?_) hf (fun _ _ _ _ => trivial)⟩
  simp only [List.mem_cons,List.not_mem_nil,or_false,not_or] at hc
  exact hk c o hc.1 hc.2.2.1 hc.2.2.2.1 hc.2.2.2.2 q
 self:=fun _ _ _ _ _ st h => wpAny_pyIter_zip st.1 h
section
variable {X : Cx}
def FT (K : PySem.W.Frag) (tl : TA) : TI:=fun σ H R => tl σ H fun vs H1 => ∃ a b,vs = [.ref a,.ref b] /\ (∃ xs,SqT K H1 a xs) /\ (∃ ys,SqT K H1 b ys) /\ R (Itz K a b) H1
theorem EY : bootBuiltins "zip" = some (.type "zip"):=by decide +kernel
theorem Ej {elts : List Expr} {x1 : _} {tpos : Pos} {l r : Expr} {tl : TA} {p pos : Pos} (hg : Gl X "zip") (hm : X.mg "zip" = none) (hl : PA X [l,r] tl) (hs : starEach [l,r] X.env = [(false,eval l X.env),(false,eval r X.env)]:=by rfl) (hs2 : starEach [r] X.env = [(false,eval r X.env)]:=by rfl) :
  PI X (.Tuple elts x1 tpos) (.Call (.Name "zip" p) [l,r] [] pos) (FT X.K tl):=by
 intro pins s σ H R I h
 refine Call_ (sO I hg hm EY (PyProof.Rows.callWith_type1 (thn (hl pos pins s σ H _ I h) fun us s1 ⟨vs,H1,I1,r1,q1⟩ => ?_) (by rw [hs,hs2]) (by rw [hs2]; rfl)))
 obtain ⟨a,b,e,⟨xs,hq1⟩,⟨ys,hq2⟩,q⟩:=q1
 subst e
 cases r1 with
 | cons ra rr =>
  cases rr with
  | cons rb rr =>
   cases rr
   cases ra
   cases rb
   obtain ⟨its,rv,p1,_⟩:=I1.tuple hq1
   obtain ⟨jts,rv2,p2,_⟩:=I1.tuple hq2
   have la : a < s1.heap.objs.size:=by obtain ⟨o,e,_⟩:=p1; exact Heap.lt_size e
   have lb : b < s1.heap.objs.size:=by obtain ⟨o,e,_⟩:=p2; exact Heap.lt_size e
   refine Bo (show s1.heap.IsTuple a its.toArray from p1) (show s1.heap.IsTuple b jts.toArray from p2) fun h' g5 g3 g4 g1 g2 hk => ?_
   refine wpAny_pyIter_zip g5 ?_
   have le : ∀ c ∈ [s1.heap.objs.size + 4,s1.heap.objs.size + 2,s1.heap.objs.size + 3,s1.heap.objs.size,s1.heap.objs.size + 1],s1.heap.objs.size <= c:=fun c hc => by
    simp only [List.mem_cons,List.not_mem_nil,or_false] at hc
    rcases hc with rfl | rfl | rfl | rfl | rfl <;> first | exact Nat.le_refl _ | exact Nat.le_add_right _ _
   have ad : ∀ {i j : Nat},i ≠ j -> s1.heap.objs.size + i ≠ s1.heap.objs.size + j:=fun h z => h (Nat.add_left_cancel z)
   have a0 : ∀ {j : Nat},0 ≠ j -> s1.heap.objs.size ≠ s1.heap.objs.size + j:=fun h z => h (Nat.add_left_cancel (show s1.heap.objs.size + 0 = _ from z))
   refine ⟨s1.heap.objs.size + 4,[s1.heap.objs.size + 4,s1.heap.objs.size + 2,s1.heap.objs.size + 3,s1.heap.objs.size,s1.heap.objs.size + 1],_,_,H1,rfl,I1.kept (t' := s1.toks) hk,
    B4 a b (s1.heap.objs.size + 4) (s1.heap.objs.size + 2) (s1.heap.objs.size + 3) s1.heap.objs.size (s1.heap.objs.size + 1) (ad (by decide)) (ad (by decide)) (ad (by decide)) (a0 (by decide)) (ad (by decide)) (Ne.symm (a0 (by decide))) (ad (by decide)) (Ne.symm (a0 (by decide))) (ad (by decide)) (a0 (by decide))
     (fun c hc => Nat.ne_of_lt (Nat.lt_of_lt_of_le la (le c hc))) (fun c hc => Nat.ne_of_lt (Nat.lt_of_lt_of_le lb (le c hc))),⟨g5,g3,⟨_,_,g4⟩,g1,g2⟩,fun c hc => I1.fpOk (le c hc) (I1.hok.fresh (le c hc)),q⟩
end
theorem Cv {K : PySem.W.Frag} {a b : Addr} {xs ys : List V} {g : TG} {tb : TS} {D : Ends} {σ : St} {H : Hp} (hlen : xs.length = ys.length) (Pv : Nat -> St -> Hp -> Prop) (h0 : Pv 0 σ H) (hl : ∀ i σ H,i <= xs.length -> Pv i σ H -> SqT K H a xs /\ SqT K H b ys)
  (hs : ∀ i x y σ H T,xs[i]? = some x -> ys[i]? = some y -> Pv i σ H -> H T = none -> g (.ref T) σ (upd H T (.tup [x,y])) fun σ2 H2 => tb { D with nx:=Pv (i + 1),ct:=Pv (i + 1),bk:=D.nx } σ2 H2) (hd : ∀ σ H,Pv xs.length σ H -> D.nx σ H) :
  ∃ W : Nat -> Nat -> St -> Hp -> Prop,(∃ m,W 0 m σ H) /\ ∀ i m σ H,W i m σ H ->
   ((Itz K a b).stop i H /\ D.nx σ H) \/ ((Itz K a b).go i H /\ ∃ N : St -> Hp -> Prop,(∀ σ' H',N σ' H' -> ∃ m',m' < m /\ W (i + 1) m' σ' H') /\ ∀ x H',(Itz K a b).yld i H x H' -> g x σ H' fun σ2 H2 => tb { D with nx:=N,ct:=N,bk:=D.nx } σ2 H2):=by
 refine ⟨fun i m σ H => m = xs.length - i /\ i <= xs.length /\ Pv i σ H,⟨xs.length,by simp,Nat.zero_le _,h0⟩,?_⟩
 rintro i m σ H ⟨rfl,hi,p⟩
 have q:=hl i σ H hi p
 by_cases hlt : i < xs.length
 ·refine .inr ⟨⟨xs,ys,xs[i],ys[i]'(by omega),q.1,q.2,by simp [hlt],by rw [List.getElem?_eq_getElem (by omega)]⟩,Pv (i + 1),fun σ' H' p' => ⟨xs.length - (i + 1),by omega,rfl,hlt,p'⟩,fun x H' y => ?_⟩
  obtain ⟨T,x0,y0,rfl,hT,rfl,y1,y2⟩:=y
  exact hs i x0 y0 σ _ T (y1 xs q.1) (y2 ys q.2) p hT
 ·have e : i = xs.length:=by omega
  subst e
  exact .inl ⟨⟨xs,q.1,rfl⟩,hd σ H p⟩
end L2
set_option Elab.async false
set_option linter.all false
set_option maxRecDepth 100000
set_option maxHeartbeats 4000000
namespace L2
open PySem PySem.Spec PyProof.Rows
inductive EqN (K : PySem.W.Frag) (H : Hp) : V -> V -> Prop where
 | non : EqN K H .non .non
 | tup {a b : Addr} {ns : List Int} (ha : SqT K H a (ns.map V.int)) (hb : SqT K H b (ns.map V.int)) : EqN K H (.ref a) (.ref b)
section
variable {X : Cx} {pins : List (Addr × Obj)} {σ : St} {H : Hp} {s : Shared}
theorem Du {ns : List Int} {us : List Value} (r : Vals (ns.map V.int) us) : ∀ (j : Nat) (u : Value),us[j]? = some u -> ∃ n t,ns[j]? = some n /\ u = Value.int n t:=by
 intro j u hu
 have hj : j < us.length:=(List.getElem?_eq_some_iff.mp hu).1
 have hl:=r.length
 rw [List.length_map] at hl
 obtain ⟨v,hv,rv⟩:=r.get (i:=j) (x:=V.int (ns[j]'(by omega))) (by rw [List.getElem?_map,List.getElem?_eq_getElem (by omega)]; rfl)
 rw [hu] at hv
 cases hv
 obtain ⟨t,rfl⟩:=(show ∃ t,u = Value.int _ t from rv)
 exact ⟨_,t,List.getElem?_eq_getElem (by omega),rfl⟩
end
end L2
set_option Elab.async false
set_option linter.all false
set_option maxRecDepth 100000
set_option maxHeartbeats 4000000
namespace L2
open PySem PySem.Spec PyProof.Rows
section
variable {X : Cx}
end
end L2
set_option Elab.async false
set_option linter.all false
set_option maxRecDepth 100000
set_option maxHeartbeats 4000000
namespace L2
open PySem PySem.Spec PyProof.Rows
end L2
set_option Elab.async false
set_option linter.all false
set_option maxRecDepth 100000
namespace L2
open PySem PySem.Spec PyProof.Rows
section
variable {X : Cx} {pins : List (Addr × Obj)} {σ : St} {H H' : Hp} {s : Shared} {h' : Heap}
end
section
variable {X : Cx}
def Ew (ns : List Int) : Int:=ns.foldl (· + ·) 0
theorem oB (ns : List Int) : ∀ n,n <= ns.length -> preSum (fun i => ns.getD i 0) n = (ns.take n).foldl (· + ·) 0
 | 0,_ => rfl
 | n + 1,h => by
  have hn : n < ns.length:=h
  show preSum _ n + ns.getD n 0 = _
  rw [oB ns n (Nat.le_of_lt hn),List.take_add_one,List.getElem?_eq_getElem hn,List.foldl_append]
  simp [hn]
end
end L2
set_option Elab.async false
set_option linter.all false
set_option maxRecDepth 100000
namespace L2
open PySem PySem.Spec PyProof.Rows
section
variable {X : Cx}
theorem wO : fk X (.builtin "divmod") (fun xs H Q => ∃ i j,xs = [.int i,.int j] /\ FH i j /\ ∀ p,H p = none -> Q (.ref p) (upd H p (.tup [.int (i / j),.int (i % j)]))):=by
 intro pins s σ H xs us Q I r h
 obtain ⟨i,j,rfl,⟨h1,h2⟩,q⟩:=h
 obtain ⟨u,w',rfl,⟨t,rfl⟩,⟨t',rfl⟩⟩:=vals2 r
 have h3:=Cb (Int.le_of_lt h1) h2
 refine divmod_int (by omega) ?_ (.inl (PyProof.noPylong_of_log2 (by omega)))
 rw [Int.fdiv_eq_ediv_of_nonneg i (by omega),Int.fmod_eq_emod_of_nonneg i (by omega)]
 have hn : H s.heap.objs.size = none:=I.hok.fresh (Nat.le_refl _)
 refine ⟨.ref s.heap.objs.size,_,?_,rfl,q _ hn⟩
 refine I.laid (fun b o e => Heap.get?_push_of_some _ e) (Nat.le_refl _) ⟨by simp only [List.length_cons,List.length_nil]; rw [sizeLine_eq]; decide,[.int (i / j) s.toks,.int (i % j) (s.toks + 1)],.cons ⟨_,rfl⟩ (.cons ⟨_,rfl⟩ .nil),?_⟩
 exact ⟨_,Heap.get?_push_size s.heap rfl,rfl,0,rfl⟩
end
theorem Bi : bootBuiltins "divmod" = some (.builtin "divmod"):=by decide +kernel
end L2
set_option Elab.async false
set_option linter.all false
set_option maxRecDepth 100000
namespace L2
open PySem PySem.Spec PyProof.Rows
section
variable {X : Cx}
end
end L2
namespace PySem
open PyProof.Rows
namespace F
end F
section
variable {prog : Program} {w : World} {A : Around} {E : Value -> Shared -> Prop} {s : Shared}
end
end PySem
namespace L2
open PySem PySem.Spec PyProof.Rows
section
variable {X : Cx} {tg : Expr}
end
end L2
set_option Elab.async false
set_option linter.all false
set_option maxRecDepth 100000
set_option maxHeartbeats 4000000
namespace L2
open PySem PySem.Spec PyProof.Rows
section
variable {X : Cx}
end
section
variable {X : Cx}
theorem gS {m : Str} {C : Addr} {j k : Nat} {ps : List Str} {sp : Sp} {apos pos : Pos} {o : Expr} {ta : TE} {pl : Sem Bool} (G : DefMe X.prog X.w X.K X.mg X.base C m k ps sp) (hr : Room j X.A) (ho : PE X o ta) (hkj : k <= j:=by decide)
  (ht : eval (.Call (.Attribute o m apos) [] [] pos) X.env = (do
   let ov <- eval o X.env
   standAt apos.atName
   let (f,first) <- holding [ov] (getMethod ov m pl)
   callWith pos f first (backTo pos (starEach [] X.env)) (backToKw pos (keywordEach [] X.env))):=by rfl) :
  PE X (.Call (.Attribute o m apos) [] [] pos) (Bc C m sp [] E0 ta gW):=by
 obtain ⟨f,fd,hm,hb,F⟩:=G.ex
 exact C7 ho G.cl hm F (hr.mono hkj) hb .nil C4 ht
def F9 (K : PySem.W.Frag) : List V -> Hp -> VK -> Prop:=fun xs H Q => ∃ (a : Addr) (ns : List Int),xs = [.ref a] /\ SqL K H a (ns.map V.int) /\ Q (.int (Ew ns)) H
theorem Bn (hc : X.calm = true) : fk X (.builtin "sum") (F9 X.K):=by
 intro pins s σ H xs us Q I r h
 obtain ⟨a,ns,rfl,hS,q⟩:=h
 obtain ⟨u,rfl,ru⟩:=r.one
 cases (show u = Value.ref a from ru)
 obtain ⟨its,rv,ht',hz⟩:=I.list hS
 have ht : s.heap.IsList a its.toArray:=ht'.isList
 have hlen:=rv.length
 rw [List.length_map] at hlen
 have hlt : a < s.heap.objs.size:=by obtain ⟨_,e,_⟩:=ht; exact Heap.lt_size e
 refine call_sum_walkG (wpAny_pyIter_list ht ?_)
 have W:=Walks.list (prog:=X.prog) (w:=X.w) (A:=X.A.in1) (I.ok.hd hc) s.heap.objs.size a (Nat.ne_of_lt hlt) its.toArray
 refine ⟨_,_,_,_,_,_,fun i => ns.getD i 0,rfl,W,⟨⟨_,Heap.get?_push_size _ rfl,rfl,rfl⟩,ht.at fun o e => Heap.get?_push_of_some _ e⟩,fun b hb => ?_,fun i v hv => ?_,fun h' tk t' hk => ?_⟩
 ·rcases List.mem_cons.mp hb with z | z
  ·rw [z]; show _ < (Heap.push _ _).objs.size; rw [Heap.size_push]; exact Nat.lt_succ_self _
  ·rw [List.mem_singleton.mp z]; show _ < (Heap.push _ _).objs.size; rw [Heap.size_push]; exact Nat.lt_succ_of_lt hlt
 ·have e' : its[i]? = some v:=by simpa using hv
  obtain ⟨n,t,e1,e2⟩:=Du rv i v e'
  exact ⟨t,by rw [e2]; show Value.int n t = Value.int (ns.getD i 0) t; rw [List.getD_eq_getElem?_getD,e1]; rfl⟩
 ·have I1 : Inv X pins σ H { s with heap:=h',toks:=tk }:=I.kept (t' := tk) fun b o e => hk b o (fun hm => by
   rw [List.mem_singleton.mp hm] at e
   exact Nat.lt_irrefl _ (Heap.lt_size e)) (Heap.get?_push_of_some _ e)
  refine ⟨.int (Ew ns),H,I1,⟨t',?_⟩,q⟩
  show Value.int _ _ = Value.int _ _
  rw [List.size_toArray,<- hlen,oB ns _ (Nat.le_refl _),List.take_length]
  rfl
end
end L2
set_option Elab.async false
set_option linter.all false
set_option maxRecDepth 100000
set_option maxHeartbeats 4000000
namespace L2
open PySem PySem.Spec PyProof.Rows
section
variable {prog : Program} {w : World} {A : Around} {E : Value -> Shared -> Prop} {s : Shared}
structure ZipFar3 (z TI TO i1 i2 i3 : Addr) (fp1 fp2 fp3 : List Addr) : Prop where
 TIz : TI ≠ z
 TOz : TO ≠ z
 TITO : TI ≠ TO
 i1z : i1 ≠ z
 i2z : i2 ≠ z
 i3z : i3 ≠ z
 TIi1 : TI ≠ i1
 TIi2 : TI ≠ i2
 TIi3 : TI ≠ i3
 TOi1 : TO ≠ i1
 TOi2 : TO ≠ i2
 TOi3 : TO ≠ i3
 z1 : z ∉ fp1
 TO1 : TO ∉ fp1
 i21 : i2 ∉ fp1
 i31 : i3 ∉ fp1
 z2 : z ∉ fp2
 TO2 : TO ∉ fp2
 i12 : i1 ∉ fp2
 i32 : i3 ∉ fp2
 z3 : z ∉ fp3
 TO3 : TO ∉ fp3
 i13 : i1 ∉ fp3
 i23 : i2 ∉ fp3
variable {z TI TO i1 i2 i3 : Addr} {fp1 fp2 fp3 : List Addr} {n1 n2 n3 k : Nat} {P1 P2 P3 : Nat -> Value -> Prop} {St1 St2 St3 : Nat -> Heap -> Prop} {a b c : Value}
end
section
variable {X : Cx}
end
section
variable {X : Cx}
end
theorem gE {t u : TS} {D : Ends} {σ : St} {H : Hp} (R : St -> Hp -> Prop) (h1 : ∀ σ' H',R σ' H' -> u D σ' H') (h2 : ∀ D' : Ends,(∀ σ' H',R σ' H' -> D'.nx σ' H') -> t D' σ H) : zE t u D σ H:=
 h2 { D with nx:=u D } h1
end L2
set_option Elab.async false
set_option linter.all false
set_option maxRecDepth 100000
set_option maxHeartbeats 4000000
namespace L2
open PySem PySem.Spec PyProof.Rows
structure BlkScope1 (NX : List Str) (scX : Scope) (N : List Str) (ix : List (Option Nat)) (sc : Scope) (x : Str) : Prop where
 kind : sc.kind = .function
 nd : N.Nodup
 cell : sc.names.lookup x = some .cell
 only : ∀ y ∈ sc.names,y.2 = .cell -> y.1 = x
 lay : ∀ n cl,cellsFrom n sc.names cl = (x,n) :: cl
 lays : ∀ h,pushCells h sc.names = h.push { cls:=.type "cell",data:=.cell none }
 locs : ∀ y ∈ sc.names,y.2 = .local -> sc.names.lookup y.1 = some .local
 free : ∀ y ∈ sc.names,y.2 = .free -> scX.names.lookup y.1 = some .cell \/ scX.names.lookup y.1 = some .free
 nofree : ∀ y ∈ sc.names,y.2 = .free -> y.1 ≠ x
 len : ix.length = N.length
 at_ : ∀ p ∈ N.zip ix,∀ i,p.2 = some i -> NX[i]? = some p.1 /\ sc.names.lookup p.1 = some .free
section
variable {X : Cx} {pins : List (Addr × Obj)} {σ : St} {H : Hp} {s : Shared} {N : List Str} {ix : List (Option Nat)} {scope : Scope} {fp : List Addr} {x : Str}
variable {tg elt iter : Expr} {pos spos : Pos} {J : It} {it : Addr} {tn : Nat -> Heap -> Prop} {g : TG} {te : TE} {wi : TI}
end
end L2
set_option Elab.async false
set_option linter.all false
set_option maxRecDepth 100000
namespace L2
open PySem PySem.Spec PyProof.Rows
abbrev Rise (xs : Array Nat) : Prop:=xs.toList.Pairwise (· < ·)
theorem Rise.lt {xs : Array Nat} (r : Rise xs) {i j : Nat} (hi : i < j) (hj : j < xs.size) : xs[i] < xs[j]:=by
 have:=List.pairwise_iff_getElem.mp r i j (by simpa using Nat.lt_trans hi hj) (by simpa using hj) hi
 simpa using this
theorem rZ {xs : Array Nat} {j : Nat} (r : Rise xs) : ∀ (fuel lo hi : Nat),hi - lo <= fuel -> lo <= hi -> hi <= xs.size -> (∀ i (h : i < xs.size),i < lo -> xs[i] < j) -> (∀ i (h : i < xs.size),hi <= i -> j <= xs[i]) ->
  (SetTable.below.go xs j fuel lo hi <= xs.size /\ (∀ i (h : i < xs.size),i < SetTable.below.go xs j fuel lo hi -> xs[i] < j) /\ ∀ i (h : i < xs.size),SetTable.below.go xs j fuel lo hi <= i -> j <= xs[i])
 | 0,lo,hi,hf,hl,hs,h1,h2 => by
  have e : lo = hi:=by omega
  subst e
  exact ⟨hs,h1,h2⟩
 | fuel + 1,lo,hi,hf,hl,hs,h1,h2 => by
  unfold SetTable.below.go
  by_cases c : lo < hi
  ·rw [if_pos c]
   dsimp only
   have hm : (lo + hi) / 2 < xs.size:=by omega
   have eg : xs.getD ((lo + hi) / 2) j = xs[(lo + hi) / 2]:=by simp [Array.getD,hm]
   by_cases d : xs.getD ((lo + hi) / 2) j < j
   ·rw [if_pos d]
    refine rZ r fuel _ _ (by omega) (by omega) hs (fun i h hi' => ?_) h2
    rcases Nat.lt_or_ge i ((lo + hi) / 2) with z | z
    ·exact Nat.lt_trans (r.lt z hm) (by rw [eg] at d; exact d)
    ·have e : i = (lo + hi) / 2:=by omega
     subst e
     rw [eg] at d
     exact d
   ·rw [if_neg d]
    refine rZ r fuel _ _ (by omega) (by omega) (by omega) h1 (fun i h hi' => ?_)
    rw [eg] at d
    rcases Nat.lt_or_ge ((lo + hi) / 2) i with z | z
    ·exact Nat.le_trans (Nat.le_of_not_lt d) (Nat.le_of_lt (r.lt z h))
    ·have e : i = (lo + hi) / 2:=by omega
     subst e
     exact Nat.le_of_not_lt d
  ·rw [if_neg c]
   have e : lo = hi:=by omega
   subst e
   exact ⟨hs,h1,h2⟩
theorem r0 {xs : Array Nat} (r : Rise xs) (j : Nat) : SetTable.below xs j <= xs.size /\ (∀ i (h : i < xs.size),i < SetTable.below xs j -> xs[i] < j) /\ ∀ i (h : i < xs.size),SetTable.below xs j <= i -> j <= xs[i]:=
 rZ r xs.size 0 xs.size (by omega) (Nat.zero_le _) (Nat.le_refl _) (fun i h z => by omega) (fun i h z => by omega)
theorem zM {xs : Array Nat} (r : Rise xs) : SetTable.below xs 0 = 0:=by
 obtain ⟨h0,h1,_⟩:=r0 r 0
 rcases Nat.eq_zero_or_pos (SetTable.below xs 0) with z | z
 ·exact z
 ·exact absurd (h1 0 (Nat.lt_of_lt_of_le z h0) z) (Nat.not_lt_zero _)
theorem zL {xs : Array Nat} (r : Rise xs) {i : Nat} (hi : i < xs.size) : SetTable.below xs (xs[i] + 1) = i + 1:=by
 obtain ⟨h0,h1,h2⟩:=r0 r (xs[i] + 1)
 rcases Nat.lt_trichotomy (SetTable.below xs (xs[i] + 1)) (i + 1) with z | z | z
 ·have:=h2 i hi (by omega)
  omega
 ·exact z
 ·have hi2 : i + 1 < xs.size:=by omega
  have a1:=h1 (i + 1) hi2 z
  have a2 : xs[i] < xs[i + 1]:=r.lt (Nat.lt_succ_self i) hi2
  omega
theorem toList_insertAt {α : Type} (xs : Array α) (p : Nat) (x : α) : (SetTable.insertAt xs p x).toList = xs.toList.take p ++ x :: xs.toList.drop p:=by
 unfold SetTable.insertAt
 simp
 rw [List.take_of_length_le (by simp)]
theorem Rise.put {xs : Array Nat} (r : Rise xs) {j : Nat} (hj : xs[SetTable.below xs j]? ≠ some j) : Rise (SetTable.insertAt xs (SetTable.below xs j) j):=by
 obtain ⟨h0,h1,h2⟩:=r0 r j
 unfold Rise
 rw [toList_insertAt,List.pairwise_append]
 have tk : ∀ a ∈ xs.toList.take (SetTable.below xs j),a < j:=fun a ha => by
  obtain ⟨i,hi,rfl⟩:=List.mem_take_iff_getElem.mp ha
  have : i < SetTable.below xs j /\ i < xs.size:=by simp at hi; omega
  simpa using h1 i this.2 this.1
 have dr : ∀ b ∈ xs.toList.drop (SetTable.below xs j),j < b:=fun b hb => by
  obtain ⟨i,hi,rfl⟩:=List.mem_drop_iff_getElem.mp hb
  have hs : i + SetTable.below xs j < xs.size:=by simpa using hi
  have hle:=h2 (i + SetTable.below xs j) hs (by omega)
  have hb0 : SetTable.below xs j < xs.size:=by omega
  have hne : xs[SetTable.below xs j] ≠ j:=fun z => hj (by rw [Array.getElem?_eq_getElem hb0,z])
  have h3:=h2 (SetTable.below xs j) hb0 (Nat.le_refl _)
  have : j < xs[i + SetTable.below xs j]:=by
   rcases Nat.eq_zero_or_pos i with z | z
   ·subst z
    simp only [Nat.zero_add]
    omega
   ·have:=r.lt (i:=SetTable.below xs j) (j:=i + SetTable.below xs j) (by omega) hs
    omega
  simpa [Nat.add_comm] using this
 refine ⟨List.Pairwise.sublist (List.take_sublist _ _) r,List.pairwise_cons.mpr ⟨dr,List.Pairwise.sublist (List.drop_sublist _ _) r⟩,fun a ha b hb => ?_⟩
 rcases List.mem_cons.mp hb with e | hb
 ·rw [e]; exact tk a ha
 ·exact Nat.lt_trans (tk a ha) (dr b hb)
theorem Aj (n : Nat) : Rise (Array.range n):=by
 unfold Rise
 rw [Array.toList_range]
 exact List.pairwise_lt_range
structure TabOk (t : SetTable) (led : Bool) : Prop where
 rise : Rise t.place
 nod : t.dummies = #[]
 led : t.led = led
theorem TabOk.standIn {t : SetTable} {led : Bool} (k : TabOk t led) (n : Nat) : TabOk (t.standIn n) led:=⟨Aj n,rfl,k.led⟩
theorem TabOk.orStandIn {t : SetTable} {led : Bool} (k : TabOk t led) (n : Nat) : TabOk (t.orStandIn n) led:=by
 unfold SetTable.orStandIn
 split
 ·exact k
 ·exact k.standIn n
theorem AK (j : Nat) : SetTable.has #[] j = false:=by
 unfold SetTable.has
 simp
theorem tN {t : SetTable} {led : Bool} (k : TabOk t led) {h : Int} : ∀ (fuel : Nat) (p : SetTable.Probe) (j : Nat) (dm : Option Nat),p.dummy = none -> SetTable.probe.go t (fun _ => h + 1) h fuel p = some (.empty j dm) -> t.slot j = .empty /\ dm = none
 | 0,p,j,dm,_,e => by cases e
 | fuel + 1,p,j,dm,hp,e => by
  unfold SetTable.probe.go at e
  cases hs : t.slot p.j with
  | empty =>
   rw [hs] at e
   cases e
   exact ⟨hs,hp⟩
  | dummy =>
   exfalso
   unfold SetTable.slot at hs
   dsimp only at hs
   split at hs
   ·cases hs
   ·rw [k.nod,AK] at hs
    simp at hs
  | live i =>
   rw [hs] at e
   dsimp only at e
   rw [if_neg (by simp; omega)] at e
   refine tN k fuel _ j dm ?_ e
   unfold SetTable.advance
   split
   ·exact hp
   ·exact hp
theorem Bv {t : SetTable} {led : Bool} (k : TabOk t led) {h : Int} {j : Nat} {b : Bool} (e : t.freeSlot h = some (j,b)) : t.place[SetTable.below t.place j]? ≠ some j /\ b = false:=by
 unfold SetTable.freeSlot SetTable.probe at e
 split at e
 ·rename_i j' dm e'
  obtain ⟨h1,rfl⟩:=tN k _ _ _ _ rfl e'
  simp at e
  obtain ⟨rfl,rfl⟩:=e
  refine ⟨fun z => ?_,rfl⟩
  unfold SetTable.slot at h1
  dsimp only at h1
  rw [if_pos (by rw [z]; simp)] at h1
  cases h1
 ·cases e
theorem z7 {t : SetTable} {led : Bool} (k : TabOk t led) (es : Array (Int × Value)) (h : Int) (x : Value) : TabOk (layNew t es h x).2.1 led:=by
 unfold layNew
 split
 ·rename_i slot wd e
  obtain ⟨hj,rfl⟩:=Bv k e
  have k1 : TabOk (t.put slot).1 led:=by
   refine ⟨k.rise.put hj,?_,k.led⟩
   show (if SetTable.has t.dummies slot = true then _ else t.dummies) = #[]
   rw [k.nod,AK]
   rfl
  exact k1.orStandIn _
 ·exact k.standIn _
theorem ya {t : SetTable} {led : Bool} (k : TabOk t led) (es : Array (Int × Value)) (n : Nat) : TabOk (relayAll t es n).2.1 led:=by
 unfold relayAll
 split
 ·rename_i t' order e
  dsimp only
  split
  ·unfold SetTable.relaid SetTable.laid at e
   simp only [Option.bind_eq_bind,Option.bind_eq_some_iff] at e
   obtain ⟨owner,_,e⟩:=e
   cases e
   refine ⟨?_,rfl,k.led⟩
   unfold Rise
   dsimp only
   rw [List.map_filterMap]
   refine List.Pairwise.filterMap _ (fun a a' hr b hb b' hb' => ?_) List.pairwise_lt_range
   simp only [Option.map_map,Option.mem_def,Option.map_eq_some_iff,Function.comp] at hb hb'
   obtain ⟨_,_,rfl⟩:=hb
   obtain ⟨_,_,rfl⟩:=hb'
   exact hr
  ·exact k.standIn _
 ·exact k.standIn _
abbrev byT (w : World) : Bool:=w.params.followText "set-order"
section
variable {P : Program} {w : World} {A : Around} {E : Value -> Shared -> Prop} {s : Shared}
end
end L2
set_option Elab.async false
set_option linter.all false
set_option maxRecDepth 100000
namespace L2
open PySem PySem.Spec PyProof.Rows
section
variable {P : Program} {w : World} {A : Around} {E : Value -> Shared -> Prop} {R : Result -> Shared -> Prop} {I : Addr} {fp wr : List Addr} {G : Array GenState -> Array GenState -> Prop} {n : Nat} {Pz : Nat -> Value -> Prop} {St : Nat -> Shared -> Prop}
end
section
variable {P : Program} {w : World} {A : Around} {E : Value -> Shared -> Prop} {s : Shared}
def cN (w : World) : Obj:={ cls:=.type "set",dict:=none,data:=.set #[] 0 (.fresh 0 0 (!byT w)) }
theorem Bp (a : Value) {Q₁ : Value -> Shared -> Prop} (h : Q₁ (.ref s.heap.objs.size) { s with heap:=s.heap.push (cN w) }) :
  codeAny (model P w) A (.call (.builtin "set.__new__") ⟨[.type "set",a],[]⟩) (wants Q₁ E) s:=by
 refine codeAny_of_tree ?_
 show wpAny _ A.in1 (do checkBuiltinCall "set.__new__" ⟨[.type "set",a],[]⟩; again (.builtin "set.__new__" ⟨[.type "set",a],[]⟩)) _ _ s
 refine wpAny_bind (wpAny_of_eq (F.newCall_set_1 a) (wpAny_pure ⟨plainId_quiet F.plain_set_new _,codeAny_builtin F.entry_set_new ?_⟩))
 rw [Around.under_plainId F.plain_set_new _]
 unfold Builtin.«set.__new__» Builtin.Frozenset.newClass
 have hsub:=sub_set_self
 obtain ⟨hp,g,d,tk,os⟩:=s
 dsimp only
 wp_walk
 refine wpAny_askSetting (wpAny_pure ?_)
 dsimp only
 simp only [newObj]
 exact wpAny_bind (wpAny_alloc (wpAny_pure (wpAny_pure h)))
end
end L2
set_option Elab.async false
set_option linter.all false
set_option maxRecDepth 100000
namespace L2
open PySem PySem.Spec PyProof.Rows
namespace SF
theorem entry_iter : entryFor table "set.__iter__" = some Builtin.«frozenset.__iter__» := entryFor_alias (id' := "frozenset.__iter__") (by kernel_rfl) rfl (by decide +kernel) (by kernel_rfl)
theorem slot_next : Slot "set_iterator" "__next__" "set_iterator.__next__" :=
 .of (owner := "set_iterator") (n := "__next__") (by rw [typeLookup_type,builtinLookup_eq_fast]; kernel_rfl) (by decide +kernel) (by decide +kernel) (by decide +kernel) (by first | exact .inl (by decide +kernel) | exact .inr (by decide +kernel))
  (by rw [isSubtype_type]; kernel_rfl)
theorem entry_next : entryFor table "set_iterator.__next__" = some Builtin.«set_iterator.__next__» := entryFor_of_tree (by kernel_rfl)
theorem args_next (a : Value) : argsOk "set_iterator.__next__" ⟨[a],[]⟩:=by unfold argsOk; kernel_rfl
theorem slot_iter_self : Slot "set_iterator" "__iter__" "set_iterator.__iter__" :=
 .of (owner := "set_iterator") (n := "__iter__") (by rw [typeLookup_type,builtinLookup_eq_fast]; kernel_rfl) (by decide +kernel) (by decide +kernel) (by decide +kernel) (by first | exact .inl (by decide +kernel) | exact .inr (by decide +kernel))
  (by rw [isSubtype_type]; kernel_rfl)
end SF
theorem nj {α : Type} : ∀ (l : List α) (i : Nat) (h : i < l.length),(l[i] :: l.eraseIdx i).Perm l
 | x :: r,0,_ => List.Perm.refl _
 | x :: r,i + 1,h => (List.Perm.swap _ _ _).trans (List.Perm.cons _ (nj r i (Nat.lt_of_succ_lt_succ h)))
theorem A3 {α : Type} (next : Nat -> Nat) : ∀ (fuel k : Nat) (left : List α) (out : Array α),left.length = fuel -> (pickOrder.go next fuel k left out).toList.Perm (out.toList ++ left)
 | 0,k,left,out,h => by
  rw [List.length_eq_zero_iff.mp h,List.append_nil]
  exact List.Perm.refl _
 | fuel + 1,k,left,out,h => by
  unfold pickOrder.go
  have hlt : next k % left.length < left.length:=Nat.mod_lt _ (by omega)
  rw [List.getElem?_eq_getElem hlt]
  dsimp only
  refine (A3 next fuel (k + 1) _ _ (by rw [List.length_eraseIdx_of_lt hlt]; omega)).trans ?_
  rw [Array.toList_push,List.append_assoc]
  refine List.Perm.append_left _ ?_
  exact nj _ _ hlt
theorem p9 {α : Type} (next : Nat -> Nat) (xs : Array α) : (pickOrder next xs).toList.Perm xs.toList:=by
 have q:=A3 next xs.size 0 xs.toList #[] (by simp)
 unfold pickOrder
 simpa using q
theorem vR {M : Model} {A : Around} {E : Value -> Shared -> Prop} {s : Shared} {src : Source} {n : Nat} {Q : Nat -> Shared -> Prop} (hn : n ≠ 0) (h : ∀ i d',i < n -> Q i { s with drawn:=d' }) : wpAny M A (choose src n) Q E s:=
 fun _ _ _ => ⟨hn,h _ _ (Nat.mod_lt _ (Nat.pos_of_ne_zero hn))⟩
theorem wa {M : Model} {A : Around} {E : Value -> Shared -> Prop} {α : Type} : ∀ (n : Nat) (xs : List α) (s : Shared) (Q : List α -> Shared -> Prop),xs.length = n -> (∀ ys d',ys.Perm xs -> Q ys { s with drawn:=d' }) -> wpAny M A (drawOrder n xs) Q E s
 | 0,xs,s,Q,hl,h => by
  have e : xs = []:=List.length_eq_zero_iff.mp hl
  subst e
  unfold drawOrder
  exact wpAny_pure (h [] s.drawn (List.Perm.refl _))
 | n + 1,[],s,Q,hl,h => by cases hl
 | n + 1,x :: r,s,Q,hl,h => by
  unfold drawOrder
  refine wpAny_bind (vR (by simp) fun i d' hi => ?_)
  rw [List.getElem?_eq_getElem hi]
  dsimp only
  refine wpAny_bind (wa n _ _ _ (by rw [List.length_eraseIdx_of_lt hi]; omega) fun ys d2 p => wpAny_pure ?_)
  exact h _ _ ((List.Perm.cons _ p).trans (nj _ _ hi))
def IsSetIter (h : Heap) (I S : Addr) (first : Value) (i n ep : Nat) : Prop := ∃ o,h.get? I = some o /\ o.cls = .type "set_iterator" /\ o.data = .fields #[first,.int i 0,.ref S,.int n 0,.int ep 0]
theorem IsSetIter.typeIs {s : Shared} {I S : Addr} {first : Value} {i n ep : Nat} (x : IsSetIter s.heap I S first i n ep) : s.TypeIs (.ref I) "set_iterator" := let ⟨o,ho,hc,_⟩:=x; ⟨o,ho,hc⟩
def ET (w : World) (es : Array (Int × Value)) (ep : Nat) (t : SetTable) (S T : Addr) (L : List Value) (h : Heap) (i : Nat) (first : Value) : Prop:=
 (byT w = true /\ (∃ z : Nat,first = .int z 0) /\ L = (pickOrder (w.params.setOrder S ep) es).toList.map (·.2)) \/
 (byT w = false /\ (t.plain = true \/ es.size <= 1) /\ (∃ z : Nat,first = .int z 0 /\ SetTable.below t.place z = i) /\ L = es.toList.map (·.2)) \/
 (byT w = false /\ first = .ref T /\ ∃ pl : List Nat,pl.Perm (List.range es.size) /\ (∃ o e,h.get? T = some o /\ o.data = .seq (pl.map fun p : Nat => Value.int (p : Int) 0).toArray e) /\ L = pl.map fun p => (es.getD p (0,.none)).2)
structure SetSt (w : World) (es : Array (Int × Value)) (ep : Nat) (t : SetTable) (S T I : Addr) (L : List Value) (i : Nat) (h : Heap) : Prop where
 set : ∃ o,h.get? S = some o /\ o.data = .set es ep t
 it : ∃ first,IsSetIter h I S first i es.size ep /\ ET w es ep t S T L h i first
section
variable {P : Program} {w : World} {A : Around} {E : Value -> Shared -> Prop} {s : Shared} {es : Array (Int × Value)} {ep : Nat} {t : SetTable} {S T I : Addr} {L : List Value} {i : Nat}
theorem next_item (hf : t.fits es.size = true) (hk : TabOk t (!byT w)) (hL : L.length = es.size) (hTI : T ≠ I) (hSI : S ≠ I) (st : SetSt w es ep t S T I L i s.heap) (hi : i < es.size) {Q : Option Value -> Shared -> Prop}
  (h : ∀ h',Heap.SameBut I s.heap h' -> SetSt w es ep t S T I L (i + 1) h' -> Q (some (L.getD i .none)) { s with heap:=h' }) : wpAny (model P w) A (pyNext (.ref I)) Q E s:=by
 obtain ⟨⟨oS,hS,hSd⟩,first,hit,by_⟩:=st
 obtain ⟨o,ho,hc,hd⟩:=id hit
 have hLi : L.getD i .none = L[i]'(by omega):=by simp [List.getD,hL,hi]
 unfold pyNext
 refine wpAny_bind (wpAny_attempt (wpAny_callSpecial?_slot (name:=Str.ofString "__next__") hit.typeIs SF.slot_next (wpAny_call_entry SF.slot_next hit.typeIs SF.entry_next ?_ (SF.args_next _))))
 unfold Builtin.«set_iterator.__next__»
 refine wpAny_bind (m:=slotArgs "__next__" 0 _) (wpAny_pure ?_)
 refine wpAny_bind (wpAny_fieldsOf ho hd ?_)
 dsimp only
 unfold setEntries
 refine wpAny_bind (wpAny_bind (wpAny_setState_of hS hSd hf (wpAny_pure ?_)))
 rw [if_neg (by simp)]
 have upI : ∀ (f : Array Value -> Array Value),(s.heap.update I (Obj.mapFields f)).get? I = some (Obj.mapFields f o):=fun f => Heap.get?_update_self _ ho (Obj.isFreed_of_fields (Obj.data_mapFields hd _))
 have other : ∀ (f : Array Value -> Array Value) b,b ≠ I -> (s.heap.update I (Obj.mapFields f)).get? b = s.heap.get? b:=fun f b hb => Heap.get?_update_other _ _ (Ne.symm hb)
 have put1 : ∀ (h1 : Heap) (fi : Value),IsSetIter h1 I S fi i es.size ep -> IsSetIter (h1.update I (Obj.mapFields (·.setIfInBounds 1 (rawInt ((i : Int) + 1))))) I S fi (i + 1) es.size ep:=by
  rintro h1 fi ⟨o1,ho1,hc1,hd1⟩
  exact ⟨_,Heap.get?_update_self _ ho1 (Obj.isFreed_of_fields (Obj.data_mapFields hd1 _)),(Obj.cls_mapFields ..).trans hc1,by rw [Obj.data_mapFields hd1]; simp [rawInt]⟩
 have put0 : ∀ (h1 : Heap) (fi : Value) (nx : Nat),IsSetIter h1 I S fi i es.size ep -> IsSetIter (h1.update I (Obj.mapFields (·.setIfInBounds 0 (rawInt nx)))) I S (.int nx 0) i es.size ep:=by
  rintro h1 fi nx ⟨o1,ho1,hc1,hd1⟩
  exact ⟨_,Heap.get?_update_self _ ho1 (Obj.isFreed_of_fields (Obj.data_mapFields hd1 _)),(Obj.cls_mapFields ..).trans hc1,by rw [Obj.data_mapFields hd1]; simp [rawInt]⟩
 have keepS : ∀ h1,Heap.SameBut I s.heap h1 -> ∃ o,h1.get? S = some o /\ o.data = .set es ep t:=fun h1 sb => ⟨oS,(sb.2 S hSI).trans hS,hSd⟩
 rcases by_ with ⟨bt,⟨z,rfl⟩,eL⟩ | ⟨bt,pl,⟨z,rfl,hz⟩,eL⟩ | ⟨bt,rfl,pl,pp,⟨oT,eT,hT,hTd⟩,eL⟩
 ·have px:=p9 (w.params.setOrder S ep) es
  have hx : i < (pickOrder (w.params.setOrder S ep) es).size:=by rw [<- Array.length_toList,px.length_eq,Array.length_toList]; exact hi
  refine wpAny_bind ?_
  unfold setNext
  refine wpAny_bind (wpAny_setState_of hS hSd hf ?_)
  unfold setsByText
  refine wpAny_bind (wpAny_bind (wpAny_askSetting (wpAny_pure ?_)))
  rw [if_pos (show (model P w).w.params.followText "set-order" = true from bt),if_neg (by simp)]
  unfold setWalk setsByText
  refine wpAny_bind (wpAny_bind (wpAny_setState_of hS hSd hf ?_))
  refine wpAny_bind (wpAny_bind (wpAny_askSetting (wpAny_pure ?_)))
  rw [if_pos (show (model P w).w.params.followText "set-order" = true from bt)]
  refine wpAny_bind (wpAny_askSetting (wpAny_pure (wpAny_pure ?_)))
  have ex : (pickOrder ((model P w).w.params.setOrder S ep) es)[((i : Nat) : Int).toNat]? = some (pickOrder (w.params.setOrder S ep) es)[i]:=by
   rw [Int.toNat_natCast]
   exact Array.getElem?_eq_getElem hx
  rw [ex]
  dsimp only [Option.map]
  refine wpAny_bind (wpAny_setField ho hd (by simp) ?_)
  obtain ⟨o1,ho1,hc1,hd1⟩:=put0 _ _ z hit
  rw [show ((z : Nat) : Int).toNat = z from Int.toNat_natCast z]
  refine wpAny_bind (wpAny_setField ho1 hd1 (by simp) (wpAny_pure ⟨_,rfl,wpAny_pure ?_⟩))
  have sb : Heap.SameBut I s.heap ((s.heap.update I (Obj.mapFields (·.setIfInBounds 0 (rawInt z)))).update I (Obj.mapFields (·.setIfInBounds 1 (rawInt ((i : Int) + 1))))):=(Heap.SameBut.update ..).trans (Heap.SameBut.update ..)
  have q:=h _ sb ⟨keepS _ sb,_,put1 _ _ (put0 _ _ z hit),.inl ⟨bt,⟨z,rfl⟩,eL⟩⟩
  rw [hLi] at q
  have eLi : L[i]'(by omega) = (pickOrder (w.params.setOrder S ep) es)[i].2:=by simp [eL]
  rw [eLi] at q
  exact q
 ·have hpz : t.place.size = es.size:=by
   simp only [SetTable.fits,Bool.and_eq_true,beq_iff_eq,decide_eq_true_eq] at hf
   exact hf.1
  have hip : i < t.place.size:=by omega
  refine wpAny_bind ?_
  unfold setNext
  refine wpAny_bind (wpAny_setState_of hS hSd hf ?_)
  unfold setsByText
  refine wpAny_bind (wpAny_bind (wpAny_askSetting (wpAny_pure ?_)))
  rw [if_neg (show ¬ ((model P w).w.params.followText "set-order" = true) from by rw [show (model P w).w.params.followText "set-order" = false from bt]; exact Bool.false_ne_true)]
  show wpAny _ _ (if (!t.plain && decide (es.size > 1)) = true then _ else _) _ _ _
  rw [if_neg (by
   rcases pl with q | q
   ·rw [q]; simp
   ·simp; omega)]
  show wpAny _ _ ((if (!t.led && !es.isEmpty) = true then _ else pure ()) >>= _) _ _ _
  rw [if_neg (by rw [hk.led,bt]; simp)]
  refine wpAny_bind (wpAny_pure (wpAny_pure ?_))
  rw [Int.toNat_natCast,hz,Array.getElem?_eq_getElem hi,Array.getElem?_eq_getElem hip]
  dsimp only
  refine wpAny_bind (wpAny_setField ho hd (by simp) ?_)
  obtain ⟨o1,ho1,hc1,hd1⟩:=put0 _ _ (t.place[i] + 1) hit
  refine wpAny_bind (wpAny_setField ho1 hd1 (by simp) (wpAny_pure ⟨_,rfl,wpAny_pure ?_⟩))
  have sb : Heap.SameBut I s.heap ((s.heap.update I (Obj.mapFields (·.setIfInBounds 0 (rawInt (t.place[i] + 1 : Nat))))).update I (Obj.mapFields (·.setIfInBounds 1 (rawInt ((i : Int) + 1))))):=(Heap.SameBut.update ..).trans (Heap.SameBut.update ..)
  have q:=h _ sb ⟨keepS _ sb,_,put1 _ _ (put0 _ _ (t.place[i] + 1) hit),.inr (.inl ⟨bt,pl,⟨_,rfl,zL hk.rise hip⟩,eL⟩)⟩
  rw [hLi] at q
  have eLi : L[i]'(by omega) = es[i].2:=by simp [eL]
  rw [eLi] at q
  exact q
 ·have lpl : pl.length = es.size:=by rw [pp.length_eq,List.length_range]
  have hpl : pl[i]'(by omega) < es.size:=List.mem_range.mp (pp.mem_iff.mp (List.getElem_mem _))
  show wpAny _ _ (seqItems? (.ref T) >>= _) _ _ _
  unfold seqItems?
  refine wpAny_bind (wpAny_bind (wpAny_load hT ?_))
  rw [hTd]
  refine wpAny_pure ?_
  dsimp only
  have ep1 : (pl.map fun p : Nat => Value.int (p : Int) 0).toArray[((i : Nat) : Int).toNat]? = some (Value.int ((pl[i]'(by omega) : Nat) : Int) 0):=by
   rw [Int.toNat_natCast]
   simp [lpl,hi]
  rw [ep1]
  dsimp only
  unfold setNextDrawn
  refine wpAny_bind (wpAny_bind (wpAny_setState_of hS hSd hf ?_))
  dsimp only
  rw [if_neg (by simp),Int.toNat_natCast,Array.getElem?_eq_getElem hpl]
  dsimp only
  refine wpAny_pure (wpAny_bind (wpAny_setField ho hd (by simp) (wpAny_pure ⟨_,rfl,wpAny_pure ?_⟩)))
  have sb : Heap.SameBut I s.heap (s.heap.update I (Obj.mapFields (·.setIfInBounds 1 (rawInt ((i : Int) + 1))))):=Heap.SameBut.update ..
  have q:=h _ sb ⟨keepS _ sb,_,put1 _ _ hit,.inr (.inr ⟨bt,rfl,pl,pp,⟨oT,eT,(sb.2 T hTI).trans hT,hTd⟩,eL⟩)⟩
  rw [hLi] at q
  have eLi : L[i]'(by omega) = es[pl[i]'(by omega)].2:=by simp [eL,Array.getD,hpl]
  rw [eLi] at q
  exact q
theorem next_end (hh : A.handled = none) (hf : t.fits es.size = true) (hk : TabOk t (!byT w)) (hSI : S ≠ I) (st : SetSt w es ep t S T I L es.size s.heap) {Q : Option Value -> Shared -> Prop}
  (h : ∀ h',Heap.ExtBut I s.heap h' -> Q none { s with heap:=h' }) : wpAny (model P w) A (pyNext (.ref I)) Q E s:=by
 obtain ⟨⟨oS,hS,hSd⟩,first,hit,by_⟩:=st
 obtain ⟨o,ho,hc,hd⟩:=id hit
 unfold pyNext
 refine wpAny_bind (wpAny_attempt (wpAny_callSpecial?_slot (name:=Str.ofString "__next__") hit.typeIs SF.slot_next (wpAny_call_entry SF.slot_next hit.typeIs SF.entry_next ?_ (SF.args_next _))))
 unfold Builtin.«set_iterator.__next__»
 refine wpAny_bind (m:=slotArgs "__next__" 0 _) (wpAny_pure ?_)
 refine wpAny_bind (wpAny_fieldsOf ho hd ?_)
 dsimp only
 unfold setEntries
 refine wpAny_bind (wpAny_bind (wpAny_setState_of hS hSd hf (wpAny_pure ?_)))
 rw [if_neg (by simp)]
 have stop : ∀ h1,Heap.ExtBut I s.heap h1 -> wpAny (model P w) A.in1 (do let e <- newExc (.type "StopIteration") []; raiseNew e : Sem Fin) (fun fin s' => ∃ v,fin = Fin.done (Flow.ret v) /\ wpAny (model P w) A (pure (some v)) Q E s')
   (fun e s' => wpAny (model P w) A (do if <- isInstance e (.type "StopIteration") then pure none else throw e) Q E s') { s with heap:=h1 }:=by
  intro h1 e1
  refine wpAny_bind ?_
  simp only [newExc,newTuple]
  refine wpAny_bind (wpAny_newObj_type ?_ (by size_fits))
  refine wpAny_bind (m:=firstArgMember _ _) (wpAny_of_eq (a:=Value.none) (by first | rfl | (simp only [firstArgMember]; rfl)) ?_)
  refine wpAny_newObj_type ?_ (by size_fits)
  simp only [raiseNew]
  refine wpAny_bind (wpAny_handled ?_)
  rw [show A.in1.handled = none from hh]
  refine wpAny_bind (wpAny_pure (wpAny_throw ?_))
  refine wpAny_bind (wpAny_isInstance (T := "StopIteration") (b:=true) ⟨_,Heap.get?_push_size _ rfl,rfl⟩ isSubtype_stop ?_)
  exact wpAny_pure (h _ ((e1.push _).push _))
 rcases by_ with ⟨bt,⟨z,rfl⟩,eL⟩ | ⟨bt,pl,⟨z,rfl,hz⟩,eL⟩ | ⟨bt,rfl,pl,pp,⟨oT,eT,hT,hTd⟩,eL⟩
 ·have px:=p9 (w.params.setOrder S ep) es
  have hx : (pickOrder (w.params.setOrder S ep) es).size = es.size:=by rw [<- Array.length_toList,px.length_eq,Array.length_toList]
  refine wpAny_bind ?_
  unfold setNext
  refine wpAny_bind (wpAny_setState_of hS hSd hf ?_)
  unfold setsByText
  refine wpAny_bind (wpAny_bind (wpAny_askSetting (wpAny_pure ?_)))
  rw [if_pos (show (model P w).w.params.followText "set-order" = true from bt),if_neg (by simp)]
  unfold setWalk setsByText
  refine wpAny_bind (wpAny_bind (wpAny_setState_of hS hSd hf ?_))
  refine wpAny_bind (wpAny_bind (wpAny_askSetting (wpAny_pure ?_)))
  rw [if_pos (show (model P w).w.params.followText "set-order" = true from bt)]
  refine wpAny_bind (wpAny_askSetting (wpAny_pure (wpAny_pure ?_)))
  have ex : (pickOrder ((model P w).w.params.setOrder S ep) es)[((es.size : Nat) : Int).toNat]? = none:=by
   rw [Int.toNat_natCast]
   exact Array.getElem?_eq_none (Nat.le_of_eq hx)
  rw [ex]
  dsimp only [Option.map]
  refine wpAny_bind (wpAny_setField ho hd (by simp) ?_)
  exact stop _ (Heap.SameBut.update ..).extBut
 ·have hpz : t.place.size = es.size:=by
   simp only [SetTable.fits,Bool.and_eq_true,beq_iff_eq,decide_eq_true_eq] at hf
   exact hf.1
  refine wpAny_bind ?_
  unfold setNext
  refine wpAny_bind (wpAny_setState_of hS hSd hf ?_)
  unfold setsByText
  refine wpAny_bind (wpAny_bind (wpAny_askSetting (wpAny_pure ?_)))
  rw [if_neg (show ¬ ((model P w).w.params.followText "set-order" = true) from by rw [show (model P w).w.params.followText "set-order" = false from bt]; exact Bool.false_ne_true)]
  show wpAny _ _ (if (!t.plain && decide (es.size > 1)) = true then _ else _) _ _ _
  rw [if_neg (by
   rcases pl with q | q
   ·rw [q]; simp
   ·simp; omega)]
  show wpAny _ _ ((if (!t.led && !es.isEmpty) = true then _ else pure ()) >>= _) _ _ _
  rw [if_neg (by rw [hk.led,bt]; simp)]
  refine wpAny_bind (wpAny_pure (wpAny_pure ?_))
  rw [Int.toNat_natCast,hz,Array.getElem?_eq_none (Nat.le_refl _)]
  dsimp only
  refine wpAny_bind (wpAny_setField ho hd (by simp) ?_)
  exact stop _ (Heap.SameBut.update ..).extBut
 ·have lpl : pl.length = es.size:=by rw [pp.length_eq,List.length_range]
  show wpAny _ _ (seqItems? (.ref T) >>= _) _ _ _
  unfold seqItems?
  refine wpAny_bind (wpAny_bind (wpAny_load hT ?_))
  rw [hTd]
  refine wpAny_pure ?_
  dsimp only
  have ep1 : (pl.map fun p : Nat => Value.int (p : Int) 0).toArray[((es.size : Nat) : Int).toNat]? = none:=by
   rw [Int.toNat_natCast]
   simp [lpl]
  rw [ep1]
  dsimp only
  refine wpAny_bind (wpAny_setField ho hd (by simp) ?_)
  have hd0:=Obj.data_mapFields hd (·.setIfInBounds 0 (rawInt 0))
  refine wpAny_bind (wpAny_setField (Heap.get?_update_self _ ho (Obj.isFreed_of_fields hd0)) hd0 (by simp) ?_)
  exact stop _ ((Heap.SameBut.update ..).trans (Heap.SameBut.update ..)).extBut
end
end L2
set_option Elab.async false
set_option linter.all false
set_option maxRecDepth 100000
namespace L2
open PySem PySem.Spec PyProof.Rows
namespace SF
theorem entry_iter_self : entryFor table "set_iterator.__iter__" = some Builtin.«dict_keyiterator.__iter__» := entryFor_alias (id' := "dict_keyiterator.__iter__") (by kernel_rfl) rfl (by decide +kernel) (by kernel_rfl)
theorem args_iter_self (a : Value) : argsOk "set_iterator.__iter__" ⟨[a],[]⟩:=by unfold argsOk; kernel_rfl
end SF
section
variable {P : Program} {w : World} {A : Around} {E : Value -> Shared -> Prop} {s : Shared} {es : Array (Int × Value)} {ep : Nat} {t : SetTable} {S T I : Addr} {L : List Value}
theorem Gr (hh : A.handled = none) (hf : t.fits es.size = true) (hk : TabOk t (!byT w)) (hL : L.length = es.size) (hTI : T ≠ I) (hSI : S ≠ I) :
  WalksS P w A I [I,S,T] [I] (fun a b => b = a) es.size (fun i v => v = L.getD i .none) (fun i s => SetSt w es ep t S T I L i s.heap) where
 sub:=fun b hb => by simp at hb; simp [hb]
 grefl:=fun _ => rfl
 gtrans:=fun _ _ _ h1 h2 => h2.trans h1
 frame:=fun i s h' tk st _ k => by
  obtain ⟨⟨oS,hS,hSd⟩,first,⟨o,ho,r⟩,by_⟩:=st
  refine ⟨⟨oS,k S (by simp) _ hS,hSd⟩,first,⟨o,k I (by simp) _ ho,r⟩,?_⟩
  rcases by_ with z | z | ⟨b,e,pl,pp,⟨oT,eT,hT,hTd⟩,eL⟩
  ·exact .inl z
  ·exact .inr (.inl z)
  ·exact .inr (.inr ⟨b,e,pl,pp,⟨oT,eT,k T (by simp) _ hT,hTd⟩,eL⟩)
 item:=fun i s Q E hi st hQ => next_item hf hk hL hTI hSI st hi fun h' sb st' => hQ _ _ rfl st' ⟨fun b o hb e => (sb.2 b fun z => hb (by simp [z])).trans e,rfl,rfl,rfl,Nat.le_refl _⟩
 done:=fun s Q E st hQ => next_end hh hf hk hSI st fun h' eb => hQ _ ⟨fun b o hb e => eb b o (fun z => hb (by simp [z])) e,rfl,rfl,rfl,Nat.le_refl _⟩
 self:=fun i s Q E st hQ => by
  obtain ⟨_,first,hit,_⟩:=st
  refine wpAny_pyIter_slot hit.typeIs SF.slot_iter_self (wpAny_call_entry SF.slot_iter_self hit.typeIs SF.entry_iter_self ?_ (SF.args_iter_self _))
  show wpAny _ _ (ret (.ref I)) _ _ s
  exact wpAny_pure ⟨_,rfl,"set_iterator",_,hit.typeIs,SF.slot_next.lookup,hQ⟩
theorem FV {o : Obj} {Q : Value -> Shared -> Prop} (ho : s.heap.get? S = some o) (hex : o.ExactSet) (hd : o.data = .set es ep t) (hb : es.size < scanBound) (hf : t.fits es.size = true) (hk : TabOk t (!byT w))
  (h : ∀ (h' : Heap) (d' : Drawn) (I T : Addr) (L : List Value),L.Perm (es.toList.map (·.2)) -> SetSt w es ep t S T I L 0 h' -> (∀ b u,s.heap.get? b = some u -> h'.get? b = some u) -> s.heap.objs.size <= I -> I < h'.objs.size -> T ≠ I -> (T = S \/ s.heap.objs.size <= T) -> Q (.ref I) { s with heap:=h',drawn:=d' }) :
  wpAny (model P w) A (pyIter (.ref S)) Q E s:=by
 have hT : s.TypeIs (.ref S) "set" := ⟨o,ho,hex.1⟩
 have hSl : S < s.heap.objs.size:=Heap.lt_size ho
 refine wpAny_pyIter_slot hT F.slot_set_iter (wpAny_call_entry F.slot_set_iter hT SF.entry_iter ?_ (F.args_set_iter_1 _))
 unfold Builtin.«frozenset.__iter__» Builtin.Frozenset.slot0 Builtin.Frozenset.sizeOf setEntries
 refine wpAny_bind (wpAny_bind (m:=slotArgs "__iter__" 0 _) (wpAny_pure (wpAny_pure ?_)))
 refine wpAny_bind (wpAny_bind (wpAny_bind (wpAny_setState_of ho hd hf (wpAny_pure (wpAny_pure ?_)))))
 refine wpAny_bind ?_
 unfold setDrawn setsByText
 refine wpAny_bind (wpAny_setState_of ho hd hf ?_)
 refine wpAny_bind (wpAny_bind (wpAny_askSetting (wpAny_pure (wpAny_pure ?_))))
 show wpAny _ _ (if (!byT w && (!t.plain && decide (es.size > 1))) = true then _ else _) _ _ _
 by_cases c : (!byT w && (!t.plain && decide (es.size > 1))) = true
 ·rw [if_pos c]
  have bt : byT w = false:=by
   cases b : byT w with
   | false => rfl
   | true => rw [b] at c; simp at c
  refine wpAny_bind (wa _ _ _ _ (by simp) fun pl d' pp => wpAny_bind ?_)
  have lpl0 : pl.length = es.size:=by rw [pp.length_eq,List.length_range]
  refine wpAny_newTuple (hsz:=by rw [List.length_map,lpl0]; exact fits_of_scanBound hb) ?_
  have lpl : pl.length = es.size:=by rw [pp.length_eq,List.length_range]
  have ho1 : (s.heap.push (seqObj "tuple" (pl.map fun i : Nat => rawInt i).toArray 0)).get? S = some o:=Heap.get?_push_of_some _ ho
  unfold setEpoch
  refine wpAny_bind (wpAny_bind (wpAny_setState_of (s:={ s with heap:=s.heap.push (seqObj "tuple" (pl.map fun i : Nat => rawInt i).toArray 0),drawn:=d' }) ho1 hd hf (wpAny_pure ?_)))
  unfold newFields
  refine wpAny_bind (wpAny_newObj_type (wpAny_pure ⟨_,rfl,"set_iterator",_,⟨_,Heap.get?_push_size _ rfl,rfl⟩,SF.slot_next.lookup,?_⟩) (by size_fits))
  refine h _ d' _ s.heap.objs.size (pl.map fun p => (es.getD p (0,.none)).2) ?_ ⟨⟨o,Heap.get?_push_of_some _ ho1,hd⟩,_,⟨_,Heap.get?_push_size _ rfl,rfl,rfl⟩,.inr (.inr ⟨bt,rfl,pl,pp,⟨_,0,Heap.get?_push_of_some _ (Heap.get?_push_size _ rfl),rfl⟩,rfl⟩)⟩
   (fun b u q => Heap.get?_push_of_some _ (Heap.get?_push_of_some _ q)) ?_ ?_ ?_ ?_
  ·refine (pp.map _).trans ?_
   rw [show (List.range es.size).map (fun p => (es.getD p (0,.none)).2) = es.toList.map (·.2) from by
    refine List.ext_getElem (by simp) fun i h1 h2 => ?_
    have hi : i < es.size:=by simpa using h1
    simp [Array.getD,hi]]
  ·rw [Heap.size_push]; exact Nat.le_succ _
  ·exact Heap.lt_size (Heap.get?_push_size _ rfl)
  ·rw [Heap.size_push]; exact Nat.ne_of_lt (Nat.lt_succ_self _)
  ·exact .inr (Nat.le_refl _)
 ·rw [if_neg c]
  refine wpAny_bind (wpAny_pure ?_)
  unfold setEpoch
  refine wpAny_bind (wpAny_bind (wpAny_setState_of ho hd hf (wpAny_pure ?_)))
  unfold newFields
  refine wpAny_bind (wpAny_newObj_type (wpAny_pure ⟨_,rfl,"set_iterator",_,⟨_,Heap.get?_push_size _ rfl,rfl⟩,SF.slot_next.lookup,?_⟩) (by size_fits))
  cases bt : byT w with
  | true =>
   refine h _ s.drawn _ S ((pickOrder (w.params.setOrder S ep) es).toList.map (·.2)) ((p9 _ es).map _) ⟨⟨o,Heap.get?_push_of_some _ ho,hd⟩,_,⟨_,Heap.get?_push_size _ rfl,rfl,rfl⟩,.inl ⟨bt,⟨0,rfl⟩,rfl⟩⟩
    (fun b u q => Heap.get?_push_of_some _ q) (Nat.le_refl _) ?_ (Nat.ne_of_lt hSl) ?_
   ·rw [Heap.size_push]; exact Nat.lt_succ_self _
   ·exact .inl rfl
  | false =>
   rw [bt] at c
   have pl : t.plain = true \/ es.size <= 1:=by
    cases q : t.plain with
    | true => exact .inl rfl
    | false =>
     rw [q] at c
     simp at c
     exact .inr c
   refine h _ s.drawn _ S (es.toList.map (·.2)) (List.Perm.refl _) ⟨⟨o,Heap.get?_push_of_some _ ho,hd⟩,_,⟨_,Heap.get?_push_size _ rfl,rfl,rfl⟩,.inr (.inl ⟨bt,pl,⟨0,rfl,zM hk.rise⟩,rfl⟩)⟩
    (fun b u q => Heap.get?_push_of_some _ q) (Nat.le_refl _) ?_ (Nat.ne_of_lt hSl) ?_
   ·rw [Heap.size_push]; exact Nat.lt_succ_self _
   ·exact .inl rfl
end
end L2
set_option Elab.async false
set_option linter.all false
set_option maxRecDepth 100000
namespace L2
open PySem PySem.Spec PyProof.Rows
section
variable {P : Program} {w : World} {A : Around} {E : Value -> Shared -> Prop} {s : Shared} {S : Addr} {ns : List Int}
end
end L2
set_option Elab.async false
set_option linter.all false
set_option maxRecDepth 100000
namespace L2
open PySem PySem.Spec PyProof.Rows
section
variable {X : Cx}
end
end L2
set_option Elab.async false
set_option linter.all false
set_option maxRecDepth 100000
namespace PySem
open PyProof.Rows
section
variable {prog : Program} {w : World} {K : Type} [DecidableEq K] {knd : KeyKind prog w K} {A : Around} {E : Value -> Shared -> Prop} {s : Shared} {R : Result -> Shared -> Prop}
end
end PySem
namespace L2
open PySem PySem.Spec PyProof.Rows
section
variable {X : Cx}
end
section
variable {X : Cx} {pins : List (Addr × Obj)} {σ : St} {H : Hp} {s : Shared} {a : Addr} {z : V} {u r : Value} {A : Around} {E : Value -> Shared -> Prop} {kvs : List (Key × V)} {k : Key}
end
section
variable {X : Cx} {o e f : Expr} {apos cpos : Pos} {td ty tx : TE}
end
end L2
set_option Elab.async false
set_option linter.all false
set_option maxRecDepth 100000
namespace L2
open PySem PySem.Spec PyProof.Rows
section
variable {X : Cx} {pins : List (Addr × Obj)} {σ : St} {H : Hp} {s : Shared} {a : Addr} {o : Obj} {kvs : List (Key × V)}
end
section
variable {X : Cx} {tg : Expr}
end
section
variable {X : Cx}
end
end L2
set_option Elab.async false
set_option linter.all false
set_option maxRecDepth 100000
namespace L2
open PySem PySem.Spec PyProof.Rows
section
variable {P : Program} {w : World} {A : Around} {E : Value -> Shared -> Prop} {s : Shared}
end
end L2
set_option Elab.async false
set_option linter.all false
set_option maxRecDepth 100000
namespace L2
open PySem PySem.Spec PyProof.Rows
section
variable {X : Cx}
end
end L2
set_option Elab.async false
set_option linter.all false
set_option maxRecDepth 100000
namespace PySem
open PyProof.Rows
section
variable {prog : Program} {w : World} {A : Around} {E : Value -> Shared -> Prop} {s : Shared}
end
end PySem
namespace L2
open PySem PySem.Spec PyProof.Rows
section
variable {X : Cx} {a : Expr} {ta : TA} {p p2 pos pos2 : Pos}
end
end L2
namespace L2
open PySem PySem.Spec PyProof.Rows
section
variable {X : Cx} {N : List Str} {scope : Scope} {ix : List (Option Nat)} {elt iter cond tg : Expr} {pos spos : Pos} {te : TE} {g : TG} {wi : TI} {tc : TT}
theorem zr {i : Nat} {y : Str} {py : Pos} (hc : X.calm = true) (hN : X.N.Nodup) (hyi : X.N[i]? = some y) (hy : Loc X.env.scope y) (S : BlkScope X.N X.env.scope N ix scope) (hi : PI X tg iter wi) (hg : ∀ fp s H C,PG (bO X N scope fp s H C) tg g) (ht : ∀ fp s H C,PT (bO X N scope fp s H C) cond tc) (he : ∀ fp s H C,PE (bO X N scope fp s H C) elt te)
  (hsw : swapsWith (.ListComp elt [⟨tg,iter,[cond],0⟩] scope pos) (some (.Name y py)) spos.line X.env = pure true:=by rfl)
  (hf : X.fn y = true \/ X.env.scope.names.lookup y = some .local:=by first | exact .inl rfl | exact .inr rfl | assumption)
  (hs : ∀ x,foldedSetIterable iter X.env x = pure x:=by intro _; rfl) : PS X (.Assign [.Name y py] (.ListComp elt [⟨tg,iter,[cond],0⟩] scope pos) spos) (uj (Fy ix wi g tc te) (aE i)):=by
 intro pins s σ H D I h
 rw [exec_Assign_Name_used _ _ _ _ hsw]
 refine wpAny_bind (wpAny_standAt (wpAny_bind ?_))
 show wpAny _ X.A (do let _ <- comprehension (.ListComp elt [⟨tg,iter,[cond],0⟩] scope pos) scope X.env _ (newList []) false (eval iter X.env) (some (assign (.Name y py) X.env))) _ _ s
 refine wpAny_bind (wpAny_mono (wpAny_comprehension_free (use:=some (assign (.Name y py) X.env)) (Q:=fun _ s' => SP X pins D .next s') rfl hs (mI (S.clos I.ok)) S.kind S.locs
  (thn (hi pins s σ H _ I h) fun v s1 h1 => thn h1 fun itv s2 h2 => ?_)) (fun _ s' hq => wpAny_pure (wpAny_pure hq)) fun _ _ e => e)
 obtain ⟨it,fp,tn,J,H2,e,I2,T,st2,f2,hW⟩:=h2
 subst e
 refine Br (RR:=fun acc C => compPost (model X.prog X.w) X.A X.xe (some (assign (.Name y py) X.env)) (fun _ s' => SP X pins D .next s') acc C) I2 hc S T st2 f2 (hg _ _ _) (ht _ _ _) (he _ _ _) hW ?_
 intro Dl C s' H' m I' hn fC q
 show wpAny _ X.A (assign (.Name y py) X.env (.ref Dl)) _ _ s'
 refine wpAny_assign_Name (wy I' hN hyi hy (v:=.ref Dl) rfl (fun s2 I2' hsb => ?_) hf)
 obtain ⟨a,sb,ha⟩:=hsb
 refine ⟨m,hn.sameBut sb ?_,fun h3 sb3 => ⟨_,H',I2'.turned (t' := s2.toks) (fun b o hb e => (sb3.2 b hb).trans e) fC.1 fC.2.1 fC.2.2.2.1 fC.2.2.2.2.1 fC.2.2.2.2.2,q⟩⟩
 rcases ha with z | z
 ·rw [z]; exact fC.2.1
 ·exact Ne.symm (fC.2.2.2.2.1 _ _ z)
end
end L2
set_option Elab.async false
set_option linter.all false
set_option maxRecDepth 100000
namespace L2
open PySem PySem.Spec PyProof.Rows
section
variable {X : Cx} {tg : Expr}
end
section
variable {X : Cx} {a b c : Expr} {ta : TA} {p p2 pos pos2 : Pos}
end
end L2
set_option Elab.async false
set_option linter.all false
set_option maxRecDepth 100000
set_option maxHeartbeats 4000000
namespace L2
open PySem PySem.Spec PyProof.Rows
end L2
set_option Elab.async false
set_option linter.all false
set_option maxRecDepth 100000
set_option maxHeartbeats 4000000
namespace L2
open PySem PySem.Spec PyProof.Rows
section
variable {X : Cx}
end
end L2
set_option Elab.async false
set_option linter.all false
set_option maxRecDepth 100000
set_option maxHeartbeats 4000000
namespace L2
open PySem PySem.Spec PyProof.Rows
end L2
set_option Elab.async false
set_option linter.all false
set_option maxRecDepth 100000
set_option maxHeartbeats 4000000
namespace PySem
open PyProof.Rows
section
variable {prog : Program} {w : World} {K : Type} [DecidableEq K] {knd : KeyKind prog w K} {A : Around} {E : Value -> Shared -> Prop} {s : Shared} {R : Result -> Shared -> Prop}
end
end PySem
namespace L2
open PySem PySem.Spec PyProof.Rows
section
variable {X : Cx}
end
end L2
set_option Elab.async false
set_option linter.all false
set_option maxRecDepth 100000
set_option maxHeartbeats 4000000
namespace PySem
section
variable {prog : Program} {w : World} {A : Around} {E : Value -> Shared -> Prop} {s : Shared}
end
end PySem
namespace L2
open PySem PySem.Spec PyProof.Rows
section
variable {X : Cx}
end
end L2
set_option Elab.async false
set_option linter.all false
set_option maxRecDepth 100000
set_option maxHeartbeats 4000000
namespace L2
open PySem PySem.Spec PyProof.Rows
end L2
set_option Elab.async false
set_option linter.all false
set_option maxRecDepth 100000
set_option maxHeartbeats 4000000
namespace L2
open PySem PySem.Spec PyProof.Rows
section
variable {X : Cx} {pins : List (Addr × Obj)} {σ : St} {H : Hp} {s : Shared}
end
end L2
set_option Elab.async false
set_option linter.all false
set_option maxRecDepth 100000
set_option maxHeartbeats 4000000
namespace L2
open PySem PySem.Spec PyProof.Rows
section
variable {X : Cx} {pins : List (Addr × Obj)} {σ : St} {H : Hp} {s : Shared}
open Classical in
noncomputable def isR (H : Hp) (ns : List Int) (u : Value) : Bool:=decide (∃ b,u = Value.ref b /\ H b = some (.tup (ns.map V.int)))
end
end L2
set_option Elab.async false
set_option linter.all false
set_option maxRecDepth 100000
set_option maxHeartbeats 4000000
namespace L2
open PySem PySem.Spec PyProof.Rows
section
variable {X : Cx}
end
end L2
set_option Elab.async false
set_option linter.all false
set_option maxRecDepth 100000
set_option maxHeartbeats 4000000
namespace L2
open PySem PySem.Spec PyProof.Rows
section
variable {X : Cx} {pins : List (Addr × Obj)} {σ : St} {H : Hp} {s : Shared} {a : Addr} {o : Obj} {kvs : List (List Key × V)}
end
section
variable {X : Cx} {tg : Expr}
end
end L2
set_option Elab.async false
set_option linter.all false
set_option maxRecDepth 100000
set_option maxHeartbeats 4000000
namespace L2
open PySem PySem.Spec PyProof.Rows
end L2
set_option Elab.async false
set_option linter.all false
set_option maxRecDepth 100000
namespace PySem
end PySem
namespace L2
open PySem PySem.Spec PyProof.Rows
end L2
set_option Elab.async false
set_option linter.all false
set_option maxRecDepth 100000
set_option maxHeartbeats 4000000
namespace L2
open PySem PySem.Spec PyProof.Rows
section
variable {X : Cx}
end
end L2
set_option Elab.async false
set_option linter.all false
set_option maxRecDepth 100000
set_option maxHeartbeats 4000000
namespace PySem
section
variable {prog : Program} {w : World} {A : Around} {E : Value -> Shared -> Prop} {s : Shared}
end
end PySem
namespace L2
open PySem PySem.Spec PyProof.Rows
end L2
set_option Elab.async false
set_option linter.all false
set_option maxRecDepth 100000
set_option maxHeartbeats 4000000
namespace L2
open PySem PySem.Spec PyProof.Rows
abbrev NK:=Int × List Int
section
variable {X : Cx} {pins : List (Addr × Obj)} {σ : St} {H : Hp} {s : Shared} {d : Addr} {ks : List (NK × Addr)}
end
section
variable {X : Cx} {pos pos' : Pos} {o i value : Expr} {td ty tv : TE}
end
end L2
set_option Elab.async false
set_option linter.all false
set_option maxRecDepth 100000
namespace L2
open PySem PySem.Spec PyProof.Rows
structure Aloft (base : Heap) (l : List Env) (e : Addr) (cls a0 : Value) (fl : Value) (h : Heap) : Prop where
 stays : base.StaysIn h
 new : base.get? e = none
 fun_ : h.FunFrames base l
 tr : h.TracedAtW base e cls a0 fl
section
variable {P : Program} {w : World} {K : PySem.W.Frag} {mg : Str -> Option Value} {base : Heap} {N : List Str} {qual : Str} {scope : Scope} {f : Addr} {cd : Value} {A : Around} {outer : List Env} {s : Shared} {H : Hp} {E : XK}
end
section
variable {X : Cx} {pins : List (Addr × Obj)} {σ : St} {H : Hp} {s : Shared} {N : List Str} {ix : List (Option Nat)} {scope : Scope} {fp : List Addr} {tg elt iter : Expr} {pos spos : Pos} {J : It} {it : Addr} {tn : Nat -> Heap -> Prop} {g : TG} {te : TXE} {wi : TI} {Ex : XK}
end
end L2
set_option Elab.async false
set_option linter.all false
set_option maxRecDepth 100000
namespace L2
open PySem PySem.Spec PySem.W PySem.Builtin PySem.Builtin.ObjectAttr PyProof.Rows
def mroIs (K : PySem.W.Frag) (C : Addr) (as : List Addr) : Bool:=(clsIn K C).any fun cd => cd.mro == as.map Value.ref ++ VEm
section
variable {prog : Program} {w : World} {A : Around} {E : Value -> Shared -> Prop} {s : Shared} {K : PySem.W.Frag} {x C : Addr} {vs : Array Value} {name : Str} {v : Value} {as : List Addr}
end
end L2
set_option Elab.async false
set_option linter.all false
set_option maxRecDepth 100000
namespace L2
open PySem PySem.Spec PySem.W PySem.Builtin PySem.Builtin.ObjectAttr PyProof.Rows
def E1 (K : PySem.W.Frag) (C : Addr) (f : Addr) : Bool:=match K.lookup C with
 | some ⟨.type "type",_,.cls cd,sl⟩ => (match cd.mro,sl.toList with
  | .ref C' :: tl,[_,_,_,_,some (.builtin n),_] => C' == C && n == "ValueError.__new__" && !cd.hasDel && tailIn K VEm tl && nsOkIn K cd.ns && nsIn K cd.ns "__init__" == some (some (.ref f))
  | _,_ => false)
 | _ => false
section
variable {prog : Program} {w : World} {A : Around} {E : Value -> Shared -> Prop} {h : Heap} {g : Array GenState} {d : Drawn} {t : Nat} {os : OsState}
variable {nm q : Str} {C N : Addr} {bs bm : List Value} {hdct : Bool} {sn : List Str} {sub : List Value} {ab : Bool} {col : Option Bool} {dd : Option Addr} {k0 k1 k2 k3 k5 : Option Value}
end
section
variable {prog : Program} {w : World} {A : Around} {E : Value -> Shared -> Prop} {s : Shared} {K : PySem.W.Frag} {x C f : Addr} {vs : Array Value}
end
end L2
set_option Elab.async false
set_option linter.all false
set_option maxRecDepth 100000
namespace L2
open PySem PySem.Spec PyProof.Rows
structure XInit (K : PySem.W.Frag) (C f : Addr) : Prop where
 ex : E1 K C f = true
 fn : PySem.W.isFn K (.ref f) = true
 kp : PySem.W.keepIn K (.ref C) = true
 sa : PySem.W.findIn K (.ref C) "__setattr__" = some (some (.builtin "object.__setattr__"))
 hd : PySem.W.hasDictIn K C = true
 mr : ∃ as,mroIs K C as = true
 xc : XCls K C
section
variable {X : Cx} {k : Nat} {f C B : Addr} {fd : FuncData} {ps : List Str} {sp : Sp} {dvs : List V} {ds : List Value} {x y fl : Str} {p pos apos : Pos} {e o value : Expr} {es : List Expr} {t : TA} {ta tv : TE}
end
structure DefI (P : Program) (w : World) (K : PySem.W.Frag) (mg : Str -> Option Value) (base : Heap) (x : Str) (C f : Addr) (k : Nat) (ps : List Str) (sp : Sp) : Prop where
 m : mg x = some (.ref C)
 M : XInit K C f
 F : ∃ fd,Binds K fd ps [] /\ FnOk P w K mg base CX0 k f fd ps sp
end L2
set_option Elab.async false
set_option linter.all false
set_option maxRecDepth 100000
set_option maxHeartbeats 4000000
namespace L2
open PySem PySem.Spec PyProof.Rows
def Gs (h : Heap) (mg : Str -> Option Value) : Prop := ∃ bm o,mg "__builtins__" = some (.ref bm) /\ bm ≠ builtinsNs /\ bm ≠ mainGlobals /\ h.get? bm = some o /\ o.cls = .type "module" /\ o.dict = some builtinsNs /\ o.data = .plain
end L2
set_option Elab.async false
set_option linter.all false
set_option maxRecDepth 100000
set_option maxHeartbeats 4000000
namespace L2
open PySem PySem.Spec PyProof.Rows
def EN (c : Addr) (qual : Str) (h : Heap) : Prop := ∃ o vs t,h.get? c = some o /\ o.data = .fields vs /\ vs[1]? = some (.str qual t)
def FI (f : Addr) (qual : Str) (params : Arguments) (body : Expr) (scope : Scope) (clos : List (Str × Addr)) (c' : Addr) (h : Heap) : Prop := ∃ pm ctv,h.get? f = some (PySem.W.kla_obj "<lambda>" qual params body scope clos pm c' ctv)
structure LamK (K : PySem.W.Frag) (mg : Str -> Option Value) (base : Heap) (c Pt : Addr) : Prop where
 hd : PySem.W.codeHdIn K c Pt = true
 bm : Gs base mg
section
variable {X : Cx} {params : Arguments} {body : Expr} {scope : Scope} {pos : Pos} {clos : List (Str × Addr)} {c Pt : Addr}
end
end L2
set_option Elab.async false
set_option linter.all false
set_option maxRecDepth 100000
set_option maxHeartbeats 4000000
namespace L2
open PySem PySem.Spec PyProof.Rows
def B7 (c : Addr) (o : Obj) (h : Heap) : Prop:=h.get? c = some o
def Gv (H : Hp) (c : Addr) (v : V) : Prop := ∃ o u,H c = some (.ext (B7 c o)) /\ o.data = .cell (some u) /\ RelV v u
structure LamHas (H : Hp) (f c' : Addr) (qual : Str) (params : Arguments) (body : Expr) (scope : Scope) (clos : List (Str × Addr)) (cvs : List V) : Prop where
 fn : H f = some (.ext (FI f qual params body scope clos c'))
 cd : H c' = some (.ext (EN c' qual))
 cl : Paired (fun (p : Str × Addr) v => Gv H p.2 v) clos cvs
 nd : (clos.map (·.2)).Nodup
section
variable {P : Program} {w : World} {H H' : Hp} {h h' : Heap} {cs : List Addr} {fs : List Addr}
end
structure LamScope (ps fr : List Str) (sc : Scope) : Prop where
 kind : sc.kind = .function
 co : sc.isCoroutine = false
 gen : sc.isGenerator = false
 nd : (ps ++ fr).Nodup
 par : ∀ x ∈ ps,sc.names.lookup x = some .local
 fre : ∀ x ∈ fr,sc.names.lookup x = some .free
 nocell : ∀ y ∈ sc.names,y.2 ≠ .cell
 all : ∀ y ∈ sc.names,y.2 = .free -> y.1 ∈ fr
section
variable {P : Program} {w : World} {K : PySem.W.Frag} {mg : Str -> Option Value} {base : Heap} {k : Nat} {f c' : Addr} {qual : Str} {params : Arguments} {body : Expr} {scope : Scope} {clos : List (Str × Addr)} {cvs : List V} {ps : List Str} {A : Around} {outer : List Env} {s : Shared} {H : Hp} {us : List Value} {vs : List V} {Q : VK} {t : TE}
end
end L2
set_option Elab.async false
set_option linter.all false
set_option maxRecDepth 100000
set_option maxHeartbeats 4000000
namespace L2
open PySem PySem.Spec PyProof.Rows
section
variable {X : Cx} {x : Str} {p pos : Pos} {e : Expr} {es : List Expr} {t : TA} {tf : TE} {R : V -> List V -> Hp -> VK -> Prop}
end
section
variable {X : Cx} {x y : Str} {i j k : Nat} {c : Addr} {ps : List Str} {dvs : List V} {sp : Sp} {p pos : Pos} {e : Expr} {es : List Expr} {t : TA} {CX : CXT} {f : Addr} {fd : FuncData} {ds : List Value}
end
end L2
set_option Elab.async false
set_option linter.all false
set_option maxRecDepth 100000
set_option maxHeartbeats 4000000
namespace L2
open PySem PySem.Spec PyProof.Rows
open Classical in
noncomputable def G1 (cells : List (Str × Addr)) (h : Heap) (H : Hp) : Hp:=fun b => if ∃ y,cells.lookup y = some b then (h.get? b).map fun o => .ext (B7 b o) else H b
structure Mk0 (K : PySem.W.Frag) (C : Addr) : Prop where
 makes : PySem.W.makesIn K C = true
 init : PySem.W.findIn K (.ref C) "__init__" = some (some (.builtin "object.__init__"))
 kp : PySem.W.keepIn K (.ref C) = true
end L2
set_option Elab.async false
set_option linter.all false
set_option maxRecDepth 100000
set_option maxHeartbeats 4000000
namespace L2
open PySem PySem.Spec PyProof.Rows
structure LamScope1 (x : Str) (fr : List Str) (sc : Scope) : Prop where
 kind : sc.kind = .function
 co : sc.isCoroutine = false
 gen : sc.isGenerator = false
 nd : (x :: fr).Nodup
 cell : sc.names.lookup x = some .cell
 only : ∀ y ∈ sc.names,y.2 = .cell -> y.1 = x
 lay : ∀ n cl,cellsFrom n sc.names cl = (x,n) :: cl
 lays : ∀ h,pushCells h sc.names = h.push { cls:=.type "cell",data:=.cell none }
 fre : ∀ y ∈ fr,sc.names.lookup y = some .free
 all : ∀ y ∈ sc.names,y.2 = .free -> y.1 ∈ fr
section
variable {P : Program} {w : World} {K : PySem.W.Frag} {mg : Str -> Option Value} {base : Heap} {k : Nat} {f c' : Addr} {qual : Str} {params : Arguments} {body : Expr} {scope : Scope} {clos : List (Str × Addr)} {cvs : List V} {x : Str} {A : Around} {outer : List Env} {s : Shared} {H : Hp} {u : Value} {v : V} {Q : VK} {t : TE}
end
end L2
set_option Elab.async false
set_option linter.all false
set_option maxRecDepth 100000
set_option maxHeartbeats 4000000
namespace L2
open PySem PySem.Spec PyProof.Rows
section
variable {X : Cx}
def F7 (K : PySem.W.Frag) : List V -> Hp -> VK -> Prop:=fun xs H Q => ∃ (a : Addr) (ns : List Int),xs = [.ref a] /\ SqL K H a (ns.map V.int) /\ ns ≠ [] /\ ∀ M,M ∈ ns -> (∀ z ∈ ns,z <= M) -> Q (.int M) H
theorem Bl (hc : X.calm = true) : fk X (.builtin "max") (F7 X.K):=by
 intro pins s σ H xs us Q I r h
 obtain ⟨a,ns,rfl,hS,h0,h1⟩:=h
 obtain ⟨u,rfl,ru⟩:=r.one
 cases (show u = Value.ref a from ru)
 obtain ⟨its,rv,ht,hz⟩:=I.list hS
 have hlen:=rv.length
 rw [List.length_map] at hlen
 have hn' : 0 < ns.length:=List.length_pos_iff.mpr h0
 have hlt : a < s.heap.objs.size:=by obtain ⟨_,e,_⟩:=ht.isList; exact Heap.lt_size e
 refine call_max_walk (wpAny_pyIter_list ht.isList ?_)
 have W:=Walks.list (prog:=X.prog) (w:=X.w) (A:=X.A.in1) (I.ok.hd hc) s.heap.objs.size a (Nat.ne_of_lt hlt) its.toArray
 have hval : ∀ (i : Nat) (v : Value),its.toArray[i]? = some v -> ∃ t,v = .int (ns.getD i 0) t:=fun i v e => by
  have e' : its[i]? = some v:=by simpa using e
  have hi : i < ns.length:=by rw [hlen]; exact (List.getElem?_eq_some_iff.mp e').1
  obtain ⟨u,hu,ru⟩:=rv.get (i:=i) (x:=.int ns[i]) (by simp [hi])
  rw [e'] at hu
  cases hu
  obtain ⟨t,rfl⟩:=ru
  exact ⟨t,by simp [hi]⟩
 refine ⟨_,_,_,_,_,_,_,rfl,W,⟨⟨_,Heap.get?_push_size _ rfl,rfl,rfl⟩,ht.isList.push _⟩,fun b hb => ?_,by simp; omega,CmpOf.ints_gt (fun i => ns.getD i 0) hval,fun v h' tk hP hk => ?_⟩
 ·show b < (s.heap.push _).objs.size
  rw [Heap.size_push]
  rcases List.mem_cons.mp hb with rfl | hb
  ·exact Nat.lt_succ_self _
  ·rw [List.mem_singleton.mp hb]; exact Nat.lt_succ_of_lt hlt
 ·have I1 : Inv X pins σ H { s with heap:=h',toks:=tk }:=I.kept (t' := tk) fun b o e => hk b o (fun hm => by
   rw [List.mem_singleton.mp hm] at e
   exact Nat.lt_irrefl _ (Heap.lt_size e)) (Heap.get?_push_of_some _ e)
  obtain ⟨t,rfl⟩:=hval _ v hP
  have hb:=argBest_gt (fun i => ns.getD i 0) (its.toArray.size - 1)
  have hj : argBest (fun i j => decide (ns.getD i 0 > ns.getD j 0)) (its.toArray.size - 1) < ns.length:=by
   have:=hb.1
   rw [List.size_toArray] at this ⊢
   omega
  refine ⟨.int _,H,I1,⟨t,rfl⟩,h1 _ ?_ fun z hzm => ?_⟩
  ·rw [List.getD_eq_getElem?_getD,List.getElem?_eq_getElem hj,Option.getD_some]; exact List.getElem_mem hj
  ·obtain ⟨i,hi,rfl⟩:=List.getElem_of_mem hzm
   have:=hb.2 i (by rw [List.size_toArray]; omega)
   simpa [List.getD_eq_getElem?_getD,List.getElem?_eq_getElem hi] using this
end
end L2
set_option Elab.async false
set_option linter.all false
set_option maxRecDepth 100000
set_option maxHeartbeats 4000000
namespace L2
open PySem PySem.Spec PyProof.Rows
theorem um : ∀ {ns : List Str} {us : List Value},Vals (ns.map V.str) us -> StrsAre us ns
 | [],_,h => by cases h; exact .nil
 | n :: ns,_,h => by
  cases h with
  | cons r t =>
   obtain ⟨tk,rfl⟩:=r
   exact .cons n tk (um t)
theorem zF : ∀ {ns : List Str} {us : List Value},StrsAre us ns -> Vals (ns.map V.str) us
 | _,_,.nil => .nil
 | _,_,.cons n t r => .cons ⟨t,rfl⟩ (zF r)
section
variable {X : Cx}
theorem A1 : OpR X (binaryOp .Mult) (fun x y H Q => ∃ z n,x = .str z /\ y = .int n /\ MulOk z n /\ Q (.str (Txt.mul z n)) H):=by
 intro pins s σ H x y v u Q I rx ry h
 obtain ⟨z,n,rfl,rfl,ok,q⟩:=h
 obtain ⟨t,rfl⟩:=rx
 obtain ⟨t',rfl⟩:=ry
 exact SB.mul ok fun t' k => ⟨.str _,H,I.tok _,⟨_,rfl⟩,q⟩
def rJoin : V -> List V -> Hp -> VK -> Prop:=fun x vs H Q => ∃ (z : Str) (l : Addr) (ys : List Str),x = .str z /\ vs = [.ref l] /\ H l = some (.lst (ys.map V.str)) /\ (ys.map (·.length)).sum + ys.length * z.length <= 16777216 /\ Q (.str (Txt.join z ys)) H
theorem AW : MtM X "str.join" rJoin:=by
 intro pins s σ H x vs v us Q I rx rv h
 obtain ⟨z,l,ys,rfl,rfl,hH,ok,q⟩:=h
 obtain ⟨t,rfl⟩:=rx
 obtain ⟨u,rfl,ru⟩:=rv.one
 cases ru
 obtain ⟨zz,its,n,r,hl,e⟩:=I.lstM hH
 exact join_list ⟨_,e,rfl,n,rfl⟩ (by simpa using um r) ok fun t' k => ⟨.str _,H,I.tok _,⟨_,rfl⟩,q⟩
end
section
variable {X : Cx} {e v1 v2 : Expr} {es rest : List Expr} {pos : Pos} {n : Nat}
abbrev TFV:=St -> Hp -> Str -> (Str -> Hp -> Prop) -> Prop
def DJ (X : Cx) (n : Nat) (es : List Expr) (t : TFV) : Prop := ∀ (pins : List (Addr × Obj)) (s : Shared) (σ : St) (H : Hp) (Q : Str -> Hp -> Prop) (out : Str),out.length <= n -> Inv X pins σ H s -> t σ H out Q ->
 wpAny (model X.prog X.w) X.A (joinParts out (evalEach es X.env)) (fun u s' => ∃ x tk H',u = .str x tk /\ Inv X pins σ H' s' /\ Q x H') X.xe s
def Gm : TFV:=fun _ H out Q => Q out H
def FD (t1 : TF) (t2 : TFV) : TFV:=fun σ H out Q => t1 σ H fun x H1 => t2 σ H1 (out ++ x) Q
theorem lN (hn : n <= sizeLine:=by decide) : DJ X n [] Gm:=fun pins s σ H Q out ho I h => joinParts_nil ⟨out,_,H,rfl,I.tok _,h⟩ (Nat.le_trans ho hn)
theorem bq {t1 : TF} {t2 : TFV} (h1 : PF X e t1) (h2 : DJ X (n + 1000) es t2) (hn : n + 1000 <= sizeLine:=by decide) : DJ X n (e :: es) (FD t1 t2):=by
 intro pins s σ H Q out ho I h
 refine joinParts_cons (thn (h1 pins s σ H _ I h) fun u s1 ⟨x,tk,H1,hu,I1,hx,q⟩ => ?_)
 subst hu
 have hl : (out ++ x).length <= n + 1000:=by rw [strLen_append]; omega
 exact ⟨Nat.le_trans hl hn,h2 pins s1 σ H1 Q (out ++ x) hl I1 q⟩
def FA (t : TFV) : TE:=fun σ H Q => t σ H Str.empty fun x H1 => Q (.str x) H1
theorem jc {t : TFV} (h : DJ X 0 (v1 :: v2 :: rest) t) : PE X (.JoinedStr (v1 :: v2 :: rest) pos) (FA t):=by
 intro pins s σ H Q I q
 exact JoinedStr_many (thn (h pins s σ H _ Str.empty (by decide) I q) fun u s1 ⟨x,tk,H1,hu,I1,q1⟩ => ⟨.str x,H1,I1,⟨tk,hu⟩,q1⟩)
end
theorem g6 (x : Str) : Str.empty ++ x = x:=by
 show Str.mk (#[] ++ x.cps) = x
 rw [Array.empty_append]
end L2
set_option Elab.async false
set_option linter.all false
set_option maxRecDepth 100000
set_option maxHeartbeats 4000000
namespace L2
open PySem PySem.Spec PyProof.Rows
def bN (val : Nat -> Str) (i : Nat) : List Str:=((List.range i).map val).foldl step_dedup []
theorem kX (val : Nat -> Str) (i : Nat) : bN val (i + 1) = step_dedup (bN val i) (val i):=by
 unfold bN; rw [List.range_succ,List.map_append,List.foldl_append]; rfl
theorem zT (s : List Str) (v : Str) : (step_dedup s v).length <= s.length + 1:=by
 unfold step_dedup
 split
 ·omega
 ·rw [List.length_append]; exact Nat.le_refl _
theorem fR (val : Nat -> Str) : ∀ i,(bN val i).length <= i
 | 0 => Nat.le_refl _
 | i + 1 => by
  rw [kX]
  have:=fR val i
  have:=zT (bN val i) (val i)
  omega
theorem StrsAre.str_at : ∀ {vs : List Value} {ns : List Str},StrsAre vs ns -> ∀ (i : Nat) (v : Value),vs[i]? = some v -> ∃ t,v = .str (ns.getD i Str.empty) t
 | _,_,.nil,i,v,h => by simp at h
 | _,_,.cons y t r,0,v,h => ⟨t,(Option.some.inj h).symm⟩
 | _,_,.cons y t r,i + 1,v,h => by
  obtain ⟨t',e⟩:=StrsAre.str_at r i v (by simpa using h)
  exact ⟨t',by simpa using e⟩
theorem StrsAre.lengthS : ∀ {vs : List Value} {ns : List Str},StrsAre vs ns -> vs.length = ns.length
 | _,_,.nil => rfl
 | _,_,.cons _ _ r => by simp [StrsAre.lengthS r]
def leS (a b : Str) : Prop := ¬ b.cps.toList < a.cps.toList
theorem leS.trans {a b c : Str} (h : leS a b) (h' : leS b c) : leS a c:=List.not_lt.mpr (List.le_trans (List.not_lt.mp h) (List.not_lt.mp h'))
theorem wq : ∀ (l : List Str) (p : Str),risingS p l = true -> (p :: l).Pairwise leS
 | [],p,_ => List.pairwise_singleton ..
 | x :: r,p,h => by
  have h' : (!ltCps x.cps.toList p.cps.toList && risingS x r) = true:=h
  obtain ⟨h1,h2⟩:=Bool.and_eq_true_iff.mp h'
  have px : leS p x:=by
   intro z
   rw [ltCps_eq,decide_eq_true z] at h1
   cases h1
  have ih:=wq r x h2
  refine List.pairwise_cons.mpr ⟨fun y hy => ?_,ih⟩
  rcases List.mem_cons.mp hy with z | z
  ·rw [z]; exact px
  ·exact px.trans ((List.pairwise_cons.mp ih).1 y z)
theorem BZ : ∀ (l : List Str),sortedS l = true -> l.Pairwise leS
 | [],_ => List.Pairwise.nil
 | x :: r,h => wq r x h
theorem qS {prog : Program} {w : World} {A : Around} {E : Value -> Shared -> Prop} {s : Shared} {a : Addr} {vs : List Value} {ss : List Str} {n : Nat} {P : Fin -> Shared -> Prop} (ho : s.heap.get? a = some (seqObj "list" vs.toArray n)) (hS : StrsAre vs ss) (h64 : vs.length < 64)
  (h : ∀ (out : Array Value) (ss' : List Str),StrsAre out.toList ss' -> ss'.Perm ss -> ss'.Pairwise leS -> P (.done (.ret .none)) { s with heap:=sortedHeap s.heap a vs out }) : wpAny (model prog w) A (Builtin.«list.sort» ⟨[.ref a],[]⟩) P E s:=
 list_sort_treeK strKind_oneLt ho hS.keysOf (fun v₁ v₂ rest e => keyKind_strs (by rw [<- e]; exact hS)) h64 fun st' hp hs => by
  obtain ⟨ss',h1,h2,h3⟩:=sorted_out_str hS hp hs
  exact h _ ss' h1 h2 (BZ _ h3)
def SetWS (P : Program) (w : World) (h : Heap) (a : Addr) (ns : List Str) : Prop:=
 ∃ o es ep t,h.get? a = some o /\ o.ExactSet /\ o.data = .set es ep t /\ ElemsOf (PySem.strKind P w) es.toList /\ (∀ e ∈ es.toList,∃ n u,e.2 = .str n u) /\ (es.toList.map fun e => strOf e.2).Perm ns /\ es.size < scanBound /\ t.fits es.size = true /\ TabOk t (!byT w)
theorem SetWS.keep {P : Program} {w : World} {h h' : Heap} {a : Addr} {ns : List Str} (x : SetWS P w h a ns) (k : ∀ o,h.get? a = some o -> h'.get? a = some o) : SetWS P w h' a ns:=by
 obtain ⟨o,es,ep,t,ho,r⟩:=x
 exact ⟨o,es,ep,t,k o ho,r⟩
section
variable {P : Program} {w : World} {A : Around} {E : Value -> Shared -> Prop} {s : Shared}
theorem AM {k n : Str} {u : Tok} : (PySem.strKind P w).is k (.str n u) = decide (k = n):=KeyKind.is_eq_decide (strKind_is P w n u) k
theorem A9 {h : Heap} {a : Addr} {o : Obj} {es es' : Array (Int × Value)} {ep : Nat} {t t' : SetTable} {ns : List Str} (ho : h.get? a = some o) (hex : o.ExactSet) (hd : o.data = .set es ep t) (hel : ElemsOf (PySem.strKind P w) es'.toList)
  (hi : ∀ e ∈ es'.toList,∃ n u,e.2 = .str n u) (hp : (es'.toList.map fun e => strOf e.2).Perm ns) (hb : es'.size < scanBound) (hf : t'.fits es'.size = true) (hk : TabOk t' (!byT w)) :
  (h.update a (Obj.putSet es' t')).get? a = some { o with data:=.set es' (ep + 1) t' } /\ SetWS P w (h.update a (Obj.putSet es' t')) a ns:=by
 have hg : (h.update a (Obj.putSet es' t')).get? a = some { o with data:=.set es' (ep + 1) t' }:=by
  have q:=Heap.get?_update_self (Obj.putSet es' t') ho (by rw [putSet_of es' t' hd]; rfl)
  rw [putSet_of es' t' hd] at q
  exact q
 exact ⟨hg,_,es',ep + 1,t',hg,hex,rfl,hel,hi,hp,hb,hf,hk⟩
theorem yC {g : Bool -> Sem Unit} (hg : ∀ (b : Bool) (s₁ : Shared) (Q' : Unit -> Shared -> Prop),Q' () s₁ -> wpAny (model P w) A (g b) Q' E s₁) {a : Addr} {o : Obj} {es es1 : Array (Int × Value)} {ep : Nat} {t t2 : SetTable} {ns : List Str} {R : Option Bool -> Shared -> Prop} {wd : Bool}
  (ho : s.heap.get? a = some o) (hex : o.ExactSet) (hd : o.data = .set es ep t) (hel : ElemsOf (PySem.strKind P w) es1.toList) (hi : ∀ e ∈ es1.toList,∃ n u,e.2 = .str n u) (hp : (es1.toList.map fun e => strOf e.2).Perm ns) (hb : es1.size < scanBound)
  (hf : t2.fits es1.size = true) (hk : TabOk t2 (!byT w)) (h : ∀ h',Heap.SameBut a s.heap h' -> SetWS P w h' a ns -> R (some true) { s with heap:=h' }) :
  wpAny (model P w) A (do
    storeSet a es1 t2
    if (!wd && t2.tooFull) = true then do
      g (relayAll t2 es1 (SetTable.grown es1.size)).2.2
      storeSet a (relayAll t2 es1 (SetTable.grown es1.size)).1 (relayAll t2 es1 (SetTable.grown es1.size)).2.1
      pure (some true)
     else pure (some true)) R E s:=by
 refine wpAny_bind (wpAny_storeSet_of ho hd ?_ (fits_of_scanBound hb))
 obtain ⟨ho1,hS1⟩:=A9 (P:=P) (w:=w) ho hex hd hel hi hp hb hf hk
 have sb1:=Heap.SameBut.update s.heap a (Obj.putSet es1 t2)
 split
 ·have rp:=relayAll_perm t2 es1 (SetTable.grown es1.size)
  have rf:=relayAll_fits t2 es1 (SetTable.grown es1.size)
  have rt:=ya hk es1 (SetTable.grown es1.size)
  generalize relayAll t2 es1 (SetTable.grown es1.size) = Rl at rp rf rt ⊢
  obtain ⟨es2,t3,gave⟩:=Rl
  dsimp only at rp rf rt ⊢
  have sz : es2.size = es1.size:=by rw [<- Array.length_toList,rp.length_eq,Array.length_toList]
  have hb2 : es2.size < scanBound:=by rw [sz]; exact hb
  refine wpAny_bind (hg _ _ _ ?_)
  refine wpAny_bind (wpAny_storeSet_of ho1 rfl ?_ (fits_of_scanBound hb2))
  obtain ⟨_,hS2⟩:=A9 (P:=P) (w:=w) (ns:=ns) ho1 hex rfl (hel.perm rp) (fun e he => hi e (rp.mem_iff.mp he)) ((rp.map _).trans hp) hb2 rf rt
  exact wpAny_pure (h _ (sb1.trans (Heap.SameBut.update _ a _)) hS2)
 ·exact wpAny_pure (h _ sb1 hS1)
theorem zv {a : Addr} {ns : List Str} {k : Str} {u : Tok} {Q : Bool -> Shared -> Prop} (hS : SetWS P w s.heap a ns) (hroom : ns.length + 1 < scanBound)
  (h : ∀ h' b,Heap.SameBut a s.heap h' -> SetWS P w h' a (step_dedup ns k) -> Q b { s with heap:=h' }) : wpAny (model P w) A (setAddHashed a (.str k u) ((PySem.strKind P w).hash k)) Q E s:=by
 obtain ⟨o,es,ep,t,ho,hex,hd,hel,hi,hp,hb,hf,hk⟩:=hS
 have hsz : es.size = ns.length:=by rw [<- hp.length_eq,List.length_map,Array.length_toList]
 have mem : ∀ z : Str,z ∈ ns ↔ ∃ e ∈ es.toList,(PySem.strKind P w).is z e.2 = true:=fun z => by
  rw [<- hp.mem_iff,List.mem_map]
  constructor
  ·rintro ⟨e,he,rfl⟩
   obtain ⟨n,v,e2⟩:=hi e he
   exact ⟨e,he,by rw [e2,AM]; simp [strOf]⟩
  ·rintro ⟨e,he,q⟩
   obtain ⟨n,v,e2⟩:=hi e he
   rw [e2,AM] at q
   exact ⟨e,he,by rw [e2]; exact (of_decide_eq_true q).symm⟩
 unfold setAddHashed setAddHashedIn
 refine wpAny_holding (wpAny_bind (wpAny_setState_of ho hd hf ?_))
 dsimp only
 rw [byScan_of (x:=.str k u) rfl hb hel]
 simp only [↓reduceIte]
 unfold setAddByScan
 refine wpAny_bind (wpAny_bind (wpAny_rule ?_))
 refine wpAny_bind (wpAny_setScan_of (strKind_is P w k u) ho hd hf hel ?_)
 cases hr : List.findIdx? (fun e => (PySem.strKind P w).is k e.2) es.toList with
 | some j =>
  dsimp only
  obtain ⟨hj,pj,_⟩:=List.findIdx?_eq_some_iff_getElem.mp hr
  have kin : k ∈ ns:=(mem k).mpr ⟨es.toList[j],List.getElem_mem hj,pj⟩
  refine wpAny_pure (wpAny_pure ?_)
  have q:=h s.heap false (Heap.SameBut.refl a s.heap) ⟨o,es,ep,t,ho,hex,hd,hel,hi,by
   unfold step_dedup
   rw [if_pos (by simpa using kin)]
   exact hp,hb,hf,hk⟩
  cases s
  exact q
 | none =>
  dsimp only
  have nin : k ∉ ns:=fun z => by
   obtain ⟨e,he,q⟩:=(mem k).mp z
   have:=List.findIdx?_eq_none_iff.mp hr e he
   rw [q] at this
   cases this
  have gw : ∀ (b : Bool) (s₁ : Shared) (Q' : Unit -> Shared -> Prop),Q' () s₁ -> wpAny (model P w) A (match b with | true => rule "set.scan.the-table-gave-way" | false => pure ()) Q' E s₁:=fun b s₁ Q' q => by
   cases b
   ·exact wpAny_pure q
   ·exact wpAny_rule q
  have lp:=layNew_perm t es ((PySem.strKind P w).hash k) (.str k u)
  have lf:=layNew_fits t es ((PySem.strKind P w).hash k) (.str k u)
  have lt:=z7 hk es ((PySem.strKind P w).hash k) (.str k u)
  generalize layNew t es ((PySem.strKind P w).hash k) (.str k u) = L at lp lf lt ⊢
  obtain ⟨es1,t1,wd,gave⟩:=L
  dsimp only at lp lf lt ⊢
  rw [Array.toList_push] at lp
  have hel1 : ElemsOf (PySem.strKind P w) es1.toList:=(hel.push (strKind_is P w k u) rfl).perm lp
  have hi1 : ∀ e ∈ es1.toList,∃ n v,e.2 = .str n v:=fun e he => by
   rcases List.mem_append.mp (lp.mem_iff.mp he) with z | z
   ·exact hi e z
   ·rw [List.mem_singleton.mp z]; exact ⟨k,u,rfl⟩
  have hp1 : (es1.toList.map fun e => strOf e.2).Perm (step_dedup ns k):=by
   unfold step_dedup
   rw [if_neg (by simpa using nin)]
   refine (lp.map _).trans ?_
   rw [List.map_append]
   exact hp.append (List.Perm.refl _)
  have hb1 : es1.size < scanBound:=by rw [<- Array.length_toList,lp.length_eq,List.length_append,Array.length_toList,hsz]; exact hroom
  refine wpAny_bind (gw _ _ _ ?_)
  split
  ·refine wpAny_bind ?_
   rw [hashByValue_scannable 8 (x:=.str k u) rfl]
   refine wpAny_pure ?_
   exact yC (fun b s₁ Q' q => gw b s₁ Q' q) ho hex hd hel1 hi1 hp1 hb1 (by split <;> first | exact lf | exact SetTable.fits_plain_off lf) (by split <;> first | exact lt | exact ⟨lt.1,lt.2,lt.3⟩) fun h' sb S => wpAny_pure (h h' true sb S)
  ·refine wpAny_bind (wpAny_pure ?_)
   simp only [↓reduceIte]
   exact yC (fun b s₁ Q' q => gw b s₁ Q' q) ho hex hd hel1 hi1 hp1 hb1 lf lt fun h' sb S => wpAny_pure (h h' true sb S)
end
section
variable {P : Program} {w : World} {A : Around} {E : Value -> Shared -> Prop} {R : Result -> Shared -> Prop} {I : Addr} {fp wr : List Addr} {G : Array GenState -> Array GenState -> Prop} {n : Nat} {Pz : Nat -> Value -> Prop} {St : Nat -> Shared -> Prop}
theorem vQ (W : WalksS P w A.in1 I fp wr G n Pz St) (S : Addr) (hSf : S ∉ fp) (val : Nat -> Str) (hval : ∀ i v,Pz i v -> ∃ t,v = .str (val i) t) (hb : n + 1 < scanBound) :
  ∀ (k i : Nat) (s : Shared),n - i = k -> i <= n -> St i s -> SetWS P w s.heap S (bN val i) -> (∀ s',Moved (S :: wr) G s s' -> SetWS P w s'.heap S (bN val n) -> R (.ok (.ret .none)) s') ->
   codeAny (model P w) A (.builtin "set.update.loop" ⟨[.ref S,.ref I],[]⟩) R s:=by
 have nw : S ∉ wr:=fun z => hSf (W.sub _ z)
 have up : ∀ b ∈ wr,b ∈ S :: wr:=fun b z => List.mem_cons_of_mem _ z
 intro k
 induction k with
 | zero =>
  intro i s hk hi hst hS hR
  obtain rfl : i = n:=by omega
  refine codeAny_builtin F.entry_set_update_loop ?_
  rw [Around.under_plainId F.plain_set_update_loop _]
  refine wpAny_bind (m:=pyNext (.ref I)) (W.done s _ _ hst fun s' hm => ?_)
  exact wpAny_pure (hR s' (hm.mono up) (hS.keep fun o q => hm.heap S o nw q))
 | succ k ih =>
  intro i s hk hi hst hS hR
  have hlt : i < n:=by omega
  refine codeAny_builtin F.entry_set_update_loop ?_
  rw [Around.under_plainId F.plain_set_update_loop _]
  refine wpAny_bind (m:=pyNext (.ref I)) (W.item i s _ _ hlt hst fun v s' hP hst' hm => ?_)
  obtain ⟨t,rfl⟩:=hval i v hP
  have hS' : SetWS P w s'.heap S (bN val i):=hS.keep fun o q => hm.heap S o nw q
  refine wpAny_bind (m:=holding [Value.str (val i) t] (setAdd S (.str (val i) t))) (wpAny_holding ?_)
  unfold setAdd
  refine wpAny_holding (wpAny_bind ((PySem.strKind P w).pyHash (k:=val i) (strKind_is _ _ _ _) ?_))
  have room : (bN val i).length + 1 < scanBound:=by
   have:=fR val i
   omega
  refine zv (s:={ s' with toks:=s'.toks + 1 }) hS' room fun h' b sb S2 => ?_
  rw [<- kX] at S2
  refine wpAny_pure ⟨plainId_quiet F.plain_set_update_loop _,ih (i + 1) _ (by omega) hlt (W.frame _ s' _ _ hst' (Nat.le_succ _) fun b hb o e => ?_) S2 fun s2 m2 S3 => ?_⟩
  ·rw [sb.2 b (fun z : b = S => hSf (z ▸ hb))]; exact e
  ·refine hR s2 (Moved.trans W.gtrans ((hm.mono up).then_heap (Nat.le_succ _) fun b o hb e => ?_) m2) S3
   rw [sb.2 b (fun z : b = S => hb (by rw [z]; exact List.mem_cons_self))]; exact e
end
section
variable {P : Program} {w : World} {A : Around} {E : Value -> Shared -> Prop} {s : Shared}
theorem FW (h : Heap) (hg : h.get? a = some (cN w)) : SetWS P w h a []:=
 ⟨_,#[],0,_,hg,⟨rfl,rfl,rfl⟩,rfl,(fun e he => by cases he),(fun e he => by cases he),List.Perm.refl _,by decide,rfl,⟨List.Pairwise.nil,rfl,rfl⟩⟩
set_option maxHeartbeats 3200000 in
theorem zO {l : Addr} {items : Array Value} {ns : List Str} {Q : Value -> Shared -> Prop} (hh : A.handled = none) (hl : s.heap.IsList l items) (hi : StrsAre items.toList ns) (hb : items.size + 1 < scanBound)
  (h : ∀ (h' : Heap) (tk : Nat),SetWS P w h' s.heap.objs.size (bN (fun i => ns.getD i Str.empty) items.size) -> (∀ b o,b < s.heap.objs.size -> s.heap.get? b = some o -> h'.get? b = some o) -> Q (.ref s.heap.objs.size) { s with heap:=h',toks:=tk }) :
  wpAny (model P w) A (call (.type "set") [.ref l]) Q E s:=by
 obtain ⟨c,tl,hmro⟩:=F.called_set.mro
 have hmade:=F.called_set.made
 have hsub:=F.called_set.sub
 refine wpAny_call (codeAny_of_tree ?_)
 show wpAny _ _ (callAny (.type "set") _) _ _ _
 refine wpAny_pure ⟨Code.quiet_builtin _ (by decide +kernel),codeAny_builtin F.entry_type_call ?_⟩
 rw [Around.under_plain (weight_type_call_type "set" [.ref l] []) rfl]
 have h1:=F.called_set.notType
 have h2:=F.called_set.canCreate
 have hct:=F.typeCall_set_1 (.ref l)
 repeat (any_goals (first | assumption | wp_step))
 refine codeAny_mono (Bp (.ref l) (E:=E) (Q₁:=fun obj s₁ => obj = .ref s.heap.objs.size /\ s₁ = { s with heap:=s.heap.push (cN w) }) ⟨rfl,rfl⟩) fun r s₁ hr => ?_
 cases r with
 | error e => exact hr
 | ok fl =>
  cases fl with
  | ret obj =>
   obtain ⟨rfl,rfl⟩:=hr
   have hS : (s.heap.push (cN w)).get? s.heap.objs.size = some (cN w):=Heap.get?_push_size _ rfl
   have hT : Shared.TypeIs { s with heap:=s.heap.push (cN w) } (.ref s.heap.objs.size) "set" := ⟨_,hS,rfl⟩
   have hli:=F.called_set.init.lookup
   have hbi:=F.called_set.init.bind (.ref s.heap.objs.size)
   repeat (any_goals (first | assumption | wp_step))
   refine codeAny_mono (codeAny_call_builtin (R:=wants (fun r s₂ => r = .none /\ ∃ h' tk,s₂ = { s with heap:=h',toks:=tk } /\ SetWS P w h' s.heap.objs.size (bN (fun i => ns.getD i Str.empty) items.size) /\
     (∀ b o,b < s.heap.objs.size -> s.heap.get? b = some o -> h'.get? b = some o)) E) F.called_set.init.plain F.entry_set_init (check_set_init_1 hT ?_)) fun r₂ s₂ hr₂ => ?_
   ·obtain ⟨ol,hol,hcl,nl,hdl⟩:=hl
    obtain ⟨ocls,odict,odata,oslots⟩:=ol
    simp only at hcl hdl
    subst hcl; subst hdl
    have hol' : (s.heap.push (cN w)).get? l = some { cls:=.type "list",dict:=odict,data:=.seq items nl,slots:=oslots }:=Heap.get?_push_of_some _ hol
    have hsls:=F.sub_list_set
    have hslf:=F.sub_list_frozenset
    have hl1 : (s.heap.push (cN w)).IsList l items:=⟨_,hol',rfl,nl,rfl⟩
    have hne : (Value.type "list" == Value.type "dict") = false:=by decide
    have hS0 : (s.heap.push (cN w)).get? s.heap.objs.size = some { cls:=.type "set",dict:=none,data:=.set #[] 0 (.fresh 0 0 (!byT w)) }:=hS
    unfold Builtin.«set.__init__» noKeywords Builtin.Frozenset.updateFrom
    generalize hPI : pyIter = PI
    wp_walk
    subst hPI
    refine wpAny_pyIter_list hl1 (wpAny_bind (wpAny_runValue ?_))
    have hlS : l < s.heap.objs.size:=Heap.lt_size hol
    have hh3 : A.in1.in1.in1.handled = none:=by simp [hh]
    have neI : l ≠ (s.heap.push (cN w)).objs.size:=by rw [Heap.size_push]; exact Nat.ne_of_lt (Nat.lt_succ_of_lt hlS)
    have nS : s.heap.objs.size ∉ [(s.heap.push (cN w)).objs.size,l]:=by
     rw [Heap.size_push]
     simp only [List.mem_cons,List.mem_singleton,List.not_mem_nil,or_false,not_or]
     exact ⟨Nat.ne_of_lt (Nat.lt_succ_self _),Nat.ne_of_gt hlS⟩
    refine vQ ((Walks.list hh3 _ l neI items).toS) s.heap.objs.size nS (fun i => ns.getD i Str.empty) (fun i v hv => StrsAre.str_at hi i v (by rw [Array.getElem?_toList]; exact hv)) hb (items.size - 0) 0 _ (by omega) (Nat.zero_le _)
     ⟨⟨_,Heap.get?_push_size _ rfl,rfl,rfl⟩,(hl1.push _)⟩ ?_ ?_
    ·exact FW (w:=w) _ (Heap.get?_push_of_some _ hS)
    ·rintro ⟨h',g',d',tk',os'⟩ hm hS'
     have eg : g' = s.gens:=hm.gens
     have ed : d' = s.drawn:=hm.drawn
     have eo : os' = s.os:=hm.os
     subst eg ed eo
     refine wpAny_pure ?_
     show wpAny _ _ (ret Value.none) _ _ _
     refine wpAny_pure ⟨rfl,h',tk',rfl,hS',fun b o hb e => ?_⟩
     refine hm.heap b o ?_ (Heap.get?_push_of_some _ (Heap.get?_push_of_some _ e))
     rw [Heap.size_push]
     simp only [List.mem_cons,List.mem_singleton,List.not_mem_nil,or_false,not_or]
     exact ⟨Nat.ne_of_lt hb,Nat.ne_of_lt (Nat.lt_succ_of_lt hb)⟩
   ·cases r₂ with
    | error e => exact hr₂
    | ok fl₂ =>
     cases fl₂ with
     | ret r =>
      obtain ⟨rfl,h',tk,rfl,hS',hk'⟩:=hr₂
      repeat (any_goals (first | assumption | wp_step))
      exact h _ _ hS' hk'
     | next => exact hr₂
     | brk => exact hr₂
     | cont => exact hr₂
  | next => exact hr
  | brk => exact hr
  | cont => exact hr
end
section
variable {P : Program} {w : World} {A : Around} {E : Value -> Shared -> Prop} {s : Shared} {S : Addr} {ns : List Str}
theorem Bq {Q : List Value -> Shared -> Prop} (hh : A.handled = none) (hS : SetWS P w s.heap S ns)
  (hQ : ∀ (vs : List Value) (ms : List Str) (h' : Heap) (d' : Drawn) (tk : Nat),StrsAre vs ms -> ms.Perm ns -> (∀ b u,s.heap.get? b = some u -> h'.get? b = some u) -> s.heap.objs.size <= h'.objs.size -> Q vs { s with heap:=h',drawn:=d',toks:=tk }) :
  wpAny (model P w) A (collect (.ref S)) Q E s:=by
 obtain ⟨o,es,ep,t,ho,hex,hd,hel,hi,hp,hb,hf,hk⟩:=hS
 have hSl : S < s.heap.objs.size:=Heap.lt_size ho
 unfold collect
 refine wpAny_bind (wpAny_runValue (codeAny_builtin F.entry_proto_collect ?_))
 rw [Around.under_plainId F.plain_proto_collect _]
 show wpAny _ A.in1 (newList [] >>= fun l => again (.builtin "list.__iadd__" ⟨[l,.ref S],[]⟩)) _ _ s
 refine wpAny_bind (wpAny_newObj_type ?_)
 refine wpAny_pure ⟨plainId_quiet F.plain_list_iadd _,codeAny_builtin F.entry_list_iadd ?_⟩
 rw [Around.under_plainId F.plain_list_iadd _]
 generalize hN : ({ cls:=.type "list",data:=.seq ([] : List Value).toArray } : Obj) = oN
 have ho1 : (s.heap.push oN).get? S = some o:=Heap.get?_push_of_some _ ho
 have hN1 : (s.heap.push oN).get? s.heap.objs.size = some oN:=Heap.get?_push_size _ (by rw [<- hN]; rfl)
 have ne : s.heap.objs.size ≠ S:=Nat.ne_of_gt hSl
 have hT : (⟨s.heap.push oN,s.gens,s.drawn,s.toks,s.os⟩ : Shared).TypeIs (.ref S) "set" := ⟨o,ho1,hex.1⟩
 show wpAny _ A.in1 (Builtin.List.listExtendWith (.ref s.heap.objs.size) (.ref S) (.ref s.heap.objs.size)) _ _ ⟨s.heap.push oN,s.gens,s.drawn,s.toks,s.os⟩
 unfold Builtin.List.listExtendWith
 refine wpAny_bind (wpAny_typeOf hT ?_)
 rw [if_neg (by
  have h1 : Builtin.List.listSameRef (.ref s.heap.objs.size) (.ref S) = false:=by simp [Builtin.List.listSameRef,ne]
  rw [h1]
  decide)]
 refine wpAny_bind (FV ho1 hex hd hb hf hk fun h1 d1 I T L pL st keep hI1 hI2 hTI hT2 => ?_)
 have ho2 : h1.get? S = some o:=keep S o ho1
 have hT2' : (⟨h1,s.gens,d1,s.toks,s.os⟩ : Shared).TypeIs (.ref S) "set" := ⟨o,ho2,hex.1⟩
 refine wpAny_bind (wpAny_holding ?_)
 unfold Builtin.List.listLengthHint
 refine wpAny_bind (wpAny_specialOf hT2' F.slot_set_len.lookup ?_)
 (generalize hid : ("set.__len__" : String) = id0; wp_delta; rw [show splitId id0 = some ("set","__len__") from by subst hid; decide +kernel]; subst hid)
 refine wpAny_bind (wpAny_isInstance (b:=true) hT2' sub_set_self ?_)
 show wpAny _ _ (typeOf (.ref S) >>= _) _ _ _
 refine wpAny_bind (wpAny_typeOf hT2' (wpAny_pure ?_))
 show wpAny _ A.in1 (rule "list.extend.makes-room" >>= fun _ => Builtin.List.listTouch (.ref s.heap.objs.size) >>= fun _ =>
  again (.builtin "list.extend.loop" ⟨[.ref s.heap.objs.size,.ref I,.ref s.heap.objs.size],[]⟩)) _ _ _
 refine wpAny_bind (wpAny_rule ?_)
 have hN2 : h1.get? s.heap.objs.size = some { cls:=.type "list",data:=.seq ([] : List Value).toArray }:=by rw [hN]; exact keep _ _ hN1
 refine wpAny_bind ?_
 show wpAny _ A.in1 (updateSeq s.heap.objs.size (·.push .none) >>= fun _ => updateSeq s.heap.objs.size (·.pop)) _ _ _
 refine wpAny_bind (wpAny_updateSeq hN2 rfl ?_)
 have hN3:=Heap.get?_update_self (Obj.mapSeq (·.push Value.none)) hN2 rfl
 refine wpAny_updateSeq hN3 rfl ?_
 have hN4:=Heap.get?_update_self (Obj.mapSeq (·.pop)) hN3 rfl
 have oth : ∀ b u,b ≠ s.heap.objs.size -> h1.get? b = some u -> ((h1.update s.heap.objs.size (Obj.mapSeq (·.push Value.none))).update s.heap.objs.size (Obj.mapSeq (·.pop))).get? b = some u:=
  fun b u hb q => (Heap.get?_update_other _ _ (Ne.symm hb)).trans ((Heap.get?_update_other _ _ (Ne.symm hb)).trans q)
 have lL : L.length = es.size:=by rw [pL.length_eq,List.length_map,Array.length_toList]
 have nI : s.heap.objs.size ≠ I:=by
  rw [Heap.size_push] at hI1
  exact Nat.ne_of_lt hI1
 have nT : s.heap.objs.size ≠ T:=by
  rcases hT2 with z | z
  ·rw [z]; exact ne
  ·rw [Heap.size_push] at z
   exact Nat.ne_of_lt z
 have SI : S ≠ I:=by
  rw [Heap.size_push] at hI1
  exact Nat.ne_of_lt (Nat.lt_of_lt_of_le hSl (Nat.le_trans (Nat.le_succ _) hI1))
 have W : WalksS P w A.in1 I [I,S,T] [I] (fun a b => b = a) es.size (fun i v => v = L.getD i .none) (fun i s => SetSt w es ep t S T I L i s.heap):=Gr (A:=A.in1) (by simp [hh]) hf hk lL hTI SI
 have nfp : s.heap.objs.size ∉ [I,S,T]:=by
  simp only [List.mem_cons,List.not_mem_nil,or_false,not_or]
  exact ⟨nI,ne,nT⟩
 refine wpAny_pure ⟨plainId_quiet F.plain_extend_loop _,codeAny_extend_loopS W (fits_of_scanBound hb) _ nfp _ es.size 0 _ _ _ rfl (Nat.zero_le _)
  (W.frame 0 ⟨h1,s.gens,d1,s.toks,s.os⟩ _ s.toks st (Nat.le_refl _) fun b hb' u q => oth b u (fun z => nfp (z ▸ hb')) q) hN4 (ItemsOf.nil _) fun s' acc' c' hm hS' hacc => ?_⟩
 show wpAny _ A (load s.heap.objs.size >>= _) _ _ s'
 refine wpAny_bind (wpAny_load hS' (wpAny_pure ?_))
 obtain ⟨h',g',d',tk',os'⟩:=s'
 have eg : g' = s.gens:=hm.gens
 have eo : os' = s.os:=hm.os
 subst eg eo
 have eacc : acc'.toList = L:=by
  refine List.ext_getElem (by rw [Array.length_toList,hacc.1,lL]) fun i h1' h2' => ?_
  have:=hacc.2 i acc'[i] (by simp at h1'; simp [h1'])
  simp [this,h2']
 rw [eacc]
 have allI : ∀ vs : List Value,(∀ v ∈ vs,∃ n u,v = Value.str n u) -> StrsAre vs (vs.map strOf):=by
  intro vs
  induction vs with
  | nil => intro _; exact .nil
  | cons v r ih =>
   intro al
   obtain ⟨n,u,rfl⟩:=al v List.mem_cons_self
   exact .cons n u (ih fun x hx => al x (List.mem_cons_of_mem _ hx))
 refine hQ L (L.map strOf) h' d' tk' (allI L fun v hv => ?_) ?_ (fun b u q => ?_) (Nat.le_of_lt (Heap.lt_size hS'))
 ·obtain ⟨e,he,rfl⟩:=List.mem_map.mp (pL.mem_iff.mp hv)
  exact hi e he
 ·refine (pL.map _).trans ?_
  rw [List.map_map]
  exact hp
 ·have hbn : b ≠ s.heap.objs.size:=Nat.ne_of_lt (Heap.lt_size q)
  refine hm.heap b u ?_ (oth b u hbn (keep b u (Heap.get?_push_of_some _ q)))
  simp only [List.mem_cons,List.not_mem_nil,or_false,not_or]
  refine ⟨hbn,Nat.ne_of_lt (Nat.lt_of_lt_of_le (Heap.lt_size q) ?_)⟩
  rw [Heap.size_push] at hI1
  exact Nat.le_trans (Nat.le_succ _) hI1
theorem Di {Q : Value -> Shared -> Prop} (hh : A.handled = none) (hS : SetWS P w s.heap S ns) (h64 : ns.length < 64)
  (h : ∀ (l : Addr) (out : List Value) (ms : List Str) (e : Nat) (h' : Heap) (d' : Drawn) (tk : Nat),StrsAre out ms -> ms.Perm ns -> ms.Pairwise leS -> s.heap.objs.size <= l -> h'.get? l = some (seqObj "list" out.toArray e) -> (∀ b u,s.heap.get? b = some u -> h'.get? b = some u) ->
   Q (.ref l) { s with heap:=h',drawn:=d',toks:=tk }) : wpAny (model P w) A (call (.builtin "sorted") [.ref S]) Q E s:=by
 refine Calls.call_function_entry kind_sorted plain_sorted entry_sorted (args_sorted1 _) ?_
 unfold Builtin.«sorted»
 refine wpAny_bind (m:=checkCount "sorted" 1 1 _) (wpAny_pure ?_)
 refine wpAny_bind (Bq (by simp [hh]) hS fun vs ms h1 d1 tk1 hI hp keep hsz1 => ?_)
 have l64 : vs.length < 64:=by
  have e1 : vs.length = ms.length:=(StrsAre.lengthS hI)
  have e2:=hp.length_eq
  omega
 refine wpAny_bind (wpAny_newList (hsz:=Nat.le_trans (Nat.le_of_lt l64) (by decide)) ?_)
 have hoL : (h1.push (seqObj "list" vs.toArray 0)).get? h1.objs.size = some (seqObj "list" vs.toArray 0):=Heap.get?_push_size _ rfl
 refine wpAny_bind (wpAny_holding (wpAny_call_entry slot_list_sort ⟨_,hoL,rfl⟩ entry_list_sort (qS hoL hI l64 fun out ns' a1 a2 a3 => ⟨_,rfl,?_⟩) (args_list_sort _)))
 obtain ⟨e,he⟩:=sortedHeap_at (vs:=vs) (out:=out) hoL
 refine wpAny_pure ⟨_,rfl,?_⟩
 refine h h1.objs.size out.toList ns' e _ d1 tk1 a1 (a2.trans hp) a3 ?_ (by simpa using he) fun b u q => ?_
 ·exact hsz1
 ·have q1:=keep b u q
  have lt:=Heap.lt_size q1
  rw [sortedHeap_old (Nat.ne_of_lt lt) (by rw [Heap.size_push]; exact Nat.lt_succ_of_lt lt)]
  exact Heap.get?_push_of_some _ q1
end
end L2
set_option Elab.async false
set_option linter.all false
set_option maxRecDepth 100000
set_option maxHeartbeats 4000000
namespace L2
open PySem PySem.Spec PyProof.Rows
abbrev js (P : Program) (w : World) (S : Addr) (ns : List Str) : HO:=.ext fun h => SetWS P w h S ns
def eB (ns : List Str) : List Str:=ns.foldl step_dedup []
theorem sD (ns : List Str) : bN (fun i => ns.getD i Str.empty) ns.length = eB ns:=by
 unfold bN eB
 congr 1
 refine List.ext_getElem (by simp) fun i h1 h2 => ?_
 simp [List.getD,h2]
theorem zU {s : List Str} {v k : Str} : k ∈ step_dedup s v ↔ k ∈ s \/ k = v:=by
 unfold step_dedup
 split
 ·rename_i h
  have hv : v ∈ s:=by simpa using h
  exact ⟨.inl,fun z => z.elim id fun e => e ▸ hv⟩
 ·simp
theorem xb {s : List Str} {v : Str} (h : s.Nodup) : (step_dedup s v).Nodup:=by
 unfold step_dedup
 split
 ·exact h
 ·rename_i c
  have hv : v ∉ s:=by simpa using c
  exact List.nodup_append.mpr ⟨h,by simp,fun a ha b hb e => hv (by rw [<- List.mem_singleton.mp hb,<- e]; exact ha)⟩
theorem ou : ∀ (ns s : List Str) (k : Str),k ∈ ns.foldl step_dedup s ↔ k ∈ s \/ k ∈ ns
 | [],s,k => by simp
 | n :: r,s,k => by
  rw [List.foldl_cons,ou r,zU,List.mem_cons]
  constructor
  ·rintro ((h | h) | h)
   ·exact .inl h
   ·exact .inr (.inl h)
   ·exact .inr (.inr h)
  ·rintro (h | h | h)
   ·exact .inl (.inl h)
   ·exact .inl (.inr h)
   ·exact .inr h
theorem once_memS {ns : List Str} {k : Str} : k ∈ eB ns ↔ k ∈ ns:=by
 unfold eB
 rw [ou]
 simp
theorem lA : ∀ (ns s : List Str),s.Nodup -> (ns.foldl step_dedup s).Nodup
 | [],s,h => h
 | n :: r,s,h => lA r _ (xb h)
theorem zh (ns : List Str) : (eB ns).Nodup:=lA ns [] List.Pairwise.nil
theorem ot : ∀ (ns s : List Str),(ns.foldl step_dedup s).length <= s.length + ns.length
 | [],s => Nat.le_refl _
 | n :: r,s => by
  refine Nat.le_trans (ot r _) ?_
  have : (step_dedup s n).length <= s.length + 1:=by
   unfold step_dedup
   split
   ·exact Nat.le_succ _
   ·rw [List.length_append]; exact Nat.le_refl _
  rw [List.length_cons]
  omega
theorem ja (ns : List Str) : (eB ns).length <= ns.length:=by
 have q:=ot ns []
 unfold eB
 simpa using q
section
variable {X : Cx}
theorem gA (hc : X.calm = true) : fk X (.type "set") (fun xs H Q => ∃ (a : Addr) (ns : List Str),xs = [.ref a] /\ H a = some (.lst (ns.map V.str)) /\ ns.length < 4000 /\ ∀ S,H S = none -> Q (.ref S) (upd H S (js X.prog X.w S (eB ns)))):=by
 intro pins s σ H xs us Q I r h
 obtain ⟨a,ns,rfl,ha,hz,q⟩:=h
 obtain ⟨u,rfl,rx⟩:=vals1 r
 cases rx
 obtain ⟨_,its,n,rv,hl,e⟩:=I.lstM ha
 have hln : its.length = ns.length:=by rw [<- hl,List.length_map]
 refine zO (I.ok.hd hc) ⟨_,e,rfl,n,rfl⟩ (ns:=ns) (by simpa using um rv) (by simp only [List.size_toArray]; unfold scanBound; omega) fun h' tk hS keep => ?_
 have k2 : ∀ b o,s.heap.get? b = some o -> h'.get? b = some o:=fun b o z => keep b o (Heap.lt_size z) z
 have hS' : SetWS X.prog X.w h' s.heap.objs.size (eB ns):=by
  simp only [List.size_toArray] at hS
  rw [hln,sD] at hS
  exact hS
 refine ⟨.ref s.heap.objs.size,_,I.laid (o:=js X.prog X.w s.heap.objs.size (eB ns)) (t' := tk) k2 (Nat.le_refl _) (show SetWS X.prog X.w h' s.heap.objs.size (eB ns) /\ (∃ o,h'.get? s.heap.objs.size = some o) /\ ∀ h1 h2 : Heap,SetWS X.prog X.w h1 s.heap.objs.size (eB ns) -> (∀ o,h1.get? s.heap.objs.size = some o -> h2.get? s.heap.objs.size = some o) -> SetWS X.prog X.w h2 s.heap.objs.size (eB ns) from ⟨hS',?_,fun h1 h2 p kp => p.keep kp⟩),rfl,q _ (I.hok.fresh (Nat.le_refl _))⟩
 obtain ⟨o,es,ep,t,ho,_⟩:=hS'
 exact ⟨o,ho⟩
theorem da (hc : X.calm = true) : fk X (.builtin "sorted") (fun xs H Q => ∃ (S : Addr) (ns : List Str),xs = [.ref S] /\ H S = some (js X.prog X.w S ns) /\ ns.length < 64 /\
  ∀ (l : Addr) (ms : List Str),H l = none -> ms.Perm ns -> ms.Pairwise leS -> Q (.ref l) (upd H l (.lst (ms.map V.str)))):=by
 intro pins s σ H xs us Q I r h
 obtain ⟨S,ns,rfl,hS,h64,q⟩:=h
 obtain ⟨u,rfl,rx⟩:=vals1 r
 cases rx
 obtain ⟨p,_,_⟩:=(show ObjOk X.prog X.w H s.heap S (js X.prog X.w S ns) from I.hok S _ hS)
 refine Di (I.ok.hd hc) p h64 fun l out ms e h' d' tk hI hp hs hle hg keep => ?_
 have I1 : Inv X pins σ (upd H l (.lst (ms.map V.str))) { s with heap:=h',toks:=tk }:=I.laid (t' := tk) keep hle ⟨by
  rw [List.length_map,hp.length_eq]
  exact Nat.le_trans (Nat.le_of_lt h64) (by decide),out,e,zF hI,hg⟩
 exact ⟨.ref l,_,⟨I1.ok,I1.os,I1.bare,I1.base,I1.loc,I1.cell,I1.free,I1.freeC,I1.pin,I1.hok,I1.len⟩,rfl,q l ms (I.hok.fresh hle) hp hs⟩
end
end L2
set_option Elab.async false
set_option linter.all false
set_option maxRecDepth 100000
set_option maxHeartbeats 4000000
namespace L2
open PySem PySem.Spec PyProof.Rows
abbrev atT (z : Str) (i : Nat) : List Nat:=z.cps.toList.drop i
def b9 (l : List Nat) : Str:=⟨l.toArray⟩
theorem Ba (z : Str) : b9 z.cps.toList = z:=rfl
theorem str_inj {a b : Str} (h : a.cps.toList = b.cps.toList) : a = b:=by rw [<- Ba a,<- Ba b,h]
theorem aI (a b : Str) : (a ++ b).cps.toList = a.cps.toList ++ b.cps.toList:=by
 show (a.cps ++ b.cps).toList = _
 rw [Array.toList_append]
theorem rJ (a : Str) : a.length = a.cps.toList.length:=rfl
theorem B1 (z y : Str) (i : Nat) (h : i <= z.length) : (fromIndex z.length (i : Int) + y.length <= z.length && Builtin.Str.subAt z y (fromIndex z.length (i : Int))) = y.cps.toList.isPrefixOf (atT z i):=by
 have e : fromIndex z.length (i : Int) = i:=by
  unfold fromIndex
  rw [if_neg (by omega)]
  omega
 rw [e]
 have hz : z.length = z.cps.toList.length:=rfl
 have hy : y.length = y.cps.toList.length:=rfl
 rw [Bool.eq_iff_iff,Bool.and_eq_true,decide_eq_true_eq,List.isPrefixOf_iff_prefix]
 unfold Builtin.Str.subAt
 rw [beq_iff_eq]
 have ex : (z.cps.extract i (i + y.length)).toList = (atT z i).take y.length:=by
  rw [Array.toList_extract]
  unfold atT
  rw [List.extract_eq_drop_take]
  congr 1
  omega
 constructor
 ·rintro ⟨h1,h2⟩
  rw [List.prefix_iff_eq_take,<- hy,<- ex,h2]
 ·intro h1
  have l:=h1.length_le
  rw [List.length_drop] at l
  refine ⟨by omega,?_⟩
  have:=List.prefix_iff_eq_take.mp h1
  rw [<- hy,<- ex] at this
  exact (Array.toList_inj.mp this).symm
section
variable {X : Cx}
def Ep : V -> List V -> Hp -> VK -> Prop:=fun x vs H Q => ∃ (z y : Str) (i : Nat),x = .str z /\ vs = [.str y,.int (i : Int)] /\ i <= z.length /\ Q (.bl (y.cps.toList.isPrefixOf (atT z i))) H
theorem BJ : MtM X "str.startswith" Ep:=by
 intro pins s σ H x vs v us Q I rx rv h
 obtain ⟨z,y,i,rfl,rfl,hi,q⟩:=h
 obtain ⟨t,rfl⟩:=rx
 obtain ⟨u1,u2,rfl,⟨t1,rfl⟩,⟨t2,rfl⟩⟩:=vals2 rv
 refine call_gives F.slot_str_startswith (typeIs_str _ _ _) F.entry_str_startswith (F.args_str_startswith_3 _ _ _) (gives_str_startswith_from z y i t t1 t2) ?_
 rw [B1 z y i hi]
 exact ⟨.bl _,H,I,rfl,q⟩
theorem lM : OpR X (compareOp .LtE) (fun x y H Q => ∃ i j,x = .str i /\ y = .str j /\ Q (.bl (!decide (j.cps.toList < i.cps.toList))) H):=by
 intro pins s σ H x y v u Q I rx ry h
 obtain ⟨i,j,rfl,rfl,q⟩:=h
 obtain ⟨t,rfl⟩:=rx
 obtain ⟨t',rfl⟩:=ry
 exact PySem.P.le_str (bf I q rfl)
def GV : V -> Option Int -> Option Int -> Hp -> VK -> Prop:=fun x lo hi H Q => ∃ (z : Str) (i j : Nat),x = .str z /\ lo = some (i : Int) /\ hi = some (j : Int) /\ i <= j /\ j <= z.length /\ z.length <= sizeLine /\ Q (.str (b9 ((atT z i).take (j - i)))) H
theorem Fv : SlR X GV:=by
 intro pins s σ H x v vl vu lo hi sl Q I rx hs pl pu h
 obtain ⟨z,i,j,rfl,rfl,rfl,hij,hj,hz,q⟩:=h
 obtain ⟨t,rfl⟩:=rx
 cases pl with
 | int _ ti =>
  cases pu with
  | int _ tj =>
   refine ⟨"str",_,F.slot_str_getitem.lookup,typeIs_str _ _ _,wpAny_getItem_str_slice (l:=some ((i : Int),ti)) (u:=some ((j : Int),tj)) (st:=none) hs rfl (post_val_or_str ⟨?_,fun t' k => ?_⟩)⟩
   ·exact Nat.le_trans (Txt.slice_le z _ _) hz
   ·refine ⟨.str _,H,I.tok _,⟨t',?_⟩,q⟩
    have:=StrLaws.sliceText_nat z hij hj
    unfold StrLaws.sliceText at this
    show Value.str (Txt.slice z (some (i : Int)) (some (j : Int))) t' = _
    unfold Txt.slice
    rw [this]
    rfl
theorem pk : fk X (.type "int") (fun xs H Q => ∃ n : Int,xs = [.str (Str.ofString (toString n))] /\ 0 <= n /\ n < 10000000000 /\ Q (.int n) H):=by
 intro pins s σ H xs us Q I r h
 obtain ⟨n,rfl,h0,h1,q⟩:=h
 obtain ⟨u,rfl,t,rfl⟩:=vals1 r
 exact PySem.W.KIN.call_num h0 h1 ⟨.int n,H,I.tok _,⟨_,rfl⟩,q⟩
end
end L2
namespace L2
open PySem PySem.Spec PyProof.Rows
def Itx (x : Str) : It:=⟨fun i _ => i < x.length,fun i H v H' => H' = H /\ ∃ c,x.cps.toList[i]? = some c /\ v = .str (b9 [c]),fun i _ => x.length <= i⟩
theorem Ds {P : Program} {w : World} {K : PySem.W.Frag} {tg : Expr} (x : Str) (t : Tok) (it : Addr) : Turn P w K tg (Itx x) [it] it (fun i h => h.IsStrIter it "str_ascii_iterator" x t i) where
 mem:=by simp
 obj:=fun i h st b hb => by
  have e : b = it:=by simpa using hb
  subst e
  obtain ⟨o,e,c,d⟩:=st
  exact ⟨o,e,fun v z => by rw [d] at z; cases z⟩
 keep:=fun i h h' st k => by
  obtain ⟨o,e,r⟩:=st
  exact ⟨o,k it (by simp) o e,r⟩
 item:=by
  intro X hP hw hK hc i pins s σ H E I hf st hg
  subst hP hw hK
  have hi : i < x.cps.toList.length:=hg
  obtain ⟨f0,f1,f2,f3,f4,f5⟩:=hf it (by simp)
  refine wpAny_pyNext_ascii_item st (c:=x.cps.toList[i]) (by rw [<- Array.getElem?_toList]; exact List.getElem?_eq_getElem hi) fun h' st' sb => ?_
  have I1 : Inv X pins σ H { s with heap:=h',toks:=s.toks + 1 }:=I.turned (t' := s.toks + 1) (fun b o hb e => (sb.2 b hb).trans e) f0 f1 f3 f4 f5
  obtain ⟨o,e,c,d⟩:=id st'
  exact ⟨_,rfl,AJ (s:={ s with heap:=h',toks:=s.toks + 1 }) e c d (by decide) ⟨.str (b9 [x.cps.toList[i]]),H,I1,⟨_,rfl⟩,⟨rfl,_,List.getElem?_eq_getElem hi,rfl⟩,st',fun b hb => (hf b hb).1⟩⟩
 done:=by
  intro X hP hw hK hc i pins s σ H E I hf st hg
  subst hP hw hK
  have hi : x.cps.toList.length <= i:=hg
  obtain ⟨f0,f1,f2,f3,f4,f5⟩:=hf it (by simp)
  exact wpAny_pyNext_ascii_end (I.ok.hd hc) st (by rw [<- Array.getElem?_toList]; exact List.getElem?_eq_none hi) fun h' eb => ⟨rfl,I.turned (t' := s.toks) (fun b o hb e => eb b o hb e) f0 f1 f3 f4 f5⟩
 self:=fun _ _ _ _ _ st h => wpAny_pyIter_striter_ascii st h
section
variable {X : Cx} {tg : Expr}
def GH (tl : TE) : TI:=fun σ H R => tl σ H fun v H1 => ∃ x : Str,v = .str x /\ x.cps.all (· < 128) = true /\ R (Itx x) H1
theorem Fp {l : Expr} {tl : TE} (hl : PE X l tl) : PI X tg l (GH tl):=by
 intro pins s σ H R I h
 refine thn (hl pins s σ H _ I h) fun v s1 ⟨y,H1,I1,r1,q1⟩ => ?_
 obtain ⟨x,e,ha,q⟩:=q1
 subst e
 obtain ⟨t,rfl⟩:=r1
 refine wpAny_pyIter_ascii ha ?_
 refine ⟨s1.heap.objs.size,[s1.heap.objs.size],_,_,H1,rfl,I1.kept (t' := s1.toks) fun b o e => Heap.get?_push_of_some _ e,Ds x t _,⟨_,Heap.get?_push_size _ rfl,rfl,rfl⟩,fun b hb => ?_,q⟩
 have e : b = s1.heap.objs.size:=by simpa using hb
 subst e
 exact I1.fpOk (Nat.le_refl _) (I1.hok.fresh (Nat.le_refl _))
end
theorem Cg {z : Str} {ix : List (Option Nat)} {te : TE} {σ : St} {H : Hp} {Qd : Addr -> Hp -> Prop} (Pv : Addr -> Nat -> List V -> Hp -> Prop)
  (h0 : ∀ D,H D = none -> Pv D 0 [] (upd H D (.lst [])))
  (hs : ∀ D i c ys H' (Q' : VK),H D = none -> z.cps.toList[i]? = some c -> H' D = some (.lst ys) -> Pv D i ys H' -> (∀ y H4,H4 D = some (.lst ys) -> ys.length < sizeLine -> Pv D (i + 1) (ys ++ [y]) (upd H4 D (.lst (ys ++ [y]))) -> Q' y H4) ->
   te ((aR ix σ).set 0 (some (.str (b9 [c])))) H' Q')
  (hd : ∀ D ys H',H D = none -> H' D = some (.lst ys) -> Pv D z.length ys H' -> Qd D H') : vT (Itx z) ix (aE 0) te σ H Qd:=by
 intro D hD
 refine ⟨fun i m σ' H' => m = z.length - i /\ i <= z.length /\ (σ' = aR ix σ \/ ∃ t,σ' = (aR ix σ).set 0 t) /\ ∃ ys,H' D = some (.lst ys) /\ Pv D i ys H',⟨z.length,by simp,Nat.zero_le _,.inl rfl,[],af,h0 D hD⟩,?_⟩
 rintro i m σ' H' ⟨rfl,hi,hσ,ys,hy,p⟩
 by_cases hlt : i < z.length
 ·refine .inr ⟨hlt,fun x H2 y => ?_⟩
  obtain ⟨e1,c,hc,e2⟩:=y
  subst e1 e2
  have es : σ'.set 0 (some (.str (b9 [c]))) = (aR ix σ).set 0 (some (.str (b9 [c]))):=by
   rcases hσ with z | ⟨t,z⟩
   ·rw [z]
   ·rw [z,List.set_set]
  show te (σ'.set 0 (some (.str (b9 [c])))) _ _
  rw [es]
  refine hs D i c ys _ _ hD hc hy p fun y H4 h4 hz p4 => ⟨ys,h4,hz,z.length - (i + 1),by omega,rfl,hlt,.inr ⟨_,rfl⟩,ys ++ [y],af,p4⟩
 ·have e : i = z.length:=by omega
  subst e
  exact .inl ⟨Nat.le_refl _,hd D ys H' hD hy p⟩
end L2
set_option Elab.async false
set_option linter.all false
set_option maxRecDepth 100000
set_option maxHeartbeats 8000000
namespace My
open PySem L2
abbrev LL:=List (List Int)
abbrev LI:=List Int
abbrev OV:=Option V
theorem gi_ {α : Type} {l : List α} {i : Nat} {a : α} (h : l[i]? = some a) : ∃ h : i < l.length,l[i] = a:=List.getElem?_eq_some_iff.mp h
theorem mq_ {α : Type} {l : List α} {i : Nat} {a : α} (h : l[i]? = some a) : a ∈ l:=List.mem_of_getElem? h
theorem ma_ {α : Type} {a : α} {s t : List α} : a ∈ s ++ t ↔ a ∈ s \/ a ∈ t:=List.mem_append
theorem lm_ {α β : Type} {f : α -> β} {l : List α} : (l.map f).length = l.length:=List.length_map f
theorem qT_ {K : PySem.W.Frag} {H : Hp} {a : Addr} {xs : List V} (h : H a = some (.tup xs)) : SqT K H a xs:=SqT.of h
theorem qL_ {K : PySem.W.Frag} {H : Hp} {a : Addr} {xs : List V} (h : H a = some (.lst xs)) : SqL K H a xs:=SqL.of h
def top (i : Nat) : Stmt:=PySem.Challenge.pw_figuretell_k53_whole_read.main.body.getD i (.Pass ⟨0,0,0,0⟩)
abbrev gi : Stmt:=top 9
abbrev cF : Stmt:=top 10
abbrev cB : Stmt:=top 11
abbrev j8 : Stmt:=top 12
abbrev cG : Stmt:=top 13
abbrev cT : Stmt:=top 14
abbrev c5 : Stmt:=top 15
abbrev qd : Stmt:=top 22
abbrev cY : Stmt:=top 25
abbrev bZ : Stmt:=top 26
abbrev dF : Stmt:=top 27
abbrev dI : Stmt:=top 28
abbrev dG : Stmt:=top 29
abbrev eS : Stmt:=top 30
abbrev eU : Stmt:=top 31
abbrev cZ : Stmt:=top 32
abbrev bQ : Stmt:=top 33
abbrev eV : Stmt:=top 34
abbrev bV : Stmt:=top 35
abbrev cX : Stmt:=top 36
abbrev cS : Stmt:=top 37
abbrev cm : Stmt:=top 38
abbrev dH : Stmt:=top 39
abbrev oH : Stmt:=top 40
abbrev bD : Stmt:=inClass (top 23) 0
abbrev ck : Stmt:=inClass (top 23) 1
abbrev cD : Stmt:=inClass (top 23) 2
abbrev cW : Stmt:=inClass (top 23) 3
abbrev bg : Stmt:=inClass (top 23) 4
abbrev bK : Stmt:=inClass (top 23) 5
abbrev bJ : Stmt:=inClass (top 23) 6
abbrev bE : Stmt:=inClass (top 23) 7
abbrev bw : Stmt:=inClass (top 23) 8
abbrev bF : Stmt:=inClass (top 23) 9
abbrev cj : Stmt:=inClass (top 23) 10
abbrev cE : Stmt:=inClass (top 23) 11
abbrev bS : Stmt:=inClass (top 23) 12
abbrev cC : Stmt:=inClass (top 23) 13
theorem BB {c A B : Prop} [Decidable c] (h1 : c -> A) (h2 : ¬ c -> B) : if decide c = true then A else B:=yQ (fun h => h1 (of_decide_eq_true h)) fun h => h2 fun z => h (decide_eq_true z)
theorem FU {c A B : Prop} [Decidable c] (h1 : ¬ c -> A) (h2 : c -> B) : if (!decide c) = true then A else B:=yQ (fun h => h1 fun z => by rw [decide_eq_true z] at h; cases h) fun h => h2 (Decidable.byContradiction fun z => h (by rw [decide_eq_false z]; rfl))
theorem xj {a b : Int} {A B : Prop} (h1 : a = b -> A) (h2 : a ≠ b -> B) : if decide (V.int a = V.int b) = true then A else B:=BB (fun h => h1 (V.int.inj h)) fun h => h2 fun z => h (congrArg V.int z)
theorem CJ {a b m n : Int} (a0 : 0 <= a) (a1 : a <= m) (b0 : 0 <= b) (b1 : b <= n) : 0 <= a * b /\ a * b <= m * n:=⟨Int.mul_nonneg a0 b0,Int.mul_le_mul a1 b1 b0 (Int.le_trans a0 a1)⟩
theorem br {a b : Int} (h : 0 < b) : 0 <= a % b /\ a % b < b:=⟨Int.emod_nonneg a (by omega),Int.emod_lt_of_pos a h⟩
theorem AF {t u : TS} {D : Ends} {σ : St} {H : Hp} (R : St -> Hp -> Prop) (h2 : ∀ σ' H',R σ' H' -> u D σ' H') (h1 : (∀ σ' H',R σ' H' -> u D σ' H') -> zE t u D σ H) : zE t u D σ H:=h1 h2
theorem gE {t u : TS} {D : Ends} {σ : St} {H : Hp} (R : St -> Hp -> Prop) (h1 : ∀ σ' H',R σ' H' -> u D σ' H') (h2 : ∀ D' : Ends,(∀ σ' H',R σ' H' -> D'.nx σ' H') -> t D' σ H) : zE t u D σ H:=h2 { D with nx:=u D } h1
theorem aW {H H' : Hp} {p : Addr} {o : HO} (h : Same H H') (hp : H p = none) : Same H (upd H' p o):=fun b u e => by rw [aw (az e hp)]; exact h b u e
def IntsIn (lo hi : Int) (ys : List V) : Prop := ∀ y ∈ ys,∃ v : Int,y = .int v /\ lo <= v /\ v < hi
theorem IntsIn.nil {lo hi : Int} : IntsIn lo hi []:=fun y h => by cases h
theorem IntsIn.snoc {lo hi v : Int} {ys : List V} (h : IntsIn lo hi ys) (h0 : lo <= v) (h1 : v < hi) : IntsIn lo hi (ys ++ [.int v]):=fun y hy => by
 rcases ma_.mp hy with z | z
 ·exact h y z
 ·rw [List.mem_singleton.mp z]; exact ⟨v,rfl,h0,h1⟩
theorem IntsIn.ints {lo hi : Int} : ∀ {ys : List V},IntsIn lo hi ys -> ∃ ns : LI,ys = ns.map V.int /\ ∀ z ∈ ns,lo <= z /\ z < hi
 | [],_ => ⟨[],rfl,fun z h => by cases h⟩
 | y :: r,h => by
  obtain ⟨v,e,h0,h1⟩:=h y List.mem_cons_self
  obtain ⟨ns,e2,h2⟩:=IntsIn.ints (ys:=r) fun z hz => h z (List.mem_cons_of_mem _ hz)
  refine ⟨v :: ns,by rw [e,e2]; rfl,fun z hz => ?_⟩
  rcases List.mem_cons.mp hz with q | q
  ·rw [q]; exact ⟨h0,h1⟩
  ·exact h2 z q
theorem E8 {x : Int} (h : 0 <= x) : ∃ n : Nat,x = (n : Int):=⟨x.toNat,by omega⟩
theorem getD_at {α : Type} {xs : List α} {i : Nat} {d : α} (h : i < xs.length) : xs.getD i d = xs[i]:=by simp [h]
theorem fu {ns : LI} {k : Int} (h0 : 0 <= k) (h : k < (ns.length : Int)) : atI (ns.map V.int) k = some (.int (ns.getD k.toNat 0)):=by
 have hk : k.toNat < ns.length:=by omega
 have ek : k = ((k.toNat : Nat) : Int):=by omega
 have q : atI (ns.map V.int) ((k.toNat : Nat) : Int) = some (.int ns[k.toNat]):=AD (by rw [List.getElem?_map,List.getElem?_eq_getElem hk] <;> rfl)
 rw [<- ek] at q
 rw [q,getD_at hk]
theorem qR (K : PySem.W.Frag) : PySem.W.kitOne K (.type "tuple") (.type "tuple") = some true:=by with_unfolding_all rfl
abbrev Prt:=Int × Str
inductive Stt where
 | cmp (k : Str) (a b : List Prt)
 | sg (r : Str) (a : List Prt) (s : Int)
 | lk (r : Str) (a : List Prt) (q : Str) (b : List Prt)
 | no (s : Stt)
 | jn (k : Str) (s t : Stt)
 | ch (k n : Str) (s : Stt)
def bH (i : Int) : Str:=Str.ofString (toString i)
def aO (p : Prt) : Str:=if p.2 = ("" : Str) then bH p.1 else if p.1 = 1 then p.2 else bH p.1 ++ ("*" : Str) ++ p.2
def bu (ps : List Prt) : Str:=Txt.join (" + " : Str) (ps.map aO)
def eR (r : Str) (a : List Prt) : Str:=r ++ ("[" : Str) ++ bu a ++ ("]" : Str)
def au : Stt -> Str
 | .cmp k a b => bu a ++ ((" " : Str) ++ k ++ (" " : Str)) ++ bu b
 | .sg r a s => eR r a ++ (" = " : Str) ++ bH s
 | .lk r a q b => eR r a ++ (" = " : Str) ++ eR q b
 | .no s => ("not " : Str) ++ au s
 | .jn k s t => ("(" : Str) ++ au s ++ ((" " : Str) ++ k ++ (" " : Str)) ++ au t ++ (")" : Str)
 | .ch k n s => (k ++ (" " : Str) ++ n ++ (": " : Str)) ++ au s
def aQ : Stt -> Nat
 | .cmp .. => 0
 | .sg .. => 0
 | .lk .. => 0
 | .no s => 1 + aQ s
 | .jn _ s t => 1 + max (aQ s) (aQ t)
 | .ch _ _ s => 1 + aQ s
def nX (ps : List Prt) : Prop:=ps.length <= 20 /\ ∀ p ∈ ps,(0 <= p.1 /\ p.1 < 10000000) /\ p.2.length <= 20
def Wf : Stt -> Prop
 | .cmp k a b => (k = ("=" : Str) \/ k = ("<=" : Str) \/ k = ("<" : Str)) /\ nX a /\ nX b
 | .sg r a s => r.length <= 20 /\ nX a /\ 0 <= s /\ s < 10000000
 | .lk r a q b => r.length <= 20 /\ nX a /\ q.length <= 20 /\ nX b
 | .no s => Wf s
 | .jn k s t => (k = ("and" : Str) \/ k = ("or" : Str)) /\ Wf s /\ Wf t
 | .ch k n s => (k = ("some" : Str) \/ k = ("all" : Str)) /\ n.length <= 20 /\ Wf s
def ir (H : Hp) (a : Addr) (p : Prt) : Prop:=H a = some (.tup [.int p.1,.str p.2])
def SumAt (H : Hp) (v : V) (ps : List Prt) : Prop := ∃ (a : Addr) (as : List Addr),v = .ref a /\ H a = some (.tup (as.map V.ref)) /\ Paired (ir H) as ps
def StAt (H : Hp) : V -> Stt -> Prop
 | v,.cmp k a b => ∃ (x : Addr) (va vb : V),v = .ref x /\ H x = some (.tup [.str k,va,vb]) /\ SumAt H va a /\ SumAt H vb b
 | v,.sg r a s => ∃ (x : Addr) (va : V),v = .ref x /\ H x = some (.tup [.str "is",.str r,va,.int s]) /\ SumAt H va a
 | v,.lk r a q b => ∃ (x : Addr) (va vb : V),v = .ref x /\ H x = some (.tup [.str "like",.str r,va,.str q,vb]) /\ SumAt H va a /\ SumAt H vb b
 | v,.no s => ∃ (x : Addr) (vs : V),v = .ref x /\ H x = some (.tup [.str "not",vs]) /\ StAt H vs s
 | v,.jn k s t => ∃ (x : Addr) (vs vt : V),v = .ref x /\ H x = some (.tup [.str k,vs,vt]) /\ StAt H vs s /\ StAt H vt t
 | v,.ch k n s => ∃ (x : Addr) (vs : V),v = .ref x /\ H x = some (.tup [.str k,.str n,vs]) /\ StAt H vs s
abbrev eX (H H' : Hp) : Prop := ∀ (b : Addr) (xs : List V),H b = some (.tup xs) -> H' b = some (.tup xs)
theorem tkS {H H' : Hp} (s : Same H H') : eX H H' := fun b xs e => s _ _ e
theorem SumAt.same {H H' : Hp} {v : V} {ps : List Prt} (h : SumAt H v ps) (s : eX H H') : SumAt H' v ps:=by
 obtain ⟨a,as,e,h1,h2⟩:=h
 exact ⟨a,as,e,s _ _ h1,Paired.mapP h2 fun _ _ q => s _ _ q⟩
theorem StAt.same {H H' : Hp} (s : eX H H') : ∀ {st : Stt} {v : V},StAt H v st -> StAt H' v st
 | .cmp k a b,v,⟨x,va,vb,e,h,h1,h2⟩ => ⟨x,va,vb,e,s _ _ h,h1.same s,h2.same s⟩
 | .sg r a n,v,⟨x,va,e,h,h1⟩ => ⟨x,va,e,s _ _ h,h1.same s⟩
 | .lk r a q b,v,⟨x,va,vb,e,h,h1,h2⟩ => ⟨x,va,vb,e,s _ _ h,h1.same s,h2.same s⟩
 | .no t,v,⟨x,vs,e,h,h1⟩ => ⟨x,vs,e,s _ _ h,StAt.same s h1⟩
 | .jn k t u,v,⟨x,vs,vt,e,h,h1,h2⟩ => ⟨x,vs,vt,e,s _ _ h,StAt.same s h1,StAt.same s h2⟩
 | .ch k n t,v,⟨x,vs,e,h,h1⟩ => ⟨x,vs,e,s _ _ h,StAt.same s h1⟩
theorem len_app (a b : Str) : (a ++ b).length = a.length + b.length:=strLen_append a b
theorem gR {i : Int} (h0 : 0 <= i) (h1 : i < 10000000) : (bH i).length <= 20 /\ i.natAbs.log2 < 1920:=by
 have hn : i.natAbs < 10 ^ 8:=by omega
 constructor
 ·have q:=int_text_length_le10 (a:=i) (k:=8) (by decide) hn
  unfold bH
  rw [ofString_length]
  omega
 ·rcases Nat.eq_zero_or_pos i.natAbs with z | z
  ·rw [z]; decide
  ·exact (Nat.log2_lt (by omega)).mpr (Nat.lt_trans hn (by decide))
theorem BV {p : Prt} (h : (0 <= p.1 /\ p.1 < 10000000) /\ p.2.length <= 20) : (aO p).length <= 41:=by
 have n:=(gR h.1.1 h.1.2).1
 unfold aO
 split
 ·omega
 ·split
  ·omega
  ·rw [len_app,len_app]
   have : (("*" : Str)).length = 1:=by decide
   omega
theorem As {B : Nat} : ∀ (xs : List Nat),(∀ x ∈ xs,x <= B) -> xs.sum <= xs.length * B
 | [],_ => Nat.zero_le _
 | x :: r,h => by
  have h1:=h x List.mem_cons_self
  have h2:=As r fun y hy => h y (List.mem_cons_of_mem _ hy)
  rw [List.sum_cons,List.length_cons,Nat.succ_mul]
  omega
theorem wm {ps : List Prt} (h : nX ps) : ((ps.map aO).map (·.length)).sum + (ps.map aO).length * ((" + " : Str)).length <= 16777216:=by
 have l:=As (B:=41) ((ps.map aO).map (·.length)) fun x hx => by
  obtain ⟨y,hy,rfl⟩:=List.mem_map.mp hx
  obtain ⟨p,hp,rfl⟩:=List.mem_map.mp hy
  exact BV (h.2 p hp)
 have e : ((" + " : Str)).length = 3:=by decide
 rw [lm_,lm_] at l
 rw [e,lm_]
 have:=h.1
 omega
end My
set_option Elab.async false
set_option linter.all false
set_option maxRecDepth 100000
set_option maxHeartbeats 8000000
namespace My
open PySem L2
def Ap : Sp:=fun vs H Q _ => ∃ (a : Addr) (p : Prt),vs = [.ref a] /\ ir H a p /\ ((0 <= p.1 /\ p.1 < 10000000) /\ p.2.length <= 20) /\ Q (.str (aO p)) H
def zB : Sp:=fun vs H Q _ => ∃ (v : V) (ps : List Prt),vs = [v] /\ SumAt H v ps /\ nX ps /\ ∀ H',Same H H' -> Q (.str (bu ps)) H'
def rP : Sp:=fun vs H Q _ => ∃ (r : Str) (v : V) (ps : List Prt),vs = [.str r,v] /\ SumAt H v ps /\ nX ps /\ (eR r ps).length <= 1000000 /\ ∀ H',Same H H' -> Q (.str (eR r ps)) H'
def rR (k : Nat) : Sp:=fun vs H Q _ => ∃ (v : V) (st : Stt),vs = [v] /\ StAt H v st /\ Wf st /\ aQ st <= k /\ (au st).length <= 1000000 /\ ∀ H',Same H H' -> Q (.str (au st)) H'
theorem V_str {a b : Str} : (V.str a = V.str b) ↔ a = b:=⟨fun h => V.str.inj h,fun h => by rw [h]⟩
theorem A2 {R : Addr -> Prt -> Prop} : ∀ {as : List Addr} {ps : List Prt} {i : Nat} {y : V},Paired R as ps -> (as.map V.ref)[i]? = some y -> ∃ (a : Addr) (p : Prt),y = .ref a /\ R a p /\ ps[i]? = some p
 | _,_,_,_,.nil,h => by simp at h
 | _,_,0,_,.cons (a:=a) (b:=p) r _,h => ⟨a,p,(Option.some.inj h).symm,r,rfl⟩
 | _,_,i + 1,_,.cons _ t,h => by
  obtain ⟨a,p,e,r,q⟩:=A2 (i:=i) t (by simpa using h)
  exact ⟨a,p,e,r,by simpa using q⟩
section
variable {P : Program} {w : World} {K : PySem.W.Frag} {mg : Str -> Option Value} {base : Heap} {f : Addr} {fd : FuncData} {dV : Value} {TC TJ : Addr}
theorem sc_shown_part : FnScope ["part","number","name"] ["part"] (ai c5):=⟨rfl,rfl,rfl,by decide +kernel,rfl,by decide +kernel,by decide +kernel⟩
theorem ye : FnScope ["added"] ["added"] (ai cT):=⟨rfl,rfl,rfl,by decide +kernel,rfl,by decide +kernel,by decide +kernel⟩
theorem bk_shown_sum_0 : BlkScope ["added"] (ai cT) ["part"] [none] { kind:=ScopeKind.function,names:=[(".0",NameKind.local),("part",NameKind.local),("shown_part",NameKind.globalImplicit)],isGenerator:=false,isCoroutine:=false,more:=[] }:=⟨rfl,by decide +kernel,by decide +kernel,by decide +kernel,by decide +kernel,rfl,by decide +kernel⟩
theorem tW : FnScope ["row_name","added"] ["row_name","added"] (ai cG):=⟨rfl,rfl,rfl,by decide +kernel,rfl,by decide +kernel,by decide +kernel⟩
theorem sc_shown : FnScope ["statement","kind","name"] ["statement"] (ai j8):=⟨rfl,rfl,rfl,by decide +kernel,rfl,by decide +kernel,by decide +kernel⟩
theorem D9 (F : FunD K "shown_part" "shown_part" c5 dV f fd) (bG : mg "str" = none) : FnOk P w K mg base CX0 1 f fd ["part"] Ap:=by
 refine F.ok sc_shown_part (fun vs H Q E h => ?_) (fun cdv A outer s H vs Q E hr h => ?_)
 ·obtain ⟨a,p,rfl,_⟩:=h
  rfl
 obtain ⟨a,p,rfl,ha,ok,q⟩:=h
 have ha' : H a = some (.tup [.int p.1,.str p.2]):=ha
 have nl:=gR ok.1.1 ok.1.2
 refine ⟨_,(aj (aA (i:=1) sc_shown_part.nd rfl (Or.inl rfl) (aV cO (pv 0) ag (fun _ _ => rfl)))
   (aj (aA (i:=2) sc_shown_part.nd rfl (Or.inl rfl) (aV cO (pv 0) ag (fun _ _ => rfl)))
   (aj (bc (aF cQ (pv 2) ar (aM _)) (ao (aG (bo cV (by rfl) bG iC (aa (pv 1) ae)))) aH)
   (ao (aG (zl (aF cQ (pv 1) ag (aM _)) (pv 2) (jc (bq (lB (pv 1)) (bq gT (bq (lB (pv 2)) lN)))))))))),?_⟩
 refine ⟨_,rfl,a,_,_,_,rfl,rfl,qT_ ha',rfl,?_⟩
 refine ⟨_,rfl,a,_,_,_,rfl,rfl,qT_ ha',rfl,?_⟩
 try dsimp only [aE,aK,List.set]
 refine ⟨_,rfl,rfl,_,rfl,BB (fun c => ?_) (fun c => ?_)⟩
 ·have c' : p.2 = ("" : Str):=V_str.mp c
  unfold aO at q
  rw [if_pos c'] at q
  exact ⟨_,rfl,_,rfl,nl.2,q⟩
 ·have c' : ¬ p.2 = ("" : Str):=fun z => c (V_str.mpr z)
  unfold aO at q
  rw [if_neg c'] at q
  refine ⟨_,rfl,rfl,_,rfl,xj (fun c1 => ?_) (fun c1 => ?_)⟩
  ·rw [if_pos c1] at q
   exact ⟨_,rfl,q⟩
  ·rw [if_neg c1] at q
   refine ⟨_,rfl,.inr ⟨_,rfl,nl.2,Nat.le_trans nl.1 (by decide),?_⟩⟩
   refine ⟨_,rfl,.inl ⟨_,rfl,Nat.le_trans ok.2 (by decide),?_⟩⟩
   show Q (.str (Str.empty ++ bH p.1 ++ ("*" : Str) ++ p.2)) H
   rw [g6]
   exact q
theorem Ff (F : FunD K "shown_sum" "shown_sum" cT dV f fd) (jr : DefOk P w K mg base "shown_part" 1 ["part"] [] Ap) : FnOk P w K mg base CX0 2 f fd ["added"] zB:=by
 refine F.ok ye (fun vs H Q E h => ?_) (fun cdv A outer s H vs Q E hr h => ?_)
 ·obtain ⟨v,ps,rfl,_⟩:=h
  rfl
 obtain ⟨v,ps,rfl,⟨a,as,rfl,ha,hA⟩,ok,q⟩:=h
 have las : as.length = ps.length:=Paired.length hA
 refine ⟨_,(ao (aG (eG PySem.F.plainAttrs_str PySem.F.slot_str_join PySem.F.type_str_join AW ar (aa (oz rfl bk_shown_sum_0 (xY (pv 0)) (fun _ _ _ _ => (aP (i:=0) bk_shown_sum_0.nd rfl (Or.inl rfl))) (fun _ _ _ _ => (aU jr hr (aa (pv 0) ae)))) ae)))),?_⟩
 refine ⟨rfl,_,rfl,a,rfl,⟨_,qT_ ha⟩,?_⟩
 refine Ci (K:=K) (xs:=as.map V.ref) (fun D i ys H' => Same H H' /\ ys = ((ps.take i).map aO).map V.str) (fun D hD => ⟨ah hD _,rfl⟩) (fun D i ys H' _ ⟨e,_⟩ => qT_ (e _ _ ha)) ?_ ?_
 ·rintro D i y ys H2 Q' hD hi hy ⟨s2,rfl⟩ k'
  obtain ⟨b,p,rfl,hb,hp⟩:=A2 hA hi
  have il:=(gi_ hp).1
  have okl:=ok.1
  refine ⟨_,rfl,b,p,rfl,s2 _ _ hb,ok.2 p (mq_ hp),k' _ _ hy (cH (by rw [lm_,lm_,List.length_take]; omega)) ⟨aW s2 hD,?_⟩⟩
  rw [List.take_add_one,hp,List.map_append,List.map_append]
  rfl
 ·rintro L ys H2 hL hy ⟨s2,rfl⟩
  rw [lm_,las,List.take_length] at hy
  exact ⟨_,L,ps.map aO,rfl,rfl,hy,wm ok,q _ s2⟩
theorem CZ (F : FunD K "shown_place" "shown_place" cG dV f fd) (bA : DefOk P w K mg base "shown_sum" 2 ["added"] [] zB) : FnOk P w K mg base CX0 3 f fd ["row_name","added"] rP:=by
 refine F.ok tW (fun vs H Q E h => ?_) (fun cdv A outer s H vs Q E hr h => ?_)
 ·obtain ⟨r,v,ps,rfl,_⟩:=h
  rfl
 obtain ⟨r,v,ps,rfl,hs,ok,bd,q⟩:=h
 have bd' := bd
 unfold eR at bd'
 rw [len_app,len_app,len_app] at bd'
 have z : (1000000 : Nat) <= sizeLine:=by decide
 have l1 : (("[" : Str)).length = 1:=by decide
 have l2 : (("]" : Str)).length = 1:=by decide
 refine ⟨_,(ao (aG (ak aq (ak aq (ak aq (pv 0) ar) (aU bA hr (aa (pv 1) ae))) ar))),?_⟩
 refine ⟨_,rfl,_,_,rfl,rfl,by omega,_,rfl,v,ps,rfl,hs,ok,fun H' s' => ?_⟩
 refine ⟨_,_,rfl,rfl,by rw [len_app]; omega,_,_,rfl,rfl,by rw [len_app,len_app]; omega,q _ s'⟩
theorem ifT {b : Bool} {A B : Prop} (h : b = true) (a : A) : if b = true then A else B:=by rw [if_pos h]; exact a
theorem ifF {b : Bool} {A B : Prop} (h : b = false) (a : B) : if b = true then A else B:=by rw [if_neg (by rw [h]; decide)]; exact a
def kindsC : List V:=[.str "=",.str "<=",.str "<"]
def kindsJ : List V:=[.str "and",.str "or"]
def B0 (k : Nat) : Sp:=fun vs H Q _ => ∃ (v : V) (st : Stt),vs = [v] /\ StAt H v st /\ Wf st /\ aQ st < k /\ (au st).length <= 1000000 /\ ∀ H',Same H H' -> Q (.str (au st)) H'
theorem zg {d : Nat} (F : FunD K "shown" "shown" j8 dV f fd) (bM : mg "COMPARING" = some (.ref TC)) (bR : mg "JOINING" = some (.ref TJ)) (sqC : ∀ H,SqT K H TC kindsC) (sqJ : ∀ H,SqT K H TJ kindsJ) (bA : DefOk P w K mg base "shown_sum" 2 ["added"] [] zB) (bz : DefOk P w K mg base "shown_place" 3 ["row_name","added"] [] rP)
  (g0 : DefOk P w K mg base "shown" (d + 3) ["statement"] [] (B0 d)) (bG : mg "str" = none) : FnOk P w K mg base CX0 (d + 4) f fd ["statement"] (rR d):=by
 refine F.ok sc_shown (fun vs H Q E h => ?_) (fun cdv A outer s H vs Q E hr h => ?_)
 ·obtain ⟨v,st,rfl,_⟩:=h
  rfl
 obtain ⟨v,st,rfl,hst,wf,dp,bd,q⟩:=h
 have z : (1000000 : Nat) <= sizeLine:=by decide
 refine ⟨_,(aj (aA (i:=1) sc_shown.nd rfl (Or.inl rfl) (aV cO (pv 0) ag (fun _ _ => rfl)))
   (aj (bc (aF pZ (pv 1) (dk (v:=.ref _) rfl bM rfl) (by with_unfolding_all rfl)) (ao (aG (ak aq (ak aq (aU bA hr (aa (aV cO (pv 0) ag (fun _ _ => rfl)) ae) (hkj:=by omega)) (jc (bq gT (bq (lB (pv 1)) (bq gT lN))))) (aU bA hr (aa (aV cO (pv 0) ag (fun _ _ => rfl)) ae) (hkj:=by omega))))) aH)
   (aj (bc (aF cQ (pv 1) ar (aM _)) (ao (aG (ak aq (ak aq (aU bz hr (aa (aV cO (pv 0) ag (fun _ _ => rfl)) (aa (aV cO (pv 0) ag (fun _ _ => rfl)) ae)) (hkj:=by omega)) ar) (bo cV (by rfl) bG iC (aa (aV cO (pv 0) ag (fun _ _ => rfl)) ae))))) aH)
   (aj (bc (aF cQ (pv 1) ar (aM _)) (ao (aG (ak aq (ak aq (aU bz hr (aa (aV cO (pv 0) ag (fun _ _ => rfl)) (aa (aV cO (pv 0) ag (fun _ _ => rfl)) ae)) (hkj:=by omega)) ar) (aU bz hr (aa (aV cO (pv 0) ag (fun _ _ => rfl)) (aa (aV cO (pv 0) ag (fun _ _ => rfl)) ae)) (hkj:=by omega))))) aH)
   (aj (bc (aF cQ (pv 1) ar (aM _)) (ao (aG (ak aq ar (aU g0 hr (aa (aV cO (pv 0) ag (fun _ _ => rfl)) ae) (hkj:=by omega))))) aH)
   (aj (bc (aF pZ (pv 1) (dk (v:=.ref _) rfl bR rfl) (by with_unfolding_all rfl)) (ao (aG (ak aq (ak aq (ak aq (ak aq ar (aU g0 hr (aa (aV cO (pv 0) ag (fun _ _ => rfl)) ae) (hkj:=by omega))) (jc (bq gT (bq (lB (pv 1)) (bq gT lN))))) (aU g0 hr (aa (aV cO (pv 0) ag (fun _ _ => rfl)) ae) (hkj:=by omega))) ar))) aH)
   (aj (aA (i:=2) sc_shown.nd rfl (Or.inl rfl) (aV cO (pv 0) ag (fun _ _ => rfl)))
   (ao (aG (ak aq (jc (bq (lB (pv 1)) (bq gT (bq (lB (pv 2)) (bq gT lN))))) (aU g0 hr (aa (aV cO (pv 0) ag (fun _ _ => rfl)) ae) (hkj:=by omega)))))))))))),?_⟩
 have sp1 : ((" " : Str)).length = 1:=by decide
 have sp3 : ((" = " : Str)).length = 3:=by decide
 cases st with
 | cmp k a b =>
  obtain ⟨x,va,vb,rfl,hx,ha,hb⟩:=hst
  obtain ⟨hk,oa,ob⟩:=wf
  have kl : k.length <= 1000 /\ inV (.str k) kindsC = true:=by rcases hk with rfl | rfl | rfl <;> decide +kernel
  have bd' := bd
  unfold au at bd'
  rw [len_app,len_app] at bd'
  refine ⟨_,rfl,x,_,_,_,rfl,rfl,qT_ hx,rfl,?_⟩
  refine ⟨_,rfl,TC,_,rfl,.inr (sqC _),rfl,rfl,_,rfl,ifT kl.2 ?_⟩
  refine ⟨_,rfl,x,_,_,_,rfl,rfl,qT_ hx,rfl,va,a,rfl,ha,oa,fun H1 s1 => ?_⟩
  refine ⟨_,rfl,.inl ⟨_,rfl,kl.1,?_⟩⟩
  show ∃ i j,_
  rw [g6]
  refine ⟨_,_,rfl,rfl,by omega,?_⟩
  refine ⟨_,rfl,x,_,_,_,rfl,rfl,qT_ (s1 _ _ hx),rfl,vb,b,rfl,hb.same (tkS s1),ob,fun H2 s2 => ?_⟩
  exact ⟨_,_,rfl,rfl,by rw [len_app]; omega,q _ (s1.trans s2)⟩
 | sg r a n =>
  obtain ⟨x,va,rfl,hx,ha⟩:=hst
  obtain ⟨hr',oa,n0,n1⟩:=wf
  have bd' := bd
  unfold au at bd'
  rw [len_app,len_app] at bd'
  refine ⟨_,rfl,x,_,_,_,rfl,rfl,qT_ hx,rfl,?_⟩
  refine ⟨_,rfl,TC,_,rfl,.inr (sqC _),rfl,rfl,_,rfl,ifF (by decide +kernel) ?_⟩
  refine ⟨_,rfl,rfl,_,rfl,ifT (decide_eq_true rfl) ?_⟩
  refine ⟨_,rfl,x,_,_,_,rfl,rfl,qT_ hx,rfl,_,rfl,x,_,_,_,rfl,rfl,qT_ hx,rfl,r,va,a,rfl,ha,oa,by omega,fun H1 s1 => ?_⟩
  exact ⟨_,_,rfl,rfl,by omega,_,rfl,x,_,_,_,rfl,rfl,qT_ (s1 _ _ hx),rfl,_,rfl,(gR n0 n1).2,_,_,rfl,rfl,by rw [len_app]; exact Nat.le_trans bd' z,q _ s1⟩
 | lk r a q' b =>
  obtain ⟨x,va,vb,rfl,hx,ha,hb⟩:=hst
  obtain ⟨hr',oa,hq',ob⟩:=wf
  have bd' := bd
  unfold au at bd'
  rw [len_app,len_app] at bd'
  refine ⟨_,rfl,x,_,_,_,rfl,rfl,qT_ hx,rfl,?_⟩
  refine ⟨_,rfl,TC,_,rfl,.inr (sqC _),rfl,rfl,_,rfl,ifF (by decide +kernel) ?_⟩
  refine ⟨_,rfl,rfl,_,rfl,ifF (decide_eq_false fun z => absurd (V_str.mp z) (by decide +kernel)) ?_⟩
  refine ⟨_,rfl,rfl,_,rfl,ifT (decide_eq_true rfl) ?_⟩
  refine ⟨_,rfl,x,_,_,_,rfl,rfl,qT_ hx,rfl,_,rfl,x,_,_,_,rfl,rfl,qT_ hx,rfl,r,va,a,rfl,ha,oa,by omega,fun H1 s1 => ?_⟩
  refine ⟨_,_,rfl,rfl,by omega,_,rfl,x,_,_,_,rfl,rfl,qT_ (s1 _ _ hx),rfl,_,rfl,x,_,_,_,rfl,rfl,qT_ (s1 _ _ hx),rfl,q',vb,b,rfl,hb.same (tkS s1),ob,by omega,fun H2 s2 => ?_⟩
  exact ⟨_,_,rfl,rfl,by rw [len_app]; omega,q _ (s1.trans s2)⟩
 | no t =>
  obtain ⟨x,vs,rfl,hx,ht⟩:=hst
  have wt : Wf t:=wf
  have dt : 1 + aQ t <= d:=dp
  have bd' := bd
  unfold au at bd'
  rw [len_app] at bd'
  refine ⟨_,rfl,x,_,_,_,rfl,rfl,qT_ hx,rfl,?_⟩
  refine ⟨_,rfl,TC,_,rfl,.inr (sqC _),rfl,rfl,_,rfl,ifF (by decide +kernel) ?_⟩
  refine ⟨_,rfl,rfl,_,rfl,ifF (decide_eq_false fun z => absurd (V_str.mp z) (by decide +kernel)) ?_⟩
  refine ⟨_,rfl,rfl,_,rfl,ifF (decide_eq_false fun z => absurd (V_str.mp z) (by decide +kernel)) ?_⟩
  refine ⟨_,rfl,rfl,_,rfl,ifT (decide_eq_true rfl) ?_⟩
  refine ⟨_,rfl,x,_,_,_,rfl,rfl,qT_ hx,rfl,vs,t,rfl,ht,wt,by omega,by omega,fun H1 s1 => ?_⟩
  exact ⟨_,_,rfl,rfl,by omega,q _ s1⟩
 | jn k t u =>
  obtain ⟨x,vs,vt,rfl,hx,ht,hu⟩:=hst
  obtain ⟨hk,wt,wu⟩:=wf
  have dt : 1 + max (aQ t) (aQ u) <= d:=dp
  have kf : k.length <= 1000 /\ inV (.str k) kindsC = false /\ inV (.str k) kindsJ = true /\ decide (V.str k = V.str "is") = false /\ decide (V.str k = V.str "like") = false /\ decide (V.str k = V.str "not") = false:=by rcases hk with rfl | rfl <;> decide +kernel
  obtain ⟨k1,k2,k3,k4,k5,k6⟩:=kf
  have bd' := bd
  unfold au at bd'
  rw [len_app,len_app,len_app,len_app] at bd'
  refine ⟨_,rfl,x,_,_,_,rfl,rfl,qT_ hx,rfl,?_⟩
  refine ⟨_,rfl,TC,_,rfl,.inr (sqC _),rfl,rfl,_,rfl,ifF k2 ?_⟩
  refine ⟨_,rfl,rfl,_,rfl,ifF k4 ?_⟩
  refine ⟨_,rfl,rfl,_,rfl,ifF k5 ?_⟩
  refine ⟨_,rfl,rfl,_,rfl,ifF k6 ?_⟩
  refine ⟨_,rfl,TJ,_,rfl,.inr (sqJ _),rfl,rfl,_,rfl,ifT k3 ?_⟩
  refine ⟨_,rfl,x,_,_,_,rfl,rfl,qT_ hx,rfl,vs,t,rfl,ht,wt,by omega,by omega,fun H1 s1 => ?_⟩
  refine ⟨_,_,rfl,rfl,by omega,?_⟩
  refine ⟨_,rfl,.inl ⟨_,rfl,k1,?_⟩⟩
  show ∃ i j,_
  rw [g6]
  refine ⟨_,_,rfl,rfl,by rw [len_app]; omega,?_⟩
  refine ⟨_,rfl,x,_,_,_,rfl,rfl,qT_ (s1 _ _ hx),rfl,vt,u,rfl,StAt.same (tkS s1) hu,wu,by omega,by omega,fun H2 s2 => ?_⟩
  exact ⟨_,_,rfl,rfl,by rw [len_app,len_app]; omega,_,_,rfl,rfl,by rw [len_app,len_app,len_app]; omega,q _ (s1.trans s2)⟩
 | ch k n t =>
  obtain ⟨x,vs,rfl,hx,ht⟩:=hst
  obtain ⟨hk,nl,wt⟩:=wf
  have dt : 1 + aQ t <= d:=dp
  have kf : k.length <= 1000 /\ inV (.str k) kindsC = false /\ inV (.str k) kindsJ = false /\ decide (V.str k = V.str "is") = false /\ decide (V.str k = V.str "like") = false /\ decide (V.str k = V.str "not") = false:=by rcases hk with rfl | rfl <;> decide +kernel
  obtain ⟨k1,k2,k3,k4,k5,k6⟩:=kf
  have bd' := bd
  unfold au at bd'
  rw [len_app] at bd'
  refine ⟨_,rfl,x,_,_,_,rfl,rfl,qT_ hx,rfl,?_⟩
  refine ⟨_,rfl,TC,_,rfl,.inr (sqC _),rfl,rfl,_,rfl,ifF k2 ?_⟩
  refine ⟨_,rfl,rfl,_,rfl,ifF k4 ?_⟩
  refine ⟨_,rfl,rfl,_,rfl,ifF k5 ?_⟩
  refine ⟨_,rfl,rfl,_,rfl,ifF k6 ?_⟩
  refine ⟨_,rfl,TJ,_,rfl,.inr (sqJ _),rfl,rfl,_,rfl,ifF k3 ?_⟩
  refine ⟨_,rfl,x,_,_,_,rfl,rfl,qT_ hx,rfl,?_⟩
  try dsimp only [aE,aK,List.set]
  refine ⟨_,rfl,.inl ⟨_,rfl,k1,?_⟩⟩
  refine ⟨_,rfl,.inl ⟨_,rfl,Nat.le_trans nl (by decide),?_⟩⟩
  refine ⟨_,rfl,x,_,_,_,rfl,rfl,qT_ hx,rfl,vs,t,rfl,ht,wt,by omega,by omega,fun H1 s1 => ?_⟩
  exact ⟨_,_,rfl,rfl,by rw [g6]; omega,by rw [g6]; exact q _ s1⟩
end
structure RCls (K : PySem.W.Frag) (C : Addr) : Prop where
 cl : Cls K C
 nt : NoAttr K C "text"
 na : NoAttr K C "at"
structure Rd (H : Hp) (C x : Addr) (z : Str) (i : Nat) : Prop where
 ob : ∃ dx : Addr,H x = some (.ins C dx [("text",.str z),("at",.int (i : Int))])
def But (x : Addr) (H H' : Hp) : Prop := ∀ c u,c ≠ x -> H c = some u -> H' c = some u
theorem But.refl (x : Addr) (H : Hp) : But x H H:=fun _ _ _ h => h
theorem But.trans {x : Addr} {H H1 H2 : Hp} (h : But x H H1) (h' : But x H1 H2) : But x H H2:=fun c u n e => h' c u n (h c u n e)
theorem lW {x : Addr} {H H' : Hp} (h : Same H H') : But x H H' := fun c u _ e => h c u e
theorem Rd.same {H H' : Hp} {C x : Addr} {z : Str} {i : Nat} (h : Rd H C x z i) (s : Same H H') : Rd H' C x z i:=by
 obtain ⟨dx,e⟩:=h.ob
 exact ⟨dx,s _ _ e⟩
def Here (z : Str) (i : Nat) (p : Str) (r : List Nat) : Prop:=atT z i = p.cps.toList ++ r
theorem Here.le {z : Str} {i : Nat} {p : Str} {r : List Nat} (h : Here z i p r) (hi : i <= z.length) : i + p.length + r.length = z.length:=by
 have e:=congrArg List.length h
 rw [List.length_drop,List.length_append] at e
 have e1 : z.length = z.cps.toList.length:=rfl
 have e2 : p.length = p.cps.toList.length:=rfl
 omega
theorem Here.on {z : Str} {i : Nat} {p : Str} {r : List Nat} (h : Here z i p r) : atT z (i + p.length) = r:=by
 have e2 : p.length = p.cps.toList.length:=rfl
 show z.cps.toList.drop (i + p.length) = r
 rw [<- List.drop_drop,show z.cps.toList.drop i = _ from h,e2,List.drop_left]
theorem Here.app {z : Str} {i : Nat} {p q : Str} {r : List Nat} (h : Here z i (p ++ q) r) : Here z i p (q.cps.toList ++ r) /\ Here z (i + p.length) q r:=by
 have h1 : Here z i p (q.cps.toList ++ r):=by
  unfold Here at h ⊢
  rw [h,aI,List.append_assoc]
 exact ⟨h1,h1.on⟩
def gd (C : Addr) : Sp:=fun vs H Q _ => ∃ (x : Addr) (z p : Str) (i : Nat),vs = [.ref x,.str p] /\ Rd H C x z i /\ i <= z.length /\ p.length <= 1000 /\
 (p.cps.toList.isPrefixOf (atT z i) = false -> Q (.bl false) H) /\ (p.cps.toList.isPrefixOf (atT z i) = true -> ∀ H',Rd H' C x z (i + p.length) -> But x H H' -> Q (.bl true) H')
def kb (C : Addr) : Sp:=fun vs H Q _ => ∃ (x : Addr) (z p : Str) (i : Nat) (r : List Nat),vs = [.ref x,.str p] /\ Rd H C x z i /\ i <= z.length /\ p.length <= 1000 /\ Here z i p r /\ ∀ H',Rd H' C x z (i + p.length) -> But x H H' -> Q .non H'
def inR (a b c : Nat) : Bool:=decide (a <= c /\ c <= b)
def qy (C : Addr) : Sp:=fun vs H Q _ => ∃ (x : Addr) (z p : Str) (i a b : Nat) (r : List Nat),vs = [.ref x,.str (b9 [a]),.str (b9 [b])] /\ Rd H C x z i /\ i <= z.length /\ z.length <= 1000 /\ Here z i p r /\ (∀ c ∈ p.cps.toList,inR a b c = true) /\ (∀ c,r.head? = some c -> inR a b c = false) /\
 ∀ H',Rd H' C x z (i + p.length) -> But x H H' -> Q (.str p) H'
theorem oC {z : Str} {i : Nat} {p : Str} {r : List Nat} (h : Here z i p r) : p.cps.toList.isPrefixOf (atT z i) = true:=by
 rw [List.isPrefixOf_iff_prefix,show atT z i = _ from h]
 exact List.prefix_append ..
theorem le1 (a c : Nat) : (!decide (([c] : List Nat) < [a])) = decide (a <= c):=by
 by_cases h : a <= c
 ·rw [decide_eq_true h,decide_eq_false (by rw [List.cons_lt_cons_iff]; rintro (z | ⟨_,z⟩) <;> first | omega | exact absurd z (List.not_lt_nil _))]
  rfl
 ·rw [decide_eq_false h,decide_eq_true (by rw [List.cons_lt_cons_iff]; exact .inl (by omega))]
  rfl
section
variable {P : Program} {w : World} {K : PySem.W.Frag} {mg : Str -> Option Value} {base : Heap} {f : Addr} {fd : FuncData} {dV : Value} {C : Addr}
theorem rq : FnScope ["self","word"] ["self","word"] (ai ck):=⟨rfl,rfl,rfl,by decide +kernel,rfl,by decide +kernel,by decide +kernel⟩
theorem tU : FnScope ["self","word"] ["self","word"] (ai cD):=⟨rfl,rfl,rfl,by decide +kernel,rfl,by decide +kernel,by decide +kernel⟩
theorem sc_Reader_run : FnScope ["self","first","last","begin"] ["self","first","last"] (ai cW):=⟨rfl,rfl,rfl,by decide +kernel,rfl,by decide +kernel,by decide +kernel⟩
theorem C2 (F : FunD K "takes" "Reader.takes" ck dV f fd) (rc : RCls K C) (a9 : mg "len" = none) : FnOk P w K mg base CX0 1 f fd ["self","word"] (gd C):=by
 refine F.ok rq (fun vs H Q E h => ?_) (fun cdv A outer s H vs Q E hr h => ?_)
 ·obtain ⟨x,z,p,i,rfl,_⟩:=h
  rfl
 obtain ⟨x,z,p,i,rfl,⟨dx,hx⟩,hi,lp,q0,q1⟩:=h
 refine ⟨_,(aj (bc (dC (bX (eG PySem.F.plainAttrs_str PySem.F.slot_str_startswith PySem.F.type_str_startswith BJ (eP (pv 0) rfl) (aa (pv 1) (aa (eP (pv 0) rfl) ae))))) (ao (aG ox)) aH)
   (aj (tQ (pv 0) (ak bI (eP (pv 0) rfl) (aB cw (by rfl) a9 cc (aa (pv 1) ae))) rfl)
   (ao (aG ox)))),?_⟩
 have l1000 : p.length <= sizeLine:=Nat.le_trans lp (by decide)
 refine ⟨_,rfl,x,C,dx,_,_,rfl,hx,rc.cl,rc.nt,rfl,rfl,_,rfl,_,rfl,x,C,dx,_,_,rfl,hx,rc.cl,rc.na,rfl,z,p,i,rfl,rfl,hi,_,rfl,?_⟩
 by_cases c : p.cps.toList.isPrefixOf (atT z i) = true
 ·rw [c]
  refine b8 ?_
  refine ⟨_,rfl,x,C,dx,_,_,rfl,hx,rc.cl,rc.na,rfl,_,rfl,p,rfl,l1000,_,_,rfl,rfl,_,rfl,x,C,dx,_,rfl,hx,rc.cl,rc.na,(by show 2 < 1000; decide),?_⟩
  refine q1 c _ ⟨dx,?_⟩ fun c u n e => by rw [aw n]; exact e
  rw [af]
  show some (HO.ins C dx [("text",.str z),("at",.int ((i : Int) + (p.length : Int)))]) = some (HO.ins C dx [("text",.str z),("at",.int ((i + p.length : Nat) : Int))])
  rw [Int.natCast_add]
 ·have c' := Bool.eq_false_iff.mpr c
  rw [c']
  exact eO (q0 c')
theorem D8 (F : FunD K "need" "Reader.need" cD dV f fd) (aY : DefMe P w K mg base C "takes" 1 ["self","word"] (gd C)) : FnOk P w K mg base CX0 2 f fd ["self","word"] (kb C):=by
 refine F.ok tU (fun vs H Q E h => ?_) (fun cdv A outer s H vs Q E hr h => ?_)
 ·obtain ⟨x,z,p,i,r,rfl,_⟩:=h
  rfl
 obtain ⟨x,z,p,i,r,rfl,rd,hi,lp,hh,q⟩:=h
 refine ⟨_,(ao (bc (dC (bX (b6 aY hr (pv 0) (aa (pv 1) ae)))) (ao cg) aH)),?_⟩
 obtain ⟨dx,hx⟩:=rd.ob
 refine ⟨_,rfl,x,dx,_,rfl,hx,rfl,_,rfl,x,z,p,i,rfl,rd,hi,lp,fun h => ?_,fun _ H' rd' bt => ⟨_,rfl,b8 (q H' rd' bt)⟩⟩
 rw [oC hh] at h
 cases h
theorem Fe (F : FunD K "run" "Reader.run" cW dV f fd) (rc : RCls K C) (a9 : mg "len" = none) : FnOk P w K mg base CX0 1 f fd ["self","first","last"] (qy C):=by
 refine F.ok sc_Reader_run (fun vs H Q E h => ?_) (fun cdv A outer s H vs Q E hr h => ?_)
 ·obtain ⟨x,z,p,i,a,b,r,rfl,_⟩:=h
  rfl
 obtain ⟨x,z,p,i,a,b,r,rfl,⟨dx,hx⟩,hi,lz,hh,hin,hout,q⟩:=h
 refine ⟨_,(aj (aA (i:=3) sc_Reader_run.nd rfl (Or.inl rfl) (eP (pv 0) rfl))
   (aj (lF PassesOwn.never (PW.pt (nP (aF jb (eP (pv 0) rfl) (aB cw (by rfl) a9 cc (aa (eP (pv 0) rfl) ae)) (aM _)) (oE (tR lM lM (pv 1) (aV xk (eP (pv 0) rfl) (eP (pv 0) rfl) (fun _ _ => rfl)) (pv 2))))) (ao (tQ (pv 0) (ak bI (eP (pv 0) rfl) ag) rfl)))
   (ao (aG (zm Fv (eP (pv 0) rfl) (x9 (pv 3)) (x9 (eP (pv 0) rfl))))))),?_⟩
 have hle:=hh.le hi
 have lz' : z.length <= sizeLine:=Nat.le_trans lz (by decide)
 refine ⟨_,rfl,x,C,dx,_,_,rfl,hx,rc.cl,rc.na,rfl,?_⟩
 try dsimp only [aE,aK,List.set]
 refine gE (t:=qj _ _) (fun σ' H' => σ' = [some (.ref x),some (.str (b9 [a])),some (.str (b9 [b])),some (.int (i : Int))] /\ H' x = some (.ins C dx [("text",.str z),("at",.int ((i + p.length : Nat) : Int))]) /\ But x H H') ?_ (fun D' nxt => ?_)
 rotate_left
 ·refine oW (fun mm σ' H' => ∃ k : Nat,mm = p.length - k /\ k <= p.length /\ σ' = [some (.ref x),some (.str (b9 [a])),some (.str (b9 [b])),some (.int (i : Int))] /\ H' x = some (.ins C dx [("text",.str z),("at",.int ((i + k : Nat) : Int))]) /\ But x H H') ⟨_,0,rfl,Nat.zero_le _,rfl,hx,But.refl x H⟩ ?_
  rintro mm σ' H4 ⟨k,rfl,hk,rfl,hx4,bt⟩
  refine ⟨_,rfl,x,C,dx,_,_,rfl,hx4,rc.cl,rc.na,rfl,_,rfl,x,C,dx,_,_,rfl,hx4,rc.cl,rc.nt,rfl,z,rfl,lz',_,_,rfl,rfl,_,rfl,?_⟩
  have zk : ∀ c,(p.cps.toList ++ r)[k]? = some c -> atI z.cps.toList ((i + k : Nat) : Int) = some c:=fun c hc => by
   have e : z.cps.toList[i + k]? = some c:=by
    rw [<- hc,<- show atT z i = _ from hh,List.getElem?_drop]
   have hlt : i + k < z.cps.toList.length:=(gi_ e).1
   unfold atI ixN
   rw [if_pos (by omega),if_pos (by omega),Int.toNat_natCast]
   exact e
  have chk : ∀ (c : Nat) (Q : Bool -> Hp -> Prop),(p.cps.toList ++ r)[k]? = some c -> Q (inR a b c) H4 -> Dr (Au (fun x y H Q => ∃ i j,x = V.str i /\ y = V.str j /\ Q (V.bl (!decide (j.cps.toList < i.cps.toList))) H) (fun x y H Q => ∃ i j,x = V.str i /\ y = V.str j /\ Q (V.bl (!decide (j.cps.toList < i.cps.toList))) H) (rD 1) (tOp F6 (Fz K (rD 0) (Str.ofString "text")) (Fz K (rD 0) (Str.ofString "at"))) (rD 2)) [some (.ref x),some (.str (b9 [a])),some (.str (b9 [b])),some (.int (i : Int))] H4 Q:=fun c Q hc q => by
   refine ⟨_,rfl,_,rfl,x,C,dx,_,_,rfl,hx4,rc.cl,rc.nt,rfl,_,rfl,x,C,dx,_,_,rfl,hx4,rc.cl,rc.na,rfl,z,_,c,rfl,rfl,lz',zk c hc,_,_,rfl,rfl,_,rfl,?_⟩
   have e1:=le1 a c
   have e2:=le1 c b
   by_cases c1 : a <= c
   ·rw [show (!decide (([c] : List Nat) < (b9 [a]).cps.toList)) = true from e1.trans (decide_eq_true c1)]
    refine eO ⟨_,rfl,_,_,rfl,rfl,_,rfl,?_⟩
    rw [show (!decide ((b9 [b]).cps.toList < ([c] : List Nat))) = inR a b c from e2.trans (by unfold inR; exact decide_eq_decide.mpr ⟨fun h => ⟨c1,h⟩,fun h => h.2⟩)]
    exact q
   ·rw [show (!decide (([c] : List Nat) < (b9 [a]).cps.toList)) = false from e1.trans (decide_eq_false c1)]
    refine b8 ⟨_,rfl,?_⟩
    rw [show inR a b c = false from decide_eq_false fun h => c1 h.1] at q
    exact q
  have hfin : k = p.length -> D'.nx [some (.ref x),some (.str (b9 [a])),some (.str (b9 [b])),some (.int (i : Int))] H4:=fun e => nxt _ _ ⟨rfl,by rw [<- e]; exact hx4,bt⟩
  refine yQ (fun c0 => ?_) (fun c0 => ?_)
  ·have c0' := of_decide_eq_true c0
   have e2 : p.length = p.cps.toList.length:=rfl
   have hkl : k < (p.cps.toList ++ r).length:=by rw [List.length_append]; omega
   refine chk _ _ (List.getElem?_eq_getElem hkl) ?_
   by_cases hkp : k < p.length
   ·have hm : inR a b (p.cps.toList ++ r)[k] = true:=hin _ (by rw [List.getElem_append_left (by omega)]; exact List.getElem_mem _)
    rw [hm]
    refine eO ⟨fun σ' H' => ∃ m',m' < p.length - k /\ ∃ k : Nat,m' = p.length - k /\ k <= p.length /\ σ' = [some (.ref x),some (.str (b9 [a])),some (.str (b9 [b])),some (.int (i : Int))] /\ H' x = some (.ins C dx [("text",.str z),("at",.int ((i + k : Nat) : Int))]) /\ But x H H',fun _ _ h => h,?_⟩
    refine ⟨_,rfl,x,C,dx,_,_,rfl,hx4,rc.cl,rc.na,rfl,_,_,rfl,rfl,_,rfl,x,C,dx,_,rfl,hx4,rc.cl,rc.na,(by show 2 < 1000; decide),?_⟩
    refine ⟨p.length - (k + 1),by omega,k + 1,rfl,by omega,rfl,?_,fun c u n e => by rw [aw n]; exact bt c u n e⟩
    rw [af]
    rfl
   ·have ek : k = p.length:=by omega
    have hh' : r.head? = some (p.cps.toList ++ r)[k]:=by
     rw [List.getElem_append_right (by omega),List.head?_eq_getElem?,<- List.getElem?_eq_getElem]
     congr 1
     omega
    rw [hout _ hh']
    exact b8 (hfin ek)
  ·have c0' : ¬ ((i + k : Nat) : Int) < (z.length : Int):=fun h => c0 (decide_eq_true h)
   exact hfin (by omega)
 rintro σ' H4 ⟨rfl,hx4,bt⟩
 have e : b9 ((atT z i).take (i + p.length - i)) = p:=by
  rw [Nat.add_sub_cancel_left,show atT z i = _ from hh,show p.length = p.cps.toList.length from rfl,List.take_left]
  rfl
 refine ⟨_,rfl,x,C,dx,_,_,rfl,hx4,rc.cl,rc.nt,rfl,_,rfl,_,rfl,_,rfl,x,C,dx,_,_,rfl,hx4,rc.cl,rc.na,rfl,_,rfl,z,i,i + p.length,rfl,rfl,rfl,by omega,by omega,lz',?_⟩
 rw [e]
 exact q H4 ⟨dx,hx4⟩ bt
end
def zZ : List V:=[.str "and",.str "or",.str "not",.str "some",.str "all"]
def mL (a b : Nat) (n : Str) : Prop:=1 <= n.length /\ n.length <= 6 /\ ∀ c ∈ n.cps.toList,inR a b c = true
def dN (n : Str) : Prop:=mL 97 122 n /\ inV (.str n) zZ = false
def gn (r : Str) : Prop:=mL 65 90 r
def oV : Sp:=fun vs H Q _ => ∃ (n : Str) (a b : Nat),vs = [.str n,.str (b9 [a]),.str (b9 [b])] /\ mL a b n /\ b < 128 /\ ∀ H',Same H H' -> Q (.bl true) H'
def ua : Sp:=fun vs H Q _ => ∃ n : Str,vs = [.str n] /\ dN n /\ ∀ H',Same H H' -> Q (.bl true) H'
def ub : Sp:=fun vs H Q _ => ∃ n : Str,vs = [.str n] /\ gn n /\ ∀ H',Same H H' -> Q (.bl true) H'
theorem ia (K : PySem.W.Frag) : PySem.W.kitOne K (.type "str") (.type "str") = some true:=by with_unfolding_all rfl
theorem Av {a b : Nat} {n : Str} (h : mL a b n) (hb : b < 128) : n.cps.all (· < 128) = true:=by
 rw [Array.all_eq_true_iff_forall_mem]
 intro c hc
 have:=of_decide_eq_true (h.2.2 c (Array.mem_toList_iff.mpr hc))
 exact decide_eq_true (by omega)
def Off1 (a b : Nat) (r : List Nat) : Prop := ∀ c,r.head? = some c -> inR a b c = false
def oP (C : Addr) : Sp:=fun vs H Q _ => ∃ (x : Addr) (z n : Str) (i : Nat) (r : List Nat),vs = [.ref x] /\ Rd H C x z i /\ i <= z.length /\ z.length <= 1000 /\ Here z i n r /\ dN n /\ Off1 97 122 r /\ ∀ H',Rd H' C x z (i + n.length) -> But x H H' -> Q (.str n) H'
def oQ (C : Addr) : Sp:=fun vs H Q _ => ∃ (x : Addr) (z : Str) (n : Int) (i : Nat) (r : List Nat),vs = [.ref x] /\ Rd H C x z i /\ i <= z.length /\ z.length <= 1000 /\ Here z i (bH n) r /\ (0 <= n /\ n <= 999999) /\ Off1 48 57 r /\ ∀ H',Rd H' C x z (i + (bH n).length) -> But x H H' -> Q (.int n) H'
theorem AR {x : V} : [x,V.str (Str.ofString "a"),V.str (Str.ofString "z")] = [x,V.str (b9 [97]),V.str (b9 [122])]:=by
 rw [show Str.ofString "a" = b9 [97] from by decide +kernel,show Str.ofString "z" = b9 [122] from by decide +kernel]
theorem lK {x : V} : [x,V.str (Str.ofString "A"),V.str (Str.ofString "Z")] = [x,V.str (b9 [65]),V.str (b9 [90])]:=by
 rw [show Str.ofString "A" = b9 [65] from by decide +kernel,show Str.ofString "Z" = b9 [90] from by decide +kernel]
theorem xu {x : V} : [x,V.str (Str.ofString "0"),V.str (Str.ofString "9")] = [x,V.str (b9 [48]),V.str (b9 [57])]:=by
 rw [show Str.ofString "0" = b9 [48] from by decide +kernel,show Str.ofString "9" = b9 [57] from by decide +kernel]
theorem ic {n : Int} (h0 : 0 <= n) : 1 <= (bH n).length /\ ∀ c ∈ (bH n).cps.toList,inR 48 57 c = true:=by
 obtain ⟨m,rfl⟩:=Int.eq_ofNat_of_zero_le h0
 have e : (bH ((m : Nat) : Int)).cps.toList = (Nat.toDigits 10 m).map Char.toNat:=PySem.W.KIN.signs_num m
 constructor
 ·rw [rJ,e,lm_]
  exact (by first | exact PySem.P.toDigits_len_ge 10 m | exact PySem.toDigits_len_ge 10 m)
 ·intro c hc
  rw [e] at hc
  obtain ⟨ch,hch,ec⟩:=List.mem_map.mp hc
  have r:=PyProof.Rows.digit_range (Nat.isDigit_of_mem_toDigits (by decide) (by decide) hch)
  rw [<- ec]
  exact decide_eq_true r
section
variable {P : Program} {w : World} {K : PySem.W.Frag} {mg : Str -> Option Value} {base : Heap} {f : Addr} {fd : FuncData} {dV : Value} {C TW : Addr} {tk : Tok}
theorem vH : FnScope ["thing","first","last"] ["thing","first","last"] (ai cB):=⟨rfl,rfl,rfl,by decide +kernel,rfl,by decide +kernel,by decide +kernel⟩
theorem bk_is_text_of_0 : BlkScope ["thing","first","last"] (ai cB) ["letter","first","last"] [none,some 1,some 2] { kind:=ScopeKind.function,names:=[(".0",NameKind.local),("letter",NameKind.local),("first",NameKind.free),("last",NameKind.free)],isGenerator:=false,isCoroutine:=false,more:=[] }:=⟨rfl,by decide +kernel,by decide +kernel,by decide +kernel,by decide +kernel,rfl,by decide +kernel⟩
theorem Ak : FnScope ["thing"] ["thing"] (ai gi):=⟨rfl,rfl,rfl,by decide +kernel,rfl,by decide +kernel,by decide +kernel⟩
theorem tV : FnScope ["thing"] ["thing"] (ai cF):=⟨rfl,rfl,rfl,by decide +kernel,rfl,by decide +kernel,by decide +kernel⟩
theorem sc_Reader_name : FnScope ["self","letters"] ["self"] (ai cC):=⟨rfl,rfl,rfl,by decide +kernel,rfl,by decide +kernel,by decide +kernel⟩
theorem sc_Reader_number : FnScope ["self","digits"] ["self"] (ai bS):=⟨rfl,rfl,rfl,by decide +kernel,rfl,by decide +kernel,by decide +kernel⟩
theorem BS (F : FunD K "is_text_of" "is_text_of" cB dV f fd) (aL : mg "isinstance" = none) (bG : mg "str" = none) (a9 : mg "len" = none) (DF : mg "all" = none) (kZ : mg "MOST_LONG" = some (.int 6 tk)) : FnOk P w K mg base CX0 1 f fd ["thing","first","last"] oV:=by
 refine F.ok vH (fun vs H Q E h => ?_) (fun cdv A outer s H vs Q E hr h => ?_)
 ·obtain ⟨n,a,b,rfl,_⟩:=h
  rfl
 obtain ⟨n,a,b,rfl,ok,hb,q⟩:=h
 refine ⟨_,(aj (bc (PW.pt (wo (dC (bX (aB fv (by rfl) aL bL (aa (pv 0) (aa (ie (v:=.ty "str") rfl bG iC rfl) ae))))) (tS (dC (tR A0 A0 ag (aB cw (by rfl) a9 cc (aa (pv 0) ae)) (dk (v:=.int 6) rfl kZ ⟨_,rfl⟩)))))) (ao (aG ox)) aH)
   (ao (aG (aB (Ce rfl) (by rfl) DF EV (aa (oz rfl bk_is_text_of_0 (Fp (pv 0)) (fun _ _ _ _ => (aP (i:=0) bk_is_text_of_0.nd rfl (Or.inl rfl))) (fun _ _ _ _ => (C6 lM lM (pv 1) (pv 0) (pv 2)))) ae))))),?_⟩
 have l6 : n.length <= sizeLine:=Nat.le_trans ok.2.1 (by decide)
 have lo1:=ok.1
 have lo2:=ok.2.1
 refine ⟨_,rfl,_,_,_,_,rfl,TyOf.str _,ia K,_,rfl,b8 ?_⟩
 refine ⟨_,rfl,n,rfl,l6,_,_,rfl,rfl,_,rfl,?_⟩
 rw [decide_eq_true (show (1 : Int) <= (n.length : Int) by omega)]
 refine eO ⟨_,_,rfl,rfl,_,rfl,?_⟩
 rw [decide_eq_true (show (n.length : Int) <= 6 by omega)]
 refine b8 ?_
 refine ⟨_,rfl,n,rfl,Av ok hb,?_⟩
 refine Cg (z:=n) (fun D i ys H' => Same H H' /\ ys = (List.replicate i true).map V.bl) (fun D hD => ⟨ah hD _,rfl⟩) ?_ ?_
 ·rintro D i c ys H' Q' hD hc hy ⟨hs,rfl⟩ k'
  have hi:=(gi_ hc).1
  have e3 : n.length = n.cps.toList.length:=rfl
  have hr:=of_decide_eq_true (ok.2.2 c (mq_ hc))
  refine ⟨_,rfl,_,rfl,_,_,rfl,rfl,_,rfl,?_⟩
  rw [show (!decide ((b9 [c]).cps.toList < (b9 [a]).cps.toList)) = true from (le1 a c).trans (decide_eq_true hr.1)]
  refine eO ⟨_,rfl,_,_,rfl,rfl,?_⟩
  rw [show (!decide ((b9 [b]).cps.toList < (b9 [c]).cps.toList)) = true from (le1 c b).trans (decide_eq_true hr.2)]
  refine k' _ _ hy (cH (by rw [lm_,List.length_replicate]; omega)) ⟨aW hs hD,?_⟩
  rw [List.replicate_succ',List.map_append]
  rfl
 ·rintro L ys H' hL hy ⟨hs,rfl⟩
  refine ⟨L,_,rfl,qL_ hy,?_⟩
  rw [show (List.replicate n.length true).all id = true from List.all_eq_true.mpr fun x hx => List.eq_of_mem_replicate hx]
  exact q H' hs
theorem BM (F : FunD K "is_name" "is_name" gi dV f fd) (cU : DefOk P w K mg base "is_text_of" 1 ["thing","first","last"] [] oV) (xh : mg "WORDS" = some (.ref TW)) (sqW : ∀ H,SqT K H TW zZ) : FnOk P w K mg base CX0 2 f fd ["thing"] ua:=by
 refine F.ok Ak (fun vs H Q E h => ?_) (fun cdv A outer s H vs Q E hr h => ?_)
 ·obtain ⟨n,rfl,_⟩:=h
  rfl
 obtain ⟨n,rfl,ok,q⟩:=h
 refine ⟨_,(ao (aG (tF (aU cU hr (aa (pv 0) (aa ar (aa ar ae)))) (xW (oy xT (pv 0) (dk (v:=.ref _) rfl xh rfl) (by with_unfolding_all rfl)))))),?_⟩
 refine ⟨_,rfl,n,97,122,AR,ok.1,by decide,fun H' s' => ⟨_,rfl,eO ?_⟩⟩
 refine ⟨_,rfl,TW,_,rfl,.inr (sqW _),rfl,rfl,?_⟩
 rw [ok.2]
 exact q H' s'
theorem BN (F : FunD K "is_row_name" "is_row_name" cF dV f fd) (cU : DefOk P w K mg base "is_text_of" 1 ["thing","first","last"] [] oV) : FnOk P w K mg base CX0 2 f fd ["thing"] ub:=by
 refine F.ok tV (fun vs H Q E h => ?_) (fun cdv A outer s H vs Q E hr h => ?_)
 ·obtain ⟨n,rfl,_⟩:=h
  rfl
 obtain ⟨n,rfl,ok,q⟩:=h
 refine ⟨_,(ao (aG (aU cU hr (aa (pv 0) (aa ar (aa ar ae)))))),?_⟩
 exact ⟨_,rfl,n,65,90,lK,ok,by decide,q⟩
theorem CW (F : FunD K "name" "Reader.name" cC dV f fd) (cM : DefMe P w K mg base C "run" 1 ["self","first","last"] (qy C)) (oZ : DefOk P w K mg base "is_name" 2 ["thing"] [] ua) : FnOk P w K mg base CX0 3 f fd ["self"] (oP C):=by
 refine F.ok sc_Reader_name (fun vs H Q E h => ?_) (fun cdv A outer s H vs Q E hr h => ?_)
 ·obtain ⟨x,z,n,i,r,rfl,_⟩:=h
  rfl
 obtain ⟨x,z,n,i,r,rfl,rd,hi,lz,hh,ok,of,q⟩:=h
 refine ⟨_,(aj (aA (i:=1) sc_Reader_name.nd rfl (Or.inl rfl) (b6 cM hr (pv 0) (aa ar (aa ar ae))))
   (aj (bc (dC (bX (aU oZ hr (aa (pv 1) ae)))) (ao cg) aH)
   (ao (aG (pv 1))))),?_⟩
 obtain ⟨dx,hx⟩:=rd.ob
 refine ⟨_,rfl,x,dx,_,rfl,hx,rfl,x,z,n,i,97,122,r,AR,rd,hi,lz,hh,ok.1.2.2,of,fun H1 rd1 bt1 => ?_⟩
 try dsimp only [aE,aK,List.set]
 refine ⟨_,rfl,n,rfl,ok,fun H2 s2 => ⟨_,rfl,b8 ?_⟩⟩
 exact ⟨_,rfl,q H2 (rd1.same s2) (bt1.trans (lW s2))⟩
theorem BP (F : FunD K "number" "Reader.number" bS dV f fd) (cM : DefMe P w K mg base C "run" 1 ["self","first","last"] (qy C)) (iR : mg "MOST_NUMBER" = some (.int 999999 tk)) (bG : mg "str" = none) (fS : mg "int" = none) : FnOk P w K mg base CX0 2 f fd ["self"] (oQ C):=by
 refine F.ok sc_Reader_number (fun vs H Q E h => ?_) (fun cdv A outer s H vs Q E hr h => ?_)
 ·obtain ⟨x,z,n,i,r,rfl,_⟩:=h
  rfl
 obtain ⟨x,z,n,i,r,rfl,rd,hi,lz,hh,⟨n0,n1⟩,of,q⟩:=h
 refine ⟨_,(aj (aA (i:=1) sc_Reader_number.nd rfl (Or.inl rfl) (b6 cM hr (pv 0) (aa ar (aa ar ae))))
   (aj (bc (PW.pt (wo (aF cQ (pv 1) ar (aM _)) (tS (aF C3 (bo cV (by rfl) bG iC (aa (bo pk (by rfl) fS pf (aa (pv 1) ae)) ae)) (pv 1) (aM _))))) (ao cg) aH)
   (aj (bc (aF wj (bo pk (by rfl) fS pf (aa (pv 1) ae)) (dk (v:=.int 999999) rfl iR ⟨_,rfl⟩) (aM _)) (ao cg) aH)
   (ao (aG (bo pk (by rfl) fS pf (aa (pv 1) ae))))))),?_⟩
 obtain ⟨dx,hx⟩:=rd.ob
 have nd:=ic n0
 have nl:=gR n0 (show n < 10000000 by omega)
 refine ⟨_,rfl,x,dx,_,rfl,hx,rfl,x,z,bH n,i,48,57,r,xu,rd,hi,lz,hh,nd.2,of,fun H1 rd1 bt1 => ?_⟩
 try dsimp only [aE,aK,List.set]
 have ne : ¬ V.str (bH n) = V.str (Str.ofString ""):=fun h => by
  have h' := V_str.mp h
  have:=nd.1
  rw [h'] at this
  exact absurd this (by decide)
 refine ⟨_,rfl,rfl,_,rfl,?_⟩
 rw [decide_eq_false ne]
 refine b8 ⟨_,rfl,n,rfl,n0,by omega,n,rfl,nl.2,_,rfl,rfl,_,rfl,?_⟩
 rw [show decide (V.str (Str.ofString (toString n)) = V.str (bH n)) = true from decide_eq_true rfl]
 refine b8 ⟨_,rfl,n,rfl,n0,by omega,_,_,rfl,rfl,_,rfl,?_⟩
 rw [decide_eq_false (show ¬ (999999 : Int) < n by omega)]
 refine b8 ⟨_,rfl,n,rfl,n0,by omega,?_⟩
 exact q H1 rd1 bt1
end
def o4 (p : Prt) : Prop:=(p.2 = ("" : Str) /\ 0 <= p.1 /\ p.1 <= 999999) \/ (dN p.2 /\ 1 <= p.1 /\ p.1 <= 20)
def zH (r : List Nat) : Prop := ∀ c,r.head? = some c -> inR 48 57 c = false /\ inR 97 122 c = false /\ c ≠ 42
def yt (C : Addr) : Sp:=fun vs H Q _ => ∃ (x : Addr) (z : Str) (p : Prt) (i : Nat) (r : List Nat),vs = [.ref x] /\ Rd H C x z i /\ i <= z.length /\ z.length <= 1000 /\ Here z i (aO p) r /\ o4 p /\ zH r /\
 ∀ (T : Addr) (H' : Hp),Rd H' C x z (i + (aO p).length) -> But x H H' -> ir H' T p -> Q (.ref T) H'
theorem rK {n : Str} {a b : Nat} (h : mL a b n) (r : List Nat) : ∃ c,(n.cps.toList ++ r).head? = some c /\ inR a b c = true:=by
 cases e : n.cps.toList with
 | nil =>
  have h1:=h.1
  rw [rJ,e] at h1
  exact absurd h1 (by decide)
 | cons c l => exact ⟨c,rfl,h.2.2 c (by rw [e]; exact List.mem_cons_self)⟩
theorem CP {c : Nat} (h : inR 97 122 c = true) : inR 48 57 c = false /\ inR 65 90 c = false:=by
 have:=of_decide_eq_true h
 exact ⟨decide_eq_false (by omega),decide_eq_false (by omega)⟩
theorem nh (z : Str) (i : Nat) : Here z i (Str.ofString "") (atT z i):=by
 unfold Here
 rw [show (Str.ofString "").cps.toList = [] from by decide +kernel,List.nil_append]
theorem uh : (Str.ofString "*").cps.toList = [42]:=by decide +kernel
section
variable {P : Program} {w : World} {K : PySem.W.Frag} {mg : Str -> Option Value} {base : Heap} {f : Addr} {fd : FuncData} {dV : Value} {C TW : Addr} {tk : Tok}
theorem sc_Reader_part : FnScope ["self","begin","number"] ["self"] (ai cE):=⟨rfl,rfl,rfl,by decide +kernel,rfl,by decide +kernel,by decide +kernel⟩
theorem sc_Reader_added : FnScope ["self","parts"] ["self"] (ai cj):=⟨rfl,rfl,rfl,by decide +kernel,rfl,by decide +kernel,by decide +kernel⟩
theorem CY (F : FunD K "part" "Reader.part" cE dV f fd) (rc : RCls K C) (cM : DefMe P w K mg base C "run" 1 ["self","first","last"] (qy C)) (aY : DefMe P w K mg base C "takes" 1 ["self","word"] (gd C)) (fU : DefMe P w K mg base C "name" 3 ["self"] (oP C)) (gf : DefMe P w K mg base C "number" 2 ["self"] (oQ C)) (iQ : mg "MOST_FACTOR" = some (.int 20 tk)) : FnOk P w K mg base CX0 4 f fd ["self"] (yt C):=by
 refine F.ok sc_Reader_part (fun vs H Q E h => ?_) (fun cdv A outer s H vs Q E hr h => ?_)
 ·obtain ⟨x,z,p,i,r,rfl,_⟩:=h
  rfl
 obtain ⟨x,z,p,i,r,rfl,rd,hi,lz,hh,ok,fo,q⟩:=h
 refine ⟨_,(aj (aA (i:=1) sc_Reader_part.nd rfl (Or.inl rfl) (eP (pv 0) rfl))
   (aj (bc (aF cQ (b6 cM hr (pv 0) (aa ar (aa ar ae))) ar (aM _)) (ao (aG (a8 (aa ag (aa (gS fU hr (pv 0)) ae))))) aH)
   (aj (tQ (pv 0) (pv 1) rfl)
   (aj (aA (i:=2) sc_Reader_part.nd rfl (Or.inl rfl) (gS gf hr (pv 0)))
   (aj (bc (dC (bX (b6 aY hr (pv 0) (aa ar ae)))) (ao (aG (a8 (aa (pv 2) (aa ar ae))))) aH)
   (aj (bc (dC (tR A0 A0 ag (pv 2) (dk (v:=.int 20) rfl iQ ⟨_,rfl⟩))) (ao cg) aH)
   (ao (aG (a8 (aa (pv 2) (aa (gS fU hr (pv 0)) ae))))))))))),?_⟩
 obtain ⟨dx,hx⟩:=rd.ob
 refine ⟨_,rfl,x,C,dx,_,_,rfl,hx,rc.cl,rc.na,rfl,?_⟩
 try dsimp only [aE,aK,List.set]
 by_cases cA : ¬ p.2 = ("" : Str) /\ p.1 = 1
 ·have en : aO p = p.2:=(if_neg cA.1).trans (if_pos cA.2)
  rw [en] at hh q
  have ok2 : dN p.2:=by
   rcases ok with o | o
   ·exact absurd o.1 cA.1
   ·exact o.1
  obtain ⟨c,hc,hcr⟩:=rK ok2.1 r
  refine ⟨_,rfl,x,dx,_,rfl,hx,rfl,x,z,Str.ofString "",i,48,57,atT z i,xu,rd,hi,lz,nh z i,?_,?_,fun H1 rd1 bt1 => ?_⟩
  ·intro c hc
   rw [show (Str.ofString "").cps.toList = [] from by decide +kernel] at hc
   cases hc
  ·intro c' hc'
   rw [show atT z i = _ from hh,hc] at hc'
   cases hc'
   exact (CP hcr).1
  refine ⟨rfl,_,rfl,?_⟩
  rw [decide_eq_true rfl]
  refine eO ?_
  rw [show (Str.ofString "").length = 0 from by decide,Nat.add_zero] at rd1
  obtain ⟨dx1,hx1⟩:=rd1.ob
  refine ⟨_,rfl,x,dx1,_,rfl,hx1,rfl,x,z,p.2,i,r,rfl,rd1,hi,lz,hh,ok2,fun c hc => (fo c hc).2.1,fun H2 rd2 bt2 => ⟨(by show 2 <= sizeLine; decide),fun T hT => ?_⟩⟩
  have s3:=ah hT (HO.tup [V.int 1,V.str p.2])
  refine q T _ (rd2.same s3) ((bt1.trans bt2).trans (lW s3)) ?_
  show upd H2 T _ T = some (.tup [.int p.1,.str p.2])
  rw [af,cA.2]
 ·have n01 : 0 <= p.1 /\ p.1 <= 999999:=by
   rcases ok with o | o
   ·exact o.2
   ·omega
  obtain ⟨R,hN,hR,hl⟩ : ∃ R,Here z i (bH p.1) R /\ (p.2 = ("" : Str) -> R = r) /\ (p.2 ≠ ("" : Str) -> R = 42 :: (p.2.cps.toList ++ r)):=by
   by_cases c2 : p.2 = ("" : Str)
   ·refine ⟨r,?_,fun _ => rfl,fun h => absurd c2 h⟩
    rw [show aO p = bH p.1 from if_pos c2] at hh
    exact hh
   ·have c1 : ¬ p.1 = 1:=fun h => cA ⟨c2,h⟩
    rw [show aO p = bH p.1 ++ ("*" : Str) ++ p.2 from (if_neg c2).trans (if_neg c1)] at hh
    refine ⟨42 :: (p.2.cps.toList ++ r),?_,fun h => absurd h c2,fun _ => rfl⟩
    have h1:=hh.app.1.app.1
    rw [show (("*" : Str)).cps.toList = [42] from uh] at h1
    exact h1
  have of : Off1 48 57 R:=fun c hc => by
   by_cases c2 : p.2 = ("" : Str)
   ·rw [hR c2] at hc
    exact (fo c hc).1
   ·rw [hl c2] at hc
    cases hc
    decide
  have nd:=ic n01.1
  refine ⟨_,rfl,x,dx,_,rfl,hx,rfl,x,z,bH p.1,i,48,57,R,xu,rd,hi,lz,hN,nd.2,of,fun H1 rd1 bt1 => ?_⟩
  have ne : ¬ V.str (bH p.1) = V.str (Str.ofString ""):=fun h => by
   have h' := V_str.mp h
   have:=nd.1
   rw [h'] at this
   exact absurd this (by decide)
  refine ⟨rfl,_,rfl,?_⟩
  rw [decide_eq_false ne]
  refine b8 ?_
  obtain ⟨dx1,hx1⟩:=rd1.ob
  refine ⟨_,rfl,_,rfl,x,C,dx1,_,rfl,hx1,rc.cl,rc.na,(by show 2 < 1000; decide),?_⟩
  have rd2 : Rd (upd H1 x (.ins C dx1 (jd (Str.ofString "at") (.int (i : Int)) [("text",.str z),("at",.int ((i + (bH p.1).length : Nat) : Int))]))) C x z i:=⟨dx1,by rw [af]; rfl⟩
  have bt2 : But x H1 (upd H1 x (.ins C dx1 (jd (Str.ofString "at") (.int (i : Int)) [("text",.str z),("at",.int ((i + (bH p.1).length : Nat) : Int))]))):=fun c u n e => by rw [aw n]; exact e
  obtain ⟨H2,e2⟩ : ∃ H2,upd H1 x (.ins C dx1 (jd (Str.ofString "at") (.int (i : Int)) [("text",.str z),("at",.int ((i + (bH p.1).length : Nat) : Int))])) = H2:=⟨_,rfl⟩
  rw [e2] at rd2 bt2
  show zE _ _ _ _ (upd H1 x (.ins C dx1 (jd (Str.ofString "at") (.int (i : Int)) [("text",.str z),("at",.int ((i + (bH p.1).length : Nat) : Int))])))
  rw [e2]
  obtain ⟨dx2,hx2⟩:=rd2.ob
  refine ⟨_,rfl,x,dx2,_,rfl,hx2,rfl,x,z,p.1,i,R,rfl,rd2,hi,lz,hN,n01,of,fun H3 rd3 bt3 => ?_⟩
  try dsimp only [aE,aK,List.set]
  have bt03:=bt1.trans (bt2.trans bt3)
  have hle:=hN.le hi
  obtain ⟨dx3,hx3⟩:=rd3.ob
  have e42 : (Str.ofString "*").length = 1:=by decide
  by_cases c2 : p.2 = ("" : Str)
  ·have hpre : (Str.ofString "*").cps.toList.isPrefixOf (atT z (i + (bH p.1).length)) = false:=by
    rw [hN.on,hR c2,uh]
    cases r with
    | nil => rfl
    | cons c l =>
     have:=(fo c rfl).2.2
     show ((42 == c) && _) = false
     rw [show (42 == c) = false from by simpa using fun h => this h.symm]
     rfl
   refine ⟨_,rfl,x,dx3,_,rfl,hx3,rfl,x,z,Str.ofString "*",_,rfl,rd3,by omega,by rw [e42]; decide,fun _ => ⟨_,rfl,eO ?_⟩,fun h => by rw [hpre] at h; cases h⟩
   refine ⟨_,rfl,(by show 2 <= sizeLine; decide),fun T hT => ?_⟩
   have s4:=ah hT (HO.tup [V.int p.1,V.str (Str.ofString "")])
   have ep : aO p = bH p.1:=if_pos c2
   rw [ep] at q
   refine q T _ (rd3.same s4) (bt03.trans (lW s4)) ?_
   show upd H3 T _ T = some (.tup [.int p.1,.str p.2])
   rw [af,c2]
  ·have c1 : ¬ p.1 = 1:=fun h => cA ⟨c2,h⟩
   have okn : dN p.2 /\ 1 <= p.1 /\ p.1 <= 20:=by
    rcases ok with o | o
    ·exact absurd o.1 c2
    ·exact o
   have hpre : (Str.ofString "*").cps.toList.isPrefixOf (atT z (i + (bH p.1).length)) = true:=by
    rw [hN.on,hl c2,uh]
    rfl
   refine ⟨_,rfl,x,dx3,_,rfl,hx3,rfl,x,z,Str.ofString "*",_,rfl,rd3,by omega,by rw [e42]; decide,fun h => by (rw [hpre] at h; cases h),fun _ H4 rd4 bt4 => ⟨_,rfl,b8 ?_⟩⟩
   refine ⟨_,rfl,_,_,rfl,rfl,_,rfl,?_⟩
   rw [decide_eq_true (show (2 : Int) <= p.1 by omega)]
   refine eO ⟨_,_,rfl,rfl,_,rfl,?_⟩
   rw [decide_eq_true (show p.1 <= (20 : Int) from okn.2.2)]
   refine b8 ?_
   have ep : aO p = bH p.1 ++ ("*" : Str) ++ p.2:=(if_neg c2).trans (if_neg c1)
   rw [ep] at hh q
   have hh2 : Here z (i + (bH p.1).length + (Str.ofString "*").length) p.2 r:=by
    have h2:=hh.app.2
    rw [len_app,<- Nat.add_assoc] at h2
    exact h2
   rw [len_app,len_app,<- Nat.add_assoc,<- Nat.add_assoc] at q
   have hle2:=hh.le hi
   rw [len_app,len_app] at hle2
   obtain ⟨dx4,hx4⟩:=rd4.ob
   refine ⟨_,rfl,_,rfl,x,dx4,_,rfl,hx4,rfl,x,z,p.2,_,r,rfl,rd4,(by show i + (bH p.1).length + (("*" : Str)).length <= z.length; omega),lz,hh2,okn.1,fun c hc => (fo c hc).2.1,fun H5 rd5 bt5 => ⟨(by show 2 <= sizeLine; decide),fun T hT => ?_⟩⟩
   have s6:=ah hT (HO.tup [V.int p.1,V.str p.2])
   exact q T _ (rd5.same s6) (bt03.trans (bt4.trans (bt5.trans (lW s6)))) af
end
def jh : List Prt -> Str
 | [] => ""
 | q :: qs => (" + " : Str) ++ (aO q ++ jh qs)
theorem Bh (a : Str) : a ++ ("" : Str) = a:=str_inj (by rw [aI]; show _ ++ (Str.ofString "").cps.toList = _; rw [show (Str.ofString "").cps.toList = [] from by decide +kernel,List.append_nil])
theorem lQ : ∀ (p : Prt) (qs : List Prt),bu (p :: qs) = aO p ++ jh qs
 | p,[] => by
  unfold bu Txt.join
  rw [StrLaws.glued_eq_join]
  exact (Bh (aO p)).symm
 | p,q :: qs => by
  have ih:=lQ q qs
  unfold bu Txt.join at ih ⊢
  rw [StrLaws.glued_eq_join] at ih ⊢
  show aO p ++ (" + " : Str) ++ Str.join (" + " : Str) ((q :: qs).map aO) = _
  rw [ih,Str.append_assoc]
  rfl
def c9 (ps : List Prt) : Prop:=ps ≠ [] /\ ps.length <= 8 /\ ∀ p ∈ ps,o4 p
def zI (r : List Nat) : Prop:=zH r /\ (Str.ofString " + ").cps.toList.isPrefixOf r = false
theorem oA : (Str.ofString " + ").cps.toList = [32,43,32]:=by decide +kernel
theorem sE {qs : List Prt} {r : List Nat} (h : zH r) : zH ((jh qs).cps.toList ++ r):=by
 cases qs with
 | nil =>
  show zH ((Str.ofString "").cps.toList ++ r)
  rw [show (Str.ofString "").cps.toList = [] from by decide +kernel]
  exact h
 | cons q qs =>
  intro c hc
  have e : (jh (q :: qs)).cps.toList = [32,43,32] ++ (aO q ++ jh qs).cps.toList:=by
   show ((Str.ofString " + ") ++ (aO q ++ jh qs)).cps.toList = _
   rw [aI,oA]
  rw [e] at hc
  cases hc
  decide
theorem tkB {H H' : Hp} {C x : Addr} {z : Str} {i : Nat} (rd : Rd H C x z i) (bt : But x H H') : eX H H' := fun b xs e => bt b _ (fun h => by
 obtain ⟨dx,hx⟩:=rd.ob
 rw [h,hx] at e
 cases e) e
def rO (C : Addr) : Sp:=fun vs H Q _ => ∃ (x : Addr) (z : Str) (ps : List Prt) (i : Nat) (r : List Nat),vs = [.ref x] /\ Rd H C x z i /\ i <= z.length /\ z.length <= 1000 /\ Here z i (bu ps) r /\ c9 ps /\ zI r /\
 ∀ (v : V) (H' : Hp),Rd H' C x z (i + (bu ps).length) -> But x H H' -> SumAt H' v ps -> Q v H'
theorem tE {R : Addr -> Prt -> Prop} : ∀ {as : List Addr} {ps : List Prt} {a : Addr} {p : Prt},Paired R as ps -> R a p -> Paired R (as ++ [a]) (ps ++ [p])
 | _,_,_,_,.nil,h => .cons h .nil
 | _,_,_,_,.cons q t,h => .cons q (tE t h)
section
variable {P : Program} {w : World} {K : PySem.W.Frag} {mg : Str -> Option Value} {base : Heap} {f : Addr} {fd : FuncData} {dV : Value} {C TW : Addr} {tk : Tok}
theorem CQ (F : FunD K "added" "Reader.added" cj dV f fd) (aY : DefMe P w K mg base C "takes" 1 ["self","word"] (gd C)) (rE : DefMe P w K mg base C "part" 4 ["self"] (yt C)) (jQ : mg "MOST_PARTS" = some (.int 8 tk)) (a9 : mg "len" = none) (c6 : mg "tuple" = none) : FnOk P w K mg base CX0 5 f fd ["self"] (rO C):=by
 refine F.ok sc_Reader_added (fun vs H Q E h => ?_) (fun cdv A outer s H vs Q E hr h => ?_)
 ·obtain ⟨x,z,ps,i,r,rfl,_⟩:=h
  rfl
 obtain ⟨x,z,ps,i,r,rfl,rd,hi,lz,hh,⟨ne,l8,pok⟩,fo,q⟩:=h
 refine ⟨_,(aj (aA (i:=1) sc_Reader_added.nd rfl (Or.inl rfl) (cR (aa (gS rE hr (pv 0)) ae)))
   (aj (lF PassesOwn.never (bX (b6 aY hr (pv 0) (aa ar ae))) (ao (bC (eG PySem.F.plainAttrs_list PySem.F.slot_list_append PySem.F.type_list_append bh (pv 1) (aa (gS rE hr (pv 0)) ae)))))
   (aj (bc (aF wj (aB aX (by rfl) a9 cc (aa (pv 1) ae)) (dk (v:=.int 8) rfl jQ ⟨_,rfl⟩) (aM _)) (ao cg) aH)
   (ao (aG (bo my (by rfl) c6 r8 (aa (pv 1) ae))))))),?_⟩
 obtain ⟨dx,hx⟩:=rd.ob
 cases ps with
 | nil => exact absurd rfl ne
 | cons p0 qs0 =>
 have hh0:=hh
 rw [lQ] at hh0
 refine ⟨_,rfl,x,dx,_,rfl,hx,rfl,x,z,p0,i,_,rfl,rd,hi,lz,hh0.app.1,pok p0 List.mem_cons_self,sE fo.1,fun T H1 rd1 bt1 hT => ⟨(by show 1 <= sizeLine; decide),fun L hL => ?_⟩⟩
 try dsimp only [aE,aK,List.set]
 have sL:=ah hL (HO.lst [V.ref T])
 have hend:=hh.le hi
 have fL : ∀ c u,c ≠ x -> H c = some u -> c ≠ L:=fun c u n e h => by
  have:=bt1 c u n e
  rw [h,hL] at this
  cases this
 refine gE (t:=qj _ _) (fun σ' H' => ∃ as : List Addr,σ' = [some (.ref x),some (.ref L)] /\ H' L = some (.lst (as.map V.ref)) /\ Paired (ir H') as (p0 :: qs0) /\ Rd H' C x z (i + (bu (p0 :: qs0)).length) /\ But x H H') ?_ (fun D' nxt => ?_)
 rotate_left
 ·refine oW (fun mm σ' H' => ∃ (as : List Addr) (k j : Nat),mm = qs0.length - k /\ k <= qs0.length /\ σ' = [some (.ref x),some (.ref L)] /\ H' L = some (.lst (as.map V.ref)) /\ Paired (ir H') as (p0 :: qs0.take k) /\ Rd H' C x z j /\ j <= z.length /\ Here z j (jh (qs0.drop k)) r /\ But x H H') ⟨_,[T],0,i + (aO p0).length,rfl,Nat.zero_le _,rfl,af,.cons (sL _ _ hT) .nil,rd1.same sL,?_,hh0.app.2,bt1.trans (lW sL)⟩ ?_
  ·rw [lQ,len_app] at hend
   omega
  rintro mm σ' H4 ⟨as,k,j,rfl,hk,rfl,hL4,PA4,rd4,hj,hj4,bt4⟩
  have las : as.length = (p0 :: qs0.take k).length:=Paired.length PA4
  rw [List.length_cons,List.length_take] at las
  obtain ⟨dx4,hx4⟩:=rd4.ob
  have nxL : L ≠ x:=wg hL4 hx4 (by intro h; cases h)
  have l9 : qs0.length + 1 <= 8:=l8
  have p3 : (Str.ofString " + ").length = 3:=by decide
  by_cases c : k < qs0.length
  ·have ed : qs0.drop k = qs0[k] :: qs0.drop (k + 1):=List.drop_eq_getElem_cons c
   rw [ed] at hj4
   have h1 : Here z j (Str.ofString " + ") ((aO qs0[k] ++ jh (qs0.drop (k + 1))).cps.toList ++ r):=(Here.app (p:=Str.ofString " + ") hj4).1
   have h2 : Here z (j + (Str.ofString " + ").length) (aO qs0[k] ++ jh (qs0.drop (k + 1))) r:=(Here.app (p:=Str.ofString " + ") hj4).2
   have e2:=h1.le hj
   refine ⟨_,rfl,x,dx4,_,rfl,hx4,rfl,x,z,Str.ofString " + ",j,rfl,rd4,hj,by rw [p3]; decide,fun h => by (rw [oC h1] at h; cases h),fun _ H5 rd5 bt5 => ⟨_,rfl,eO ?_⟩⟩
   refine ⟨fun σ' H' => ∃ m',m' < qs0.length - k /\ ∃ (as : List Addr) (k j : Nat),m' = qs0.length - k /\ k <= qs0.length /\ σ' = [some (.ref x),some (.ref L)] /\ H' L = some (.lst (as.map V.ref)) /\ Paired (ir H') as (p0 :: qs0.take k) /\ Rd H' C x z j /\ j <= z.length /\ Here z j (jh (qs0.drop k)) r /\ But x H H',fun _ _ h => h,?_⟩
   have hL5:=bt5 L _ nxL hL4
   obtain ⟨dx5,hx5⟩:=rd5.ob
   have h3:=h2.app
   have e3:=h2.le (by omega)
   rw [len_app] at e3
   refine ⟨_,rfl,.inl ⟨rfl,_,qL_ hL5⟩,_,rfl,x,dx5,_,rfl,hx5,rfl,x,z,qs0[k],_,_,rfl,rd5,by omega,lz,h3.1,pok _ (List.mem_cons_of_mem _ (List.getElem_mem _)),sE fo.1,fun T2 H6 rd6 bt6 hT6 => ?_⟩
   have hL6:=bt6 L _ nxL hL5
   refine ⟨L,_,_,rfl,rfl,hL6,Nat.le_trans (show _ <= 100 by rw [lm_]; omega) (by decide),?_⟩
   have tk6 : eX H4 H6:=fun b xs e => tkB rd5 bt6 b xs (tkB rd4 bt5 b xs e)
   have tk7 : eX H6 (upd H6 L (.lst (as.map V.ref ++ [.ref T2]))):=fun b xs e => by rw [aw (wg e hL6 (by intro h; cases h))]; exact e
   refine ⟨qs0.length - (k + 1),by omega,as ++ [T2],k + 1,_,rfl,c,rfl,by rw [af,List.map_append]; rfl,?_,?_,by omega,h3.2,fun c u n e => by rw [aw (fL c u n e)]; exact bt6 c u n (bt5 c u n (bt4 c u n e))⟩
   ·rw [List.take_add_one,List.getElem?_eq_getElem c]
    exact tE (Paired.mapP PA4 fun _ _ e => tk7 _ _ (tk6 _ _ e)) (tk7 _ _ hT6)
   ·obtain ⟨dx6,hx6⟩:=rd6.ob
    exact ⟨dx6,by rw [aw (Ne.symm nxL)]; exact hx6⟩
  ·have ek : k = qs0.length:=by omega
   rw [ek,List.drop_length] at hj4
   have hj5 : atT z j = r:=by
    have : atT z j = (Str.ofString "").cps.toList ++ r:=hj4
    rw [this,show (Str.ofString "").cps.toList = [] from by decide +kernel]
    rfl
   have e2:=Here.le hj4 hj
   have e3 : (jh ([] : List Prt)).length = 0:=by decide
   refine ⟨_,rfl,x,dx4,_,rfl,hx4,rfl,x,z,Str.ofString " + ",j,rfl,rd4,hj,by rw [p3]; decide,fun _ => ⟨_,rfl,b8 ?_⟩,fun h => by (rw [hj5,fo.2] at h; cases h)⟩
   rw [ek,List.take_length] at PA4
   refine nxt _ _ ⟨as,rfl,hL4,PA4,?_,bt4⟩
   rw [show i + (bu (p0 :: qs0)).length = j by omega]
   exact rd4
 rintro σ' H4 ⟨as,rfl,hL4,PA4,rd4,bt4⟩
 have las : as.length = (p0 :: qs0).length:=Paired.length PA4
 refine ⟨_,rfl,L,_,rfl,.inl (qL_ hL4),_,_,rfl,rfl,_,rfl,?_⟩
 rw [decide_eq_false (show ¬ (8 : Int) < ((as.map V.ref).length : Int) by rw [lm_]; omega)]
 refine b8 ⟨_,rfl,L,_,rfl,.inl ⟨qL_ hL4,fun T2 hT2 => ?_⟩⟩
 have s5:=ah hT2 (HO.tup (as.map V.ref))
 exact q (.ref T2) _ (rd4.same s5) (bt4.trans (lW s5)) ⟨T2,as,rfl,af,Paired.mapP PA4 fun _ _ e => s5 _ _ e⟩
end
theorem lC {w t : List Nat} {a b : Nat} (hw : w.head? = some a) (ht : t.head? = some b) (ne : a ≠ b) : w.isPrefixOf t = false:=by
 cases w with
 | nil => cases hw
 | cons x w =>
  cases t with
  | nil => cases ht
  | cons y t =>
   cases hw
   cases ht
   show ((a == b) && _) = false
   rw [show (a == b) = false from by simpa using ne]
   rfl
def eC (k : Str) : Str:=(" " : Str) ++ k ++ (" " : Str)
def FolT (r : List Nat) : Prop:=r = [] \/ (∃ t,r = 41 :: t) \/ (∃ t,r = [32,97,110,100,32] ++ t) \/ ∃ t,r = [32,111,114,32] ++ t
theorem FolT.fs {r : List Nat} (h : FolT r) : zI r:=by
 unfold zI
 rw [oA]
 rcases h with e | ⟨t,e⟩ | ⟨t,e⟩ | ⟨t,e⟩ <;> subst e
 ·exact ⟨fun c hc => (by cases hc),rfl⟩
 ·exact ⟨fun c hc => by (cases hc; decide),rfl⟩
 ·exact ⟨fun c hc => by (cases hc; decide),rfl⟩
 ·exact ⟨fun c hc => by (cases hc; decide),rfl⟩
theorem FolT.off {r : List Nat} (h : FolT r) : Off1 48 57 r:=fun c hc => (h.fs.1 c hc).1
def yB (k : Str) : Prop:=k = ("=" : Str) \/ k = ("<=" : Str) \/ k = ("<" : Str)
theorem lP (k : Str) : (eC k).cps.toList = 32 :: (k.cps.toList ++ [32]):=by
 unfold eC
 rw [aI,aI]
 show ((Str.ofString " ").cps.toList ++ k.cps.toList) ++ (Str.ofString " ").cps.toList = _
 rw [show (Str.ofString " ").cps.toList = [32] from by decide +kernel]
 rfl
theorem pF : (("=" : Str)).cps.toList = [61]:=by decide +kernel
theorem pP : (("<=" : Str)).cps.toList = [60,61]:=by decide +kernel
theorem pR : (("<" : Str)).cps.toList = [60]:=by decide +kernel
theorem oi {k : Str} (h : yB k) (t : List Nat) : zI ((eC k).cps.toList ++ t):=by
 unfold zI
 rw [oA,lP]
 rcases h with e | e | e <;> subst e
 ·rw [pF]; exact ⟨fun c hc => by (cases hc; decide),rfl⟩
 ·rw [pP]; exact ⟨fun c hc => by (cases hc; decide),rfl⟩
 ·rw [pR]; exact ⟨fun c hc => by (cases hc; decide),rfl⟩
theorem A6 {k k' : Str} (h : yB k) (h' : yB k') (t : List Nat) : (eC k').cps.toList.isPrefixOf ((eC k).cps.toList ++ t) = decide (k' = k):=by
 have n1 : (("=" : Str)) ≠ ("<=" : Str):=by decide +kernel
 have n2 : (("=" : Str)) ≠ ("<" : Str):=by decide +kernel
 have n3 : (("<=" : Str)) ≠ ("<" : Str):=by decide +kernel
 rw [lP,lP]
 rcases h with e | e | e <;> rcases h' with e' | e' | e' <;> subst e e'
 ·rw [decide_eq_true rfl,pF]; rfl
 ·rw [decide_eq_false (Ne.symm n1),pF,pP]; rfl
 ·rw [decide_eq_false (Ne.symm n2),pF,pR]; rfl
 ·rw [decide_eq_false n1,pF,pP]; rfl
 ·rw [decide_eq_true rfl,pP]; rfl
 ·rw [decide_eq_false (Ne.symm n3),pR,pP]; rfl
 ·rw [decide_eq_false n2,pF,pR]; rfl
 ·rw [decide_eq_false n3,pR,pP]; rfl
 ·rw [decide_eq_true rfl,pR]; rfl
theorem BD {m : Nat} {y : V} (h : kindsC[m]? = some y) : ∃ κ,y = .str κ /\ yB κ:=by
 have hm:=mq_ h
 unfold kindsC at hm
 simp only [List.mem_cons,List.not_mem_nil,or_false] at hm
 rcases hm with e | e | e
 ·exact ⟨_,e,.inl rfl⟩
 ·exact ⟨_,e,.inr (.inl rfl)⟩
 ·exact ⟨_,e,.inr (.inr rfl)⟩
def ka (C : Addr) : Sp:=fun vs H Q _ => ∃ (x : Addr) (z k : Str) (a b : List Prt) (i : Nat) (r : List Nat),vs = [.ref x] /\ Rd H C x z i /\ i <= z.length /\ z.length <= 1000 /\ yB k /\ Here z i (au (.cmp k a b)) r /\ c9 a /\ c9 b /\ FolT r /\
 ∀ (v : V) (H' : Hp),Rd H' C x z (i + (au (.cmp k a b)).length) -> But x H H' -> StAt H' v (.cmp k a b) -> Q v H'
def uc (C : Addr) : Sp:=fun vs H Q _ => ∃ (x : Addr) (z row : Str) (a : List Prt) (i : Nat) (r : List Nat),vs = [.ref x,.str row] /\ Rd H C x z i /\ i <= z.length /\ z.length <= 1000 /\ gn row /\ Here z i (("[" : Str) ++ bu a ++ ("]" : Str)) r /\ c9 a /\
 ∀ (T : Addr) (va : V) (H' : Hp),Rd H' C x z (i + (("[" : Str) ++ bu a ++ ("]" : Str)).length) -> But x H H' -> H' T = some (.tup [.str row,va]) -> SumAt H' va a -> Q (.ref T) H'
section
variable {P : Program} {w : World} {K : PySem.W.Frag} {mg : Str -> Option Value} {base : Heap} {f : Addr} {fd : FuncData} {dV : Value} {C TC : Addr} {tk : Tok}
theorem sc_Reader_compared : FnScope ["self","one","kind"] ["self"] (ai bE):=⟨rfl,rfl,rfl,by decide +kernel,rfl,by decide +kernel,by decide +kernel⟩
theorem sc_Reader_place_of : FnScope ["self","row","added"] ["self","row"] (ai bF):=⟨rfl,rfl,rfl,by decide +kernel,rfl,by decide +kernel,by decide +kernel⟩
theorem sc_Reader_looked_up : FnScope ["self","row","one","other_row"] ["self","row"] (ai bw):=⟨rfl,rfl,rfl,by decide +kernel,rfl,by decide +kernel,by decide +kernel⟩
theorem zf (F : FunD K "compared" "Reader.compared" bE dV f fd) (aY : DefMe P w K mg base C "takes" 1 ["self","word"] (gd C)) (gj : DefMe P w K mg base C "added" 5 ["self"] (rO C)) (bM : mg "COMPARING" = some (.ref TC)) (sqC : ∀ H,SqT K H TC kindsC) : FnOk P w K mg base CX0 6 f fd ["self"] (ka C):=by
 refine F.ok sc_Reader_compared (fun vs H Q E h => ?_) (fun cdv A outer s H vs Q E hr h => ?_)
 ·obtain ⟨x,z,k,a,b,i,r,rfl,_⟩:=h
  rfl
 obtain ⟨x,z,k,a,b,i,r,rfl,rd,hi,lz,hk,hh,oa,ob,fo,q⟩:=h
 refine ⟨_,(aj (aA (i:=1) sc_Reader_compared.nd rfl (Or.inl rfl) (gS gj hr (pv 0)))
   (aj (lD PassesOwn.never rfl (xY (dk (v:=.ref _) rfl bM rfl)) (aP (i:=2) sc_Reader_compared.nd rfl (Or.inl rfl)) (ao (bc (bX (b6 aY hr (pv 0) (aa (jc (bq gT (bq (lB (pv 2)) (bq gT lN)))) ae))) (ao (aG (a8 (aa (pv 2) (aa (pv 1) (aa (gS gj hr (pv 0)) ae)))))) aH)))
   (ao cg))),?_⟩
 obtain ⟨dx,hx⟩:=rd.ob
 have hh' : Here z i ((bu a ++ eC k) ++ bu b) r:=hh
 refine ⟨_,rfl,x,dx,_,rfl,hx,rfl,x,z,a,i,_,rfl,rd,hi,lz,hh'.app.1.app.1,oa,oi hk _,fun va H1 rd1 bt1 ha => ?_⟩
 try dsimp only [aE,aK,List.set]
 obtain ⟨dx1,hx1⟩:=rd1.ob
 have hle:=hh'.le hi
 rw [len_app,len_app] at hle
 have hsep : Here z (i + (bu a).length) (eC k) ((bu b).cps.toList ++ r):=hh'.app.1.app.2
 have hb2 : Here z (i + (bu a).length + (eC k).length) (bu b) r:=by
  have:=hh'.app.2
  rw [len_app,<- Nat.add_assoc] at this
  exact this
 have elen : (au (.cmp k a b)).length = (bu a).length + (eC k).length + (bu b).length:=by
  show ((bu a ++ eC k) ++ bu b).length = _
  rw [len_app,len_app]
 refine ⟨TC,rfl,⟨_,sqC _⟩,?_⟩
 refine xg (K:=K) (xs:=kindsC) (fun m σ' H' => (∃ v2,σ' = [some (.ref x),some va,v2]) /\ H' = H1 /\ ∀ κ,κ ∈ kindsC.take m -> κ ≠ .str k) ⟨⟨none,rfl⟩,rfl,fun κ h => absurd h (by simp)⟩ (fun _ _ _ _ _ => sqC _) ?_ ?_
 ·rintro m y σ' H' hm ⟨⟨v2,rfl⟩,eH,hn⟩
  subst eH
  obtain ⟨κ,rfl,hκ⟩:=BD hm
  have kl : κ.length <= 2:=by rcases hκ with e | e | e <;> subst e <;> decide
  have sl : (eC κ).length <= 1000:=by
   unfold eC
   rw [len_app,len_app]
   have : ((" " : Str)).length = 1:=by decide
   omega
  refine ⟨_,rfl,x,dx1,_,rfl,hx1,rfl,_,rfl,.inl ⟨κ,rfl,Nat.le_trans kl (by decide),?_⟩⟩
  refine ⟨x,z,eC κ,i + (bu a).length,?_,rd1,by omega,sl,fun h => ⟨_,rfl,b8 ?_⟩,fun h H2 rd2 bt2 => ⟨_,rfl,eO ?_⟩⟩
  ·show [V.ref x,V.str (Str.empty ++ Str.ofString " " ++ κ ++ Str.ofString " ")] = _
   rw [g6]
   rfl
  ·rw [show atT z (i + (bu a).length) = _ from hsep,A6 hk hκ] at h
   have ne:=of_decide_eq_false h
   refine ⟨⟨_,rfl⟩,rfl,fun κ' h' => ?_⟩
   rw [List.take_add_one,hm] at h'
   rcases ma_.mp h' with h1 | h1
   ·exact hn κ' h1
   ·rw [List.mem_singleton.mp h1]
    exact fun e => ne (V_str.mp e)
  ·rw [show atT z (i + (bu a).length) = _ from hsep,A6 hk hκ] at h
   have ek:=of_decide_eq_true h
   subst ek
   obtain ⟨dx2,hx2⟩:=rd2.ob
   refine ⟨_,rfl,_,rfl,_,rfl,x,dx2,_,rfl,hx2,rfl,x,z,b,_,r,rfl,rd2,by omega,lz,hb2,ob,fo.fs,fun vb H3 rd3 bt3 hb => ⟨(by show 3 <= sizeLine; decide),fun T hT => ?_⟩⟩
   have s4:=ah hT (HO.tup [V.str κ,va,vb])
   refine q (.ref T) _ ?_ (bt1.trans (bt2.trans (bt3.trans (lW s4)))) ⟨T,va,vb,rfl,af,ha.same fun b' xs e => s4 _ _ (tkB rd2 bt3 _ _ (tkB rd1 bt2 _ _ e)),hb.same (tkS s4)⟩
   rw [elen,<- Nat.add_assoc,<- Nat.add_assoc]
   exact rd3.same s4
 ·rintro σ' H' ⟨⟨v2,rfl⟩,eH,hn⟩
  exfalso
  rcases hk with e | e | e <;> subst e
  ·exact hn (.str "=") (by simp [kindsC]) rfl
  ·exact hn (.str "<=") (by simp [kindsC]) rfl
  ·exact hn (.str "<") (by simp [kindsC]) rfl
theorem BQ (F : FunD K "place_of" "Reader.place_of" bF dV f fd) (cq : DefMe P w K mg base C "need" 2 ["self","word"] (kb C)) (gj : DefMe P w K mg base C "added" 5 ["self"] (rO C)) (iq : DefOk P w K mg base "is_row_name" 2 ["thing"] [] ub) : FnOk P w K mg base CX0 6 f fd ["self","row"] (uc C):=by
 refine F.ok sc_Reader_place_of (fun vs H Q E h => ?_) (fun cdv A outer s H vs Q E hr h => ?_)
 ·obtain ⟨x,z,row,a,i,r,rfl,_⟩:=h
  rfl
 obtain ⟨x,z,row,a,i,r,rfl,rd,hi,lz,ro,hh,oa,q⟩:=h
 refine ⟨_,(aj (bc (dC (bX (aU iq hr (aa (pv 1) ae)))) (ao cg) aH)
   (aj (bC (b6 cq hr (pv 0) (aa ar ae)))
   (aj (aA (i:=2) sc_Reader_place_of.nd rfl (Or.inl rfl) (gS gj hr (pv 0)))
   (aj (bC (b6 cq hr (pv 0) (aa ar ae)))
   (ao (aG (a8 (aa (pv 1) (aa (pv 2) ae))))))))),?_⟩
 have l1 : (Str.ofString "[").length = 1:=by decide
 have l2 : (Str.ofString "]").length = 1:=by decide
 have hle:=hh.le hi
 rw [len_app,len_app] at hle
 have h1 : Here z i (Str.ofString "[") _:=hh.app.1.app.1
 have h2 : Here z (i + (Str.ofString "[").length) (bu a) ((Str.ofString "]").cps.toList ++ r):=hh.app.1.app.2
 have h3 : Here z (i + (Str.ofString "[").length + (bu a).length) (Str.ofString "]") r:=by
  have:=hh.app.2
  rw [len_app,<- Nat.add_assoc] at this
  exact this
 have le2:=h2.le (by have:=h1.le hi; omega)
 have le3:=h3.le (by omega)
 refine ⟨_,rfl,row,rfl,ro,fun H1 s1 => ⟨_,rfl,b8 ?_⟩⟩
 have rd1:=rd.same s1
 obtain ⟨dx1,hx1⟩:=rd1.ob
 refine ⟨_,rfl,x,dx1,_,rfl,hx1,rfl,x,z,Str.ofString "[",i,_,rfl,rd1,hi,by rw [l1]; decide,h1,fun H2 rd2 bt2 => ?_⟩
 obtain ⟨dx2,hx2⟩:=rd2.ob
 have f3 : zI ((Str.ofString "]").cps.toList ++ r):=by
  unfold zI
  rw [oA,show (Str.ofString "]").cps.toList = [93] from by decide +kernel]
  exact ⟨fun c hc => by (cases hc; decide),rfl⟩
 refine ⟨_,rfl,x,dx2,_,rfl,hx2,rfl,x,z,a,_,_,rfl,rd2,by omega,lz,h2,oa,f3,fun va H3 rd3 bt3 ha => ?_⟩
 try dsimp only [aE,aK,List.set]
 obtain ⟨dx3,hx3⟩:=rd3.ob
 refine ⟨_,rfl,x,dx3,_,rfl,hx3,rfl,x,z,Str.ofString "]",_,r,rfl,rd3,by omega,by rw [l2]; decide,h3,fun H4 rd4 bt4 => ?_⟩
 refine ⟨_,rfl,_,rfl,(by show 2 <= sizeLine; decide),fun T hT => ?_⟩
 have s5:=ah hT (HO.tup [V.str row,va])
 refine q T va _ ?_ ((lW s1).trans (bt2.trans (bt3.trans (bt4.trans (lW s5))))) af (ha.same fun b' xs e => s5 _ _ (tkB rd3 bt4 _ _ e))
 rw [len_app,len_app,<- Nat.add_assoc,<- Nat.add_assoc]
 exact rd4.same s5
end
def Wr : Stt -> Prop
 | .cmp k a b => yB k /\ c9 a /\ c9 b
 | .sg r a s => gn r /\ c9 a /\ 0 <= s /\ s <= 999999
 | .lk r a q b => gn r /\ c9 a /\ gn q /\ c9 b
 | .no s => Wr s
 | .jn k s t => (k = ("and" : Str) \/ k = ("or" : Str)) /\ Wr s /\ Wr t
 | .ch k n s => (k = ("some" : Str) \/ k = ("all" : Str)) /\ dN n /\ Wr s
def brk (a : List Prt) : Str:=("[" : Str) ++ bu a ++ ("]" : Str)
def EO (row : Str) (st : Stt) (tl : Str) : Prop:=(∃ a s,st = .sg row a s /\ c9 a /\ (0 <= s /\ s <= 999999) /\ tl = brk a ++ (" = " : Str) ++ bH s) \/ ∃ a q b,st = .lk row a q b /\ c9 a /\ gn q /\ c9 b /\ tl = brk a ++ (" = " : Str) ++ (q ++ brk b)
def yp (C : Addr) : Sp:=fun vs H Q _ => ∃ (x : Addr) (z row tl : Str) (st : Stt) (i : Nat) (r : List Nat),vs = [.ref x,.str row] /\ Rd H C x z i /\ i <= z.length /\ z.length <= 1000 /\ gn row /\ EO row st tl /\ Here z i tl r /\ FolT r /\
 ∀ (v : V) (H' : Hp),Rd H' C x z (i + tl.length) -> But x H H' -> StAt H' v st -> Q v H'
def uf (C : Addr) (d : Nat) : Sp:=fun vs H Q _ => ∃ (x : Addr) (z : Str) (st : Stt) (m i : Nat) (r : List Nat),vs = [.ref x,.int (m : Int)] /\ m <= d /\ Rd H C x z i /\ i <= z.length /\ z.length <= 1000 /\ Here z i (au st) r /\ Wr st /\ aQ st <= m /\ FolT r /\
 ∀ (v : V) (H' : Hp),Rd H' C x z (i + (au st).length) -> But x H H' -> StAt H' v st -> Q v H'
def oU (C : Addr) (d : Nat) : Sp:=fun vs H Q _ => ∃ (x : Addr) (z : Str) (st : Stt) (m i : Nat) (r : List Nat),vs = [.ref x,.int (m : Int)] /\ m < d /\ Rd H C x z i /\ i <= z.length /\ z.length <= 1000 /\ Here z i (au st) r /\ Wr st /\ aQ st <= m /\ FolT r /\
 ∀ (v : V) (H' : Hp),Rd H' C x z (i + (au st).length) -> But x H H' -> StAt H' v st -> Q v H'
def jnT (k : Str) (s t : Stt) : Str:=au s ++ eC k ++ au t ++ (")" : Str)
def Dj (C : Addr) (d : Nat) : Sp:=fun vs H Q _ => ∃ (x : Addr) (z k : Str) (s t : Stt) (m i : Nat) (r : List Nat),vs = [.ref x,.int (m : Int)] /\ m <= d /\ Rd H C x z i /\ i <= z.length /\ z.length <= 1000 /\ (k = ("and" : Str) \/ k = ("or" : Str)) /\ Here z i (jnT k s t) r /\ Wr s /\ Wr t /\ aQ s < m /\ aQ t < m /\
 ∀ (v : V) (H' : Hp),Rd H' C x z (i + (jnT k s t).length) -> But x H H' -> StAt H' v (.jn k s t) -> Q v H'
def chT (n : Str) (s : Stt) : Str:=n ++ (": " : Str) ++ au s
def zA (C : Addr) (d : Nat) : Sp:=fun vs H Q _ => ∃ (x : Addr) (z k n : Str) (s : Stt) (m i : Nat) (r : List Nat),vs = [.ref x,.str k,.int (m : Int)] /\ m <= d /\ Rd H C x z i /\ i <= z.length /\ z.length <= 1000 /\ Here z i (chT n s) r /\ dN n /\ Wr s /\ aQ s < m /\ FolT r /\
 ∀ (v : V) (H' : Hp),Rd H' C x z (i + (chT n s).length) -> But x H H' -> StAt H' v (.ch k n s) -> Q v H'
theorem DU {x : V} {m : Nat} (h : 0 < m) : [x,V.int ((m : Int) - 1)] = [x,V.int ((m - 1 : Nat) : Int)]:=by
 rw [show (m : Int) - 1 = ((m - 1 : Nat) : Int) by omega]
theorem rF : (("and" : Str)).cps.toList = [97,110,100]:=by decide +kernel
theorem xU : (("or" : Str)).cps.toList = [111,114]:=by decide +kernel
theorem Dh : (("some" : Str)).cps.toList = [115,111,109,101]:=by decide +kernel
theorem DL : (("all" : Str)).cps.toList = [97,108,108]:=by decide +kernel
theorem Ct {k : Str} (h : k = ("and" : Str) \/ k = ("or" : Str)) (t : List Nat) : FolT ((eC k).cps.toList ++ t):=by
 rw [lP]
 rcases h with e | e <;> subst e
 ·rw [rF]; exact .inr (.inr (.inl ⟨t,rfl⟩))
 ·rw [xU]; exact .inr (.inr (.inr ⟨t,rfl⟩))
theorem yS {k k' : Str} (h : k = ("and" : Str) \/ k = ("or" : Str)) (h' : k' = ("and" : Str) \/ k' = ("or" : Str)) (t : List Nat) : (eC k').cps.toList.isPrefixOf ((eC k).cps.toList ++ t) = decide (k' = k):=by
 have n1 : (("and" : Str)) ≠ ("or" : Str):=by decide +kernel
 rw [lP,lP]
 rcases h with e | e <;> rcases h' with e' | e' <;> subst e e'
 ·rw [decide_eq_true rfl,rF]; rfl
 ·rw [decide_eq_false (Ne.symm n1),rF,xU]; rfl
 ·rw [decide_eq_false n1,rF,xU]; rfl
 ·rw [decide_eq_true rfl,xU]; rfl
theorem BF {m : Nat} {y : V} (h : kindsJ[m]? = some y) : ∃ κ,y = .str κ /\ (κ = ("and" : Str) \/ κ = ("or" : Str)):=by
 have hm:=mq_ h
 unfold kindsJ at hm
 simp only [List.mem_cons,List.not_mem_nil,or_false] at hm
 rcases hm with e | e
 ·exact ⟨_,e,.inl rfl⟩
 ·exact ⟨_,e,.inr rfl⟩
section
variable {P : Program} {w : World} {K : PySem.W.Frag} {mg : Str -> Option Value} {base : Heap} {f : Addr} {fd : FuncData} {dV : Value} {C TC TJ : Addr} {tk : Tok}
theorem sc_Reader_joined : FnScope ["self","deep","one","kind","other"] ["self","deep"] (ai bK):=⟨rfl,rfl,rfl,by decide +kernel,rfl,by decide +kernel,by decide +kernel⟩
theorem sc_Reader_chosen : FnScope ["self","kind","deep","name"] ["self","kind","deep"] (ai bJ):=⟨rfl,rfl,rfl,by decide +kernel,rfl,by decide +kernel,by decide +kernel⟩
theorem D5 (F : FunD K "looked_up" "Reader.looked_up" bw dV f fd) (gZ : DefMe P w K mg base C "place_of" 6 ["self","row"] (uc C)) (cq : DefMe P w K mg base C "need" 2 ["self","word"] (kb C)) (cM : DefMe P w K mg base C "run" 1 ["self","first","last"] (qy C)) (gf : DefMe P w K mg base C "number" 2 ["self"] (oQ C)) : FnOk P w K mg base CX0 7 f fd ["self","row"] (yp C):=by
 refine F.ok sc_Reader_looked_up (fun vs H Q E h => ?_) (fun cdv A outer s H vs Q E hr h => ?_)
 ·obtain ⟨x,z,row,tl,st,i,r,rfl,_⟩:=h
  rfl
 obtain ⟨x,z,row,tl,st,i,r,rfl,rd,hi,lz,ro,la,hh,fo,q⟩:=h
 refine ⟨_,(aj (aA (i:=2) sc_Reader_looked_up.nd rfl (Or.inl rfl) (b6 gZ hr (pv 0) (aa (pv 1) ae)))
   (aj (bC (b6 cq hr (pv 0) (aa ar ae)))
   (aj (aA (i:=3) sc_Reader_looked_up.nd rfl (Or.inl rfl) (b6 cM hr (pv 0) (aa ar (aa ar ae))))
   (aj (bc (aF cQ (pv 3) ar (aM _)) (ao (aG (ak ow (ak ow (a8 (aa ar ae)) (pv 2)) (a8 (aa (gS gf hr (pv 0)) ae))))) aH)
   (ao (aG (ak ow (ak ow (a8 (aa ar ae)) (pv 2)) (b6 gZ hr (pv 0) (aa (pv 3) ae))))))))),?_⟩
 obtain ⟨dx,hx⟩:=rd.ob
 obtain ⟨a,u,etl,oa,la⟩ : ∃ a u,tl = brk a ++ (" = " : Str) ++ u /\ c9 a /\ ((∃ s',st = .sg row a s' /\ (0 <= s' /\ s' <= 999999) /\ u = bH s') \/ ∃ q' b',st = .lk row a q' b' /\ gn q' /\ c9 b' /\ u = q' ++ brk b'):=by
  rcases la with ⟨a,s,e1,oa,hs,e⟩ | ⟨a,q,b,e1,oa,oq,ob,e⟩
  ·exact ⟨a,_,e,oa,.inl ⟨s,e1,hs,rfl⟩⟩
  ·exact ⟨a,_,e,oa,.inr ⟨q,b,e1,oq,ob,rfl⟩⟩
 have hh' := hh
 rw [etl] at hh'
 have hle:=hh'.le hi
 rw [len_app,len_app] at hle
 have h1 : Here z i (("[" : Str) ++ bu a ++ ("]" : Str)) _:=hh'.app.1.app.1
 have h2 : Here z (i + (brk a).length) (Str.ofString " = ") (u.cps.toList ++ r):=hh'.app.1.app.2
 have h3 : Here z (i + (brk a).length + (Str.ofString " = ").length) u r:=by
  have:=hh'.app.2
  rw [len_app,<- Nat.add_assoc] at this
  exact this
 have l3 : (Str.ofString " = ").length = 3:=by decide
 have le2:=h2.le (by omega)
 have le3:=h3.le (by rw [List.length_append] at le2; omega)
 have tln : tl.length = (brk a).length + (Str.ofString " = ").length + u.length:=by
  rw [etl,len_app,len_app]
 refine ⟨_,rfl,x,dx,_,rfl,hx,rfl,_,rfl,x,z,row,a,i,_,rfl,rd,hi,lz,ro,h1,oa,fun T1 va H1 rd1 bt1 hT1 ha1 => ?_⟩
 try dsimp only [aE,aK,List.set]
 replace rd1 : Rd H1 C x z (i + (brk a).length):=rd1
 obtain ⟨dx1,hx1⟩:=rd1.ob
 refine ⟨_,rfl,x,dx1,_,rfl,hx1,rfl,x,z,Str.ofString " = ",_,_,rfl,rd1,(by show i + (brk a).length <= z.length; omega),by rw [l3]; decide,h2,fun H2 rd2 bt2 => ?_⟩
 obtain ⟨dx2,hx2⟩:=rd2.ob
 have tk12:=tkB rd1 bt2
 have hj : i + (brk a).length + (Str.ofString " = ").length <= z.length:=by omega
 have bt02:=bt1.trans bt2
 have hT2:=tk12 _ _ hT1
 have ha2:=ha1.same tk12
 rcases la with ⟨s',est,hs',eu⟩ | ⟨q',b',est,oq,ob,eu⟩
 ·subst est eu
  have nd:=ic hs'.1
  have hd : ∀ c,((bH s').cps.toList ++ r).head? = some c -> inR 48 57 c = true:=fun c hc => by
   cases e : (bH s').cps.toList with
   | nil =>
    have:=nd.1
    rw [rJ,e] at this
    exact absurd this (by decide)
   | cons c' l =>
    rw [e] at hc
    cases hc
    exact nd.2 c (by rw [e]; exact List.mem_cons_self)
  refine ⟨_,rfl,x,dx2,_,rfl,hx2,rfl,x,z,Str.ofString "",_,65,90,atT z _,lK,rd2,hj,lz,nh z _,?_,?_,fun H3 rd3 bt3 => ?_⟩
  ·intro c hc
   rw [show (Str.ofString "").cps.toList = [] from by decide +kernel] at hc
   cases hc
  ·intro c hc
   rw [show atT z _ = _ from h3] at hc
   have:=of_decide_eq_true (hd c hc)
   exact decide_eq_false (by omega)
  try dsimp only [aE,aK,List.set]
  rw [show (Str.ofString "").length = 0 from by decide,Nat.add_zero] at rd3
  refine ⟨_,rfl,rfl,_,rfl,?_⟩
  rw [decide_eq_true rfl]
  refine eO ⟨(by show 1 <= sizeLine; decide),fun Ta hTa => ?_⟩
  have s4:=ah hTa (HO.tup [V.str (Str.ofString "is")])
  have hT3:=tkB rd2 bt3 _ _ hT2
  have ha3:=ha2.same (tkB rd2 bt3)
  refine ⟨_,rfl,Ta,T1,_,_,rfl,rfl,qT_ af,qT_ (s4 _ _ hT3),(by show 3 <= sizeLine; decide),fun h => (by cases h),fun _ h => (by cases h),fun _ _ Tb hTb => ?_⟩
  have s5:=ah hTb (HO.tup [V.str (Str.ofString "is"),V.str row,va])
  have rd5:=(rd3.same s4).same s5
  obtain ⟨dx5,hx5⟩:=rd5.ob
  refine ⟨_,rfl,x,dx5,_,rfl,hx5,rfl,x,z,s',_,r,rfl,rd5,hj,lz,h3,hs',fo.off,fun H6 rd6 bt6 => ⟨(by show 1 <= sizeLine; decide),fun Tc hTc => ?_⟩⟩
  have s7:=ah hTc (HO.tup [V.int s'])
  have tk6:=tkB rd5 bt6
  refine ⟨Tb,Tc,_,_,rfl,rfl,qT_ (s7 _ _ (tk6 _ _ af)),qT_ af,(by show 4 <= sizeLine; decide),fun h => (by cases h),fun _ h => (by cases h),fun _ _ Td hTd => ?_⟩
  have s8:=ah hTd (HO.tup [V.str (Str.ofString "is"),V.str row,va,V.int s'])
  refine q (.ref Td) _ ?_ (bt02.trans (bt3.trans ((lW (s4.trans s5)).trans (bt6.trans (lW (s7.trans s8)))))) ⟨Td,va,rfl,af,(ha3.same (tkS (s4.trans s5))).same fun b' xs e => (s7.trans s8) _ _ (tk6 _ _ e)⟩
  rw [tln,<- Nat.add_assoc,<- Nat.add_assoc]
  exact (rd6.same s7).same s8
 ·subst est eu
  have hq:=h3.app
  have le4:=hq.1.le hj
  have ob1 : Off1 65 90 ((brk b').cps.toList ++ r):=by
   unfold brk
   rw [aI,aI,show (("[" : Str)).cps.toList = [91] from by decide +kernel]
   intro c hc
   cases hc
   decide
  refine ⟨_,rfl,x,dx2,_,rfl,hx2,rfl,x,z,q',_,65,90,_,lK,rd2,hj,lz,hq.1,oq.2.2,ob1,fun H3 rd3 bt3 => ?_⟩
  try dsimp only [aE,aK,List.set]
  have ne : ¬ V.str q' = V.str (Str.ofString ""):=fun h => by
   have h' := V_str.mp h
   have:=oq.1
   rw [h'] at this
   exact absurd this (by decide)
  refine ⟨_,rfl,rfl,_,rfl,?_⟩
  rw [decide_eq_false ne]
  refine b8 ⟨(by show 1 <= sizeLine; decide),fun Ta hTa => ?_⟩
  have s4:=ah hTa (HO.tup [V.str (Str.ofString "like")])
  have hT3:=tkB rd2 bt3 _ _ hT2
  have ha3:=ha2.same (tkB rd2 bt3)
  refine ⟨_,rfl,Ta,T1,_,_,rfl,rfl,qT_ af,qT_ (s4 _ _ hT3),(by show 3 <= sizeLine; decide),fun h => (by cases h),fun _ h => (by cases h),fun _ _ Tb hTb => ?_⟩
  have s5:=ah hTb (HO.tup [V.str (Str.ofString "like"),V.str row,va])
  have rd5:=(rd3.same s4).same s5
  obtain ⟨dx5,hx5⟩:=rd5.ob
  refine ⟨_,rfl,x,dx5,_,rfl,hx5,rfl,_,rfl,x,z,q',b',_,r,rfl,rd5,by omega,lz,oq,hq.2,ob,fun Tc vb H6 rd6 bt6 hTc hb => ?_⟩
  have tk6:=tkB rd5 bt6
  refine ⟨Tb,Tc,_,_,rfl,rfl,qT_ (tk6 _ _ af),qT_ hTc,(by show 5 <= sizeLine; decide),fun h => (by cases h),fun _ h => (by cases h),fun _ _ Td hTd => ?_⟩
  have s8:=ah hTd (HO.tup [V.str (Str.ofString "like"),V.str row,va,V.str q',vb])
  refine q (.ref Td) _ ?_ (bt02.trans (bt3.trans ((lW (s4.trans s5)).trans (bt6.trans (lW s8))))) ⟨Td,va,vb,rfl,af,(ha3.same (tkS (s4.trans s5))).same fun b' xs e => s8 _ _ (tk6 _ _ e),hb.same (tkS s8)⟩
  rw [tln,len_app,<- Nat.add_assoc,<- Nat.add_assoc,<- Nat.add_assoc]
  exact rd6.same s8
theorem BO {d : Nat} (F : FunD K "joined" "Reader.joined" bK dV f fd) (aY : DefMe P w K mg base C "takes" 1 ["self","word"] (gd C)) (cq : DefMe P w K mg base C "need" 2 ["self","word"] (kb C)) (bx : DefMe P w K mg base C "statement" (2 * d + 7) ["self","deep"] (oU C d)) (bR : mg "JOINING" = some (.ref TJ)) (sqJ : ∀ H,SqT K H TJ kindsJ) : FnOk P w K mg base CX0 (2 * d + 8) f fd ["self","deep"] (Dj C d):=by
 refine F.ok sc_Reader_joined (fun vs H Q E h => ?_) (fun cdv A outer s H vs Q E hr h => ?_)
 ·obtain ⟨x,z,k,s,t,m,i,r,rfl,_⟩:=h
  rfl
 obtain ⟨x,z,k,s1,t1,m,i,r,rfl,md,rd,hi,lz,hk,hh,ws,wt,ds,dt,q⟩:=h
 refine ⟨_,(aj (aA (i:=2) sc_Reader_joined.nd rfl (Or.inl rfl) (b6 bx hr (pv 0) (aa (ak nK (pv 1) ag) ae) (hkj:=by omega)))
   (aj (lD PassesOwn.never rfl (xY (dk (v:=.ref _) rfl bR rfl)) (aP (i:=3) sc_Reader_joined.nd rfl (Or.inl rfl)) (ao (bc (bX (b6 aY hr (pv 0) (aa (jc (bq gT (bq (lB (pv 3)) (bq gT lN)))) ae) (hkj:=by omega))) (aj (aA (i:=4) sc_Reader_joined.nd rfl (Or.inl rfl) (b6 bx hr (pv 0) (aa (ak nK (pv 1) ag) ae) (hkj:=by omega)))
   (aj (bC (b6 cq hr (pv 0) (aa ar ae) (hkj:=by omega)))
   (ao (aG (a8 (aa (pv 3) (aa (pv 2) (aa (pv 4) ae)))))))) aH)))
   (ao cg))),?_⟩
 have mp : 0 < m:=by omega
 obtain ⟨dx,hx⟩:=rd.ob
 have hle:=hh.le hi
 unfold jnT at hle
 rw [len_app,len_app,len_app] at hle
 have lp : ((")" : Str)).length = 1:=by decide
 have h1 : Here z i (au s1) _:=hh.app.1.app.1.app.1
 have h2 : Here z (i + (au s1).length) (eC k) ((au t1).cps.toList ++ ((Str.ofString ")").cps.toList ++ r)):=by
  have:=hh.app.1.app.1.app.2
  exact this
 have h3 : Here z (i + (au s1).length + (eC k).length) (au t1) ((Str.ofString ")").cps.toList ++ r):=by
  have:=hh.app.1.app.2
  rw [len_app,<- Nat.add_assoc] at this
  exact this
 have h4 : Here z (i + (au s1).length + (eC k).length + (au t1).length) (Str.ofString ")") r:=by
  have:=hh.app.2
  rw [len_app,len_app,<- Nat.add_assoc,<- Nat.add_assoc] at this
  exact this
 have f1 : FolT ((eC k).cps.toList ++ ((au t1).cps.toList ++ ((Str.ofString ")").cps.toList ++ r))):=Ct hk _
 have f3 : FolT ((Str.ofString ")").cps.toList ++ r):=by
  rw [show (Str.ofString ")").cps.toList = [41] from by decide +kernel]
  exact .inr (.inl ⟨r,rfl⟩)
 refine ⟨_,rfl,x,dx,_,rfl,hx,rfl,_,rfl,_,_,rfl,rfl,x,z,s1,m - 1,i,_,DU mp,by omega,rd,hi,lz,h1,ws,by omega,f1,fun va H1 rd1 bt1 ha => ?_⟩
 try dsimp only [aE,aK,List.set]
 obtain ⟨dx1,hx1⟩:=rd1.ob
 refine ⟨TJ,rfl,⟨_,sqJ _⟩,?_⟩
 refine xg (K:=K) (xs:=kindsJ) (fun n σ' H' => (∃ v3,σ' = [some (.ref x),some (.int (m : Int)),some va,v3,none]) /\ H' = H1 /\ ∀ κ,κ ∈ kindsJ.take n -> κ ≠ .str k) ⟨⟨none,rfl⟩,rfl,fun κ h => absurd h (by simp)⟩ (fun _ _ _ _ _ => sqJ _) ?_ ?_
 ·rintro n y σ' H' hm ⟨⟨v3,rfl⟩,eH,hn⟩
  subst eH
  obtain ⟨κ,rfl,hκ⟩:=BF hm
  have kl : κ.length <= 3:=by rcases hκ with e | e <;> subst e <;> decide
  have sl : (eC κ).length <= 1000:=by
   unfold eC
   rw [len_app,len_app]
   have : ((" " : Str)).length = 1:=by decide
   omega
  refine ⟨_,rfl,x,dx1,_,rfl,hx1,rfl,_,rfl,.inl ⟨κ,rfl,Nat.le_trans kl (by decide),?_⟩⟩
  refine ⟨x,z,eC κ,i + (au s1).length,?_,rd1,by omega,sl,fun h => ⟨_,rfl,b8 ?_⟩,fun h H2 rd2 bt2 => ⟨_,rfl,eO ?_⟩⟩
  ·show [V.ref x,V.str (Str.empty ++ Str.ofString " " ++ κ ++ Str.ofString " ")] = _
   rw [g6]
   rfl
  ·rw [show atT z (i + (au s1).length) = _ from h2,yS hk hκ] at h
   have ne:=of_decide_eq_false h
   refine ⟨⟨_,rfl⟩,rfl,fun κ' h' => ?_⟩
   rw [List.take_add_one,hm] at h'
   rcases ma_.mp h' with h1 | h1
   ·exact hn κ' h1
   ·rw [List.mem_singleton.mp h1]
    exact fun e => ne (V_str.mp e)
  ·rw [show atT z (i + (au s1).length) = _ from h2,yS hk hκ] at h
   have ek:=of_decide_eq_true h
   subst ek
   obtain ⟨dx2,hx2⟩:=rd2.ob
   refine ⟨_,rfl,x,dx2,_,rfl,hx2,rfl,_,rfl,_,_,rfl,rfl,x,z,t1,m - 1,_,_,DU mp,by omega,rd2,by omega,lz,h3,wt,by omega,f3,fun vb H3 rd3 bt3 hb => ?_⟩
   try dsimp only [aE,aK,List.set]
   obtain ⟨dx3,hx3⟩:=rd3.ob
   refine ⟨_,rfl,x,dx3,_,rfl,hx3,rfl,x,z,Str.ofString ")",_,r,rfl,rd3,by omega,(by show ((")" : Str)).length <= 1000; rw [lp]; decide),h4,fun H4 rd4 bt4 => ?_⟩
   refine ⟨_,rfl,_,rfl,_,rfl,(by show 3 <= sizeLine; decide),fun T hT => ?_⟩
   have s5:=ah hT (HO.tup [V.str κ,va,vb])
   refine q (.ref T) _ ?_ (bt1.trans (bt2.trans (bt3.trans (bt4.trans (lW s5))))) ⟨T,va,vb,rfl,af,StAt.same (fun b' xs e => s5 _ _ (tkB rd3 bt4 _ _ (tkB rd2 bt3 _ _ (tkB rd1 bt2 _ _ e)))) ha,StAt.same (fun b' xs e => s5 _ _ (tkB rd3 bt4 _ _ e)) hb⟩
   unfold jnT
   rw [len_app,len_app,len_app,<- Nat.add_assoc,<- Nat.add_assoc,<- Nat.add_assoc]
   exact rd4.same s5
 ·rintro σ' H' ⟨⟨v2,rfl⟩,eH,hn⟩
  exfalso
  rcases hk with e | e <;> subst e
  ·exact hn (.str "and") (by simp [kindsJ]) rfl
  ·exact hn (.str "or") (by simp [kindsJ]) rfl
theorem BL {d : Nat} (F : FunD K "chosen" "Reader.chosen" bJ dV f fd) (fU : DefMe P w K mg base C "name" 3 ["self"] (oP C)) (cq : DefMe P w K mg base C "need" 2 ["self","word"] (kb C)) (bx : DefMe P w K mg base C "statement" (2 * d + 7) ["self","deep"] (oU C d)) : FnOk P w K mg base CX0 (2 * d + 8) f fd ["self","kind","deep"] (zA C d):=by
 refine F.ok sc_Reader_chosen (fun vs H Q E h => ?_) (fun cdv A outer s H vs Q E hr h => ?_)
 ·obtain ⟨x,z,k,n,s,m,i,r,rfl,_⟩:=h
  rfl
 obtain ⟨x,z,k,n,s1,m,i,r,rfl,md,rd,hi,lz,hh,on,ws,ds,fo,q⟩:=h
 refine ⟨_,(aj (aA (i:=3) sc_Reader_chosen.nd rfl (Or.inl rfl) (gS fU hr (pv 0) (hkj:=by omega)))
   (aj (bC (b6 cq hr (pv 0) (aa ar ae) (hkj:=by omega)))
   (ao (aG (a8 (aa (pv 1) (aa (pv 3) (aa (b6 bx hr (pv 0) (aa (ak nK (pv 2) ag) ae) (hkj:=by omega)) ae)))))))),?_⟩
 have mp : 0 < m:=by omega
 obtain ⟨dx,hx⟩:=rd.ob
 have hle:=hh.le hi
 unfold chT at hle
 rw [len_app,len_app] at hle
 have lc : ((": " : Str)).length = 2:=by decide
 have h1 : Here z i n ((Str.ofString ": ").cps.toList ++ ((au s1).cps.toList ++ r)):=hh.app.1.app.1
 have h2 : Here z (i + n.length) (Str.ofString ": ") ((au s1).cps.toList ++ r):=hh.app.1.app.2
 have h3 : Here z (i + n.length + (Str.ofString ": ").length) (au s1) r:=by
  have:=hh.app.2
  rw [len_app,<- Nat.add_assoc] at this
  exact this
 have of : Off1 97 122 ((Str.ofString ": ").cps.toList ++ ((au s1).cps.toList ++ r)):=by
  rw [show (Str.ofString ": ").cps.toList = [58,32] from by decide +kernel]
  intro c hc
  cases hc
  decide
 refine ⟨_,rfl,x,dx,_,rfl,hx,rfl,x,z,n,i,_,rfl,rd,hi,lz,h1,on,of,fun H1 rd1 bt1 => ?_⟩
 try dsimp only [aE,aK,List.set]
 obtain ⟨dx1,hx1⟩:=rd1.ob
 refine ⟨_,rfl,x,dx1,_,rfl,hx1,rfl,x,z,Str.ofString ": ",_,_,rfl,rd1,by omega,(by show ((": " : Str)).length <= 1000; rw [lc]; decide),h2,fun H2 rd2 bt2 => ?_⟩
 obtain ⟨dx2,hx2⟩:=rd2.ob
 refine ⟨_,rfl,_,rfl,_,rfl,x,dx2,_,rfl,hx2,rfl,_,rfl,_,_,rfl,rfl,x,z,s1,m - 1,_,r,DU mp,by omega,rd2,(by show i + n.length + ((": " : Str)).length <= z.length; omega),lz,h3,ws,by omega,fo,fun vs' H3 rd3 bt3 hs => ⟨(by show 3 <= sizeLine; decide),fun T hT => ?_⟩⟩
 have s4:=ah hT (HO.tup [V.str k,V.str n,vs'])
 refine q (.ref T) _ ?_ (bt1.trans (bt2.trans (bt3.trans (lW s4)))) ⟨T,vs',rfl,af,StAt.same (tkS s4) hs⟩
 unfold chT
 rw [len_app,len_app,<- Nat.add_assoc,<- Nat.add_assoc]
 exact rd3.same s4
end
theorem rL : (Str.ofString "not ").cps.toList = [110,111,116,32]:=by decide +kernel
theorem rM : (Str.ofString "(").cps.toList = [40]:=by decide +kernel
theorem eW : (("some" : Str) ++ (" " : Str)).cps.toList = [115,111,109,101] ++ [32]:=by decide +kernel
theorem gu : (("all" : Str) ++ (" " : Str)).cps.toList = [97,108,108] ++ [32]:=by decide +kernel
theorem tw_app {f : Nat -> Bool} : ∀ {p r : List Nat},(∀ c ∈ p,f c = true) -> (∀ c,r.head? = some c -> f c = false) -> (p ++ r).takeWhile f = p
 | [],[],_,_ => rfl
 | [],c :: r,_,h => by
  rw [List.nil_append,List.takeWhile_cons,h c rfl]
  rfl
 | c :: p,r,hp,h => by
  rw [List.cons_append,List.takeWhile_cons,hp c List.mem_cons_self,if_pos rfl,tw_app (fun c' h' => hp c' (List.mem_cons_of_mem _ h')) h]
theorem xD {w n : Str} (hw : ∀ c ∈ w.cps.toList,inR 97 122 c = true) (hW : inV (.str w) zZ = true) (on : dN n) {rest : List Nat} (of : Off1 97 122 rest) : (w.cps.toList ++ [32]).isPrefixOf (n.cps.toList ++ rest) = false:=by
 rw [Bool.eq_false_iff]
 intro h
 obtain ⟨t,e⟩:=List.isPrefixOf_iff_prefix.mp h
 have e1:=tw_app (f:=inR 97 122) on.1.2.2 of
 have e2:=tw_app (f:=inR 97 122) (r:=32 :: t) hw (fun c hc => by (cases hc; decide))
 rw [<- e,List.append_assoc] at e1
 have e3 : w.cps.toList = n.cps.toList:=e2.symm.trans e1
 have:=on.2
 rw [<- str_inj e3,hW] at this
 cases this
def B2 : Stt -> Nat
 | .cmp .. => 0
 | .sg .. => 1
 | .lk .. => 2
 | .no _ => 3
 | .jn .. => 4
 | .ch .. => 5
def kindS : Stt -> Str
 | .cmp k _ _ => k
 | .sg .. => "is"
 | .lk .. => "like"
 | .no _ => "not"
 | .jn k _ _ => k
 | .ch k _ _ => k
def Start (T : List Nat) : Prop:=(∃ c,T.head? = some c /\ (inR 48 57 c = true \/ inR 65 90 c = true)) \/ ∃ (n : Str) (rest : List Nat),dN n /\ T = n.cps.toList ++ rest /\ Off1 97 122 rest
structure Plain (T : List Nat) : Prop where
 n : (Str.ofString "not ").cps.toList.isPrefixOf T = false
 p : (Str.ofString "(").cps.toList.isPrefixOf T = false
 s : (("some" : Str) ++ (" " : Str)).cps.toList.isPrefixOf T = false
 a : (("all" : Str) ++ (" " : Str)).cps.toList.isPrefixOf T = false
theorem bW {T : List Nat} (h : Start T) : Plain T:=by
 rcases h with ⟨c,hc,h⟩ | ⟨n,rest,on,e,of⟩
 ·have hr : c <= 90 /\ 48 <= c:=by
   rcases h with h | h
   ·have:=of_decide_eq_true h; omega
   ·have:=of_decide_eq_true h; omega
  exact ⟨by rw [rL]; exact lC rfl hc (by omega),by rw [rM]; exact lC rfl hc (by omega),by rw [eW]; exact lC rfl hc (by omega),by rw [gu]; exact lC rfl hc (by omega)⟩
 ·subst e
  obtain ⟨c,hc,hcr⟩:=rK on.1 rest
  have hr:=of_decide_eq_true hcr
  refine ⟨?_,by rw [rM]; exact lC rfl hc (by omega),?_,?_⟩
  ·have:=xD (w:=("not" : Str)) (by decide +kernel) (by decide +kernel) on of
   rw [show (("not" : Str)).cps.toList = [110,111,116] from by decide +kernel] at this
   rw [rL]
   exact this
  ·have:=xD (w:=("some" : Str)) (by decide +kernel) (by decide +kernel) on of
   rw [Dh] at this
   rw [eW]
   exact this
  ·have:=xD (w:=("all" : Str)) (by decide +kernel) (by decide +kernel) on of
   rw [DL] at this
   rw [gu]
   exact this
theorem lR {a : List Prt} (h : c9 a) {t : List Nat} (ft : zH t) : Start ((bu a).cps.toList ++ t) /\ Off1 65 90 ((bu a).cps.toList ++ t):=by
 cases a with
 | nil => exact absurd rfl h.1
 | cons p qs =>
  have po:=h.2.2 p List.mem_cons_self
  rw [lQ,aI,List.append_assoc]
  have ft' : zH ((jh qs).cps.toList ++ t):=sE ft
  by_cases cA : ¬ p.2 = ("" : Str) /\ p.1 = 1
  ·have en : aO p = p.2:=(if_neg cA.1).trans (if_pos cA.2)
   have on : dN p.2:=by
    rcases po with o | o
    ·exact absurd o.1 cA.1
    ·exact o.1
   rw [en]
   obtain ⟨c,hc,hcr⟩:=rK on.1 ((jh qs).cps.toList ++ t)
   refine ⟨.inr ⟨p.2,_,on,rfl,fun c hc => (ft' c hc).2.1⟩,fun c' hc' => ?_⟩
   rw [hc] at hc'
   cases hc'
   exact (CP hcr).2
  ·have n01 : 0 <= p.1:=by
    rcases po with o | o
    ·exact o.2.1
    ·omega
   obtain ⟨R,hR⟩ : ∃ R,(aO p).cps.toList = (bH p.1).cps.toList ++ R:=by
    by_cases c2 : p.2 = ("" : Str)
    ·exact ⟨[],by rw [show aO p = bH p.1 from if_pos c2,List.append_nil]⟩
    ·have c1 : ¬ p.1 = 1:=fun h => cA ⟨c2,h⟩
     exact ⟨_,by rw [show aO p = bH p.1 ++ ("*" : Str) ++ p.2 from (if_neg c2).trans (if_neg c1),aI,aI,List.append_assoc]⟩
   have nd:=ic n01
   rw [hR]
   cases e : (bH p.1).cps.toList with
   | nil =>
    have:=nd.1
    rw [rJ,e] at this
    exact absurd this (by decide)
   | cons c l =>
    have hd:=nd.2 c (by rw [e]; exact List.mem_cons_self)
    refine ⟨.inl ⟨c,rfl,.inl hd⟩,fun c' hc' => ?_⟩
    cases hc'
    have:=of_decide_eq_true hd
    exact decide_eq_false (by omega)
theorem gh {row : Str} (h : gn row) (t : List Nat) : Start (row.cps.toList ++ t):=by
 obtain ⟨c,hc,hr⟩:=rK h t
 exact .inl ⟨c,hc,.inr hr⟩
theorem oO (r : Str) (a : List Prt) (s : Int) : au (.sg r a s) = r ++ (brk a ++ (" = " : Str) ++ bH s):=by
 unfold au eR brk
 simp only [Str.append_assoc]
theorem oM (r : Str) (a : List Prt) (q : Str) (b : List Prt) : au (.lk r a q b) = r ++ (brk a ++ (" = " : Str) ++ (q ++ brk b)):=by
 unfold au eR brk
 simp only [Str.append_assoc]
theorem yf (k : Str) (s t : Stt) : au (.jn k s t) = ("(" : Str) ++ jnT k s t:=by
 show ("(" : Str) ++ au s ++ eC k ++ au t ++ (")" : Str) = _
 unfold jnT
 simp only [Str.append_assoc]
theorem oK (k n : Str) (s : Stt) : au (.ch k n s) = (k ++ (" " : Str)) ++ chT n s:=by
 show (k ++ (" " : Str) ++ n ++ (": " : Str)) ++ au s = _
 unfold chT
 simp only [Str.append_assoc]
def kindsH : List V:=[.str "some",.str "all"]
theorem BE {m : Nat} {y : V} (h : kindsH[m]? = some y) : ∃ κ,y = .str κ /\ (κ = ("some" : Str) \/ κ = ("all" : Str)):=by
 have hm:=mq_ h
 unfold kindsH at hm
 simp only [List.mem_cons,List.not_mem_nil,or_false] at hm
 rcases hm with e | e
 ·exact ⟨_,e,.inl rfl⟩
 ·exact ⟨_,e,.inr rfl⟩
theorem DR {k k' : Str} (h : k = ("some" : Str) \/ k = ("all" : Str)) (h' : k' = ("some" : Str) \/ k' = ("all" : Str)) (t : List Nat) : (k' ++ (" " : Str)).cps.toList.isPrefixOf ((k ++ (" " : Str)).cps.toList ++ t) = decide (k' = k):=by
 have n1 : (("some" : Str)) ≠ ("all" : Str):=by decide +kernel
 rcases h with e | e <;> rcases h' with e' | e' <;> subst e e'
 ·rw [decide_eq_true rfl,eW]; rfl
 ·rw [decide_eq_false (Ne.symm n1),eW,gu]; rfl
 ·rw [decide_eq_false n1,eW,gu]; rfl
 ·rw [decide_eq_true rfl,gu]; rfl
section
variable {P : Program} {w : World} {K : PySem.W.Frag} {mg : Str -> Option Value} {base : Heap} {f : Addr} {fd : FuncData} {dV : Value} {C TH : Addr} {tk : Tok}
theorem sc_Reader_statement : FnScope ["self","deep","kind","row"] ["self","deep"] (ai bg):=⟨rfl,rfl,rfl,by decide +kernel,rfl,by decide +kernel,by decide +kernel⟩
theorem sc_read : FnScope ["text","reader","statement"] ["text"] (ai qd):=⟨rfl,rfl,rfl,by decide +kernel,rfl,by decide +kernel,by decide +kernel⟩
theorem nQ : FnScope ["self","text"] ["self","text"] (ai bD):=⟨rfl,rfl,rfl,by decide +kernel,rfl,by decide +kernel,by decide +kernel⟩
theorem Ec {d : Nat} (F : FunD K "statement" "Reader.statement" bg dV f fd) (aY : DefMe P w K mg base C "takes" 1 ["self","word"] (gd C)) (cM : DefMe P w K mg base C "run" 1 ["self","first","last"] (qy C)) (bx : DefMe P w K mg base C "statement" (2 * d + 7) ["self","deep"] (oU C d)) (Bg : DefMe P w K mg base C "joined" (2 * d + 8) ["self","deep"] (Dj C d)) (Bf : DefMe P w K mg base C "chosen" (2 * d + 8) ["self","kind","deep"] (zA C d)) (fm : DefMe P w K mg base C "compared" 6 ["self"] (ka C)) (dM : DefMe P w K mg base C "looked_up" 7 ["self","row"] (yp C)) (gL : mg "CHOOSING" = some (.ref TH)) (sqH : ∀ H,SqT K H TH kindsH) : FnOk P w K mg base CX0 (2 * d + 9) f fd ["self","deep"] (uf C d):=by
 refine F.ok sc_Reader_statement (fun vs H Q E h => ?_) (fun cdv A outer s H vs Q E hr h => ?_)
 ·obtain ⟨x,z,st,m,i,r,rfl,_⟩:=h
  rfl
 obtain ⟨x,z,st,m,i,r,rfl,md,rd,hi,lz,hh,wr,ds,fo,q⟩:=h
 refine ⟨_,(aj (bc (aF jb (pv 1) ag (aM _)) (ao cg) aH)
   (aj (bc (bX (b6 aY hr (pv 0) (aa ar ae) (hkj:=by omega))) (ao (aG (a8 (aa ar (aa (b6 bx hr (pv 0) (aa (ak nK (pv 1) ag) ae) (hkj:=by omega)) ae))))) aH)
   (aj (bc (bX (b6 aY hr (pv 0) (aa ar ae) (hkj:=by omega))) (ao (aG (b6 Bg hr (pv 0) (aa (pv 1) ae) (hkj:=by omega)))) aH)
   (aj (lD PassesOwn.never rfl (xY (dk (v:=.ref _) rfl gL rfl)) (aP (i:=2) sc_Reader_statement.nd rfl (Or.inl rfl)) (ao (bc (bX (b6 aY hr (pv 0) (aa (ak aq (pv 2) ar) ae) (hkj:=by omega))) (ao (aG (b6 Bf hr (pv 0) (aa (pv 2) (aa (pv 1) ae)) (hkj:=by omega)))) aH)))
   (aj (aA (i:=3) sc_Reader_statement.nd rfl (Or.inl rfl) (b6 cM hr (pv 0) (aa ar (aa ar ae)) (hkj:=by omega)))
   (ao (aG (zl (aF cQ (pv 3) ar (aM _)) (gS fm hr (pv 0) (hkj:=by omega)) (b6 dM hr (pv 0) (aa (pv 3) ae) (hkj:=by omega)))))))))),?_⟩
 obtain ⟨dx,hx⟩:=rd.ob
 have ln : (Str.ofString "not ").length = 4:=by decide
 have lp : (Str.ofString "(").length = 1:=by decide
 refine ⟨_,rfl,_,_,rfl,rfl,_,rfl,?_⟩
 rw [decide_eq_false (show ¬ (m : Int) < 0 by omega)]
 refine b8 ?_
 have hT : atT z i = (au st).cps.toList ++ r:=hh
 have tkc : ∀ (κ : Str),κ = ("some" : Str) \/ κ = ("all" : Str) -> κ.length + ((" " : Str)).length <= 5:=fun κ h => by rcases h with e | e <;> subst e <;> decide
 by_cases t3 : B2 st = 3
 ·cases st with
  | no t =>
   have hh' : Here z i (Str.ofString "not " ++ au t) r:=hh
   have dt : 1 + aQ t <= m:=ds
   have hle:=hh'.le hi
   rw [len_app] at hle
   refine ⟨_,rfl,x,dx,_,rfl,hx,rfl,x,z,Str.ofString "not ",i,rfl,rd,hi,by rw [ln]; decide,fun h => by (rw [oC hh'.app.1] at h; cases h),fun _ H1 rd1 bt1 => ⟨_,rfl,eO ?_⟩⟩
   obtain ⟨dx1,hx1⟩:=rd1.ob
   refine ⟨_,rfl,x,dx1,_,rfl,hx1,rfl,_,rfl,_,_,rfl,rfl,x,z,t,m - 1,_,r,DU (by omega),by omega,rd1,by omega,lz,hh'.app.2,wr,by omega,fo,fun v H2 rd2 bt2 hv => ⟨(by show 2 <= sizeLine; decide),fun T hT => ?_⟩⟩
   have s3:=ah hT (HO.tup [V.str (Str.ofString "not"),v])
   refine q (.ref T) _ ?_ (bt1.trans (bt2.trans (lW s3))) ⟨T,v,rfl,af,StAt.same (tkS s3) hv⟩
   show Rd _ C x z (i + (Str.ofString "not " ++ au t).length)
   rw [len_app,<- Nat.add_assoc]
   exact rd2.same s3
  | cmp k a b => exact absurd t3 (show ¬ 0 = 3 by decide)
  | sg r a n => exact absurd t3 (show ¬ 1 = 3 by decide)
  | lk r a q b => exact absurd t3 (show ¬ 2 = 3 by decide)
  | jn k t u => exact absurd t3 (show ¬ 4 = 3 by decide)
  | ch k n t => exact absurd t3 (show ¬ 5 = 3 by decide)
 have pn : (Str.ofString "not ").cps.toList.isPrefixOf (atT z i) = false:=by
  rw [hT]
  cases st with
  | no t => exact absurd rfl t3
  | cmp k a b =>
   rw [show au (.cmp k a b) = (bu a ++ eC k) ++ bu b from rfl,aI,aI,List.append_assoc,List.append_assoc]
   exact (bW (lR wr.2.1 (oi wr.1 _).1).1).n
  | sg r a n =>
   rw [oO,aI,List.append_assoc]
   exact (bW (gh wr.1 _)).n
  | lk r a q b =>
   rw [oM,aI,List.append_assoc]
   exact (bW (gh wr.1 _)).n
  | jn k t u =>
   rw [yf,aI,List.append_assoc,rL,show (("(" : Str)).cps.toList = [40] from rM]
   rfl
  | ch k n t =>
   rw [oK,aI,List.append_assoc,rL]
   rcases wr.1 with e | e <;> subst e
   ·rw [eW]; rfl
   ·rw [gu]; rfl
 refine ⟨_,rfl,x,dx,_,rfl,hx,rfl,x,z,Str.ofString "not ",i,rfl,rd,hi,by rw [ln]; decide,fun _ => ⟨_,rfl,b8 ?_⟩,fun h => by (rw [pn] at h; cases h)⟩
 by_cases t4 : B2 st = 4
 ·cases st with
  | jn k t u =>
   have hh' := hh
   rw [yf] at hh'
   have hle:=hh'.le hi
   rw [len_app] at hle
   have dt : 1 + max (aQ t) (aQ u) <= m:=ds
   refine ⟨_,rfl,x,dx,_,rfl,hx,rfl,x,z,Str.ofString "(",i,rfl,rd,hi,by rw [lp]; decide,fun h => by (rw [oC (p:=Str.ofString "(") hh'.app.1] at h; cases h),fun _ H1 rd1 bt1 => ⟨_,rfl,eO ?_⟩⟩
   obtain ⟨dx1,hx1⟩:=rd1.ob
   refine ⟨_,rfl,x,dx1,_,rfl,hx1,rfl,_,rfl,x,z,k,t,u,m,_,r,rfl,md,rd1,(by show i + (("(" : Str)).length <= z.length; omega),lz,wr.1,hh'.app.2,wr.2.1,wr.2.2,by omega,by omega,fun v H2 rd2 bt2 hv => ?_⟩
   refine q v H2 ?_ (bt1.trans bt2) hv
   rw [yf,len_app,<- Nat.add_assoc]
   exact rd2
  | no t => exact absurd rfl t3
  | cmp k a b => exact absurd t4 (show ¬ 0 = 4 by decide)
  | sg r a n => exact absurd t4 (show ¬ 1 = 4 by decide)
  | lk r a q b => exact absurd t4 (show ¬ 2 = 4 by decide)
  | ch k n t => exact absurd t4 (show ¬ 5 = 4 by decide)
 have pp : (Str.ofString "(").cps.toList.isPrefixOf (atT z i) = false:=by
  rw [hT]
  cases st with
  | no t => exact absurd rfl t3
  | cmp k a b =>
   rw [show au (.cmp k a b) = (bu a ++ eC k) ++ bu b from rfl,aI,aI,List.append_assoc,List.append_assoc]
   exact (bW (lR wr.2.1 (oi wr.1 _).1).1).p
  | sg r a n =>
   rw [oO,aI,List.append_assoc]
   exact (bW (gh wr.1 _)).p
  | lk r a q b =>
   rw [oM,aI,List.append_assoc]
   exact (bW (gh wr.1 _)).p
  | jn k t u => exact absurd rfl t4
  | ch k n t =>
   rw [oK,aI,List.append_assoc,rM]
   rcases wr.1 with e | e <;> subst e
   ·rw [eW]; rfl
   ·rw [gu]; rfl
 refine ⟨_,rfl,x,dx,_,rfl,hx,rfl,x,z,Str.ofString "(",i,rfl,rd,hi,by rw [lp]; decide,fun _ => ⟨_,rfl,b8 ?_⟩,fun h => by (rw [pp] at h; cases h)⟩
 have pc : ∀ κ : Str,κ = ("some" : Str) \/ κ = ("all" : Str) -> (κ ++ (" " : Str)).cps.toList.isPrefixOf (atT z i) = decide (B2 st = 5 /\ κ = kindS st):=fun κ hκ => by
  rw [hT]
  have pl : Plain ((au st).cps.toList ++ r) -> B2 st ≠ 5 -> (κ ++ (" " : Str)).cps.toList.isPrefixOf ((au st).cps.toList ++ r) = decide (B2 st = 5 /\ κ = kindS st):=fun p n5 => by
   rw [decide_eq_false fun h => n5 h.1]
   rcases hκ with e | e <;> subst e
   ·exact p.s
   ·exact p.a
  cases st with
  | no t => exact absurd rfl t3
  | cmp k a b =>
   refine pl ?_ (show ¬ 0 = 5 by decide)
   rw [show au (.cmp k a b) = (bu a ++ eC k) ++ bu b from rfl,aI,aI,List.append_assoc,List.append_assoc]
   exact bW (lR wr.2.1 (oi wr.1 _).1).1
  | sg r a n =>
   refine pl ?_ (show ¬ 1 = 5 by decide)
   rw [oO,aI,List.append_assoc]
   exact bW (gh wr.1 _)
  | lk r a q b =>
   refine pl ?_ (show ¬ 2 = 5 by decide)
   rw [oM,aI,List.append_assoc]
   exact bW (gh wr.1 _)
  | jn k t u => exact absurd rfl t4
  | ch k n t =>
   rw [oK,aI (k ++ (" " : Str)) (chT n t),List.append_assoc,DR wr.1 hκ]
   exact decide_eq_decide.mpr ⟨fun h => ⟨rfl,h⟩,fun h => h.2⟩
 refine ⟨TH,rfl,⟨_,sqH _⟩,?_⟩
 refine xg (K:=K) (xs:=kindsH) (fun n σ' H' => (∃ v2,σ' = [some (.ref x),some (.int (m : Int)),v2,none]) /\ H' = H /\ ∀ κ,κ ∈ kindsH.take n -> ¬ (B2 st = 5 /\ κ = .str (kindS st))) ⟨⟨none,rfl⟩,rfl,fun κ h => absurd h (by simp)⟩ (fun _ _ _ _ _ => sqH _) ?_ ?_
 ·rintro n y σ' H' hm ⟨⟨v2,rfl⟩,eH,hn⟩
  subst eH
  obtain ⟨κ,rfl,hκ⟩:=BE hm
  have kl:=tkc κ hκ
  refine ⟨_,rfl,x,dx,_,rfl,hx,rfl,_,rfl,_,_,rfl,rfl,Nat.le_trans kl (by decide),x,z,κ ++ (" " : Str),i,rfl,rd,hi,(by rw [len_app]; exact Nat.le_trans kl (by decide)),fun h => ⟨_,rfl,b8 ?_⟩,fun h H1 rd1 bt1 => ⟨_,rfl,eO ?_⟩⟩
  ·rw [pc κ hκ] at h
   have ne:=of_decide_eq_false h
   refine ⟨⟨_,rfl⟩,rfl,fun κ' h' => ?_⟩
   rw [List.take_add_one,hm] at h'
   rcases ma_.mp h' with h1 | h1
   ·exact hn κ' h1
   ·rw [List.mem_singleton.mp h1]
    exact fun e => ne ⟨e.1,V_str.mp e.2⟩
  ·rw [pc κ hκ] at h
   have ek:=of_decide_eq_true h
   cases st with
   | ch k nn t =>
    have e1 : κ = k:=ek.2
    subst e1
    have hh' := hh
    rw [oK] at hh'
    have hle:=hh'.le hi
    rw [len_app] at hle
    have dt : 1 + aQ t <= m:=ds
    obtain ⟨dx1,hx1⟩:=rd1.ob
    refine ⟨_,rfl,x,dx1,_,rfl,hx1,rfl,_,rfl,_,rfl,x,z,κ,nn,t,m,_,r,rfl,md,rd1,by omega,lz,hh'.app.2,wr.2.1,wr.2.2,by omega,fo,fun v H2 rd2 bt2 hv => ?_⟩
    refine q v H2 ?_ (bt1.trans bt2) hv
    rw [oK,len_app,<- Nat.add_assoc]
    exact rd2
   | no t => exact absurd rfl t3
   | jn k t u => exact absurd rfl t4
   | cmp k a b => exact absurd ek.1 (show ¬ 0 = 5 by decide)
   | sg r a n => exact absurd ek.1 (show ¬ 1 = 5 by decide)
   | lk r a q b => exact absurd ek.1 (show ¬ 2 = 5 by decide)
 ·rintro σ' H' ⟨⟨v2,rfl⟩,eH,hn⟩
  subst eH
  cases st with
  | no t => exact absurd rfl t3
  | jn k t u => exact absurd rfl t4
  | ch k n t =>
   exfalso
   rcases wr.1 with e | e <;> subst e
   ·exact hn (.str "some") (by simp [kindsH]) ⟨rfl,rfl⟩
   ·exact hn (.str "all") (by simp [kindsH]) ⟨rfl,rfl⟩
  | cmp k a b =>
   have off : Off1 65 90 (atT z i):=by
    rw [hT,show au (.cmp k a b) = (bu a ++ eC k) ++ bu b from rfl,aI,aI,List.append_assoc,List.append_assoc]
    exact (lR wr.2.1 (oi wr.1 _).1).2
   refine ⟨_,rfl,x,dx,_,rfl,hx,rfl,x,z,Str.ofString "",i,65,90,atT z i,lK,rd,hi,lz,nh z _,?_,off,fun H3 rd3 bt3 => ?_⟩
   ·intro c hc
    rw [show (Str.ofString "").cps.toList = [] from by decide +kernel] at hc
    cases hc
   try dsimp only [aE,aK,List.set]
   rw [show (Str.ofString "").length = 0 from by decide,Nat.add_zero] at rd3
   refine ⟨_,rfl,rfl,_,rfl,?_⟩
   rw [decide_eq_true rfl]
   obtain ⟨dx3,hx3⟩:=rd3.ob
   exact eO ⟨_,rfl,x,dx3,_,rfl,hx3,rfl,x,z,k,a,b,i,r,rfl,rd3,hi,lz,wr.1,hh,wr.2.1,wr.2.2,fo,fun v H4 rd4 bt4 hv => q v H4 rd4 (bt3.trans bt4) hv⟩
  | sg row a n =>
   have hh' := hh
   rw [oO] at hh'
   have hle:=hh'.le hi
   rw [len_app] at hle
   have off : Off1 65 90 ((brk a ++ (" = " : Str) ++ bH n).cps.toList ++ r):=by
    unfold brk
    rw [aI,aI,aI,aI,show (("[" : Str)).cps.toList = [91] from by decide +kernel]
    intro c hc
    cases hc
    decide
   refine ⟨_,rfl,x,dx,_,rfl,hx,rfl,x,z,row,i,65,90,_,lK,rd,hi,lz,hh'.app.1,wr.1.2.2,off,fun H3 rd3 bt3 => ?_⟩
   try dsimp only [aE,aK,List.set]
   have ne : ¬ V.str row = V.str (Str.ofString ""):=fun h => by
    have h' := V_str.mp h
    have:=wr.1.1
    rw [h'] at this
    exact absurd this (by decide)
   refine ⟨_,rfl,rfl,_,rfl,?_⟩
   rw [decide_eq_false ne]
   obtain ⟨dx3,hx3⟩:=rd3.ob
   refine b8 ⟨_,rfl,x,dx3,_,rfl,hx3,rfl,_,rfl,x,z,row,_,.sg row a n,_,r,rfl,rd3,by omega,lz,wr.1,.inl ⟨a,n,rfl,wr.2.1,wr.2.2,rfl⟩,hh'.app.2,fo,fun v H4 rd4 bt4 hv => q v H4 ?_ (bt3.trans bt4) hv⟩
   rw [oO,len_app,<- Nat.add_assoc]
   exact rd4
  | lk row a q' b =>
   have hh' := hh
   rw [oM] at hh'
   have hle:=hh'.le hi
   rw [len_app] at hle
   have off : Off1 65 90 ((brk a ++ (" = " : Str) ++ (q' ++ brk b)).cps.toList ++ r):=by
    rw [aI,aI]
    unfold brk
    rw [aI,aI,show (("[" : Str)).cps.toList = [91] from by decide +kernel]
    intro c hc
    cases hc
    decide
   refine ⟨_,rfl,x,dx,_,rfl,hx,rfl,x,z,row,i,65,90,_,lK,rd,hi,lz,hh'.app.1,wr.1.2.2,off,fun H3 rd3 bt3 => ?_⟩
   try dsimp only [aE,aK,List.set]
   have ne : ¬ V.str row = V.str (Str.ofString ""):=fun h => by
    have h' := V_str.mp h
    have:=wr.1.1
    rw [h'] at this
    exact absurd this (by decide)
   refine ⟨_,rfl,rfl,_,rfl,?_⟩
   rw [decide_eq_false ne]
   obtain ⟨dx3,hx3⟩:=rd3.ob
   refine b8 ⟨_,rfl,x,dx3,_,rfl,hx3,rfl,_,rfl,x,z,row,_,.lk row a q' b,_,r,rfl,rd3,by omega,lz,wr.1,.inr ⟨a,q',b,rfl,wr.2.1,wr.2.2.1,wr.2.2.2,rfl⟩,hh'.app.2,fo,fun v H4 rd4 bt4 hv => q v H4 ?_ (bt3.trans bt4) hv⟩
   rw [oM,len_app,<- Nat.add_assoc]
   exact rd4
end
def yu (C : Addr) : Sp:=fun vs H Q _ => ∃ (x dx : Addr) (z : Str),vs = [.ref x,.str z] /\ H x = some (.ins C dx []) /\ ∀ H' : Hp,But x H H' -> Rd H' C x z 0 -> Q .non H'
def yw : Sp:=fun vs H Q _ => ∃ (z : Str) (st : Stt),vs = [.str z] /\ z = au st /\ z.length <= 1000 /\ Wr st /\ aQ st <= 20 /\ ∀ (v : V) (H' : Hp),Same H H' -> StAt H' v st -> Q v H'
section
variable {P : Program} {w : World} {K : PySem.W.Frag} {mg : Str -> Option Value} {base : Heap} {f : Addr} {fd : FuncData} {dV : Value} {C TH : Addr} {tk tk2 : Tok}
theorem C1 (F : FunD K "__init__" "Reader.__init__" bD dV f fd) (rc : RCls K C) : FnOk P w K mg base CX0 1 f fd ["self","text"] (yu C):=by
 refine F.ok nQ (fun vs H Q E h => ?_) (fun cdv A outer s H vs Q E hr h => ?_)
 ·obtain ⟨x,dx,z,rfl,_⟩:=h
  rfl
 obtain ⟨x,dx,z,rfl,hx,k⟩:=h
 refine ⟨_,(aj (tQ (pv 0) (pv 1) rfl)
   (ao (tQ (pv 0) ag rfl))),?_⟩
 refine ⟨_,rfl,_,rfl,x,C,dx,[],rfl,hx,rc.cl,rc.nt,by decide,?_⟩
 refine ⟨_,rfl,x,C,dx,_,rfl,af,rc.cl,rc.na,by show 1 < 1000; decide,?_⟩
 refine k _ (fun c u hc e => ?_) ⟨dx,by rw [af]; rfl⟩
 rw [aw hc,aw hc]
 exact e
theorem Ea (F : FunD K "read" "read" qd dV f fd) (rc : RCls K C) (oY : DefMk P w K mg base "Reader" C 1 ["self","text"] (yu C)) (bx : DefMe P w K mg base C "statement" 49 ["self","deep"] (uf C 20)) (gM : mg "MOST_LETTERS" = some (.int 1000 tk)) (kY : mg "MOST_DEEP" = some (.int 20 tk2)) (aL : mg "isinstance" = none) (bG : mg "str" = none) (a9 : mg "len" = none) : FnOk P w K mg base CX0 50 f fd ["text"] yw:=by
 refine F.ok sc_read (fun vs H Q E h => ?_) (fun cdv A outer s H vs Q E hr h => ?_)
 ·obtain ⟨z,st,rfl,_⟩:=h
  rfl
 obtain ⟨z,st,rfl,ez,lz,wr,d20,q⟩:=h
 refine ⟨_,(aj (bc (dC (bX (aB fv (by rfl) aL bL (aa (pv 0) (aa (ie (v:=.ty "str") rfl bG iC rfl) ae))))) (ao cg) aH)
   (aj (bc (aF wj (aB cw (by rfl) a9 cc (aa (pv 0) ae)) (dk (v:=.int 1000) rfl gM ⟨_,rfl⟩) (aM _)) (ao cg) aH)
   (aj (aA (i:=1) sc_read.nd rfl (Or.inl rfl) (Fj oY hr (aa (pv 0) ae)))
   (aj (aA (i:=2) sc_read.nd rfl (Or.inl rfl) (b6 bx hr (pv 1) (aa (dk (v:=.int 20) rfl kY ⟨_,rfl⟩) ae)))
   (aj (bc (aF jb (eP (pv 1) rfl) (aB cw (by rfl) a9 cc (aa (pv 0) ae)) (aM _)) (ao cg) aH)
   (ao (aG (pv 2)))))))),?_⟩
 have lz' : z.length <= sizeLine:=Nat.le_trans lz (by decide)
 refine ⟨_,rfl,_,_,_,_,rfl,TyOf.str _,ia K,_,rfl,b8 ?_⟩
 refine ⟨_,rfl,z,rfl,lz',_,_,rfl,rfl,_,rfl,?_⟩
 rw [decide_eq_false (show ¬ (1000 : Int) < (z.length : Int) by omega)]
 refine b8 ?_
 refine ⟨_,rfl,fun x dx hx hdx ne => ?_⟩
 have s1 : Same H (upd (upd H dx (.own x)) x (.ins C dx [])):=fun b u e => by rw [aw (az e hx),aw (az e hdx)]; exact e
 refine ⟨x,dx,z,rfl,af,fun H2 bt2 rd2 => ⟨rfl,?_⟩⟩
 have s2 : Same H H2:=fun b u e => bt2 b u (az e hx) (s1 _ _ e)
 try dsimp only [aE,aK,List.set]
 obtain ⟨dx2,hx2⟩:=rd2.ob
 have hh : Here z 0 (au st) []:=by
  unfold Here
  rw [<- ez,List.append_nil]
  rfl
 refine ⟨_,rfl,x,dx2,_,rfl,hx2,rfl,x,z,st,20,0,[],rfl,by decide,rd2,Nat.zero_le _,lz,hh,wr,d20,.inl rfl,fun v H3 rd3 bt3 hv => ?_⟩
 try dsimp only [aE,aK,List.set]
 obtain ⟨dx3,hx3⟩:=rd3.ob
 have s3 : Same H H3:=fun b u e => bt3 b u (az e hx) (s2 _ _ e)
 refine ⟨_,rfl,x,C,dx3,_,_,rfl,hx3,rc.cl,rc.na,rfl,_,rfl,z,rfl,lz',_,_,rfl,rfl,_,rfl,?_⟩
 rw [decide_eq_false (show ¬ ((0 + (au st).length : Nat) : Int) < (z.length : Int) by rw [<- ez]; omega)]
 exact b8 ⟨_,rfl,q v H3 s3 hv⟩
end
def SprAt (K : PySem.W.Frag) (H : Hp) (a : Addr) (ns : LI) : Prop := ∃ (l t : Addr) (ts : LI),H a = some (.lst [.ref l,.ref t]) /\ H l = some (.lst (ns.map V.int)) /\ (∀ z ∈ ns,0 <= z /\ z < 2147483629) /\ SqL K H t (ts.map V.int) /\ ts.length <= 64
theorem SprAt.same {K : PySem.W.Frag} {H H' : Hp} {a : Addr} {ns : LI} (h : SprAt K H a ns) (s : Same H H') : SprAt K H' a ns:=by
 obtain ⟨l,t,ts,h1,h2,h3,h4,h5⟩:=h
 exact ⟨l,t,ts,s _ _ h1,s _ _ h2,h3,s.seq h4,h5⟩
def mJ (ns : LI) (k : Int) : Int:=ns.getD k.toNat 0 % 2147483629
theorem dc (ns : LI) (k : Int) : 0 <= mJ ns k /\ mJ ns k < 2147483629:=⟨Int.emod_nonneg _ (by decide),Int.emod_lt_of_pos _ (by decide)⟩
def ij (K : PySem.W.Frag) : Sp:=fun vs H Q _ => ∃ (a : Addr) (k : Int) (ns : LI),vs = [.ref a,.int k] /\ SprAt K H a ns /\ 930 <= ns.length /\ 0 <= k /\ k < 930 /\ Q (.int (mJ ns k)) H
section
variable {P : Program} {w : World} {K : PySem.W.Frag} {mg : Str -> Option Value} {base : Heap} {f : Addr} {fd : FuncData} {dV : Value}
theorem yc : FnScope ["_law_spread_here","_law_k"] ["_law_spread_here","_law_k"] (ai dF):=⟨rfl,rfl,rfl,by decide +kernel,rfl,by decide +kernel,by decide +kernel⟩
theorem CT (F : FunD K "_law_draw" "_law_draw" dF dV f fd) : FnOk P w K mg base CX0 1 f fd ["_law_spread_here","_law_k"] (ij K):=by
 refine F.ok yc (fun vs H Q E h => ?_) (fun cdv A outer s H vs Q E hr h => ?_)
 ·obtain ⟨a,k,ns,rfl,_⟩:=h
  rfl
 obtain ⟨a,k,ns,rfl,⟨l,t,ts,h1,h2,h3,_⟩,h63,h0,h1',q⟩:=h
 refine ⟨_,(ao (aG (aV aS (aV aS (pv 0) ag (fun _ _ => rfl)) (pv 1) (fun _ _ => rfl)))),?_⟩
 have kl : k.toNat < ns.length:=by omega
 have r:=h3 _ (List.getElem_mem kl)
 refine ⟨_,rfl,a,_,_,_,rfl,rfl,qL_ h1,rfl,_,rfl,l,_,_,_,rfl,rfl,qL_ h2,fu h0 (by omega),?_⟩
 unfold mJ at q
 rw [getD_at kl] at q ⊢
 rw [Int.emod_eq_of_lt r.1 r.2] at q
 exact q
end
def yq (K : PySem.W.Frag) : Sp:=fun vs H Q _ => ∃ (a : Addr) (k : Int) (ns : LI),vs = [.ref a,.int k] /\ SqL K H a (ns.map V.int) /\ ns.length <= 63 /\ 0 <= k /\ k < 100000 /\
 ∀ v : Int,0 <= v -> v < 2147483629 -> Q (.int v) H
def ue (K : PySem.W.Frag) : Sp:=fun vs H Q _ => ∃ (a : Addr) (ns : LI),vs = [.ref a] /\ SqL K H a (ns.map V.int) /\ ns.length <= 63 /\
 ∀ (l : Addr) (H' : Hp) (xs : LI),Same H H' -> SprAt K H' l xs -> 930 <= xs.length -> Q (.ref l) H'
theorem Cm (ns : LI) (lo hi : Option Int) : ∃ ms : LI,Bs (ns.map V.int) lo hi = ms.map V.int /\ ms.length <= ns.length:=by
 unfold Bs
 rw [<- List.map_drop,<- List.map_take]
 exact ⟨_,rfl,by rw [List.length_take,List.length_drop]; omega⟩
section
variable {P : Program} {w : World} {K : PySem.W.Frag} {mg : Str -> Option Value} {base : Heap} {f : Addr} {fd : FuncData} {dV : Value}
theorem sc__law_mixed : FnScope ["_law_script","_law_k","_law_cell","_law_number"] ["_law_script","_law_k"] (ai cY):=⟨rfl,rfl,rfl,by decide +kernel,rfl,by decide +kernel,by decide +kernel⟩
theorem sc__law_spread : FnScope ["_law_script","_law_left","_law_found","_law_at","_law_digit"] ["_law_script"] (ai bZ):=⟨rfl,rfl,rfl,by decide +kernel,rfl,by decide +kernel,by decide +kernel⟩
theorem bk__law_spread_0 : BlkScope ["_law_script","_law_left","_law_found","_law_at","_law_digit"] (ai bZ) ["_law_k","_law_script"] [none,some 0] { kind:=ScopeKind.function,names:=[(".0",NameKind.local),("_law_k",NameKind.local),("_law_mixed",NameKind.globalImplicit),("_law_script",NameKind.free)],isGenerator:=false,isCoroutine:=false,more:=[] }:=⟨rfl,by decide +kernel,by decide +kernel,by decide +kernel,by decide +kernel,rfl,by decide +kernel⟩
theorem CV (F : FunD K "_law_mixed" "_law_mixed" cY dV f fd) (a9 : mg "len" = none) : FnOk P w K mg base CX0 1 f fd ["_law_script","_law_k"] (yq K):=by
 refine F.ok sc__law_mixed (fun vs H Q E h => ?_) (fun cdv A outer s H vs Q E hr h => ?_)
 ·obtain ⟨a,k,ns,rfl,_⟩:=h
  rfl
 obtain ⟨a,k,ns,rfl,hS,h63,h0,h1,q⟩:=h
 have hl : (ns.map V.int).length = ns.length:=List.length_map _
 refine ⟨_,(aj (aA (i:=2) sc__law_mixed.nd rfl (Or.inl rfl) (ak bI (ak iZ ag (pv 1)) ag))
   (aj (bc (aF wj (aB aX (by rfl) a9 cc (aa (pv 0) ae)) ag (aM _)) (ao (aA (i:=2) sc__law_mixed.nd rfl (Or.inl rfl) (ak ba (aV aS (pv 0) (ak ba (pv 1) (aB aX (by rfl) a9 cc (aa (pv 0) ae))) (fun _ _ => rfl)) ag))) aH)
   (aj (aA (i:=3) sc__law_mixed.nd rfl (Or.inl rfl) (ak ba (ak bI (ak bI (ak iZ (pv 2) (ak bI ag (ak iZ (ak iZ ag (pv 1)) (pv 1)))) (ak iZ (pv 1) ag)) ag) ag))
   (aj (aA (i:=3) sc__law_mixed.nd rfl (Or.inl rfl) (ak ba (ak iZ (pv 3) (pv 3)) ag))
   (ao (aG (ak ba (ak bI (ak bI (ak iZ (pv 3) ag) (ak iZ (ak iZ (pv 1) (pv 1)) ag)) ag) ag))))))),?_⟩
 refine ⟨_,rfl,_,_,rfl,rfl,.inl ⟨by decide,by decide⟩,_,_,rfl,rfl,?_⟩
 try dsimp only [aE]
 refine AF (t:=Dq _ _ _) (fun σ' H' => ∃ c : Int,σ' = [some (.ref a),some (.int k),some (.int c),none] /\ H' = H /\ 0 <= c /\ c < 2147483648) ?_ (fun nxt => ?_)
 rotate_left
 ·refine ⟨_,rfl,a,_,rfl,.inl hS,_,_,rfl,rfl,_,rfl,?_⟩
  refine BB (fun c => ?_) (fun c => ?_)
  ·have c' : (0 : Int) < (((ns.map V.int).length : Nat) : Int):=c
   have m0:=Int.emod_nonneg k (show (((ns.map V.int).length : Nat) : Int) ≠ 0 by omega)
   have m1:=Int.emod_lt_of_pos k c'
   have m2:=br (a:=ns.getD (k % (((ns.map V.int).length : Nat) : Int)).toNat 0) (b:=2147483629) (by decide)
   exact ⟨_,rfl,_,rfl,_,rfl,a,_,rfl,.inl hS,_,_,rfl,rfl,c',a,_,_,_,rfl,rfl,hS,fu m0 (by rw [<- hl]; exact m1),_,_,rfl,rfl,(by show (0 : Int) < 2147483629; decide),nxt _ _ ⟨_,rfl,rfl,m2.1,by omega⟩⟩
  ·exact nxt _ _ ⟨_,rfl,rfl,by omega,by omega⟩
 rintro σ' H' ⟨c,rfl,rfl,c0,c1⟩
 have kk:=CJ (a:=2 * k) (b:=k) (m:=200000) (n:=100000) (by omega) (by omega) (by omega) (by omega)
 refine ⟨_,rfl,_,rfl,_,_,rfl,rfl,.inl ⟨by decide,by decide⟩,_,rfl,_,_,rfl,rfl,.inr ⟨by omega,by omega⟩,_,_,rfl,rfl,_,_,rfl,rfl,.inl ⟨by omega,by omega⟩,_,rfl,_,_,rfl,rfl,.inr ⟨by decide,by decide⟩,_,_,rfl,rfl,_,_,rfl,rfl,_,_,rfl,rfl,(by show (0 : Int) < 2147483647; decide),?_⟩
 have e1:=br (a:=c * (48271 + 2 * k * k) + k * 7919 + 11) (b:=2147483647) (by decide)
 refine ⟨_,rfl,_,rfl,_,_,rfl,rfl,.inl ⟨by omega,by omega⟩,_,_,rfl,rfl,(by show (0 : Int) < 2147483587; decide),?_⟩
 have e2:=br (a:=(c * (48271 + 2 * k * k) + k * 7919 + 11) % 2147483647 * ((c * (48271 + 2 * k * k) + k * 7919 + 11) % 2147483647)) (b:=2147483587) (by decide)
 have kk2:=CJ (a:=k) (b:=k) (m:=100000) (n:=100000) (by omega) (by omega) (by omega) (by omega)
 refine ⟨_,rfl,_,_,rfl,rfl,.inr ⟨by decide,by decide⟩,_,rfl,_,rfl,_,_,rfl,rfl,.inl ⟨by omega,by omega⟩,_,_,rfl,rfl,.inr ⟨by decide,by decide⟩,_,_,rfl,rfl,_,_,rfl,rfl,_,_,rfl,rfl,(by show (0 : Int) < 2147483629; decide),?_⟩
 have e3:=br (a:=(c * (48271 + 2 * k * k) + k * 7919 + 11) % 2147483647 * ((c * (48271 + 2 * k * k) + k * 7919 + 11) % 2147483647) % 2147483587 * 69621 + k * k * 40692 + 5) (b:=2147483629) (by decide)
 exact q _ e3.1 e3.2
theorem BR (F : FunD K "_law_spread" "_law_spread" bZ dV f fd) (jm : DefOk P w K mg base "_law_mixed" 1 ["_law_script","_law_k"] [] (yq K)) (a9 : mg "len" = none) (fj : mg "range" = none) (uu : mg "divmod" = none) : FnOk P w K mg base CX0 2 f fd ["_law_script"] (ue K):=by
 refine F.ok sc__law_spread (fun vs H Q E h => ?_) (fun cdv A outer s H vs Q E hr h => ?_)
 ·obtain ⟨a,ns,rfl,_⟩:=h
  rfl
 obtain ⟨a,ns,rfl,hS,h63,k⟩:=h
 have hl : (ns.map V.int).length = ns.length:=List.length_map _
 refine ⟨_,(aj (bc (PW.pt (wo (aF cQ (aB aX (by rfl) a9 cc (aa (pv 0) ae)) ag (aM _)) (tS (aF cQ (ak ba (aV aS (pv 0) ag (fun _ _ => rfl)) ag) ag (aM _))))) (ao (aG (cR (aa (oz rfl bk__law_spread_0 (lO rfl fj (aa ag ae)) (fun _ _ _ _ => (aP (i:=0) bk__law_spread_0.nd rfl (Or.inl rfl))) (fun _ _ _ _ => (aU jm hr (aa (pv 1) (aa (pv 0) ae))))) (aa (pv 0) ae))))) aH)
   (aj (aA (i:=1) sc__law_spread.nd rfl (Or.inl rfl) (ak xS (cR (aa (ak bB (aV aS (pv 0) ag (fun _ _ => rfl)) ag) ae)) (zm Es (pv 0) (x9 ag) El)))
   (aj (aA (i:=2) sc__law_spread.nd rfl (Or.inl rfl) (cR ae))
   (aj (lF PassesOwn.never (aF jb (aB aX (by rfl) a9 cc (aa (pv 2) ae)) ag (aM _)) (ao (lD PassesOwn.never rfl (lO rfl fj (aa (aB aX (by rfl) a9 cc (aa (pv 1) ae)) ae)) (aP (i:=3) sc__law_spread.nd rfl (Or.inl rfl)) (aj (tP (aB wO (by rfl) uu Bi (aa (aV aS (pv 1) (pv 3) (fun _ _ => rfl)) (aa ag ae))) (Ag rfl (aZ (Fn (pv 1) (pv 3) set_list) (aZ (aP (i:=4) sc__law_spread.nd rfl (Or.inl rfl)) j6))))
   (ao (bC (eG PySem.F.plainAttrs_list PySem.F.slot_list_append PySem.F.type_list_append bh (pv 2) (aa (pv 4) ae))))))))
   (ao (aG (cR (aa (pv 2) (aa (pv 1) ae))))))))),?_⟩
 have rest : ∀ (ys : List V),IntsIn 0 2147483629 ys -> ∀ D H',Same H H' -> H' D = some (.lst ys) -> ys.length = 930 -> ∀ a',H' a' = none -> Q (.ref a') (upd H' a' (.lst [.ref D,.ref a])):=fun ys hys D H' s1 hD ly a' ha' => by
  obtain ⟨xs,rfl,hx⟩:=hys.ints
  rw [lm_] at ly
  have sn:=ah ha' (HO.lst [V.ref D,V.ref a])
  exact k a' _ xs (s1.trans sn) ⟨D,a,ns,af,sn _ _ hD,hx,(s1.trans sn).seq hS,by omega⟩ (by omega)
 refine ⟨_,rfl,a,_,rfl,.inl hS,rfl,_,rfl,xj (fun c => ?_) (fun c => ?_)⟩
 ·refine ⟨(930 : Int),rfl,by decide,by decide,?_⟩
  refine se (fun D j ys H'' => Same H H'' /\ ys.length = j /\ IntsIn 0 (2147483629) ys) (fun D hD => ⟨ah hD _,rfl,IntsIn.nil⟩) ?_ ?_
  ·rintro D j ys H4 Q' hD hj hy ⟨hs4,hl4,hall4⟩ k'
   have hj' : j < 930:=hj
   exact ⟨_,rfl,_,rfl,a,_,ns,rfl,hs4.seq hS,h63,by omega,by omega,fun v v0 v1 => k' _ _ hy (cH (by omega)) ⟨aW hs4 hD,by simp [hl4],hall4.snoc v0 v1⟩⟩
  ·rintro D ys H4 fD hD ⟨hs4,hl4,hall4⟩
   exact ⟨_,rfl,(by show 2 <= sizeLine; decide),fun a' ha' => rest ys hall4 D H4 hs4 hD hl4 a' ha'⟩
 have c' : 0 < ns.length:=by
  rw [hl] at c
  omega
 refine ⟨_,rfl,a,_,_,_,rfl,rfl,hS,fu (by decide) (by omega),_,_,rfl,rfl,(by show (0 : Int) < 2; decide),rfl,_,rfl,xj (fun c2 => ?_) (fun c2 => ?_)⟩
 ·refine ⟨(930 : Int),rfl,by decide,by decide,?_⟩
  refine se (fun D j ys H'' => Same H H'' /\ ys.length = j /\ IntsIn 0 (2147483629) ys) (fun D hD => ⟨ah hD _,rfl,IntsIn.nil⟩) ?_ ?_
  ·rintro D j ys H4 Q' hD hj hy ⟨hs4,hl4,hall4⟩ k'
   have hj' : j < 930:=hj
   exact ⟨_,rfl,_,rfl,a,_,ns,rfl,hs4.seq hS,h63,by omega,by omega,fun v v0 v1 => k' _ _ hy (cH (by omega)) ⟨aW hs4 hD,by simp [hl4],hall4.snoc v0 v1⟩⟩
  ·rintro D ys H4 fD hD ⟨hs4,hl4,hall4⟩
   exact ⟨_,rfl,(by show 2 <= sizeLine; decide),fun a' ha' => rest ys hall4 D H4 hs4 hD hl4 a' ha'⟩
 refine ⟨_,rfl,a,_,_,_,rfl,rfl,hS,fu (by decide) (by omega),_,_,rfl,rfl,⟨by decide,by decide⟩,(by show 1 <= sizeLine; decide),fun L1 hL1 => ?_⟩
 have s1:=ah hL1 (HO.lst [V.int (ns.getD (0 : Int).toNat 0 / 2)])
 refine ⟨_,rfl,_,rfl,a,_,rfl,s1.seq hS,fun L2 hL2 => ?_⟩
 obtain ⟨ms,ems,lms⟩:=Cm ns (some 1) none
 rw [ems]
 have s2:=ah hL2 (HO.lst (ms.map V.int))
 have n12 : L1 ≠ L2:=az af hL2
 refine ⟨L1,L2,_,_,rfl,rfl,by rw [aw n12,af],af,by simp; exact small (by omega),fun L hL => ?_⟩
 have s3:=(s1.trans s2).trans (ah hL (HO.lst ([V.int (ns.getD (0 : Int).toNat 0 / 2)] ++ ms.map V.int)))
 have fL : H L = none:=(s1.trans s2).free hL
 refine ⟨(by show 0 <= sizeLine; decide),fun Fo hFo => ?_⟩
 have s4:=s3.trans (ah hFo (HO.lst []))
 have fF : H Fo = none:=s3.free hFo
 have nLF : L ≠ Fo:=az af hFo
 try dsimp only [aE]
 refine AF (t:=qj _ _) (fun σ' H' => ∃ (xs ls : LI) (v1 v2 : OV),σ' = [some (.ref a),some (.ref L),some (.ref Fo),v1,v2] /\ Same H H' /\ H' L = some (.lst (ls.map V.int)) /\ ls.length <= 64 /\ H' Fo = some (.lst (xs.map V.int)) /\ 930 <= xs.length /\ ∀ z ∈ xs,0 <= z /\ z < 2147483629) ?_ (fun nxt => ?_)
 rotate_left
 ·refine oW (fun mm σ' H' => ∃ (xs ls : LI) (v1 v2 : OV),mm = 1000 - xs.length /\ xs.length <= 994 /\ σ' = [some (.ref a),some (.ref L),some (.ref Fo),v1,v2] /\ Same H H' /\ H' L = some (.lst (ls.map V.int)) /\ 1 <= ls.length /\ ls.length <= 64 /\ H' Fo = some (.lst (xs.map V.int)) /\ ∀ z ∈ xs,0 <= z /\ z < 2147483629)
   ⟨_,[],(ns.getD (0 : Int).toNat 0 / 2) :: ms,none,none,rfl,by decide,rfl,s4,by rw [aw nLF,af]; rfl,by simp,by simp; omega,af,(fun z h => by cases h)⟩ ?_
  rintro mm σ' H1 ⟨xs,ls,v1,v2,rfl,lx,rfl,t1,hL1',l1,l64,hF1,hx⟩
  refine ⟨_,rfl,Fo,_,rfl,.inl (qL_ hF1),_,_,rfl,rfl,_,rfl,BB (fun c3 => ?_) (fun c3 => ?_)⟩
  ·rw [lm_] at c3
   refine ⟨fun σ' H' => ∃ m',m' < 1000 - xs.length /\ ∃ (xs ls : LI) (v1 v2 : OV),m' = 1000 - xs.length /\ xs.length <= 994 /\ σ' = [some (.ref a),some (.ref L),some (.ref Fo),v1,v2] /\ Same H H' /\ H' L = some (.lst (ls.map V.int)) /\ 1 <= ls.length /\ ls.length <= 64 /\ H' Fo = some (.lst (xs.map V.int)) /\ ∀ z ∈ xs,0 <= z /\ z < 2147483629,fun σ' H' h => h,?_⟩
   refine ⟨_,rfl,L,_,rfl,.inl (qL_ hL1'),?_⟩
   rw [lm_]
   refine ⟨(ls.length : Int),rfl,by omega,by omega,pI (fun i σ' H' => ∃ (ys ms : LI) (v1 v2 : OV),ys.length = xs.length + i /\ σ' = [some (.ref a),some (.ref L),some (.ref Fo),v1,v2] /\ Same H H' /\ H' L = some (.lst (ms.map V.int)) /\ ms.length = ls.length /\ H' Fo = some (.lst (ys.map V.int)) /\ ∀ z ∈ ys,0 <= z /\ z < 2147483629)
    ⟨xs,ls,v1,v2,rfl,rfl,t1,hL1',rfl,hF1,hx⟩ ?_ ?_⟩
   ·rintro i σ' H2 hi ⟨ys,ms,v1,v2,ly,rfl,t2,hL2',lm,hF2,hy⟩
    have hi' : i < ls.length:=by omega
    have z0 : (0 : Int) + (i : Int) = (i : Int):=Int.zero_add _
    rw [z0]
    have at1:=fu (ns:=ms) (k:=(i : Int)) (by omega) (by omega)
    have ix : ixN (ms.map V.int).length (i : Int) = some i:=by
     rw [lm_]
     unfold ixN
     rw [if_pos (by omega),if_pos (by omega),Int.toNat_natCast]
    have rm:=br (a:=ms.getD ((i : Int)).toNat 0) (b:=2147483629) (by decide)
    refine ⟨_,rfl,_,rfl,L,_,_,_,rfl,rfl,qL_ hL2',at1,_,_,rfl,⟨by decide,by decide +kernel⟩,fun p hp => ?_⟩
    have np : L ≠ p:=az hL2' hp
    have npF : Fo ≠ p:=az hF2 hp
    refine ⟨p,_,rfl,qT_ af,rfl,_,_,rfl,_,rfl,_,rfl,L,_,_,_,rfl,rfl,by rw [aw np]; exact hL2',ix,_,_,rfl,rfl,?_⟩
    have hF3 : (upd (upd H2 p (HO.tup [V.int (ms.getD ((i : Int)).toNat 0 / 2147483629),V.int (ms.getD ((i : Int)).toNat 0 % 2147483629)])) L (HO.lst ((ms.map V.int).set i (V.int (ms.getD ((i : Int)).toNat 0 / 2147483629))))) Fo = some (.lst (ys.map V.int)):=by
     rw [aw (Ne.symm nLF),aw npF]
     exact hF2
    refine ⟨_,rfl,.inl ⟨rfl,_,qL_ hF3⟩,_,rfl,Fo,_,_,rfl,rfl,hF3,cH (by rw [lm_]; omega),?_⟩
    refine ⟨ys ++ [ms.getD ((i : Int)).toNat 0 % 2147483629],ms.set i (ms.getD ((i : Int)).toNat 0 / 2147483629),_,_,by simp [ly]; omega,rfl,aW (aW (aW t2 (t2.free hp)) fL) fF,?_,by simp [lm],by rw [af,List.map_append]; rfl,?_⟩
    ·rw [aw nLF,af,List.map_set]
    ·intro z hz
     rcases ma_.mp hz with q | q
     ·exact hy z q
     ·rw [List.mem_singleton.mp q]; exact rm
   ·rintro σ' H2 ⟨ys,ms,v1,v2,ly,rfl,t2,hL2',lm,hF2,hy⟩
    rw [Int.toNat_natCast] at ly
    exact ⟨1000 - ys.length,by omega,ys,ms,_,_,rfl,by omega,rfl,t2,hL2',by omega,by omega,hF2,hy⟩
  ·rw [lm_] at c3
   exact nxt _ _ ⟨xs,ls,_,_,rfl,t1,hL1',l64,hF1,by omega,hx⟩
 rintro σ' H1 ⟨xs,ls,v1,v2,rfl,t1,hL1',l64,hF1,lx,hx⟩
 refine ⟨_,rfl,_,rfl,(by show 2 <= sizeLine; decide),fun a' ha' => ?_⟩
 have sn:=ah ha' (HO.lst [V.ref Fo,V.ref L])
 exact k a' _ xs (t1.trans sn) ⟨Fo,L,ls,af,sn _ _ hF1,hx,qL_ (sn _ _ hL1'),l64⟩ lx
end
def ltr (L : Str) (i : Int) : Str:=⟨#[L.cps.toList.getD i.toNat 0]⟩
def dw (n : Int) (L : Str) : Str:=if n / 26 % 2 = 0 then ltr L (n / 52 % 3) else ltr L (n % 26)
def ig (n : Int) : Int:=1 + n / 156 % 6
def uo (n : Int) : Int:=n / 936 % ig n
def ku (n : Int) (L : Str) : Str:=Txt.mul (dw n L) (uo n) ++ ltr L (n / 5616 % 26) ++ Txt.mul (dw n L) (ig n - uo n - 1)
def Bu : List V:=[.str "and",.str "or",.str "not",.str "some",.str "all"]
def ji (n : Int) (L : Str) : Str:=if inV (.str (ku n L)) Bu = true then ku n L ++ ("x" : Str) else ku n L
theorem wc (c : Array Nat) : ∀ (n : Nat) (acc : Array Nat),((List.replicate n c).foldl (· ++ ·) acc).size = acc.size + n * c.size
 | 0,acc => by simp
 | n + 1,acc => by
  rw [List.replicate_succ,List.foldl_cons,wc c n,Array.size_append,Nat.succ_mul]
  omega
theorem AX {x : Str} {k : Int} (h : x.length = 1) (h0 : 0 <= k) : (Txt.mul x k).length = k.toNat:=by
 unfold Txt.mul
 split
 ·have : k = 0:=by omega
  rw [this]
  rfl
 ·split
  ·rename_i c
   have : k = 1:=by
    rcases Bool.or_eq_true_iff.mp c with z | z
    ·exact beq_iff_eq.mp z
    ·rw [h] at z; cases z
   rw [this]
   exact h
  ·show (Array.size _) = _
   rw [wc]
   have e : x.cps.size = 1:=h
   rw [e]
   show 0 + k.toNat * 1 = _
   omega
theorem CK {x : Str} {k : Int} (h : x.length = 1) (h0 : 0 <= k) (h6 : k <= 6) : MulOk x k:=by
 unfold MulOk
 rw [h]
 have c : k = 0 \/ k = 1 \/ k = 2 \/ k = 3 \/ k = 4 \/ k = 5 \/ k = 6:=by omega
 rcases c with c | c | c | c | c | c | c
 ·subst c
  exact ⟨by decide,fun z => absurd (by decide) z,fun z => absurd (by decide) z⟩
 all_goals (subst c; refine ⟨by decide,fun _ _ => by decide,fun _ _ => by decide +kernel⟩)
theorem DX (L : Str) (i : Int) : (ltr L i).length = 1:=rfl
theorem pH (n : Int) (L : Str) : (dw n L).length = 1:=by
 unfold dw
 split <;> rfl
theorem Dv {n : Int} (h : 0 <= n) : (1 <= ig n /\ ig n <= 6) /\ 0 <= uo n /\ uo n < ig n:=by
 have m:=br (a:=n / 156) (b:=6) (by decide)
 have hs : 1 <= ig n /\ ig n <= 6:=by unfold ig; omega
 have m2:=br (a:=n / 936) (b:=ig n) (by omega)
 exact ⟨hs,m2⟩
theorem lS {n : Int} (h : 0 <= n) (L : Str) : 1 <= (ku n L).length /\ (ku n L).length <= 6:=by
 obtain ⟨hs,w0,w1⟩:=Dv h
 unfold ku
 rw [len_app,len_app,DX,AX (pH n L) w0,AX (pH n L) (by omega)]
 omega
theorem wB {n : Int} (h : 0 <= n) (L : Str) : 1 <= (ji n L).length /\ (ji n L).length <= 7:=by
 have:=lS h L
 unfold ji
 split
 ·rw [len_app]
  have : (("x" : Str)).length = 1:=by decide
  omega
 ·omega
def lowS : Str := "abcdefghijklmnopqrstuvwxyz"
def uppS : Str := "ABCDEFGHIJKLMNOPQRSTUVWXYZ"
def nmF (ns : LI) (i : Int) : Str:=ji (mJ ns (900 + i % 4)) lowS
def rwF (ns : LI) (i : Int) : Str:=ji (mJ ns (920 + i % 3)) uppS
def nm4 (ns : LI) : List Str:=[nmF ns 0,nmF ns 1,nmF ns 2,nmF ns 3]
def rw3 (ns : LI) : List Str:=[rwF ns 0,rwF ns 1,rwF ns 2]
theorem AY (ns : LI) (i : Int) : 1 <= (nmF ns i).length /\ (nmF ns i).length <= 7:=wB (dc _ _).1 _
theorem A5 (ns : LI) (i : Int) : 1 <= (rwF ns i).length /\ (rwF ns i).length <= 7:=wB (dc _ _).1 _
theorem E9 (ns : LI) (i : Int) : nmF ns i ∈ nm4 ns:=by
 have m:=br (a:=i) (b:=4) (by decide)
 unfold nm4 nmF
 have c : i % 4 = 0 \/ i % 4 = 1 \/ i % 4 = 2 \/ i % 4 = 3:=by omega
 rcases c with c | c | c | c <;> rw [c] <;> simp
theorem De (ns : LI) (i : Int) : rwF ns i ∈ rw3 ns:=by
 have m:=br (a:=i) (b:=3) (by decide)
 unfold rw3 rwF
 have c : i % 3 = 0 \/ i % 3 = 1 \/ i % 3 = 2:=by omega
 rcases c with c | c | c <;> rw [c] <;> simp
theorem y7 (c : Array Nat) : ∀ (n : Nat) (acc : Array Nat) (x : Nat),x ∈ ((List.replicate n c).foldl (· ++ ·) acc).toList -> x ∈ acc.toList \/ x ∈ c.toList
 | 0,acc,x,h => .inl h
 | n + 1,acc,x,h => by
  rw [List.replicate_succ,List.foldl_cons] at h
  rcases y7 c n _ x h with z | z
  ·rw [Array.toList_append] at z
   exact ma_.mp z
  ·exact .inr z
theorem AU {x : Str} {k : Int} {c : Nat} (h : c ∈ (Txt.mul x k).cps.toList) : c ∈ x.cps.toList:=by
 unfold Txt.mul at h
 split at h
 ·exact absurd h (by show ¬ c ∈ ([] : List Nat); exact List.not_mem_nil)
 ·split at h
  ·exact h
  ·rcases y7 x.cps k.toNat #[] c h with z | z
   ·exact absurd z (by show ¬ c ∈ ([] : List Nat); exact List.not_mem_nil)
   ·exact z
theorem xv {L : Str} {i : Int} (h : L.length = 26) (h0 : 0 <= i) (h1 : i < 26) {c : Nat} (hc : c ∈ (ltr L i).cps.toList) : c ∈ L.cps.toList:=by
 have l : L.cps.toList.length = 26:=h
 have hi : i.toNat < L.cps.toList.length:=by omega
 have e : c = L.cps.toList.getD i.toNat 0:=List.mem_singleton.mp hc
 rw [e,getD_at hi]
 exact List.getElem_mem hi
theorem wb {n : Int} {L : Str} (h : L.length = 26) {c : Nat} (hc : c ∈ (dw n L).cps.toList) : c ∈ L.cps.toList:=by
 unfold dw at hc
 have m3:=br (a:=n / 52) (b:=3) (by decide)
 have m26:=br (a:=n) (b:=26) (by decide)
 split at hc
 ·exact xv h m3.1 (by omega) hc
 ·exact xv h m26.1 m26.2 hc
theorem wA {n : Int} {L : Str} (h : L.length = 26) {c : Nat} (hc : c ∈ (ku n L).cps.toList) : c ∈ L.cps.toList:=by
 unfold ku at hc
 have m5:=br (a:=n / 5616) (b:=26) (by decide)
 rw [aI,aI] at hc
 rcases ma_.mp hc with z | z
 ·rcases ma_.mp z with z | z
  ·exact wb h (AU z)
  ·exact xv h m5.1 m5.2 z
 ·exact wb h (AU z)
theorem E6 : ∀ c ∈ lowS.cps.toList,inR 97 122 c = true:=by decide +kernel
theorem FE : ∀ c ∈ uppS.cps.toList,inR 65 90 c = true:=by decide +kernel
theorem AL {w : Str} (h : inV (.str w) Bu = true) : w = ("and" : Str) \/ w = ("or" : Str) \/ w = ("not" : Str) \/ w = ("some" : Str) \/ w = ("all" : Str):=by
 unfold inV Bu at h
 simp only [List.any_cons,List.any_nil,Bool.or_false,Bool.or_eq_true,decide_eq_true_eq] at h
 rcases h with e | e | e | e | e
 ·exact .inl ((eq_of_beq (show ((_ : Str) == w) = true from e)).symm)
 ·exact .inr (.inl ((eq_of_beq (show ((_ : Str) == w) = true from e)).symm))
 ·exact .inr (.inr (.inl ((eq_of_beq (show ((_ : Str) == w) = true from e)).symm)))
 ·exact .inr (.inr (.inr (.inl ((eq_of_beq (show ((_ : Str) == w) = true from e)).symm))))
 ·exact .inr (.inr (.inr (.inr ((eq_of_beq (show ((_ : Str) == w) = true from e)).symm))))
theorem FX {n : Int} (h0 : 0 <= n) : dN (ji n lowS):=by
 have l:=lS h0 lowS
 unfold ji
 split
 ·rename_i c
  rcases AL c with e | e | e | e | e <;> rw [e] <;> exact ⟨⟨by decide +kernel,by decide +kernel,by decide +kernel⟩,by decide +kernel⟩
 ·rename_i c
  exact ⟨⟨l.1,l.2,fun c hc => E6 c (wA (by decide +kernel) hc)⟩,Bool.eq_false_iff.mpr c⟩
theorem Ga {n : Int} (h0 : 0 <= n) : gn (ji n uppS):=by
 have l:=lS h0 uppS
 have hin : ∀ c ∈ (ku n uppS).cps.toList,inR 65 90 c = true:=fun c hc => FE c (wA (by decide +kernel) hc)
 unfold ji
 rw [if_neg fun c => ?_]
 ·exact ⟨l.1,l.2,hin⟩
 ·rcases AL c with e | e | e | e | e <;> (rw [e] at hin; exact absurd hin (by decide +kernel))
theorem CM (ns : LI) (i : Int) : dN (nmF ns i):=FX (dc _ _).1
theorem Df (ns : LI) (i : Int) : gn (rwF ns i):=Ga (dc _ _).1
theorem wM {L : Str} {i : Int} (h : L.length = 26) (h0 : 0 <= i) (h1 : i < 26) : ∃ c,atI L.cps.toList i = some c /\ ltr L i = ⟨#[c]⟩:=by
 have l : L.cps.toList.length = 26:=by rw [Array.length_toList]; exact h
 have hi : i.toNat < L.cps.toList.length:=by omega
 refine ⟨L.cps.toList[i.toNat],?_,?_⟩
 ·have:=AD (List.getElem?_eq_getElem hi)
  rw [Int.toNat_of_nonneg h0] at this
  exact this
 ·unfold ltr
  rw [getD_at hi]
def yx : Sp:=fun vs H Q _ => ∃ (n : Int) (L : Str),vs = [.int n,.str L] /\ 0 <= n /\ L.length = 26 /\ ∀ H',Same H H' -> Q (.str (ji n L)) H'
def yr (K : PySem.W.Frag) : Sp:=fun vs H Q _ => ∃ (a : Addr) (i : Int) (ns : LI),vs = [.ref a,.int i] /\ SprAt K H a ns /\ 930 <= ns.length /\ ∀ H',Same H H' -> Q (.str (nmF ns i)) H'
def Aq (K : PySem.W.Frag) : Sp:=fun vs H Q _ => ∃ (a : Addr) (i : Int) (ns : LI),vs = [.ref a,.int i] /\ SprAt K H a ns /\ 930 <= ns.length /\ ∀ H',Same H H' -> Q (.str (rwF ns i)) H'
section
variable {P : Program} {w : World} {K : PySem.W.Frag} {mg : Str -> Option Value} {base : Heap} {f : Addr} {fd : FuncData} {dV : Value}
theorem sc__law_word : FnScope ["_law_number","_law_letters","_law_first","_law_size","_law_at","_law_found"] ["_law_number","_law_letters"] (ai dI):=⟨rfl,rfl,rfl,by decide +kernel,rfl,by decide +kernel,by decide +kernel⟩
theorem yd : FnScope ["_law_spread_here","_law_number"] ["_law_spread_here","_law_number"] (ai dG):=⟨rfl,rfl,rfl,by decide +kernel,rfl,by decide +kernel,by decide +kernel⟩
theorem zu : FnScope ["_law_spread_here","_law_number"] ["_law_spread_here","_law_number"] (ai eS):=⟨rfl,rfl,rfl,by decide +kernel,rfl,by decide +kernel,by decide +kernel⟩
theorem Ed (F : FunD K "_law_word" "_law_word" dI dV f fd) : FnOk P w K mg base CX0 1 f fd ["_law_number","_law_letters"] yx:=by
 refine F.ok sc__law_word (fun vs H Q E h => ?_) (fun cdv A outer s H vs Q E hr h => ?_)
 ·obtain ⟨n,L,rfl,_⟩:=h
  rfl
 obtain ⟨n,L,rfl,n0,l26,q⟩:=h
 have lz : L.length <= sizeLine:=by rw [l26]; decide
 obtain ⟨hs,w0,w1⟩:=Dv n0
 have wl:=lS n0 L
 refine mS (ay (PSW.mk (aA (i:=2) sc__law_word.nd rfl (Or.inl rfl) (aV xk (pv 1) (ak ba (pv 0) ag) (fun _ _ => rfl))))
   (ay (PSW.mk (bc (aF cQ (ak ba (ak bB (pv 0) ag) ag) ag (aM _)) (ao (aA (i:=2) sc__law_word.nd rfl (Or.inl rfl) (aV xk (pv 1) (ak ba (ak bB (pv 0) ag) ag) (fun _ _ => rfl)))) aH))
   (ay (PSW.mk (aA (i:=3) sc__law_word.nd rfl (Or.inl rfl) (ak bI ag (ak ba (ak bB (pv 0) ag) ag))))
   (ay (PSW.mk (aA (i:=4) sc__law_word.nd rfl (Or.inl rfl) (ak ba (ak bB (pv 0) ag) (pv 3))))
   (ay (PSW.mk (aA (i:=5) sc__law_word.nd rfl (Or.inl rfl) (ak aq (ak aq (ak A1 (pv 2) (pv 4)) (aV xk (pv 1) (ak ba (ak bB (pv 0) ag) ag) (fun _ _ => rfl))) (ak A1 (pv 2) (ak nK (ak nK (pv 3) (pv 4)) ag)))))
   (ay (B5 (PTW.mk (aF pZ (pv 5) (a8 (aa ar (aa ar (aa ar (aa ar (aa ar ae)))))) (by with_unfolding_all rfl))) (c8 (PSW.mk (aA (i:=5) sc__law_word.nd rfl (Or.inl rfl) (ak aq (pv 5) ar)))) yy)
   (c8 (PSW.mk (aG (pv 5)))))))))) ?_
 have m26:=br (a:=n) (b:=26) (by decide)
 obtain ⟨c0,e0,f0⟩:=wM l26 m26.1 m26.2
 refine ⟨_,rfl,_,rfl,_,_,rfl,rfl,(by show (0 : Int) < 26; decide),_,_,_,rfl,rfl,lz,e0,?_⟩
 rw [<- f0]
 try dsimp only [aE,aK,List.set]
 refine gE (fun σ' H' => σ' = [some (.int n),some (.str L),some (.str (dw n L)),none,none,none] /\ H' = H) ?_ (fun D' nxt => ?_)
 rotate_left
 ·refine ⟨_,rfl,_,_,rfl,rfl,⟨by decide,by decide⟩,_,_,rfl,rfl,(by show (0 : Int) < 2; decide),rfl,_,rfl,xj (fun c => ?_) (fun c => ?_)⟩
  ·have m3:=br (a:=n / 52) (b:=3) (by decide)
   obtain ⟨c1,e1,f1⟩:=wM l26 m3.1 (show n / 52 % 3 < 26 by omega)
   refine ⟨_,rfl,_,rfl,_,_,rfl,rfl,⟨by decide,by decide⟩,_,_,rfl,rfl,(by show (0 : Int) < 3; decide),_,_,_,rfl,rfl,lz,e1,nxt _ _ ⟨?_,rfl⟩⟩
   unfold dw
   rw [if_pos c,f1]
   rfl
  ·refine nxt _ _ ⟨?_,rfl⟩
   unfold dw
   rw [if_neg c]
   rfl
 rintro σ' H' ⟨rfl,rfl⟩
 refine ⟨_,rfl,_,_,rfl,rfl,⟨by decide,by decide⟩,_,_,rfl,rfl,(by show (0 : Int) < 6; decide),_,_,rfl,rfl,?_⟩
 try dsimp only [aE,aK,List.set]
 refine ⟨_,rfl,_,_,rfl,rfl,⟨by decide,by decide⟩,_,rfl,_,_,rfl,rfl,(show 0 < ig n by omega),?_⟩
 try dsimp only [aE,aK,List.set]
 have m5:=br (a:=n / 5616) (b:=26) (by decide)
 obtain ⟨c2,e2,f2⟩:=wM l26 m5.1 m5.2
 have fl:=pH n L
 have wl0:=wl.2
 unfold ku at wl0
 rw [len_app,len_app] at wl0
 have z6 : (100 : Nat) <= sizeLine:=by decide
 have x1 : (Str.ofString "x").length = 1:=by decide
 refine ⟨_,rfl,_,rfl,_,_,rfl,rfl,CK fl w0 (show uo n <= 6 by omega),_,rfl,_,rfl,_,_,rfl,rfl,⟨by decide,by decide⟩,_,_,rfl,rfl,(by show (0 : Int) < 26; decide),_,_,_,rfl,rfl,lz,e2,?_⟩
 rw [<- f2]
 refine ⟨_,_,rfl,rfl,(show (Txt.mul (dw n L) (uo n)).length + (ltr L (n / 5616 % 26)).length <= sizeLine by omega),?_⟩
 refine ⟨_,rfl,_,rfl,_,rfl,_,_,rfl,rfl,_,_,rfl,rfl,_,_,rfl,rfl,CK fl (show 0 <= ig n - uo n - 1 by omega) (show ig n - uo n - 1 <= 6 by omega),?_⟩
 refine ⟨_,_,rfl,rfl,(show (Txt.mul (dw n L) (uo n) ++ ltr L (n / 5616 % 26)).length + (Txt.mul (dw n L) (ig n - uo n - 1)).length <= sizeLine by rw [len_app]; omega),?_⟩
 have ew : (Txt.mul (dw n L) (n / 936 % (1 + n / 156 % 6)) ++ ltr L (n / 5616 % 26) ++ Txt.mul (dw n L) (1 + n / 156 % 6 - n / 936 % (1 + n / 156 % 6) - 1)) = ku n L:=rfl
 rw [ew]
 dsimp only [aE,aK,List.set]
 refine gE (fun σ' H1 => σ' = [some (.int n),some (.str L),some (.str (dw n L)),some (.int (ig n)),some (.int (uo n)),some (.str (ji n L))] /\ Same H' H1) ?_ (fun D' nxt => ?_)
 rotate_left
 ·refine ⟨_,rfl,(by show 5 <= sizeLine; decide),fun t ht => ?_⟩
  have st:=ah ht (HO.tup Bu)
  refine ⟨t,Bu,rfl,.inr (qT_ af),rfl,rfl,_,rfl,?_⟩
  cases c : inV (.str (ku n L)) Bu with
  | true =>
   refine eO ⟨_,rfl,_,_,rfl,rfl,by omega,nxt _ _ ⟨?_,st⟩⟩
   unfold ji
   rw [if_pos c]
   rfl
  | false =>
   refine b8 (nxt _ _ ⟨?_,st⟩)
   unfold ji
   rw [if_neg (by rw [c]; decide)]
   rfl
 rintro σ' H1 ⟨rfl,s1⟩
 exact ⟨_,rfl,q _ s1⟩
theorem D7 (F : FunD K "_law_name" "_law_name" dG dV f fd) (aN : DefOk P w K mg base "_law_draw" 1 ["_law_spread_here","_law_k"] [] (ij K)) (dE : DefOk P w K mg base "_law_word" 1 ["_law_number","_law_letters"] [] yx) : FnOk P w K mg base CX0 2 f fd ["_law_spread_here","_law_number"] (yr K):=by
 refine F.ok yd (fun vs H Q E h => ?_) (fun cdv A outer s H vs Q E hr h => ?_)
 ·obtain ⟨a,i,ns,rfl,_⟩:=h
  rfl
 obtain ⟨a,i,ns,rfl,hS,h63,q⟩:=h
 have m:=br (a:=i) (b:=4) (by decide)
 refine ⟨_,(ao (aG (aU dE hr (aa (aU aN hr (aa (pv 0) (aa (ak bI ag (ak ba (pv 1) ag)) ae))) (aa ar ae))))),?_⟩
 exact ⟨_,rfl,_,rfl,_,_,rfl,rfl,(by show (0 : Int) < 4; decide),_,_,rfl,rfl,a,_,ns,rfl,hS,h63,(show (0 : Int) <= 900 + i % 4 by omega),(show 900 + i % 4 < 930 by omega),_,lowS,rfl,(dc _ _).1,by decide +kernel,fun H' s' => q _ s'⟩
theorem Eb (F : FunD K "_law_row" "_law_row" eS dV f fd) (aN : DefOk P w K mg base "_law_draw" 1 ["_law_spread_here","_law_k"] [] (ij K)) (dE : DefOk P w K mg base "_law_word" 1 ["_law_number","_law_letters"] [] yx) : FnOk P w K mg base CX0 2 f fd ["_law_spread_here","_law_number"] (Aq K):=by
 refine F.ok zu (fun vs H Q E h => ?_) (fun cdv A outer s H vs Q E hr h => ?_)
 ·obtain ⟨a,i,ns,rfl,_⟩:=h
  rfl
 obtain ⟨a,i,ns,rfl,hS,h63,q⟩:=h
 have m:=br (a:=i) (b:=3) (by decide)
 refine ⟨_,(ao (aG (aU dE hr (aa (aU aN hr (aa (pv 0) (aa (ak bI ag (ak ba (pv 1) ag)) ae))) (aa ar ae))))),?_⟩
 exact ⟨_,rfl,_,rfl,_,_,rfl,rfl,(by show (0 : Int) < 3; decide),_,_,rfl,rfl,a,_,ns,rfl,hS,h63,(show (0 : Int) <= 920 + i % 3 by omega),(show 920 + i % 3 < 930 by omega),_,uppS,rfl,(dc _ _).1,by decide +kernel,fun H' s' => q _ s'⟩
end
def dJ (ps : List Prt) : List Str:=(ps.filter fun p => decide (p.2 ≠ ("" : Str))).map (·.2)
def gK : Stt -> List Str
 | .cmp _ a b => dJ a ++ dJ b
 | .sg _ a _ => dJ a
 | .lk _ a _ b => dJ a ++ dJ b
 | .no s => gK s
 | .jn _ s t => gK s ++ gK t
 | .ch _ n s => (gK s).filter fun x => decide (x ≠ n)
def gU : Stt -> List Str
 | .cmp .. => []
 | .sg r _ _ => [r]
 | .lk r _ q _ => [r,q]
 | .no s => gU s
 | .jn _ s t => gU s ++ gU t
 | .ch _ _ s => gU s
structure IsNm (zs xs : List Str) : Prop where
 so : zs.Pairwise leS
 nd : zs.Nodup
 mem : ∀ x,x ∈ zs ↔ x ∈ xs
theorem IsNm.of_sorted {ms ns : List Str} (p : ms.Perm (eB ns)) (so : ms.Pairwise leS) : IsNm ms ns:=
 ⟨so,p.nodup_iff.mpr (zh ns),fun x => by rw [p.mem_iff,once_memS]⟩
theorem IsNm.congr {zs xs ys : List Str} (h : IsNm zs xs) (e : ∀ x,x ∈ xs ↔ x ∈ ys) : IsNm zs ys:=⟨h.so,h.nd,fun x => (h.mem x).trans (e x)⟩
theorem qh (ps : List Prt) (p : Prt) : dJ (ps ++ [p]) = dJ ps ++ (if p.2 = ("" : Str) then [] else [p.2]):=by
 unfold dJ
 rw [List.filter_append,List.map_append]
 congr 1
 by_cases c : p.2 = ("" : Str)
 ·rw [if_pos c,List.filter_cons_of_neg (by simp [c])]; rfl
 ·rw [if_neg c,List.filter_cons_of_pos (by simp [c])]; rfl
theorem CL {x : Str} (h : 1 <= x.length) : x ≠ ("" : Str):=fun z => by
 rw [z] at h
 exact absurd h (by decide)
theorem Paired.snocP : ∀ {R : Addr -> Prt -> Prop} {as : List Addr} {ps : List Prt} {a : Addr} {p : Prt},Paired R as ps -> R a p -> Paired R (as ++ [a]) (ps ++ [p])
 | _,_,_,_,_,.nil,h => .cons h .nil
 | _,_,_,_,_,.cons q t,h => .cons q (Paired.snocP t h)
structure SmOk (ns : LI) (ps : List Prt) : Prop where
 ok : nX ps
 le : ps.length <= 8
 nm : ∀ x ∈ dJ ps,x ∈ nm4 ns
 rd : ∀ p ∈ ps,o4 p
theorem SmOk.nlen {ns : LI} {ps : List Prt} (h : SmOk ns ps) : (dJ ps).length <= 8:=by
 unfold dJ
 rw [lm_]
 exact Nat.le_trans (List.length_filter_le ..) h.le
theorem FZ {i : Int} (h0 : 0 <= i) (h1 : i <= 999999) : (bH i).length <= 6:=PyProof.Rows.toString_length_le h0 (by decide) (show i < 10 ^ 6 by omega)
theorem FY {i : Int} (h0 : 0 <= i) (h1 : i <= 20) : (bH i).length <= 2:=PyProof.Rows.toString_length_le h0 (by decide) (show i < 10 ^ 2 by omega)
theorem part9 {p : Prt} (h : o4 p) : (aO p).length <= 9:=by
 unfold aO
 rcases h with h | h
 ·rw [if_pos h.1]
  have:=FZ h.2.1 h.2.2
  omega
 ·have l6:=h.1.1.2.1
  split
  ·have:=FY (show 0 <= p.1 by omega) h.2.2
   omega
  ·split
   ·omega
   ·rw [len_app,len_app]
    have:=FY (show 0 <= p.1 by omega) h.2.2
    have : (("*" : Str)).length = 1:=by decide
    omega
theorem SmOk.tlen {ns : LI} {ps : List Prt} (h : SmOk ns ps) : (bu ps).length <= 93:=by
 unfold bu Txt.join
 rw [size_glued]
 have l:=As (B:=9) ((ps.map aO).map (·.length)) fun x hx => by
  obtain ⟨y,hy,rfl⟩:=List.mem_map.mp hx
  obtain ⟨p,hp,rfl⟩:=List.mem_map.mp hy
  exact part9 (h.rd p hp)
 have e : ((" + " : Str)).length = 3:=by decide
 rw [lm_,lm_] at l
 rw [e,lm_]
 have:=h.le
 omega
theorem SmOk.snoc {ns : LI} {ps : List Prt} {p : Prt} (h : SmOk ns ps) (l : ps.length < 8) (hp : (0 <= p.1 /\ p.1 < 10000000) /\ p.2.length <= 20) (hn : p.2 = ("" : Str) \/ p.2 ∈ nm4 ns) (ro : o4 p) : SmOk ns (ps ++ [p]):=by
 refine ⟨⟨by rw [List.length_append,List.length_singleton]; omega,fun q hq => ?_⟩,by rw [List.length_append,List.length_singleton]; omega,fun x hx => ?_,fun q hq => (ma_.mp hq).elim (h.rd q) fun z => by rw [List.mem_singleton.mp z]; exact ro⟩
 ·rcases ma_.mp hq with z | z
  ·exact h.ok.2 q z
  ·rw [List.mem_singleton.mp z]; exact hp
 ·rw [qh] at hx
  rcases ma_.mp hx with z | z
  ·exact h.nm x z
  ·by_cases c : p.2 = ("" : Str)
   ·rw [if_pos c] at z; cases z
   ·rw [if_neg c] at z
    rw [List.mem_singleton.mp z]
    exact hn.resolve_left c
theorem SmOk.nil (ns : LI) : SmOk ns []:=⟨⟨Nat.zero_le _,fun p h => by cases h⟩,Nat.zero_le _,(fun x h => by cases h),fun p h => by cases h⟩
def Ao (K : PySem.W.Frag) : Sp:=fun vs H Q _ => ∃ (a : Addr) (i : Int) (ns : LI),vs = [.ref a,.int i] /\ SprAt K H a ns /\ 930 <= ns.length /\ (0 <= i /\ i < 915) /\
 ∀ (l nl : Addr) (v : V) (ps : List Prt) (H' : Hp),Same H H' -> H' l = some (.lst [v,.str (bu ps),.ref nl]) -> SumAt H' v ps -> SmOk ns ps -> ps ≠ [] -> H' nl = some (.lst ((dJ ps).map V.str)) -> H nl = none -> Q (.ref l) H'
structure LsI (H0 : Hp) (ns : LI) (Lp Lt Ln : Addr) (ps : List Prt) (H : Hp) : Prop where
 s : Same H0 H
 p : ∃ as : List Addr,H Lp = some (.lst (as.map V.ref)) /\ Paired (ir H) as ps
 t : H Lt = some (.lst ((ps.map aO).map V.str))
 n : H Ln = some (.lst ((dJ ps).map V.str))
 ok : SmOk ns ps
structure Three3 (H0 : Hp) (Lp Lt Ln : Addr) : Prop where
 pt : Lp ≠ Lt
 pn : Lp ≠ Ln
 tn : Lt ≠ Ln
 fp : H0 Lp = none
 ft : H0 Lt = none
 fn : H0 Ln = none
theorem LsI.same {H0 H H' : Hp} {ns : LI} {Lp Lt Ln : Addr} {ps : List Prt} (h : LsI H0 ns Lp Lt Ln ps H) (s : Same H H') : LsI H0 ns Lp Lt Ln ps H' := by
 obtain ⟨as,h1,h2⟩:=h.p
 exact ⟨h.s.trans s,⟨as,s _ _ h1,Paired.mapP h2 fun _ _ q => s _ _ q⟩,s _ _ h.t,s _ _ h.n,h.ok⟩
theorem LsI.add {H0 H : Hp} {ns : LI} {Lp Lt Ln T : Addr} {ps : List Prt} {p : Prt} {as : List Addr} (h : LsI H0 ns Lp Lt Ln ps H) (d : Three3 H0 Lp Lt Ln) (ha : H Lp = some (.lst (as.map V.ref))) (hT : H T = none) (ok : SmOk ns (ps ++ [p])) :
  (p.2 = ("" : Str) -> LsI H0 ns Lp Lt Ln (ps ++ [p]) (upd (upd (upd H T (.tup [.int p.1,.str p.2])) Lp (.lst (as.map V.ref ++ [.ref T]))) Lt (.lst ((ps.map aO).map V.str ++ [.str (aO p)])))) /\
  (p.2 ≠ ("" : Str) -> LsI H0 ns Lp Lt Ln (ps ++ [p]) (upd (upd (upd (upd H T (.tup [.int p.1,.str p.2])) Lp (.lst (as.map V.ref ++ [.ref T]))) Lt (.lst ((ps.map aO).map V.str ++ [.str (aO p)]))) Ln (.lst ((dJ ps).map V.str ++ [.str p.2])))):=by
 obtain ⟨as',h1,h2⟩:=h.p
 rw [ha] at h1
 have ea : as' = as:=by
  have e:=HO.lst.inj (Option.some.inj h1)
  have e' := congrArg (List.map fun v : V => match v with | .ref a => a | _ => 0) e
  rw [List.map_map,List.map_map] at e'
  have id1 : ∀ l : List Addr,l.map ((fun v : V => match v with | .ref a => a | _ => 0) ∘ V.ref) = l:=fun l => List.map_id' l
  rw [id1,id1] at e'
  exact e'.symm
 subst ea
 have nTp : Lp ≠ T:=az ha hT
 have nTt : Lt ≠ T:=az h.t hT
 have nTn : Ln ≠ T:=az h.n hT
 have fT : H0 T = none:=h.s.free hT
 have et : (ps.map aO).map V.str ++ [V.str (aO p)] = ((ps ++ [p]).map aO).map V.str:=by rw [List.map_append,List.map_append]; rfl
 obtain ⟨H3,e3⟩ : ∃ H3,upd (upd (upd H T (.tup [.int p.1,.str p.2])) Lp (.lst (as'.map V.ref ++ [.ref T]))) Lt (.lst ((ps.map aO).map V.str ++ [.str (aO p)])) = H3:=⟨_,rfl⟩
 have s3 : Same H0 H3:=by rw [<- e3]; exact aW (aW (aW h.s fT) d.fp) d.ft
 have k3 : ∀ b o,b ≠ Lp -> b ≠ Lt -> H b = some o -> H3 b = some o:=fun b o n1 n2 e => by
  rw [<- e3,aw n2,aw n1,aw (az e hT)]; exact e
 have tk : eX H H3:=fun b xs e => k3 b _ (wg e ha (by intro z; cases z)) (wg e h.t (by intro z; cases z)) e
 have hp3 : H3 Lp = some (.lst ((as' ++ [T]).map V.ref)):=by rw [<- e3,aw d.pt,af,List.map_append]; rfl
 have hT3 : H3 T = some (.tup [.int p.1,.str p.2]):=by rw [<- e3,aw (Ne.symm nTt),aw (Ne.symm nTp),af]
 have ht3 : H3 Lt = some (.lst (((ps ++ [p]).map aO).map V.str)):=by rw [<- e3,af,et]
 have hn3:=k3 _ _ (Ne.symm d.pn) (Ne.symm d.tn) h.n
 have P3 : Paired (ir H3) (as' ++ [T]) (ps ++ [p]):=Paired.snocP (Paired.mapP h2 fun _ _ q => tk _ _ q) hT3
 rw [e3]
 refine ⟨fun c => ⟨s3,⟨_,hp3,P3⟩,ht3,?_,ok⟩,fun c => ?_⟩
 ·rw [qh,if_pos c,List.append_nil]
  exact hn3
 ·refine ⟨aW s3 d.fn,⟨_,by rw [aw d.pn]; exact hp3,Paired.mapP P3 fun b q e => ?_⟩,by rw [aw d.tn]; exact ht3,?_,ok⟩
  ·show (upd H3 Ln _) b = _
   rw [aw (wg e hn3 (by intro z; cases z))]
   exact e
  ·rw [af,qh,if_neg c,List.map_append]
   rfl
theorem getD_in {xs : LI} {i : Int} {lo hi : Int} (h0 : 0 <= i) (h1 : i < (xs.length : Int)) (h : ∀ x ∈ xs,lo <= x /\ x < hi) : lo <= xs.getD i.toNat 0 /\ xs.getD i.toNat 0 < hi:=by
 have hi : i.toNat < xs.length:=by omega
 rw [getD_at hi]
 exact h _ (List.getElem_mem hi)
section
variable {P : Program} {w : World} {K : PySem.W.Frag} {mg : Str -> Option Value} {base : Heap} {f : Addr} {fd : FuncData} {dV : Value}
theorem sc__law_sum : FnScope ["_law_spread_here","_law_at","_law_number","_law_many","_law_parts","_law_texts","_law_names","_law_k","_law_name_here","_law_one"] ["_law_spread_here","_law_at"] (ai eU):=⟨rfl,rfl,rfl,by decide +kernel,rfl,by decide +kernel,by decide +kernel⟩
theorem D6 (F : FunD K "_law_sum" "_law_sum" eU dV f fd) (aN : DefOk P w K mg base "_law_draw" 1 ["_law_spread_here","_law_k"] [] (ij K)) (dD : DefOk P w K mg base "_law_name" 2 ["_law_spread_here","_law_number"] [] (yr K)) (fj : mg "range" = none) (bG : mg "str" = none) (fS : mg "int" = none) (c6 : mg "tuple" = none) : FnOk P w K mg base CX0 3 f fd ["_law_spread_here","_law_at"] (Ao K):=by
 refine F.ok sc__law_sum (fun vs H Q E h => ?_) (fun cdv A outer s H vs Q E hr h => ?_)
 ·obtain ⟨a,i,ns,rfl,_⟩:=h
  rfl
 obtain ⟨a,i,ns,rfl,hS,h63,⟨i0,i1⟩,k⟩:=h
 refine mS (ay (PSW.mk (aA (i:=2) sc__law_sum.nd rfl (Or.inl rfl) (aU aN hr (aa (pv 0) (aa (pv 1) ae)))))
   (ay (PSW.mk (aA (i:=3) sc__law_sum.nd rfl (Or.inl rfl) (ak bI ag (ak ba (pv 2) ag))))
   (ay (PSW.mk (bc (aF cQ (ak ba (ak bB (pv 2) ag) ag) ag (aM _)) (ao (aA (i:=3) sc__law_sum.nd rfl (Or.inl rfl) ag)) aH))
   (ay (PSW.mk (aA (i:=4) sc__law_sum.nd rfl (Or.inl rfl) (cR ae)))
   (ay (PSW.mk (aA (i:=5) sc__law_sum.nd rfl (Or.inl rfl) (cR ae)))
   (ay (PSW.mk (aA (i:=6) sc__law_sum.nd rfl (Or.inl rfl) (cR ae)))
   (ay (Gp PassesOwn.never rfl (lO rfl fj (aa (pv 3) ae)) (aP (i:=7) sc__law_sum.nd rfl (Or.inl rfl)) (ay (PSW.mk (aA (i:=2) sc__law_sum.nd rfl (Or.inl rfl) (aU aN hr (aa (pv 0) (aa (ak bI (ak bI (pv 1) ag) (pv 7)) ae)))))
   (ay (PSW.mk (aA (i:=8) sc__law_sum.nd rfl (Or.inl rfl) (aU dD hr (aa (pv 0) (aa (ak bB (pv 2) ag) ae)))))
   (c8 (B5 (PTW.mk (aF cQ (ak ba (pv 2) ag) ag (aM _))) (ay (Be (i:=9) sc__law_sum.nd rfl (Or.inl rfl) (EC aS (kr (av (PEW.mk ag) (av (PEW.mk ag) (av (PEW.mk (ak ba (ak bB (pv 2) ag) ag)) (av (PEW.mk (ak ba (ak bB (pv 2) ag) ag)) eE))))) (PEW.mk (ak ba (ak bB (pv 2) ag) ag)) (fun _ _ => rfl)))
   (ay (PSW.mk (bC (eG PySem.F.plainAttrs_list PySem.F.slot_list_append PySem.F.type_list_append bh (pv 4) (aa (a8 (aa (pv 9) (aa ar ae))) ae))))
   (c8 (PSW.mk (bC (eG PySem.F.plainAttrs_list PySem.F.slot_list_append PySem.F.type_list_append bh (pv 5) (aa (bo cV (by rfl) bG iC (aa (pv 9) ae)) ae))))))) (c8 (B5 (PTW.mk (aF cQ (ak ba (pv 2) ag) ag (aM _))) (ay (PSW.mk (bC (eG PySem.F.plainAttrs_list PySem.F.slot_list_append PySem.F.type_list_append bh (pv 4) (aa (a8 (aa ag (aa (pv 8) ae))) ae))))
   (ay (PSW.mk (bC (eG PySem.F.plainAttrs_list PySem.F.slot_list_append PySem.F.type_list_append bh (pv 5) (aa (pv 8) ae))))
   (c8 (PSW.mk (bC (eG PySem.F.plainAttrs_list PySem.F.slot_list_append PySem.F.type_list_append bh (pv 6) (aa (pv 8) ae))))))) (ay (Be (i:=9) sc__law_sum.nd rfl (Or.inl rfl) (EC aS (kr (av (PEW.mk ag) (av (PEW.mk ag) (av (PEW.mk (ak bI ag (ak ba (ak bB (pv 2) ag) ag))) eE)))) (PEW.mk (ak ba (ak bB (pv 2) ag) ag)) (fun _ _ => rfl)))
   (ay (PSW.mk (bC (eG PySem.F.plainAttrs_list PySem.F.slot_list_append PySem.F.type_list_append bh (pv 4) (aa (a8 (aa (pv 9) (aa (pv 8) ae))) ae))))
   (ay (FG (PEW.mk (eG PySem.F.plainAttrs_list PySem.F.slot_list_append PySem.F.type_list_append bh (pv 5) (aa (ak aq (aV aS (cR (aa (ak aq (bo cV (by rfl) bG iC (aa (pv 9) ae)) ar) (aa ar ae))) (bo Bj (by rfl) fS pf (aa (oy cQ (pv 9) ag (aM _)) ae)) (fun _ _ => rfl)) (pv 8)) ae))))
   (c8 (PSW.mk (bC (eG PySem.F.plainAttrs_list PySem.F.slot_list_append PySem.F.type_list_append bh (pv 6) (aa (pv 8) ae)))))))))))))))
   (c8 (qz (kr (av (PEW.mk (bo my (by rfl) c6 r8 (aa (pv 4) ae))) (av (PEW.mk (eG PySem.F.plainAttrs_str PySem.F.slot_str_join PySem.F.type_str_join AW ar (aa (pv 5) ae))) (av (PEW.mk (pv 6)) eE))))))))))))) ?_
 refine ⟨_,rfl,_,rfl,a,i,ns,rfl,hS,h63,i0,by omega,?_⟩
 try dsimp only [aE,aK,List.set]
 obtain ⟨d0,ed0⟩ : ∃ d0,mJ ns i = d0:=⟨_,rfl⟩
 have d00:=dc ns i
 rw [ed0] at d00 ⊢
 refine ⟨_,rfl,_,_,rfl,rfl,(by show (0 : Int) < 3; decide),_,_,rfl,rfl,?_⟩
 try dsimp only [aE,aK,List.set]
 refine gE (t:=Dq _ _ _) (fun σ' H' => ∃ (many : Nat) (v2 : OV),(1 <= many /\ many <= 8) /\ σ' = [some (.ref a),some (.int i),v2,some (.int many),none,none,none,none,none,none] /\ H' = H) ?_ (fun D' nxt => ?_)
 rotate_left
 ·have m3:=br (a:=d0) (b:=3) (by decide)
  refine ⟨_,rfl,_,_,rfl,rfl,⟨by decide,by decide⟩,_,_,rfl,rfl,(by show (0 : Int) < 6; decide),rfl,_,rfl,xj (fun c => ?_) (fun c => ?_)⟩
  ·exact nxt _ _ ⟨8,_,by decide,rfl,rfl⟩
  ·obtain ⟨m,em⟩:=E8 (x:=1 + d0 % 3) (by omega)
   refine nxt _ _ ⟨m,some (.int d0),⟨by omega,by omega⟩,?_,rfl⟩
   show [some (V.ref a),some (V.int i),some (V.int d0),some (V.int (1 + d0 % 3)),none,none,none,none,none,none] = _
   rw [em]
 rintro σ' H' ⟨many,v2,⟨m1,m8⟩,rfl,rfl⟩
 refine ⟨(by show 0 <= sizeLine; decide),fun Lp hLp => ?_⟩
 refine ⟨(by show 0 <= sizeLine; decide),fun Lt hLt => ?_⟩
 refine ⟨(by show 0 <= sizeLine; decide),fun Ln hLn => ?_⟩
 have u1:=ah hLp (HO.lst [])
 have u2:=ah hLt (HO.lst [])
 have u3:=ah hLn (HO.lst [])
 have d3 : Three3 H' Lp Lt Ln:=⟨az af hLt,az (u2 _ _ af) hLn,az af hLn,hLp,u1.free hLt,(u1.trans u2).free hLn⟩
 have I0 : LsI H' ns Lp Lt Ln [] (upd (upd (upd H' Lp (.lst [])) Lt (.lst [])) Ln (.lst [])):=⟨u1.trans (u2.trans u3),⟨[],(u2.trans u3) _ _ af,.nil⟩,u3 _ _ af,af,SmOk.nil ns⟩
 try dsimp only [aE,aK,List.set]
 refine gE (t:=EA _ _ _) (fun σ' H1 => ∃ (ps : List Prt) (v2 v7 v8 v9 : OV),σ' = [some (.ref a),some (.int i),v2,some (.int many),some (.ref Lp),some (.ref Lt),some (.ref Ln),v7,v8,v9] /\ LsI H' ns Lp Lt Ln ps H1 /\ ps ≠ []) ?_ (fun D' nxt => ?_)
 rotate_left
 ·refine ⟨_,rfl,(many : Int),rfl,by omega,by omega,?_⟩
  refine pI (fun j σ' H1 => ∃ (ps : List Prt) (v2 v7 v8 v9 : OV),σ' = [some (.ref a),some (.int i),v2,some (.int many),some (.ref Lp),some (.ref Lt),some (.ref Ln),v7,v8,v9] /\ LsI H' ns Lp Lt Ln ps H1 /\ ps.length = j) ⟨[],v2,none,none,none,rfl,I0,rfl⟩ ?_ ?_
  ·rintro j σ' H1 hj ⟨ps,v2,v7,v8,v9,rfl,I1,lp⟩
   rw [Int.toNat_natCast] at hj
   have hS1:=(hS.same I1.s)
   refine ⟨_,rfl,_,rfl,_,_,rfl,rfl,_,rfl,_,_,rfl,rfl,a,i + 1 + (0 + (j : Int)),ns,rfl,hS1,h63,by omega,by omega,?_⟩
   try dsimp only [aE,aK,List.set]
   obtain ⟨n,en⟩ : ∃ n,mJ ns (i + 1 + (0 + (j : Int))) = n:=⟨_,rfl⟩
   have nb:=dc ns (i + 1 + (0 + (j : Int)))
   rw [en] at nb ⊢
   refine ⟨_,rfl,_,rfl,_,_,rfl,rfl,⟨by decide,by decide⟩,a,n / 3,ns,rfl,hS1,h63,fun H2 s2 => ?_⟩
   try dsimp only [aE,aK,List.set]
   obtain ⟨nm,enm⟩ : ∃ nm,nmF ns (n / 3) = nm:=⟨_,rfl⟩
   have nl:=AY ns (n / 3)
   have nin:=E9 ns (n / 3)
   have nok:=CM ns (n / 3)
   rw [enm] at nl nin nok ⊢
   have nne:=CL nl.1
   have I2:=I1.same s2
   obtain ⟨as,ha,hA⟩:=I2.p
   have las : as.length = ps.length:=Paired.length hA
   have lsn:=I2.ok.nlen
   have z20 : ∀ m : Nat,m <= 100 -> m <= sizeLine:=fun m h => Nat.le_trans h (by decide)
   refine ⟨_,rfl,_,_,rfl,rfl,(by show (0 : Int) < 3; decide),rfl,_,rfl,xj (fun c => ?_) (fun c => ?_)⟩
   ·have q1:=br (a:=n / 9) (b:=1000000) (by decide)
    have q2:=br (a:=n / 9) (b:=30) (by decide)
    have q4:=br (a:=n / 3) (b:=4) (by decide)
    refine ⟨_,rfl,_,_,rfl,rfl,⟨by decide,by decide⟩,_,_,rfl,rfl,(by show (0 : Int) < 1000000; decide),_,rfl,_,_,rfl,rfl,⟨by decide,by decide⟩,_,_,rfl,rfl,(by show (0 : Int) < 30; decide),(by show 4 <= sizeLine; decide),fun Lx hLx => ?_⟩
    have ux:=ah hLx (HO.lst ([0,999999,n / 9 % 1000000,n / 9 % 30].map V.int))
    obtain ⟨one,eo⟩ : ∃ one,([0,999999,n / 9 % 1000000,n / 9 % 30] : LI).getD (n / 3 % 4).toNat 0 = one:=⟨_,rfl⟩
    have ob2 : 0 <= one /\ one < 1000000:=by
     rw [<- eo]
     refine getD_in q4.1 q4.2 fun x hx => ?_
     simp only [List.mem_cons,List.not_mem_nil,or_false] at hx
     rcases hx with rfl | rfl | rfl | rfl <;> omega
    have ob : 0 <= one /\ one < 10000000:=⟨ob2.1,by omega⟩
    refine ⟨_,rfl,_,_,rfl,rfl,⟨by decide,by decide⟩,_,_,rfl,rfl,(by show (0 : Int) < 4; decide),Lx,_,_,_,rfl,rfl,qL_ af,fu (ns:=[0,999999,n / 9 % 1000000,n / 9 % 30]) q4.1 q4.2,?_⟩
    try dsimp only [aE,aK,List.set]
    rw [eo]
    obtain ⟨H3,e3⟩ : ∃ H3,upd H2 Lx (HO.lst [V.int 0,V.int 999999,V.int (n / 9 % 1000000),V.int (n / 9 % 30)]) = H3:=⟨_,rfl⟩
    have ux' : Same H2 H3:=by rw [<- e3]; exact ux
    rw [e3]
    have I3:=I2.same ux'
    have ha3:=ux' _ _ ha
    refine ⟨_,rfl,.inl ⟨rfl,_,qL_ ha3⟩,_,rfl,(by show 2 <= sizeLine; decide),fun T hT => ?_⟩
    have nTp : Lp ≠ T:=az ha3 hT
    have add:=(I3.add (p:=(one,("" : Str))) d3 ha3 hT (I3.ok.snoc (by omega) ⟨ob,by show 0 <= 20; decide⟩ (.inl rfl) (.inl ⟨rfl,ob2.1,by show one <= 999999; omega⟩))).1 rfl
    refine ⟨Lp,_,_,rfl,rfl,by rw [aw nTp]; exact ha3,z20 _ (by rw [lm_]; omega),?_⟩
    have nTt : Lt ≠ T:=az I3.t hT
    have ht4 : (upd (upd H3 T (HO.tup [V.int one,V.str ("" : Str)])) Lp (HO.lst (as.map V.ref ++ [V.ref T]))) Lt = some (.lst ((ps.map aO).map V.str)):=by rw [aw (Ne.symm d3.pt),aw nTt]; exact I3.t
    refine ⟨_,rfl,.inl ⟨rfl,_,qL_ ht4⟩,_,rfl,_,rfl,(gR ob.1 ob.2).2,Lt,_,_,rfl,rfl,ht4,z20 _ (by rw [lm_,lm_]; omega),?_⟩
    have ep : aO (one,("" : Str)) = bH one:=if_pos rfl
    rw [ep] at add
    exact ⟨ps ++ [(one,("" : Str))],_,_,_,_,rfl,add,by rw [List.length_append,List.length_singleton,lp]⟩
   ·refine ⟨_,rfl,_,_,rfl,rfl,(by show (0 : Int) < 3; decide),rfl,_,rfl,xj (fun c1 => ?_) (fun c1 => ?_)⟩
    ·have add:=fun T hT => (I2.add (T:=T) (p:=(1,nm)) d3 ha hT (I2.ok.snoc (by omega) ⟨(show (0 : Int) <= 1 /\ (1 : Int) < 10000000 by decide),(show nm.length <= 20 by omega)⟩ (.inr nin) (.inr ⟨nok,(show (1 : Int) <= 1 by decide),(show (1 : Int) <= 20 by decide)⟩))).2 nne
     refine ⟨_,rfl,.inl ⟨rfl,_,qL_ ha⟩,_,rfl,(by show 2 <= sizeLine; decide),fun T hT => ?_⟩
     have nTp : Lp ≠ T:=az ha hT
     have nTt : Lt ≠ T:=az I2.t hT
     have nTn : Ln ≠ T:=az I2.n hT
     refine ⟨Lp,_,_,rfl,rfl,by rw [aw nTp]; exact ha,z20 _ (by rw [lm_]; omega),?_⟩
     have ht4 : (upd (upd H2 T (HO.tup [V.int 1,V.str nm])) Lp (HO.lst (as.map V.ref ++ [V.ref T]))) Lt = some (.lst ((ps.map aO).map V.str)):=by rw [aw (Ne.symm d3.pt),aw nTt]; exact I2.t
     refine ⟨_,rfl,.inl ⟨rfl,_,qL_ ht4⟩,_,rfl,Lt,_,_,rfl,rfl,ht4,z20 _ (by rw [lm_,lm_]; omega),?_⟩
     have hn5 : (upd (upd (upd H2 T (HO.tup [V.int 1,V.str nm])) Lp (HO.lst (as.map V.ref ++ [V.ref T]))) Lt (HO.lst ((ps.map aO).map V.str ++ [V.str nm]))) Ln = some (.lst ((dJ ps).map V.str)):=by rw [aw (Ne.symm d3.tn),aw (Ne.symm d3.pn),aw nTn]; exact I2.n
     refine ⟨_,rfl,.inl ⟨rfl,_,qL_ hn5⟩,_,rfl,Ln,_,_,rfl,rfl,hn5,z20 _ (by rw [lm_]; omega),?_⟩
     have ep : aO (1,nm) = nm:=(if_neg nne).trans (if_pos rfl)
     have ad:=add T hT
     rw [ep] at ad
     exact ⟨ps ++ [(1,nm)],_,_,_,_,rfl,ad,by rw [List.length_append,List.length_singleton,lp]⟩
    ·have q1:=br (a:=n / 12) (b:=20) (by decide)
     have q3:=br (a:=n / 36) (b:=3) (by decide)
     refine ⟨_,rfl,_,_,rfl,rfl,⟨by decide,by decide⟩,_,_,rfl,rfl,(by show (0 : Int) < 20; decide),_,_,rfl,rfl,(by show 3 <= sizeLine; decide),fun Lx hLx => ?_⟩
     have ux:=ah hLx (HO.lst ([20,2,1 + n / 12 % 20].map V.int))
     obtain ⟨one,eo⟩ : ∃ one,([20,2,1 + n / 12 % 20] : LI).getD (n / 36 % 3).toNat 0 = one:=⟨_,rfl⟩
     have ob2 : 1 <= one /\ one < 21:=by
      rw [<- eo]
      refine getD_in q3.1 q3.2 fun x hx => ?_
      simp only [List.mem_cons,List.not_mem_nil,or_false] at hx
      rcases hx with rfl | rfl | rfl <;> omega
     have ob : 1 <= one /\ one < 10000000:=⟨ob2.1,by omega⟩
     refine ⟨_,rfl,_,_,rfl,rfl,⟨by decide,by decide⟩,_,_,rfl,rfl,(by show (0 : Int) < 3; decide),Lx,_,_,_,rfl,rfl,qL_ af,fu (ns:=[20,2,1 + n / 12 % 20]) q3.1 q3.2,?_⟩
     try dsimp only [aE,aK,List.set]
     rw [eo]
     obtain ⟨H3,e3⟩ : ∃ H3,upd H2 Lx (HO.lst [V.int 20,V.int 2,V.int (1 + n / 12 % 20)]) = H3:=⟨_,rfl⟩
     have ux' : Same H2 H3:=by rw [<- e3]; exact ux
     rw [e3]
     have I3:=I2.same ux'
     have ha3:=ux' _ _ ha
     have ob0 : (0 : Int) <= one:=by omega
     have nsl:=gR ob0 ob.2
     have st1 : ((Str.ofString "*")).length = 1:=by decide
     refine ⟨_,rfl,.inl ⟨rfl,_,qL_ ha3⟩,_,rfl,_,rfl,(by show 2 <= sizeLine; decide),fun T hT => ?_⟩
     have nTp : Lp ≠ T:=az ha3 hT
     have nTt : Lt ≠ T:=az I3.t hT
     have nTn : Ln ≠ T:=az I3.n hT
     have add:=(I3.add (T:=T) (p:=(one,nm)) d3 ha3 hT (I3.ok.snoc (by omega) ⟨(show 0 <= one /\ one < 10000000 from ⟨ob0,ob.2⟩),(show nm.length <= 20 by omega)⟩ (.inr nin) (.inr ⟨nok,ob2.1,(show one <= 20 by omega)⟩))).2 nne
     refine ⟨Lp,_,_,rfl,rfl,by rw [aw nTp]; exact ha3,z20 _ (by rw [lm_]; omega),?_⟩
     obtain ⟨H4,e4⟩ : ∃ H4,upd (upd H3 T (HO.tup [V.int one,V.str nm])) Lp (HO.lst (as.map V.ref ++ [V.ref T])) = H4:=⟨_,rfl⟩
     have ht4 : H4 Lt = some (.lst ((ps.map aO).map V.str)):=by rw [<- e4,aw (Ne.symm d3.pt),aw nTt]; exact I3.t
     have hn4 : H4 Ln = some (.lst ((dJ ps).map V.str)):=by rw [<- e4,aw (Ne.symm d3.pn),aw nTn]; exact I3.n
     rw [e4] at add ⊢
     refine ⟨_,rfl,.inl ⟨rfl,_,qL_ ht4⟩,_,rfl,_,rfl,nsl.2,_,_,rfl,rfl,z20 _ (show (bH one).length + _ <= 100 by omega),(by show 2 <= sizeLine; decide),fun Ly hLy => ?_⟩
     have uy:=ah hLy (HO.lst [V.str (bH one ++ Str.ofString "*"),V.str (Str.ofString "")])
     have nyt : Lt ≠ Ly:=az ht4 hLy
     have nyn : Ln ≠ Ly:=az hn4 hLy
     obtain ⟨x,ex1,ex2,ex3⟩ : ∃ x : Str,atI [V.str (bH one ++ Str.ofString "*"),V.str (Str.ofString "")] (if decide (V.int one = V.int 1) = true then 1 else 0) = some (.str x) /\ aO (one,nm) = x ++ nm /\ x.length <= 40:=by
      by_cases c2 : one = 1
      ·refine ⟨Str.ofString "",by rw [decide_eq_true (congrArg V.int c2)]; rfl,?_,by decide⟩
       have e1 : aO (one,nm) = nm:=(if_neg nne).trans (if_pos c2)
       rw [e1]
       exact (g6 nm).symm
      ·refine ⟨bH one ++ Str.ofString "*",by rw [decide_eq_false fun z => c2 (V.int.inj z)]; rfl,(if_neg nne).trans (if_neg c2),by rw [len_app]; omega⟩
     refine ⟨_,rfl,rfl,.inr ⟨_,rfl,Ly,_,_,_,rfl,rfl,qL_ af,ex1,_,rfl,_,_,rfl,rfl,z20 _ (by omega),?_⟩⟩
     rw [<- ex2]
     refine ⟨Lt,_,_,rfl,rfl,by rw [aw nyt]; exact ht4,z20 _ (by rw [lm_,lm_]; omega),?_⟩
     have hn6 : (upd (upd H4 Ly (HO.lst [V.str (bH one ++ Str.ofString "*"),V.str (Str.ofString "")])) Lt (HO.lst ((ps.map aO).map V.str ++ [V.str (aO (one,nm))]))) Ln = some (.lst ((dJ ps).map V.str)):=by rw [aw (Ne.symm d3.tn),aw nyn]; exact hn4
     refine ⟨_,rfl,.inl ⟨rfl,_,qL_ hn6⟩,_,rfl,Ln,_,_,rfl,rfl,hn6,z20 _ (by rw [lm_]; omega),?_⟩
     refine ⟨ps ++ [(one,nm)],_,_,_,_,rfl,add.same fun b o e => ?_,by rw [List.length_append,List.length_singleton,lp]⟩
     have nb : b ≠ Ly:=fun z => by rw [z,aw (Ne.symm nyn),aw (Ne.symm nyt),hLy] at e; cases e
     by_cases c1 : b = Ln
     ·rw [c1,af] at e ⊢; exact e
     ·rw [aw c1] at e ⊢
      by_cases c2 : b = Lt
      ·rw [c2,af] at e ⊢; exact e
      ·rw [aw c2] at e ⊢
       rw [aw nb]; exact e
  ·rintro σ' H1 ⟨ps,v2,v7,v8,v9,rfl,I1,lp⟩
   exact nxt _ _ ⟨ps,v2,v7,v8,v9,rfl,I1,fun z => by (rw [z,Int.toNat_natCast] at lp; simp at lp; omega)⟩
 rintro σ' H1 ⟨ps,v2,v7,v8,v9,rfl,I1,pne⟩
 obtain ⟨as,ha,hA⟩:=I1.p
 refine ⟨_,rfl,Lp,_,rfl,.inl ⟨qL_ ha,fun T hT => ?_⟩⟩
 have uT:=ah hT (HO.tup (as.map V.ref))
 refine ⟨rfl,_,rfl,_,Lt,ps.map aO,rfl,rfl,uT _ _ I1.t,wm I1.ok.ok,_,rfl,(by show 3 <= sizeLine; decide),fun l hl => ?_⟩
 have ul:=ah hl (HO.lst [V.ref T,V.str (Txt.join (" + " : Str) (ps.map aO)),V.ref Ln])
 exact k l Ln (.ref T) ps _ (I1.s.trans (uT.trans ul)) af ⟨T,as,rfl,ul _ _ af,Paired.mapP hA fun _ _ q => (uT.trans ul) _ _ q⟩ I1.ok pne ((uT.trans ul) _ _ I1.n) d3.fn
end
structure It where
 st : Stt
 v : V
 nl : Addr
 rl : Addr
 names : List Str
 rows : List Str
structure ItAt (ns : LI) (H : Hp) (a : Addr) (it : It) : Prop where
 li : H a = some (.lst [it.v,.str (au it.st),.int (aQ it.st : Int),.ref it.nl,.ref it.rl])
 sv : StAt H it.v it.st
 hn : H it.nl = some (.lst (it.names.map V.str))
 hr : H it.rl = some (.lst (it.rows.map V.str))
 wf : Wf it.st
 nm : IsNm it.names (gK it.st)
 rs : IsNm it.rows (gU it.st)
 ni : ∀ x ∈ it.names,x ∈ nm4 ns
 ri : ∀ x ∈ it.rows,x ∈ rw3 ns
 wr : Wr it.st
theorem ItAt.same {ns : LI} {H H' : Hp} {a : Addr} {it : It} (h : ItAt ns H a it) (s : Same H H') : ItAt ns H' a it:=
 ⟨s _ _ h.li,StAt.same (tkS s) h.sv,s _ _ h.hn,s _ _ h.hr,h.wf,h.nm,h.rs,h.ni,h.ri,h.wr⟩
def Off (L a : Addr) (it : It) : Prop:=a ≠ L /\ it.nl ≠ L /\ it.rl ≠ L
theorem ItAt.off {ns : LI} {H : Hp} {a L : Addr} {it : It} {xs ys : List V} (h : ItAt ns H a it) (o : Off L a it) (hL : H L = some (.lst xs)) : ItAt ns (upd H L (.lst ys)) a it:=
 ⟨by rw [aw o.1]; exact h.li,StAt.same (fun b zs e => by rw [aw (wg e hL (by intro z; cases z))]; exact e) h.sv,by rw [aw o.2.1]; exact h.hn,by rw [aw o.2.2]; exact h.hr,h.wf,h.nm,h.rs,h.ni,h.ri,h.wr⟩
theorem ui : ∀ {ps vs : List Str},ps.Nodup -> (∀ p ∈ ps,p ∈ vs) -> ps.length <= vs.length
 | [],_,_,_ => Nat.zero_le _
 | p :: ps,vs,nd,h => by
  have nd' := List.nodup_cons.mp nd
  have hp:=h p List.mem_cons_self
  have:=ui (vs:=vs.erase p) nd'.2 fun q hq => (List.mem_erase_of_ne (show q ≠ p from fun z => nd'.1 (by rw [<- z]; exact hq))).mpr (h q (List.mem_cons_of_mem _ hq))
  rw [List.length_erase_of_mem hp] at this
  have:=List.length_pos_of_mem hp
  rw [List.length_cons]
  omega
theorem ItAt.few {ns : LI} {H : Hp} {a : Addr} {it : It} (h : ItAt ns H a it) : it.names.length <= 4 /\ it.rows.length <= 3:=⟨ui h.nm.nd h.ni,ui h.rs.nd h.ri⟩
theorem DN (a b c : Str) : a ++ b ++ c = a ++ (b ++ c):=Str.append_assoc a b c
theorem AQ (r f n : Str) : r ++ ("[" : Str) ++ f ++ ("] = " : Str) ++ n = r ++ ("[" : Str) ++ f ++ ("]" : Str) ++ (" = " : Str) ++ n:=by
 rw [show ("] = " : Str) = ("]" : Str) ++ (" = " : Str) from by decide +kernel]
 simp only [DN]
theorem AO (r f q g : Str) : r ++ ("[" : Str) ++ f ++ ("] = " : Str) ++ q ++ ("[" : Str) ++ g ++ ("]" : Str) = r ++ ("[" : Str) ++ f ++ ("]" : Str) ++ (" = " : Str) ++ (q ++ ("[" : Str) ++ g ++ ("]" : Str)):=by
 rw [show ("] = " : Str) = ("]" : Str) ++ (" = " : Str) from by decide +kernel]
 simp only [DN]
theorem yX (f k g : Str) : f ++ (" " : Str) ++ k ++ (" " : Str) ++ g = f ++ ((" " : Str) ++ k ++ (" " : Str)) ++ g:=by simp only [DN]
def rQ (K : PySem.W.Frag) : Sp:=fun vs H Q _ => ∃ (a : Addr) (i : Int) (ns : LI),vs = [.ref a,.int i] /\ SprAt K H a ns /\ 930 <= ns.length /\ (0 <= i /\ i < 900) /\
 ∀ (l : Addr) (it : It) (H' : Hp),Same H H' -> ItAt ns H' l it -> H l = none -> H it.nl = none -> H it.rl = none -> aQ it.st = 0 -> (au it.st).length <= 205 -> Q (.ref l) H'
theorem BC {j : Int} (j0 : 0 <= j) (j1 : j < 5) : ∃ κ : Str,atI [V.str (Str.ofString "="),V.str (Str.ofString "<="),V.str (Str.ofString "<"),V.str (Str.ofString "is"),V.str (Str.ofString "like")] j = some (.str κ) /\ κ.length <= 4 /\ (κ = Str.ofString "is" \/ κ = Str.ofString "like" \/ ((κ = Str.ofString "=" \/ κ = Str.ofString "<=" \/ κ = Str.ofString "<") /\ κ ≠ Str.ofString "is" /\ κ ≠ Str.ofString "like")):=by
 have c : j = 0 \/ j = 1 \/ j = 2 \/ j = 3 \/ j = 4:=by omega
 rcases c with c | c | c | c | c <;> subst c
 ·exact ⟨_,rfl,by decide +kernel,.inr (.inr ⟨.inl rfl,by decide +kernel⟩)⟩
 ·exact ⟨_,rfl,by decide +kernel,.inr (.inr ⟨.inr (.inl rfl),by decide +kernel⟩)⟩
 ·exact ⟨_,rfl,by decide +kernel,.inr (.inr ⟨.inr (.inr rfl),by decide +kernel⟩)⟩
 ·exact ⟨_,rfl,by decide +kernel,.inl rfl⟩
 ·exact ⟨_,rfl,by decide +kernel,.inr (.inl rfl)⟩
section
variable {P : Program} {w : World} {K : PySem.W.Frag} {mg : Str -> Option Value} {base : Heap} {f : Addr} {fd : FuncData} {dV : Value}
theorem sc__law_plain : FnScope ["_law_spread_here","_law_at","_law_number","_law_one","_law_first","_law_names","_law_other","_law_second","_law_more","_law_row_here","_law_last","_law_kind","_law_sign","_law_shown_one"] ["_law_spread_here","_law_at"] (ai cZ):=⟨rfl,rfl,rfl,by decide +kernel,rfl,by decide +kernel,by decide +kernel⟩
theorem C0 (F : FunD K "_law_plain" "_law_plain" cZ dV f fd) (aN : DefOk P w K mg base "_law_draw" 1 ["_law_spread_here","_law_k"] [] (ij K)) (jq : DefOk P w K mg base "_law_sum" 3 ["_law_spread_here","_law_at"] [] (Ao K)) (jo : DefOk P w K mg base "_law_row" 2 ["_law_spread_here","_law_number"] [] (Aq K)) (bG : mg "str" = none) (eF : mg "sorted" = none) (oX : mg "set" = none) : FnOk P w K mg base CX0 4 f fd ["_law_spread_here","_law_at"] (rQ K):=by
 refine F.ok sc__law_plain (fun vs H Q E h => ?_) (fun cdv A outer s H vs Q E hr h => ?_)
 ·obtain ⟨a,i,ns,rfl,_⟩:=h
  rfl
 obtain ⟨a,i,ns,rfl,hS,h63,⟨i0,i1⟩,k⟩:=h
 refine mS (ay (PSW.mk (aA (i:=2) sc__law_plain.nd rfl (Or.inl rfl) (aU aN hr (aa (pv 0) (aa (pv 1) ae)))))
   (ay (PSW.mk (tP (aU jq hr (aa (pv 0) (aa (ak bI (pv 1) ag) ae))) (xX rfl (aZ (aP (i:=3) sc__law_plain.nd rfl (Or.inl rfl)) (aZ (aP (i:=4) sc__law_plain.nd rfl (Or.inl rfl)) (aZ (aP (i:=5) sc__law_plain.nd rfl (Or.inl rfl)) j6))))))
   (ay (PSW.mk (tP (aU jq hr (aa (pv 0) (aa (ak bI (pv 1) ag) ae))) (xX rfl (aZ (aP (i:=6) sc__law_plain.nd rfl (Or.inl rfl)) (aZ (aP (i:=7) sc__law_plain.nd rfl (Or.inl rfl)) (aZ (aP (i:=8) sc__law_plain.nd rfl (Or.inl rfl)) j6))))))
   (ay (PSW.mk (aA (i:=9) sc__law_plain.nd rfl (Or.inl rfl) (aU jo hr (aa (pv 0) (aa (ak bB (pv 2) ag) ae)))))
   (ay (PSW.mk (aA (i:=10) sc__law_plain.nd rfl (Or.inl rfl) (aU jo hr (aa (pv 0) (aa (ak bB (pv 2) ag) ae)))))
   (ay (Be (i:=11) sc__law_plain.nd rfl (Or.inl rfl) (EC aS (kr (av (PEW.mk ar) (av (PEW.mk ar) (av (PEW.mk ar) (av (PEW.mk ar) (av (PEW.mk ar) eE)))))) (PEW.mk (ak ba (pv 2) ag)) (fun _ _ => rfl)))
   (ay (B5 (PTW.mk (aF cQ (pv 11) ar (aM _))) (ay (Be (i:=12) sc__law_plain.nd rfl (Or.inl rfl) (EC aS (kr (av (PEW.mk ag) (av (PEW.mk ag) (av (PEW.mk ag) (av (PEW.mk (ak ba (ak bB (pv 2) ag) ag)) eE))))) (PEW.mk (ak ba (ak bB (pv 2) ag) ag)) (fun _ _ => rfl)))
   (c8 (qz (kr (av (PEW.mk (a8 (aa ar (aa (pv 9) (aa (pv 3) (aa (pv 12) ae)))))) (av (PEW.mk (ak aq (ak aq (ak aq (ak aq (pv 9) ar) (pv 4)) ar) (bo cV (by rfl) bG iC (aa (pv 12) ae)))) (av (PEW.mk ag) (av (PEW.mk (aB ((da rfl)) (by rfl) eF i6 (aa (bo ((gA rfl)) (by rfl) oX r6 (aa (pv 5) ae)) ae))) (av (PEW.mk (cR (aa (pv 9) ae))) eE))))))))) yy)
   (ay (PSW.mk (aA (i:=5) sc__law_plain.nd rfl (Or.inl rfl) (aB ((da rfl)) (by rfl) eF i6 (aa (bo ((gA rfl)) (by rfl) oX r6 (aa (ak xS (pv 5) (pv 8)) ae)) ae))))
   (ay (B5 (PTW.mk (aF cQ (pv 11) ar (aM _))) (ay (PSW.mk (aA (i:=13) sc__law_plain.nd rfl (Or.inl rfl) (ak aq (ak aq (ak aq (ak aq (ak aq (ak aq (ak aq (pv 9) ar) (pv 4)) ar) (pv 10)) ar) (pv 7)) ar)))
   (c8 (qz (kr (av (EM (av (PEW.mk ar) (av (PEW.mk (pv 9)) (av (PEW.mk (pv 3)) (av (PEW.mk (pv 10)) (av (PEW.mk (pv 6)) eE)))))) (av (PEW.mk (pv 13)) (av (PEW.mk ag) (av (PEW.mk (pv 5)) (av (PEW.mk (aB ((da rfl)) (by rfl) eF i6 (aa (bo ((gA rfl)) (by rfl) oX r6 (aa (cR (aa (pv 9) (aa (pv 10) ae))) ae)) ae))) eE))))))))) yy)
   (c8 (qz (kr (av (PEW.mk (a8 (aa (pv 11) (aa (pv 3) (aa (pv 6) ae))))) (av (PEW.mk (ak aq (ak aq (ak aq (ak aq (pv 4) ar) (pv 11)) ar) (pv 7))) (av (PEW.mk ag) (av (PEW.mk (pv 5)) (av (PEW.mk (cR ae)) eE))))))))))))))))) ?_
 refine ⟨_,rfl,_,rfl,a,i,ns,rfl,hS,h63,i0,by omega,?_⟩
 try dsimp only [aE,aK,List.set]
 obtain ⟨n,en⟩ : ∃ n,mJ ns i = n:=⟨_,rfl⟩
 have n0:=dc ns i
 rw [en] at n0 ⊢
 refine ⟨_,rfl,_,rfl,_,_,rfl,rfl,a,i + 1,ns,rfl,hS,h63,⟨by omega,by omega⟩,fun l1 nl1 va pa H1 s1 hl1 ha oa nea hn1 f1 => ?_⟩
 refine ⟨l1,_,rfl,qL_ hl1,rfl,_,_,rfl,_,_,rfl,_,_,rfl,rfl,?_⟩
 try dsimp only [aE,aK,List.set]
 refine ⟨_,rfl,_,rfl,_,_,rfl,rfl,a,i + 10,ns,rfl,(hS.same s1),h63,⟨by omega,by omega⟩,fun l2 nl2 vb pb H2 s2 hl2 hb ob neb hn2 f2 => ?_⟩
 refine ⟨l2,_,rfl,qL_ hl2,rfl,_,_,rfl,_,_,rfl,_,_,rfl,rfl,?_⟩
 try dsimp only [aE,aK,List.set]
 have s02:=s1.trans s2
 have ha2:=ha.same (tkS s2)
 have hn1' := s2 _ _ hn1
 refine ⟨_,rfl,_,rfl,_,_,rfl,rfl,⟨by decide,by decide⟩,a,n / 5,ns,rfl,(hS.same s02),h63,fun H3 s3 => ?_⟩
 try dsimp only [aE,aK,List.set]
 have s03:=s02.trans s3
 refine ⟨_,rfl,_,rfl,_,_,rfl,rfl,⟨by decide,by decide⟩,a,n / 15,ns,rfl,(hS.same s03),h63,fun H4 s4 => ?_⟩
 try dsimp only [aE,aK,List.set]
 have s24:=s3.trans s4
 have s04:=s02.trans s24
 obtain ⟨r,er⟩ : ∃ r,rwF ns (n / 5) = r:=⟨_,rfl⟩
 obtain ⟨q,eq⟩ : ∃ q,rwF ns (n / 15) = q:=⟨_,rfl⟩
 have rl:=A5 ns (n / 5)
 have ri:=De ns (n / 5)
 have rok:=Df ns (n / 5)
 have ql:=A5 ns (n / 15)
 have qi:=De ns (n / 15)
 have qok:=Df ns (n / 15)
 rw [er] at rl ri rok ⊢
 rw [eq] at ql qi qok ⊢
 have rl6:=rok.2.1
 have ql6:=qok.2.1
 refine ⟨(by show 5 <= sizeLine; decide),fun lk hlk => ?_⟩
 have m5:=br (a:=n) (b:=5) (by decide)
 obtain ⟨κ,ek,kl,kc⟩:=BC m5.1 m5.2
 have s5:=ah hlk (HO.lst [V.str (Str.ofString "="),V.str (Str.ofString "<="),V.str (Str.ofString "<"),V.str (Str.ofString "is"),V.str (Str.ofString "like")])
 refine ⟨_,rfl,_,_,rfl,rfl,(by show (0 : Int) < 5; decide),lk,_,_,_,rfl,rfl,qL_ af,ek,?_⟩
 obtain ⟨H5,e5⟩ : ∃ H5,upd H4 lk (HO.lst [V.str (Str.ofString "="),V.str (Str.ofString "<="),V.str (Str.ofString "<"),V.str (Str.ofString "is"),V.str (Str.ofString "like")]) = H5:=⟨_,rfl⟩
 rw [e5] at s5 ⊢
 try dsimp only [aE,aK,List.set]
 have s25:=s24.trans s5
 have s05:=s02.trans s25
 have ha5:=ha2.same (tkS s25)
 have hb5:=hb.same (tkS s25)
 have hn1'' := s25 _ _ hn1'
 have hn2'' := s25 _ _ hn2
 have la:=oa.tlen
 have lb:=ob.tlen
 have na:=oa.nlen
 have nb:=ob.nlen
 have zz : ∀ m : Nat,m <= 10000 -> m <= sizeLine:=fun m h => Nat.le_trans h (by decide)
 have c1 : (Str.ofString "[").length = 1:=by decide
 have c2 : (Str.ofString "] = ").length = 4:=by decide
 have c3 : (Str.ofString "]").length = 1:=by decide
 have c4 : (Str.ofString " ").length = 1:=by decide
 refine ⟨_,rfl,rfl,_,rfl,BB (fun c => ?_) (fun c => ?_)⟩
 ·have c' : κ = Str.ofString "is" := V_str.mp c
  have q4:=br (a:=n / 45) (b:=4) (by decide)
  have q1:=br (a:=n / 45) (b:=1000000) (by decide)
  refine ⟨_,rfl,_,_,rfl,rfl,⟨by decide,by decide⟩,_,_,rfl,rfl,(by show (0 : Int) < 1000000; decide),(by show 4 <= sizeLine; decide),fun lx hlx => ?_⟩
  have s6:=ah hlx (HO.lst ([0,1,999999,n / 45 % 1000000].map V.int))
  obtain ⟨sg,es⟩ : ∃ sg,([0,1,999999,n / 45 % 1000000] : LI).getD (n / 45 % 4).toNat 0 = sg:=⟨_,rfl⟩
  have sb2 : 0 <= sg /\ sg < 1000000:=by
   rw [<- es]
   refine getD_in q4.1 q4.2 fun x hx => ?_
   simp only [List.mem_cons,List.not_mem_nil,or_false] at hx
   rcases hx with rfl | rfl | rfl | rfl <;> omega
  have sb : 0 <= sg /\ sg < 10000000:=⟨sb2.1,by omega⟩
  have sn6:=FZ sb2.1 (show sg <= 999999 by omega)
  refine ⟨_,rfl,_,_,rfl,rfl,⟨by decide,by decide⟩,_,_,rfl,rfl,(by show (0 : Int) < 4; decide),lx,_,_,_,rfl,rfl,qL_ af,fu (ns:=[0,1,999999,n / 45 % 1000000]) q4.1 q4.2,?_⟩
  rw [es]
  obtain ⟨H6,e6⟩ : ∃ H6,upd H5 lx (HO.lst [V.int 0,V.int 1,V.int 999999,V.int (n / 45 % 1000000)]) = H6:=⟨_,rfl⟩
  have s6' : Same H5 H6:=by rw [<- e6]; exact s6
  rw [e6]
  try dsimp only [aE,aK,List.set]
  have nsl:=gR sb.1 sb.2
  refine ⟨_,rfl,_,rfl,_,rfl,(by show 4 <= sizeLine; decide),fun T hT => ?_⟩
  have s7:=ah hT (HO.tup [V.str (Str.ofString "is"),V.str r,va,V.int sg])
  refine ⟨_,rfl,_,_,rfl,rfl,zz _ (by omega),_,rfl,_,_,rfl,rfl,zz _ (by rw [len_app]; omega),_,_,rfl,rfl,zz _ (by rw [len_app,len_app]; omega),_,rfl,_,rfl,nsl.2,_,_,rfl,rfl,zz _ (by rw [len_app,len_app,len_app]; show _ + (bH sg).length <= 10000; omega),?_⟩
  have s57:=s6'.trans s7
  refine ⟨_,rfl,nl1,dJ pa,rfl,s57 _ _ hn1'',by omega,fun S hS' => ?_⟩
  have s8:=ah hS' (js P w S (eB (dJ pa)))
  have ol:=ja (dJ pa)
  refine ⟨S,_,rfl,af,by omega,fun lz ms hlz pz so => ?_⟩
  have s9:=ah hlz (HO.lst (ms.map V.str))
  refine ⟨_,rfl,(by show 1 <= sizeLine; decide),fun lr hlr => ?_⟩
  have s10:=ah hlr (HO.lst [V.str r])
  refine ⟨(by show 5 <= sizeLine; decide),fun l hl => ?_⟩
  have s11:=ah hl (HO.lst [V.ref T,V.str (r ++ Str.ofString "[" ++ bu pa ++ Str.ofString "] = " ++ bH sg),V.int 0,V.ref lz,V.ref lr])
  have t7:=s8.trans (s9.trans (s10.trans s11))
  have g7:=s05.trans s57
  refine k l ⟨.sg r pa sg,.ref T,lz,lr,ms,[r]⟩ _ (g7.trans t7) ⟨?_,⟨T,va,rfl,t7 _ _ af,ha5.same (tkS (s57.trans t7))⟩,(s10.trans s11) _ _ af,s11 _ _ af,⟨by omega,oa.ok,sb.1,sb.2⟩,IsNm.of_sorted pz so,⟨List.pairwise_singleton ..,List.nodup_cons.mpr ⟨by simp,List.nodup_nil⟩,fun x => Iff.rfl⟩,fun x hx => ?_,(fun x hx => by rw [List.mem_singleton.mp hx]; exact ri),⟨rok,⟨nea,oa.le,oa.rd⟩,sb2.1,(show sg <= 999999 by omega)⟩⟩ ((g7.trans (s8.trans (s9.trans s10))).free hl) ((g7.trans s8).free hlz) ((g7.trans (s8.trans s9)).free hlr) rfl ?_
  ·rw [af]
   show some (HO.lst [V.ref T,V.str (r ++ Str.ofString "[" ++ bu pa ++ Str.ofString "] = " ++ bH sg),V.int 0,V.ref lz,V.ref lr]) = _
   rw [AQ]
   rfl
  ·exact oa.nm x (once_memS.mp (pz.mem_iff.mp hx))
  ·show (eR r pa ++ (" = " : Str) ++ bH sg).length <= 205
   unfold eR
   rw [<- AQ,len_app,len_app,len_app,len_app]
   have : (("] = " : Str)).length = 4:=by decide
   have : (("[" : Str)).length = 1:=by decide
   omega
 ·have nis : κ ≠ Str.ofString "is" := fun z => c (V_str.mpr z)
  try dsimp only [aE,aK,List.set]
  refine gE (t:=uj _ _) (fun σ' H8 => ∃ (lz : Addr) (ms : List Str),σ' = [some (.ref a),some (.int i),some (.int n),some va,some (.str (bu pa)),some (.ref lz),some vb,some (.str (bu pb)),some (.ref nl2),some (.str r),some (.str q),some (.str κ),none,none] /\ Same H5 H8 /\ H8 lz = some (.lst (ms.map V.str)) /\ H lz = none /\ IsNm ms (dJ pa ++ dJ pb)) ?_ (fun D' nxt => ?_)
  rotate_left
  ·refine ⟨_,rfl,_,rfl,nl1,nl2,_,_,rfl,rfl,hn1'',hn2'',zz _ (by rw [lm_,lm_]; omega),fun lc hlc => ?_⟩
   have s6:=ah hlc (HO.lst ((dJ pa).map V.str ++ (dJ pb).map V.str))
   refine ⟨lc,dJ pa ++ dJ pb,rfl,by rw [af,List.map_append],by rw [List.length_append]; omega,fun S hS' => ?_⟩
   have s7:=ah hS' (js P w S (eB (dJ pa ++ dJ pb)))
   have ol:=ja (dJ pa ++ dJ pb)
   rw [List.length_append] at ol
   refine ⟨S,_,rfl,af,by omega,fun lz ms hlz pz so => ?_⟩
   exact nxt _ _ ⟨lz,ms,rfl,s6.trans (s7.trans (ah hlz (HO.lst (ms.map V.str)))),af,(s05.trans (s6.trans s7)).free hlz,IsNm.of_sorted pz so⟩
  rintro σ' H8 ⟨lz,ms,rfl,s58,hz8,fz,isn⟩
  have isi : ∀ x ∈ ms,x ∈ nm4 ns:=fun x hx => by
   rcases ma_.mp ((isn.mem x).mp hx) with z | z
   ·exact oa.nm x z
   ·exact ob.nm x z
  have g8:=s05.trans s58
  have ha8:=ha5.same (tkS s58)
  have hb8:=hb5.same (tkS s58)
  refine ⟨_,rfl,rfl,_,rfl,BB (fun c => ?_) (fun c => ?_)⟩
  ·refine ⟨_,rfl,_,_,rfl,rfl,zz _ (by omega),_,rfl,_,_,rfl,rfl,zz _ (by rw [len_app]; omega),_,_,rfl,rfl,zz _ (by rw [len_app,len_app]; omega),_,rfl,_,_,rfl,rfl,zz _ (by rw [len_app,len_app,len_app]; omega),_,_,rfl,rfl,zz _ (by rw [len_app,len_app,len_app,len_app]; omega),_,rfl,_,_,rfl,rfl,zz _ (by rw [len_app,len_app,len_app,len_app,len_app]; omega),_,_,rfl,rfl,zz _ (by rw [len_app,len_app,len_app,len_app,len_app,len_app]; omega),?_⟩
   try dsimp only [aE,aK,List.set]
   refine ⟨_,rfl,_,rfl,_,rfl,_,rfl,(by show 5 <= sizeLine; decide),fun T hT => ?_⟩
   have s9:=ah hT (HO.tup [V.str (Str.ofString "like"),V.str r,va,V.str q,vb])
   refine ⟨_,rfl,_,rfl,_,rfl,_,rfl,(by show 2 <= sizeLine; decide),fun ly hly => ?_⟩
   have s10:=ah hly (HO.lst [V.str r,V.str q])
   refine ⟨ly,[r,q],rfl,af,(by show 2 < 4000; decide),fun S2 hS2 => ?_⟩
   have s11:=ah hS2 (js P w S2 (eB [r,q]))
   have ol2:=ja [r,q]
   refine ⟨S2,_,rfl,af,Nat.lt_of_le_of_lt ol2 (by show 2 < 64; decide),fun lr mr hlr pr sor => ?_⟩
   have s12:=ah hlr (HO.lst (mr.map V.str))
   refine ⟨(by show 5 <= sizeLine; decide),fun l hl => ?_⟩
   have s13:=ah hl (HO.lst [V.ref T,V.str (r ++ Str.ofString "[" ++ bu pa ++ Str.ofString "] = " ++ q ++ Str.ofString "[" ++ bu pb ++ Str.ofString "]"),V.int 0,V.ref lz,V.ref lr])
   have t9:=s10.trans (s11.trans (s12.trans s13))
   have isr : IsNm mr [r,q]:=IsNm.of_sorted pr sor
   refine k l ⟨.lk r pa q pb,.ref T,lz,lr,ms,mr⟩ _ (g8.trans (s9.trans t9)) ⟨?_,⟨T,va,vb,rfl,t9 _ _ af,ha8.same (tkS (s9.trans t9)),hb8.same (tkS (s9.trans t9))⟩,(s9.trans t9) _ _ hz8,s13 _ _ af,⟨by omega,oa.ok,by omega,ob.ok⟩,isn,isr,isi,fun x hx => ?_,⟨rok,⟨nea,oa.le,oa.rd⟩,qok,⟨neb,ob.le,ob.rd⟩⟩⟩ ((g8.trans (s9.trans (s10.trans (s11.trans s12)))).free hl) fz ((g8.trans (s9.trans (s10.trans s11))).free hlr) rfl ?_
   ·rw [af]
    show some (HO.lst [V.ref T,V.str (r ++ Str.ofString "[" ++ bu pa ++ Str.ofString "] = " ++ q ++ Str.ofString "[" ++ bu pb ++ Str.ofString "]"),V.int 0,V.ref lz,V.ref lr]) = _
    rw [AO]
    rfl
   ·have:=(isr.mem x).mp hx
    simp only [List.mem_cons,List.not_mem_nil,or_false] at this
    rcases this with rfl | rfl
    ·exact ri
    ·exact qi
   ·show (eR r pa ++ (" = " : Str) ++ eR q pb).length <= 205
    unfold eR
    rw [<- AO,len_app,len_app,len_app,len_app,len_app,len_app,len_app]
    have : (("] = " : Str)).length = 4:=by decide
    have : (("[" : Str)).length = 1:=by decide
    have : (("]" : Str)).length = 1:=by decide
    omega
  ·have nlk : κ ≠ Str.ofString "like" := fun z => c (V_str.mpr z)
   have kc' : κ = Str.ofString "=" \/ κ = Str.ofString "<=" \/ κ = Str.ofString "<" := by
    rcases kc with z | z | z
    ·exact absurd z nis
    ·exact absurd z nlk
    ·exact z.1
   refine ⟨_,rfl,_,rfl,_,rfl,(by show 3 <= sizeLine; decide),fun T hT => ?_⟩
   have s9:=ah hT (HO.tup [V.str κ,va,vb])
   refine ⟨_,rfl,_,_,rfl,rfl,zz _ (by omega),_,rfl,_,_,rfl,rfl,zz _ (by rw [len_app]; omega),_,_,rfl,rfl,zz _ (by rw [len_app,len_app]; omega),_,rfl,_,_,rfl,rfl,zz _ (by rw [len_app,len_app,len_app]; omega),?_⟩
   refine ⟨_,rfl,(by show 0 <= sizeLine; decide),fun lr hlr => ?_⟩
   have s10:=ah hlr (HO.lst [])
   refine ⟨(by show 5 <= sizeLine; decide),fun l hl => ?_⟩
   have s11:=ah hl (HO.lst [V.ref T,V.str (bu pa ++ Str.ofString " " ++ κ ++ Str.ofString " " ++ bu pb),V.int 0,V.ref lz,V.ref lr])
   have t9:=s10.trans s11
   refine k l ⟨.cmp κ pa pb,.ref T,lz,lr,ms,[]⟩ _ (g8.trans (s9.trans t9)) ⟨?_,⟨T,va,vb,rfl,t9 _ _ af,ha8.same (tkS (s9.trans t9)),hb8.same (tkS (s9.trans t9))⟩,(s9.trans t9) _ _ hz8,s11 _ _ af,⟨kc',oa.ok,ob.ok⟩,isn,⟨List.Pairwise.nil,List.nodup_nil,fun x => Iff.rfl⟩,isi,(fun x hx => by cases hx),⟨kc',⟨nea,oa.le,oa.rd⟩,⟨neb,ob.le,ob.rd⟩⟩⟩ ((g8.trans (s9.trans s10)).free hl) fz ((g8.trans s9).free hlr) rfl ?_
   ·rw [af]
    show some (HO.lst [V.ref T,V.str (bu pa ++ Str.ofString " " ++ κ ++ Str.ofString " " ++ bu pb),V.int 0,V.ref lz,V.ref lr]) = _
    rw [yX]
    rfl
   ·show (bu pa ++ ((" " : Str) ++ κ ++ (" " : Str)) ++ bu pb).length <= 205
    rw [<- yX,len_app,len_app,len_app,len_app]
    have : ((" " : Str)).length = 1:=by decide
    omega
end
def Ar (K : PySem.W.Frag) : Sp:=fun vs H Q _ => ∃ (a b : Addr) (n : Int) (ns : LI) (it : It),vs = [.ref a,.ref b,.int n] /\ SprAt K H a ns /\ 930 <= ns.length /\ 0 <= n /\ ItAt ns H b it /\ (au it.st).length <= 100000 /\
 ∀ (l : Addr) (it' : It) (H' : Hp),Same H H' -> ItAt ns H' l it' -> H l = none -> (it'.nl = it.nl \/ H it'.nl = none) -> it'.rl = it.rl -> aQ it'.st = 1 + aQ it.st -> (au it'.st).length <= (au it.st).length + 13 -> Q (.ref l) H'
def A8 : Sp:=fun vs H Q _ => ∃ (b c : Addr) (n : Int) (ns : LI) (it jt : It),vs = [.ref b,.ref c,.int n] /\ ItAt ns H b it /\ ItAt ns H c jt /\ (au it.st).length <= 100000 /\ (au jt.st).length <= 100000 /\
 ∀ (l : Addr) (it' : It) (H' : Hp),Same H H' -> ItAt ns H' l it' -> H l = none -> H it'.nl = none -> H it'.rl = none -> aQ it'.st = 1 + max (aQ it.st) (aQ jt.st) -> (au it'.st).length <= (au it.st).length + (au jt.st).length + 7 -> Q (.ref l) H'
theorem IsNm.filter {zs xs : List Str} (h : IsNm zs xs) (p : Str -> Bool) : IsNm (zs.filter p) (xs.filter p):=
 ⟨h.so.filter _,h.nd.filter _,fun x => by rw [List.mem_filter,List.mem_filter,h.mem]⟩
theorem Eu {ns : List Str} {i : Nat} {y : V} (h : (ns.map V.str)[i]? = some y) : ∃ z,y = V.str z /\ ns[i]? = some z:=by
 rw [List.getElem?_map] at h
 cases e : ns[i]? with
 | none => rw [e] at h; cases h
 | some z => rw [e] at h; exact ⟨z,(Option.some.inj h).symm,rfl⟩
theorem ED {xs : List Str} {i : Nat} {x : Str} {p : Str -> Bool} (h : xs[i]? = some x) : (xs.take (i + 1)).filter p = (xs.take i).filter p ++ (if p x = true then [x] else []):=by
 rw [List.take_add_one,h,List.filter_append]
 congr 1
 by_cases c : p x = true
 ·rw [if_pos c]; exact List.filter_cons_of_pos c
 ·rw [if_neg c]; exact List.filter_cons_of_neg c
theorem DW (a k b : Str) : ("(" : Str) ++ a ++ (" " : Str) ++ k ++ (" " : Str) ++ b ++ (")" : Str) = ("(" : Str) ++ a ++ ((" " : Str) ++ k ++ (" " : Str)) ++ b ++ (")" : Str):=by simp only [DN]
theorem DY {a b : Nat} : (if (b : Int) > (a : Int) then (b : Int) else (a : Int)) = ((max a b : Nat) : Int):=by
 split <;> omega
section
variable {P : Program} {w : World} {K : PySem.W.Frag} {mg : Str -> Option Value} {base : Heap} {f : Addr} {fd : FuncData} {dV : Value}
theorem sc__law_wrapped : FnScope ["_law_spread_here","_law_item","_law_number","_law_statement","_law_line","_law_deep","_law_names","_law_rows","_law_kind","_law_name_here","_law_left"] ["_law_spread_here","_law_item","_law_number"] (ai bQ):=⟨rfl,rfl,rfl,by decide +kernel,rfl,by decide +kernel,by decide +kernel⟩
theorem bk__law_wrapped_0 : BlkScope ["_law_spread_here","_law_item","_law_number","_law_statement","_law_line","_law_deep","_law_names","_law_rows","_law_kind","_law_name_here","_law_left"] (ai bQ) ["_law_one","_law_name_here"] [none,some 9] { kind:=ScopeKind.function,names:=[(".0",NameKind.local),("_law_one",NameKind.local),("_law_name_here",NameKind.free)],isGenerator:=false,isCoroutine:=false,more:=[] }:=⟨rfl,by decide +kernel,by decide +kernel,by decide +kernel,by decide +kernel,rfl,by decide +kernel⟩
theorem sc__law_two : FnScope ["_law_one","_law_other","_law_number","_law_kind","_law_line","_law_names"] ["_law_one","_law_other","_law_number"] (ai eV):=⟨rfl,rfl,rfl,by decide +kernel,rfl,by decide +kernel,by decide +kernel⟩
theorem Ee (F : FunD K "_law_wrapped" "_law_wrapped" bQ dV f fd) (dD : DefOk P w K mg base "_law_name" 2 ["_law_spread_here","_law_number"] [] (yr K)) : FnOk P w K mg base CX0 3 f fd ["_law_spread_here","_law_item","_law_number"] (Ar K):=by
 refine F.ok sc__law_wrapped (fun vs H Q E h => ?_) (fun cdv A outer s H vs Q E hr h => ?_)
 ·obtain ⟨a,b,n,ns,it,rfl,_⟩:=h
  rfl
 obtain ⟨a,b,n,ns,it,rfl,hS,h63,n0,I,bd,k⟩:=h
 obtain ⟨st,v,nl,rl,names,rows⟩:=it
 have few : names.length <= 4:=I.few.1
 have zz : ∀ m : Nat,m <= 200000 -> m <= sizeLine:=fun m h => Nat.le_trans h (by decide)
 refine mS (ay (PSW.mk (tP (pv 1) (xX rfl (aZ (aP (i:=3) sc__law_wrapped.nd rfl (Or.inl rfl)) (aZ (aP (i:=4) sc__law_wrapped.nd rfl (Or.inl rfl)) (aZ (aP (i:=5) sc__law_wrapped.nd rfl (Or.inl rfl)) (aZ (aP (i:=6) sc__law_wrapped.nd rfl (Or.inl rfl)) (aZ (aP (i:=7) sc__law_wrapped.nd rfl (Or.inl rfl)) j6))))))))
   (ay (B5 (PTW.mk (aF cQ (ak ba (pv 2) ag) ag (aM _))) (c8 (qz (kr (av (PEW.mk (a8 (aa ar (aa (pv 3) ae)))) (av (PEW.mk (ak aq ar (pv 4))) (av (PEW.mk (ak bI (pv 5) ag)) (av (PEW.mk (pv 6)) (av (PEW.mk (pv 7)) eE)))))))) yy)
   (ay (PSW.mk (aA (i:=8) sc__law_wrapped.nd rfl (Or.inl rfl) (aV aS (cR (aa ar (aa ar ae))) (ak nK (ak ba (pv 2) ag) ag) (fun _ _ => rfl))))
   (ay (PSW.mk (aA (i:=9) sc__law_wrapped.nd rfl (Or.inr rfl) (aU dD hr (aa (pv 0) (aa (ak bB (pv 2) ag) ae)))))
   (ay (PSW.mk (zr (i:=10) rfl sc__law_wrapped.nd rfl (Or.inl rfl) bk__law_wrapped_0 (rN (pv 6)) (fun _ _ _ _ => (aP (i:=0) bk__law_wrapped_0.nd rfl (Or.inl rfl))) (fun _ _ _ _ => (aF C3 (pv 0) (pv 1) (aM _))) (fun _ _ _ _ => (pv 0))))
   (c8 (qz (kr (av (PEW.mk (a8 (aa (pv 8) (aa (pv 9) (aa (pv 3) ae))))) (av (PEW.mk (ak aq (ak aq (ak aq (ak aq (pv 8) ar) (pv 9)) ar) (pv 4))) (av (PEW.mk (ak bI (pv 5) ag)) (av (PEW.mk (pv 10)) (av (PEW.mk (pv 7)) eE))))))))))))) ?_
 refine ⟨_,rfl,b,_,rfl,qL_ I.li,rfl,_,_,rfl,_,_,rfl,_,_,rfl,_,_,rfl,_,_,rfl,rfl,?_⟩
 try dsimp only [aE,aK,List.set]
 have dd : ((aQ st : Nat) : Int) + 1 = ((1 + aQ st : Nat) : Int):=by omega
 refine ⟨_,rfl,_,_,rfl,rfl,(by show (0 : Int) < 3; decide),rfl,_,rfl,xj (fun c => ?_) (fun c => ?_)⟩
 ·refine ⟨_,rfl,(by show 2 <= sizeLine; decide),fun T hT => ?_⟩
  have s1:=ah hT (HO.tup [V.str (Str.ofString "not"),v])
  have l4 : (Str.ofString "not ").length = 4:=by decide
  have l4' : (("not " : Str)).length = 4:=by decide
  refine ⟨_,rfl,_,_,rfl,rfl,zz _ (by show _ + (au st).length <= _; have : (au st).length <= 100000:=bd; omega),_,rfl,_,_,rfl,rfl,_,rfl,_,rfl,(by show 5 <= sizeLine; decide),fun l hl => ?_⟩
  have s2:=ah hl (HO.lst [V.ref T,V.str (Str.ofString "not " ++ au st),V.int ((aQ st : Int) + 1),V.ref nl,V.ref rl])
  have s12:=s1.trans s2
  refine k l ⟨.no st,.ref T,nl,rl,names,rows⟩ _ s12 ⟨?_,⟨T,v,rfl,s2 _ _ af,StAt.same (tkS s12) I.sv⟩,s12 _ _ I.hn,s12 _ _ I.hr,I.wf,I.nm,I.rs,I.ni,I.ri,I.wr⟩ (s1.free hl) (.inl rfl) rfl rfl ?_
  ·rw [af]
   show some (HO.lst [V.ref T,V.str (Str.ofString "not " ++ au st),V.int ((aQ st : Int) + 1),V.ref nl,V.ref rl]) = _
   rw [dd]
   rfl
  ·show (("not " : Str) ++ au st).length <= _
   rw [len_app]
   show _ <= (au st).length + 13
   omega
 ·have m3:=br (a:=n) (b:=3) (by decide)
  refine ⟨(by show 2 <= sizeLine; decide),fun Lk hLk => ?_⟩
  have s1:=ah hLk (HO.lst [V.str (Str.ofString "some"),V.str (Str.ofString "all")])
  obtain ⟨κ,ek,kl,kc⟩ : ∃ κ : Str,atI [V.str (Str.ofString "some"),V.str (Str.ofString "all")] (n % 3 - 1) = some (.str κ) /\ κ.length <= 4 /\ (κ = ("some" : Str) \/ κ = ("all" : Str)):=by
   have e : n % 3 = 1 \/ n % 3 = 2:=by omega
   rcases e with e | e <;> rw [e]
   ·exact ⟨_,rfl,by decide +kernel,.inl rfl⟩
   ·exact ⟨_,rfl,by decide +kernel,.inr rfl⟩
  refine ⟨_,rfl,_,_,rfl,rfl,(by show (0 : Int) < 3; decide),_,_,rfl,rfl,Lk,_,_,_,rfl,rfl,qL_ af,ek,?_⟩
  try dsimp only [aE,aK,List.set]
  obtain ⟨H1,e1⟩ : ∃ H1,upd H Lk (HO.lst [V.str (Str.ofString "some"),V.str (Str.ofString "all")]) = H1:=⟨_,rfl⟩
  rw [e1] at s1 ⊢
  refine ⟨_,rfl,_,rfl,_,_,rfl,rfl,⟨by decide,by decide⟩,a,n / 3,ns,rfl,(hS.same s1),h63,fun H2 s2 => ?_⟩
  try dsimp only [aE,aK,List.set]
  obtain ⟨nm,enm⟩ : ∃ nm,nmF ns (n / 3) = nm:=⟨_,rfl⟩
  have nml:=AY ns (n / 3)
  have nok:=CM ns (n / 3)
  rw [enm] at nml nok ⊢
  have nml6:=nok.1.2.1
  have s02:=s1.trans s2
  have hn2 : H2 nl = some (.lst (names.map V.str)):=s02 _ _ I.hn
  refine gE (t:=uj _ _) (fun σ' H3 => ∃ lf : Addr,σ' = [some (.ref a),some (.ref b),some (.int n),some v,some (.str (au st)),some (.int (aQ st : Int)),some (.ref nl),some (.ref rl),some (.str κ),some (.str nm),some (.ref lf)] /\ Same H2 H3 /\ H lf = none /\ H3 lf = some (.lst ((names.filter fun x => decide (x ≠ nm)).map V.str))) ?_ (fun D' nxt => ?_)
  rotate_left
  ·refine ⟨_,rfl,nl,rfl,⟨_,qL_ hn2⟩,?_⟩
   refine zQ (K:=K) (xs:=names.map V.str) (fun D j ys H' => Same H2 H' /\ ys = ((names.take j).filter fun x => decide (x ≠ nm)).map V.str) (fun D hD => ⟨ah hD _,rfl⟩) (fun D j ys H' _ ⟨e,_⟩ => qL_ (e _ _ hn2)) ?_ ?_
   ·rintro D j y ys H' Qy Qn hD hj hy ⟨hs,rfl⟩ ky kn
    obtain ⟨x,rfl,hx⟩:=Eu hj
    have fl:=List.length_filter_le (fun x => decide (x ≠ nm)) (names.take j)
    rw [List.length_take] at fl
    refine ⟨_,rfl,_,rfl,rfl,_,rfl,FU (fun c => ?_) (fun c => ?_)⟩
    ·have c' : x ≠ nm:=fun z => c (V_str.mpr z)
     refine ⟨_,rfl,ky _ _ hy (cH (by rw [lm_]; omega)) ⟨aW hs hD,?_⟩⟩
     rw [ED hx,if_pos (decide_eq_true c'),List.map_append]
     rfl
    ·have c' : ¬ x ≠ nm:=fun z => z (V_str.mp c)
     refine kn _ hy ⟨hs,?_⟩
     rw [ED hx,if_neg (fun z => c' (of_decide_eq_true z)),List.append_nil]
   ·rintro lf ys H3 fl hy ⟨s3,rfl⟩
    rw [lm_,List.take_length] at hy
    exact nxt _ _ ⟨lf,rfl,s3,s02.free fl,hy⟩
  rintro σ' H3 ⟨lf,rfl,s3,ff,hlf⟩
  have s03:=s02.trans s3
  have l1 : (Str.ofString " ").length = 1:=by decide
  have l2 : (Str.ofString ": ").length = 2:=by decide
  have bd' : (au st).length <= 100000:=bd
  refine ⟨_,rfl,_,rfl,_,rfl,(by show 3 <= sizeLine; decide),fun T hT => ?_⟩
  have s4:=ah hT (HO.tup [V.str κ,V.str nm,v])
  refine ⟨_,rfl,_,_,rfl,rfl,zz _ (by omega),_,rfl,_,_,rfl,rfl,zz _ (by rw [len_app]; omega),_,_,rfl,rfl,zz _ (by rw [len_app,len_app]; omega),_,rfl,_,_,rfl,rfl,zz _ (by rw [len_app,len_app,len_app]; omega),?_⟩
  refine ⟨_,rfl,_,_,rfl,rfl,_,rfl,_,rfl,(by show 5 <= sizeLine; decide),fun l hl => ?_⟩
  have s5:=ah hl (HO.lst [V.ref T,V.str (κ ++ Str.ofString " " ++ nm ++ Str.ofString ": " ++ au st),V.int ((aQ st : Int) + 1),V.ref lf,V.ref rl])
  have s05:=s03.trans (s4.trans s5)
  refine k l ⟨.ch κ nm st,.ref T,lf,rl,names.filter fun x => decide (x ≠ nm),rows⟩ _ s05 ⟨?_,⟨T,v,rfl,s5 _ _ af,StAt.same (tkS s05) I.sv⟩,(s4.trans s5) _ _ hlf,s05 _ _ I.hr,⟨kc,by omega,I.wf⟩,I.nm.filter _,I.rs,fun x hx => I.ni x (List.mem_filter.mp hx).1,I.ri,⟨kc,nok,I.wr⟩⟩ ((s03.trans s4).free hl) (.inr ff) rfl rfl ?_
  ·rw [af]
   show some (HO.lst [V.ref T,V.str (κ ++ Str.ofString " " ++ nm ++ Str.ofString ": " ++ au st),V.int ((aQ st : Int) + 1),V.ref lf,V.ref rl]) = _
   rw [dd]
   rfl
  ·show (κ ++ (" " : Str) ++ nm ++ (": " : Str) ++ au st).length <= (au st).length + 13
   rw [len_app,len_app,len_app,len_app]
   have : ((" " : Str)).length = 1:=by decide
   have : ((": " : Str)).length = 2:=by decide
   omega
theorem Fg (F : FunD K "_law_two" "_law_two" eV dV f fd) (wC : mg "max" = none) (eF : mg "sorted" = none) (oX : mg "set" = none) : FnOk P w K mg base CX0 1 f fd ["_law_one","_law_other","_law_number"] A8:=by
 refine F.ok sc__law_two (fun vs H Q E h => ?_) (fun cdv A outer s H vs Q E hr h => ?_)
 ·obtain ⟨b,c,n,ns,it,jt,rfl,_⟩:=h
  rfl
 obtain ⟨b,c,n,ns,it,jt,rfl,I,J,bi,bj,k⟩:=h
 obtain ⟨st,v,nl,rl,names,rows⟩:=it
 obtain ⟨st2,v2,nl2,rl2,names2,rows2⟩:=jt
 have few : names.length <= 4 /\ rows.length <= 3:=I.few
 have few2 : names2.length <= 4 /\ rows2.length <= 3:=J.few
 have zz : ∀ m : Nat,m <= 300000 -> m <= sizeLine:=fun m h => Nat.le_trans h (by decide)
 have bi' : (au st).length <= 100000:=bi
 have bj' : (au st2).length <= 100000:=bj
 refine mS (ay (PSW.mk (aA (i:=3) sc__law_two.nd rfl (Or.inl rfl) (aV aS (cR (aa ar (aa ar ae))) (ak ba (pv 2) ag) (fun _ _ => rfl))))
   (ay (PSW.mk (aA (i:=4) sc__law_two.nd rfl (Or.inl rfl) (ak aq (ak aq (ak aq (ak aq (ak aq (ak aq ar (aV aS (pv 0) ag (fun _ _ => rfl))) ar) (pv 3)) ar) (aV aS (pv 1) ag (fun _ _ => rfl))) ar)))
   (ay (PSW.mk (aA (i:=5) sc__law_two.nd rfl (Or.inl rfl) (aB ((da rfl)) (by rfl) eF i6 (aa (bo ((gA rfl)) (by rfl) oX r6 (aa (ak xS (aV aS (pv 0) ag (fun _ _ => rfl)) (aV aS (pv 1) ag (fun _ _ => rfl))) ae)) ae))))
   (c8 (qz (kr (av (EM (av (PEW.mk (pv 3)) (av (PEW.mk (aV aS (pv 0) ag (fun _ _ => rfl))) (av (PEW.mk (aV aS (pv 1) ag (fun _ _ => rfl))) eE)))) (av (PEW.mk (pv 4)) (av (PEW.mk (ak bI ag (aB (Bk rfl) (by rfl) wC Cc (aa (aV aS (pv 0) ag (fun _ _ => rfl)) (aa (aV aS (pv 1) ag (fun _ _ => rfl)) ae))))) (av (PEW.mk (pv 5)) (av (PEW.mk (aB ((da rfl)) (by rfl) eF i6 (aa (bo ((gA rfl)) (by rfl) oX r6 (aa (ak xS (aV aS (pv 0) ag (fun _ _ => rfl)) (aV aS (pv 1) ag (fun _ _ => rfl))) ae)) ae))) eE))))))))))) ?_
 refine ⟨(by show 2 <= sizeLine; decide),fun Lk hLk => ?_⟩
 have s1:=ah hLk (HO.lst [V.str (Str.ofString "and"),V.str (Str.ofString "or")])
 have m2:=br (a:=n) (b:=2) (by decide)
 obtain ⟨κ,ek,kl,kc⟩ : ∃ κ : Str,atI [V.str (Str.ofString "and"),V.str (Str.ofString "or")] (n % 2) = some (.str κ) /\ κ.length <= 3 /\ (κ = ("and" : Str) \/ κ = ("or" : Str)):=by
  have e : n % 2 = 0 \/ n % 2 = 1:=by omega
  rcases e with e | e <;> rw [e]
  ·exact ⟨_,rfl,by decide +kernel,.inl rfl⟩
  ·exact ⟨_,rfl,by decide +kernel,.inr rfl⟩
 refine ⟨_,rfl,_,_,rfl,rfl,(by show (0 : Int) < 2; decide),Lk,_,_,_,rfl,rfl,qL_ af,ek,?_⟩
 try dsimp only [aE,aK,List.set]
 obtain ⟨H1,e1⟩ : ∃ H1,upd H Lk (HO.lst [V.str (Str.ofString "and"),V.str (Str.ofString "or")]) = H1:=⟨_,rfl⟩
 rw [e1] at s1 ⊢
 have I1:=I.same s1
 have J1:=J.same s1
 have l1 : (Str.ofString "(").length = 1:=by decide
 have l2 : (Str.ofString " ").length = 1:=by decide
 have l3 : (Str.ofString ")").length = 1:=by decide
 refine ⟨_,rfl,b,_,_,_,rfl,rfl,qL_ I1.li,rfl,_,_,rfl,rfl,zz _ (by show _ + (au st).length <= _; omega),_,_,rfl,rfl,zz _ (by rw [len_app]; show _ + (au st).length + _ <= _; omega),_,rfl,_,_,rfl,rfl,zz _ (by rw [len_app,len_app]; show _ + (au st).length + _ + _ <= _; omega),_,_,rfl,rfl,zz _ (by rw [len_app,len_app,len_app]; show _ + (au st).length + _ + _ + _ <= _; omega),_,rfl,c,_,_,_,rfl,rfl,qL_ J1.li,rfl,_,_,rfl,rfl,zz _ (by rw [len_app,len_app,len_app,len_app]; show _ + (au st).length + _ + _ + _ + (au st2).length <= _; omega),_,_,rfl,rfl,zz _ (by rw [len_app,len_app,len_app,len_app,len_app]; show _ + (au st).length + _ + _ + _ + (au st2).length + _ <= _; omega),?_⟩
 try dsimp only [aE,aK,List.set]
 obtain ⟨ln,eln⟩ : ∃ ln,Str.ofString "(" ++ au st ++ Str.ofString " " ++ κ ++ Str.ofString " " ++ au st2 ++ Str.ofString ")" = ln:=⟨_,rfl⟩
 have eln2 : ln = au (.jn κ st st2):=by rw [<- eln]; exact DW _ _ _
 rw [eln]
 refine gE (t:=uj _ _) (fun σ' H2 => ∃ (lz : Addr) (ms : List Str),σ' = [some (.ref b),some (.ref c),some (.int n),some (.str κ),some (.str ln),some (.ref lz)] /\ Same H1 H2 /\ H2 lz = some (.lst (ms.map V.str)) /\ H lz = none /\ IsNm ms (names ++ names2)) ?_ (fun D' nxt => ?_)
 rotate_left
 ·refine ⟨_,rfl,b,_,_,_,rfl,rfl,qL_ I1.li,rfl,_,rfl,c,_,_,_,rfl,rfl,qL_ J1.li,rfl,nl,nl2,_,_,rfl,rfl,I1.hn,J1.hn,zz _ (by rw [lm_,lm_]; show names.length + names2.length <= _; omega),fun lc hlc => ?_⟩
  have s6:=ah hlc (HO.lst (names.map V.str ++ names2.map V.str))
  refine ⟨lc,names ++ names2,rfl,by rw [af,List.map_append],by rw [List.length_append]; omega,fun S hS' => ?_⟩
  have s7:=ah hS' (js P w S (eB (names ++ names2)))
  have ol:=ja (names ++ names2)
  rw [List.length_append] at ol
  refine ⟨S,_,rfl,af,by omega,fun lz ms hlz pz so => ?_⟩
  exact nxt _ _ ⟨lz,ms,rfl,s6.trans (s7.trans (ah hlz (HO.lst (ms.map V.str)))),af,(s1.trans (s6.trans s7)).free hlz,IsNm.of_sorted pz so⟩
 rintro σ' H2 ⟨lz,ms,rfl,s2,hz,fz,isn⟩
 have s02:=s1.trans s2
 have I2:=I.same s02
 have J2:=J.same s02
 refine ⟨_,rfl,_,rfl,b,_,_,_,rfl,rfl,qL_ I2.li,rfl,_,rfl,c,_,_,_,rfl,rfl,qL_ J2.li,rfl,(by show 3 <= sizeLine; decide),fun T hT => ?_⟩
 have s3:=ah hT (HO.tup [V.str κ,v,v2])
 have s03:=s02.trans s3
 have I3:=I.same s03
 have J3:=J.same s03
 refine ⟨_,rfl,_,rfl,b,_,_,_,rfl,rfl,qL_ I3.li,rfl,_,rfl,c,_,_,_,rfl,rfl,qL_ J3.li,rfl,_,_,rfl,_,_,rfl,rfl,_,rfl,?_⟩
 refine ⟨_,rfl,b,_,_,_,rfl,rfl,qL_ I3.li,rfl,_,rfl,c,_,_,_,rfl,rfl,qL_ J3.li,rfl,rl,rl2,_,_,rfl,rfl,I3.hr,J3.hr,zz _ (by rw [lm_,lm_]; show rows.length + rows2.length <= _; omega),fun lc hlc => ?_⟩
 have s4:=ah hlc (HO.lst (rows.map V.str ++ rows2.map V.str))
 refine ⟨lc,rows ++ rows2,rfl,by rw [af,List.map_append],by rw [List.length_append]; omega,fun S hS' => ?_⟩
 have s5:=ah hS' (js P w S (eB (rows ++ rows2)))
 have ol:=ja (rows ++ rows2)
 rw [List.length_append] at ol
 refine ⟨S,_,rfl,af,by omega,fun lr mr hlr pr sor => ?_⟩
 have s6:=ah hlr (HO.lst (mr.map V.str))
 have isr : IsNm mr (rows ++ rows2):=IsNm.of_sorted pr sor
 refine ⟨(by show 5 <= sizeLine; decide),fun l hl => ?_⟩
 have s7:=ah hl (HO.lst [V.ref T,V.str ln,V.int (1 + (if (aQ st2 : Int) > (aQ st : Int) then (aQ st2 : Int) else (aQ st : Int))),V.ref lz,V.ref lr])
 have t4:=s4.trans (s5.trans (s6.trans s7))
 have s07:=s03.trans t4
 refine k l ⟨.jn κ st st2,.ref T,lz,lr,ms,mr⟩ _ s07 ⟨?_,⟨T,v,v2,rfl,t4 _ _ af,StAt.same (tkS s07) I.sv,StAt.same (tkS s07) J.sv⟩,(s3.trans t4) _ _ hz,s7 _ _ af,⟨kc,I.wf,J.wf⟩,isn.congr fun x => ?_,isr.congr fun x => ?_,fun x hx => ?_,fun x hx => ?_,⟨kc,I.wr,J.wr⟩⟩ ((s03.trans (s4.trans (s5.trans s6))).free hl) fz ((s03.trans (s4.trans s5)).free hlr) rfl ?_
 ·rw [af]
  show some (HO.lst [V.ref T,V.str ln,V.int (1 + (if (aQ st2 : Int) > (aQ st : Int) then (aQ st2 : Int) else (aQ st : Int))),V.ref lz,V.ref lr]) = _
  rw [DY,eln2]
  have : (1 : Int) + ((max (aQ st) (aQ st2) : Nat) : Int) = ((1 + max (aQ st) (aQ st2) : Nat) : Int):=by omega
  rw [this]
  rfl
 ·show x ∈ names ++ names2 ↔ x ∈ gK st ++ gK st2
  rw [List.mem_append,List.mem_append,I.nm.mem,J.nm.mem]
 ·show x ∈ rows ++ rows2 ↔ x ∈ gU st ++ gU st2
  rw [List.mem_append,List.mem_append,I.rs.mem,J.rs.mem]
 ·rcases ma_.mp ((isn.mem x).mp hx) with z | z
  ·exact I.ni x z
  ·exact J.ni x z
 ·rcases ma_.mp ((isr.mem x).mp hx) with z | z
  ·exact I.ri x z
  ·exact J.ri x z
 ·show (au (.jn κ st st2)).length <= (au st).length + (au st2).length + 7
  rw [<- eln2,<- eln,len_app,len_app,len_app,len_app,len_app,len_app]
  omega
end
def IR (ns : LI) (L : Addr) (H : Hp) (a : Addr) (it : It) : Prop:=ItAt ns H a it /\ Off L a it
def LIa (ns : LI) (L : Addr) (as : List Addr) (its : List It) (H : Hp) : Prop:=H L = some (.lst (as.map V.ref)) /\ Paired (IR ns L H) as its
def szI (it : It) : Nat:=(au it.st).length + 7
def tot (its : List It) : Nat:=(its.map szI).sum
theorem LIa.same {ns : LI} {L : Addr} {as : List Addr} {its : List It} {H H' : Hp} (h : LIa ns L as its H) (s : Same H H') : LIa ns L as its H' := ⟨s _ _ h.1,Paired.mapP h.2 fun _ _ q => ⟨q.1.same s,q.2⟩⟩
theorem LIa.upd {ns : LI} {L : Addr} {as : List Addr} {its : List It} {H : Hp} {xs ys : List V} (h : Paired (IR ns L H) as its) (hL : H L = some (.lst xs)) : Paired (IR ns L (upd H L (.lst ys))) as its:=Paired.mapP h fun _ _ q => ⟨q.1.off q.2 hL,q.2⟩
theorem wk {α β : Type} {R : α -> β -> Prop} : ∀ {as : List α} {bs : List β} {a : α} {b : β},Paired R as bs -> R a b -> Paired R (as ++ [a]) (bs ++ [b])
 | _,_,_,_,.nil,h => .cons h .nil
 | _,_,_,_,.cons q t,h => .cons q (wk t h)
theorem qw {α β : Type} {R : α -> β -> Prop} : ∀ {bs : List β} {as : List α} {b : β},Paired R as (bs ++ [b]) -> ∃ as' a,as = as' ++ [a] /\ Paired R as' bs /\ R a b
 | [],_,_,.cons (a:=a) q .nil => ⟨[],a,rfl,.nil,q⟩
 | _ :: bs,_,_,.cons (a:=a) q t => by
  obtain ⟨as',a',e,h,r⟩:=qw (bs:=bs) t
  exact ⟨a :: as',a',by rw [e]; rfl,.cons q h,r⟩
theorem j9 {α : Type} {xs : List α} (h : xs ≠ []) : ∃ ys y,xs = ys ++ [y]:=⟨xs.dropLast,xs.getLast h,(List.dropLast_concat_getLast h).symm⟩
theorem LIa.pop {ns : LI} {L : Addr} {as : List Addr} {its : List It} {it : It} {H : Hp} (h : LIa ns L as (its ++ [it]) H) : ∃ as' a,as = as' ++ [a] /\ LIa ns L as' its (L2.upd H L (.lst (as'.map V.ref))) /\ ItAt ns (L2.upd H L (.lst (as'.map V.ref))) a it /\ Off L a it:=by
 obtain ⟨as',a,e,h2,r⟩:=qw h.2
 exact ⟨as',a,e,⟨af,LIa.upd h2 h.1⟩,r.1.off r.2 h.1,r.2⟩
theorem LIa.push {ns : LI} {L a : Addr} {as : List Addr} {its : List It} {it : It} {H : Hp} (h : LIa ns L as its H) (i : ItAt ns H a it) (o : Off L a it) : LIa ns L (as ++ [a]) (its ++ [it]) (L2.upd H L (.lst (as.map V.ref ++ [V.ref a]))):=
 ⟨by rw [af,List.map_append]; rfl,wk (LIa.upd h.2 h.1) ⟨i.off o h.1,o⟩⟩
theorem pop_at {as : List Addr} {a : Addr} : ((as ++ [a]).map V.ref)[((as ++ [a]).map V.ref).length - 1]? = some (V.ref a) /\ ((as ++ [a]).map V.ref).dropLast = as.map V.ref:=by
 rw [List.map_append]
 constructor
 ·rw [List.length_append]
  show (as.map V.ref ++ [V.ref a])[(as.map V.ref).length + 1 - 1]? = _
  rw [Nat.add_sub_cancel,List.getElem?_append_right (Nat.le_refl _),Nat.sub_self]
  rfl
 ·exact List.dropLast_concat
theorem eD (its : List It) (it : It) : tot (its ++ [it]) = tot its + szI it:=by
 unfold tot
 rw [List.map_append,List.sum_append]
 show _ + (szI it + 0) = _
 rw [Nat.add_zero]
theorem Bd : ∀ {its : List It} {it : It},it ∈ its -> szI it <= tot its
 | x :: its,it,h => by
  have e : tot (x :: its) = szI x + tot its:=by unfold tot; rw [List.map_cons,List.sum_cons]
  rw [e]
  rcases List.mem_cons.mp h with z | z
  ·rw [z]; omega
  ·have:=Bd z
   omega
theorem xV {ns : LI} {L : Addr} {H : Hp} : ∀ {as : List Addr} {its : List It} {i : Nat} {y : V},Paired (IR ns L H) as its -> (as.map V.ref)[i]? = some y -> ∃ (a : Addr) (it : It),y = .ref a /\ IR ns L H a it /\ its[i]? = some it
 | _,_,_,_,.nil,h => by simp at h
 | _,_,0,_,.cons (a:=a) (b:=p) r _,h => ⟨a,p,(Option.some.inj h).symm,r,rfl⟩
 | _,_,i + 1,_,.cons _ t,h => by
  obtain ⟨a,p,e,r,q⟩:=xV (i:=i) t (by simpa using h)
  exact ⟨a,p,e,r,by simpa using q⟩
theorem FL {t1 t2 t3 : TT} {σ : St} {H : Hp} {A B : Hp -> Prop} {b1 b2 b3 : Bool} (h1 : ∀ Q : Bool -> Hp -> Prop,Q b1 H -> t1 σ H Q) (h2 : ∀ Q : Bool -> Hp -> Prop,Q b2 H -> t2 σ H Q) (h3 : ∀ Q : Bool -> Hp -> Prop,Q b3 H -> t3 σ H Q) (h : if (b1 && (b2 && b3)) = true then A H else B H) : Ez t1 (Ez t2 t3) σ H fun b H1 => if b = true then A H1 else B H1:=by
 refine h1 _ ?_
 cases b1 with
 | false => exact b8 h
 | true =>
  refine eO (h2 _ ?_)
  cases b2 with
  | false => exact b8 h
  | true => exact eO (h3 _ h)
theorem FK {t1 t2 : TT} {σ : St} {H : Hp} {A B : Hp -> Prop} {b1 b2 : Bool} (h1 : ∀ Q : Bool -> Hp -> Prop,Q b1 H -> t1 σ H Q) (h2 : ∀ Q : Bool -> Hp -> Prop,Q b2 H -> t2 σ H Q) (h : if (b1 && b2) = true then A H else B H) : Ez t1 t2 σ H fun b H1 => if b = true then A H1 else B H1:=by
 refine h1 _ ?_
 cases b1 with
 | false => exact b8 h
 | true => exact eO (h2 _ h)
theorem Dp : ∀ (its : List It) (z : Int),(its.map fun it => ((szI it : Nat) : Int)).foldl (· + ·) z = z + ((tot its : Nat) : Int)
 | [],z => (Int.add_zero z).symm
 | x :: its,z => by
  have e : tot (x :: its) = szI x + tot its:=by unfold tot; rw [List.map_cons,List.sum_cons]
  rw [List.map_cons,List.foldl_cons,Dp its,e]
  omega
theorem Ey (its : List It) : Ew (its.map fun it => ((szI it : Nat) : Int)) = ((tot its : Nat) : Int):=by
 unfold Ew
 rw [Dp,Int.zero_add]
theorem xR {H : Hp} {L l : Addr} {it : It} {o : HO} (hL : H L = some o) (f : H l = none) (fn : H it.nl = none) (fr : H it.rl = none) : Off L l it:=
 ⟨fun z => (by rw [z,hL] at f; cases f),fun z => (by rw [z,hL] at fn; cases fn),fun z => (by rw [z,hL] at fr; cases fr)⟩
structure Few (its : List It) : Prop where
 tt : tot its <= 992
 dd : ∀ it ∈ its,aQ it.st + its.length <= 20
def yo (K : PySem.W.Frag) : Sp:=fun vs H Q _ => ∃ (a : Addr) (ns : LI),vs = [.ref a] /\ SprAt K H a ns /\ 930 <= ns.length /\
 ∀ (L : Addr) (as : List Addr) (its : List It) (H' : Hp),Same H H' -> H L = none -> LIa ns L as its H' -> its ≠ [] -> Few its -> Q (.ref L) H'
section
variable {P : Program} {w : World} {K : PySem.W.Frag} {mg : Str -> Option Value} {base : Heap} {f : Addr} {fd : FuncData} {dV : Value}
theorem sc__law_items : FnScope ["_law_spread_here","_law_items_here","_law_k","_law_number","_law_size","_law_deep","_law_other"] ["_law_spread_here"] (ai bV):=⟨rfl,rfl,rfl,by decide +kernel,rfl,by decide +kernel,by decide +kernel⟩
theorem bk__law_items_0 : BlkScope ["_law_spread_here","_law_items_here","_law_k","_law_number","_law_size","_law_deep","_law_other"] (ai bV) ["_law_item"] [none] { kind:=ScopeKind.function,names:=[(".0",NameKind.local),("_law_item",NameKind.local),("len",NameKind.globalImplicit)],isGenerator:=false,isCoroutine:=false,more:=[] }:=⟨rfl,by decide +kernel,by decide +kernel,by decide +kernel,by decide +kernel,rfl,by decide +kernel⟩
theorem bk__law_items_1 : BlkScope ["_law_spread_here","_law_items_here","_law_k","_law_number","_law_size","_law_deep","_law_other"] (ai bV) ["_law_item"] [none] { kind:=ScopeKind.function,names:=[(".0",NameKind.local),("_law_item",NameKind.local)],isGenerator:=false,isCoroutine:=false,more:=[] }:=⟨rfl,by decide +kernel,by decide +kernel,by decide +kernel,by decide +kernel,rfl,by decide +kernel⟩
theorem CU (F : FunD K "_law_items" "_law_items" bV dV f fd) (aN : DefOk P w K mg base "_law_draw" 1 ["_law_spread_here","_law_k"] [] (ij K)) (cu : DefOk P w K mg base "_law_plain" 4 ["_law_spread_here","_law_at"] [] (rQ K)) (eI : DefOk P w K mg base "_law_two" 1 ["_law_one","_law_other","_law_number"] [] A8) (gm : DefOk P w K mg base "_law_wrapped" 3 ["_law_spread_here","_law_item","_law_number"] [] (Ar K)) (a9 : mg "len" = none) (DG : mg "min" = none) (wC : mg "max" = none) (DH : mg "sum" = none) (fj : mg "range" = none) : FnOk P w K mg base CX0 5 f fd ["_law_spread_here"] (yo K):=by
 refine F.ok sc__law_items (fun vs H Q E h => ?_) (fun cdv A outer s H vs Q E hr h => ?_)
 ·obtain ⟨a,ns,rfl,_⟩:=h
  rfl
 obtain ⟨a,ns,rfl,hS,h63,k⟩:=h
 refine ⟨_,(aj (aA (i:=1) sc__law_items.nd rfl (Or.inl rfl) (cR (aa (aU cu hr (aa (pv 0) (aa ag ae))) ae)))
   (aj (lD PassesOwn.never rfl (lO rfl fj (aa (aB (Bm rfl) (by rfl) DG EW (aa (aB aX (by rfl) a9 cc (aa (aV aS (pv 0) ag (fun _ _ => rfl)) ae)) (aa ag ae))) ae)) (aP (i:=2) sc__law_items.nd rfl (Or.inl rfl)) (aj (aA (i:=3) sc__law_items.nd rfl (Or.inl rfl) (aU aN hr (aa (pv 0) (aa (ak bI ag (pv 2)) ae))))
   (aj (aA (i:=4) sc__law_items.nd rfl (Or.inl rfl) (aB ((Bn rfl)) (by rfl) DH EX (aa (oz rfl bk__law_items_0 (rN (pv 1)) (fun _ _ _ _ => (aP (i:=0) bk__law_items_0.nd rfl (Or.inl rfl))) (fun _ _ _ _ => (ak bI (aB cw (by rfl) a9 cc (aa (aV (yR K) (pv 0) ag (fun _ _ => rfl)) ae)) ag))) ae)))
   (aj (aA (i:=5) sc__law_items.nd rfl (Or.inl rfl) (ak bI (aB ((Bl rfl)) (by rfl) wC Cc (aa (oz rfl bk__law_items_1 (rN (pv 1)) (fun _ _ _ _ => (aP (i:=0) bk__law_items_1.nd rfl (Or.inl rfl))) (fun _ _ _ _ => (aV (yR K) (pv 0) ag (fun _ _ => rfl)))) ae)) (aB aX (by rfl) a9 cc (aa (pv 1) ae))))
   (ao (bc (PW.pt (nP (aF jb (pv 5) ag (aM _)) (nP (aF jb (pv 4) ag (aM _)) (oE (aF jb (ak ba (pv 3) ag) ag (aM _)))))) (ao (bC (eG PySem.F.plainAttrs_list PySem.F.slot_list_append PySem.F.type_list_append bh (pv 1) (aa (aU cu hr (aa (pv 0) (aa (ak bI ag (ak iZ ag (pv 2))) ae))) ae)))) (ao (bc (PW.pt (nP (aF jb (pv 5) ag (aM _)) (nP (aF wj (aB aX (by rfl) a9 cc (aa (pv 1) ae)) ag (aM _)) (oE (aF jb (ak ba (pv 3) ag) ag (aM _)))))) (aj (aA (i:=6) sc__law_items.nd rfl (Or.inl rfl) (tG PySem.F.plainAttrs_list PySem.F.slot_list_pop PySem.F.type_list_pop sS (pv 1)))
   (ao (bC (eG PySem.F.plainAttrs_list PySem.F.slot_list_append PySem.F.type_list_append bh (pv 1) (aa (aU eI hr (aa (tG PySem.F.plainAttrs_list PySem.F.slot_list_pop PySem.F.type_list_pop sS (pv 1)) (aa (pv 6) (aa (ak bB (pv 3) ag) ae)))) ae))))) (ao (bc (PW.pt (nP (aF jb (pv 5) ag (aM _)) (oE (aF jb (pv 4) ag (aM _))))) (ao (bC (eG PySem.F.plainAttrs_list PySem.F.slot_list_append PySem.F.type_list_append bh (pv 1) (aa (aU gm hr (aa (pv 0) (aa (tG PySem.F.plainAttrs_list PySem.F.slot_list_pop PySem.F.type_list_pop sS (pv 1)) (aa (ak bB (pv 3) ag) ae)))) ae)))) aH))))))))))
   (ao (aG (pv 1))))),?_⟩
 refine ⟨_,rfl,a,0,ns,rfl,hS,h63,⟨by decide,by decide⟩,fun l0 it0 H0 s0 I0 f0 fn0 fr0 d0 b0 => ?_⟩
 refine ⟨(by show 1 <= sizeLine; decide),fun L hL => ?_⟩
 have sL:=ah hL (HO.lst [V.ref l0])
 have oL : Off L l0 it0:=⟨az I0.li hL,az I0.hn hL,az I0.hr hL⟩
 have fL : H L = none:=s0.free hL
 have LI0 : LIa ns L [l0] [it0] (upd H0 L (HO.lst [V.ref l0])):=⟨af,.cons ⟨I0.same sL,oL⟩ .nil⟩
 have few0 : Few [it0]:=⟨by show szI it0 + 0 <= 992; unfold szI; omega,fun it h => by rw [List.mem_singleton.mp h,d0]; show 0 + 1 <= 20; decide⟩
 obtain ⟨H1,e1⟩ : ∃ H1,upd H0 L (HO.lst [V.ref l0]) = H1:=⟨_,rfl⟩
 have s01 : Same H H1:=by rw [<- e1]; exact s0.trans sL
 rw [e1] at LI0 ⊢
 try dsimp only [aE,aK,List.set]
 refine gE (t:=EA _ _ _) (fun σ' H' => ∃ (as : List Addr) (its : List It) (v2 v3 v4 v5 v6 : OV),σ' = [some (.ref a),some (.ref L),v2,v3,v4,v5,v6] /\ Same H H' /\ LIa ns L as its H' /\ its ≠ [] /\ Few its) ?_ (fun D' nxt => ?_)
 rotate_left
 ·obtain ⟨l1,t1,ts,g1,g2,g3,g4,g5⟩:=hS.same s01
  refine ⟨_,rfl,a,_,_,_,rfl,rfl,qL_ g1,rfl,t1,_,rfl,.inl g4,_,_,rfl,_,rfl,?_,?_,?_⟩
  ·split <;> omega
  ·rw [lm_]
   split <;> omega
  refine pI (fun i σ' H' => ∃ (as : List Addr) (its : List It) (v2 v3 v4 v5 v6 : OV),σ' = [some (.ref a),some (.ref L),v2,v3,v4,v5,v6] /\ Same H H' /\ LIa ns L as its H' /\ its ≠ [] /\ Few its) ⟨[l0],[it0],none,none,none,none,none,rfl,s01,LI0,by simp,few0⟩ ?_ ?_
  ·rintro i σ' H2 hi ⟨as,its,v2,v3,v4,v5,v6,rfl,s2,LI,ne,few⟩
   have hi' : i < 40:=by
    rw [lm_] at hi
    split at hi <;> omega
   have hS2:=(hS.same s2)
   have la : as.length = its.length:=Paired.length LI.2
   have tt:=few.tt
   have li20 : its.length <= 20:=by
    obtain ⟨ys,y,e⟩:=j9 ne
    have:=few.dd y (by rw [e]; simp)
    omega
   refine ⟨_,rfl,_,rfl,_,_,rfl,rfl,a,50 + (0 + (i : Int)),ns,rfl,hS2,h63,by omega,by omega,?_⟩
   try dsimp only [aE,aK,List.set]
   obtain ⟨n,en⟩ : ∃ n,mJ ns (50 + (0 + (i : Int))) = n:=⟨_,rfl⟩
   have n0:=dc ns (50 + (0 + (i : Int)))
   rw [en] at n0 ⊢
   refine gE (t:=uj _ _) (fun σ' H' => σ' = [some (.ref a),some (.ref L),some (.int (0 + (i : Int))),some (.int n),some (.int ((tot its : Nat) : Int)),v5,v6] /\ Same H2 H') ?_ (fun D1 nxt1 => ?_)
   rotate_left
   ·refine ⟨_,rfl,L,rfl,⟨_,qL_ LI.1⟩,?_⟩
    refine vY (K:=K) (xs:=as.map V.ref) (fun D j ys H' => Same H2 H' /\ ys = ((its.take j).map fun it => ((szI it : Nat) : Int)).map V.int) (fun D hD => ⟨ah hD _,rfl⟩) (fun D j ys H' _ ⟨e,_⟩ => qL_ (e _ _ LI.1)) ?_ ?_
    ·rintro D j y ys H3 Q' hD hj hy ⟨s3,rfl⟩ k'
     obtain ⟨b,it,rfl,hb,hit⟩:=xV LI.2 hj
     have ib:=hb.1.same s3
     have sz:=Bd (mq_ hit)
     have jl:=(gi_ hit).1
     unfold szI at sz
     refine ⟨_,rfl,b,_,_,_,rfl,rfl,qL_ ib.li,rfl,_,rfl,Nat.le_trans (show (au it.st).length <= 992 by omega) (by decide),_,_,rfl,rfl,k' _ _ hy (cH (by rw [lm_,lm_,List.length_take]; omega)) ⟨aW s3 hD,?_⟩⟩
     rw [List.take_add_one,hit,List.map_append,List.map_append]
     rfl
    ·rintro D ys H3 hD hy ⟨s3,rfl⟩
     rw [lm_,la,List.take_length] at hy
     refine ⟨D,_,rfl,qL_ hy,nxt1 _ _ ⟨?_,s3⟩⟩
     rw [Ey]
     rfl
   rintro σ' H3 ⟨rfl,s3⟩
   have LI3:=LI.same s3
   refine gE (t:=uj _ _) (fun σ' H' => ∃ M : Nat,σ' = [some (.ref a),some (.ref L),some (.int (0 + (i : Int))),some (.int n),some (.int ((tot its : Nat) : Int)),some (.int ((M : Int) + (its.length : Int))),v6] /\ Same H3 H' /\ ∀ it ∈ its,aQ it.st <= M) ?_ (fun D1 nxt1 => ?_)
   rotate_left
   ·refine ⟨_,rfl,L,rfl,⟨_,qL_ LI3.1⟩,?_⟩
    refine vY (K:=K) (xs:=as.map V.ref) (fun D j ys H' => Same H3 H' /\ ys = ((its.take j).map fun it => ((aQ it.st : Nat) : Int)).map V.int) (fun D hD => ⟨ah hD _,rfl⟩) (fun D j ys H' _ ⟨e,_⟩ => qL_ (e _ _ LI3.1)) ?_ ?_
    ·rintro D j y ys H4 Q' hD hj hy ⟨s4,rfl⟩ k'
     obtain ⟨b,it,rfl,hb,hit⟩:=xV LI3.2 hj
     have ib:=hb.1.same s4
     have jl:=(gi_ hit).1
     refine ⟨_,rfl,b,_,_,_,rfl,rfl,qL_ ib.li,rfl,k' _ _ hy (cH (by rw [lm_,lm_,List.length_take]; omega)) ⟨aW s4 hD,?_⟩⟩
     rw [List.take_add_one,hit,List.map_append,List.map_append]
     rfl
    ·rintro D ys H4 hD hy ⟨s4,rfl⟩
     rw [lm_,la,List.take_length] at hy
     refine ⟨D,_,rfl,qL_ hy,?_,fun M hM hle => ?_⟩
     ·intro z
      exact ne (List.map_eq_nil_iff.mp z)
     obtain ⟨it,hit,eM⟩:=List.mem_map.mp hM
     refine ⟨_,rfl,L,_,rfl,.inl (qL_ (s4 _ _ LI3.1)),_,_,rfl,rfl,nxt1 _ _ ⟨aQ it.st,?_,s4,fun jt hj => ?_⟩⟩
     ·rw [lm_,la,<- eM]
      rfl
     ·have:=hle _ (List.mem_map.mpr ⟨jt,hj,rfl⟩)
      omega
   rintro σ' H4 ⟨M,rfl,s4,hM⟩
   have LI4:=LI3.same s4
   have s04:=s2.trans (s3.trans s4)
   have hS4:=(hS.same s04)
   have sm : ∀ m : Nat,m <= 100 -> m <= sizeLine:=fun m h => Nat.le_trans h (by decide)
   refine FL (b1:=decide ((M : Int) + (its.length : Int) < 20)) (b2:=decide (((tot its : Nat) : Int) < 780)) (b3:=decide (n % 8 < 2)) (fun Q q => ⟨_,rfl,_,_,rfl,rfl,_,rfl,q⟩) (fun Q q => ⟨_,rfl,_,_,rfl,rfl,_,rfl,q⟩) (fun Q q => ⟨_,rfl,_,_,rfl,rfl,(by show (0 : Int) < 8; decide),_,_,rfl,rfl,_,rfl,q⟩) (yQ (fun c => ?_) (fun _ => ?_))
   ·simp only [Bool.and_eq_true,decide_eq_true_eq] at c
    obtain ⟨c1,c2,_⟩:=c
    refine ⟨_,rfl,.inl ⟨rfl,_,qL_ LI4.1⟩,_,rfl,_,rfl,_,_,rfl,rfl,.inl ⟨by decide,by decide⟩,_,_,rfl,rfl,a,100 + 19 * (0 + (i : Int)),ns,rfl,hS4,h63,⟨by omega,by omega⟩,fun l it H5 s5 I5 f5 fn5 fr5 d5 b5 => ?_⟩
    have LI5:=LI4.same s5
    have o5 : Off L l it:=xR LI4.1 f5 fn5 fr5
    refine ⟨L,_,_,rfl,rfl,LI5.1,sm _ (by rw [lm_]; omega),?_⟩
    refine ⟨as ++ [l],its ++ [it],_,_,_,_,_,rfl,aW (s04.trans s5) fL,LI5.push I5 o5,by simp,⟨?_,fun jt hj => ?_⟩⟩
    ·rw [eD]
     unfold szI
     omega
    ·rw [List.length_append,List.length_singleton]
     rcases ma_.mp hj with z | z
     ·have:=hM jt z
      omega
     ·rw [List.mem_singleton.mp z,d5]
      omega
   refine FL (b1:=decide ((M : Int) + (its.length : Int) < 20)) (b2:=decide ((1 : Int) < ((as.map V.ref).length : Int))) (b3:=decide (n % 8 < 5)) (fun Q q => ⟨_,rfl,_,_,rfl,rfl,_,rfl,q⟩) (fun Q q => ⟨_,rfl,L,_,rfl,.inl (qL_ LI4.1),_,_,rfl,rfl,_,rfl,q⟩) (fun Q q => ⟨_,rfl,_,_,rfl,rfl,(by show (0 : Int) < 8; decide),_,_,rfl,rfl,_,rfl,q⟩) (yQ (fun c => ?_) (fun _ => ?_))
   ·simp only [Bool.and_eq_true,decide_eq_true_eq] at c
    obtain ⟨c1,c2,_⟩:=c
    rw [lm_] at c2
    obtain ⟨its1,jt,e1⟩:=j9 ne
    subst e1
    have ne1 : its1 ≠ []:=fun z => by rw [z] at la; simp at la; omega
    obtain ⟨its2,it,e2⟩:=j9 ne1
    subst e2
    obtain ⟨as1,c',ea1,LI5,J5,oJ⟩:=LI4.pop
    subst ea1
    refine ⟨_,rfl,.inl ⟨rfl,_,qL_ LI4.1⟩,L,_,_,rfl,rfl,LI4.1,pop_at.1,?_⟩
    rw [pop_at.2]
    try dsimp only [aE,aK,List.set]
    obtain ⟨H5,e5⟩ : ∃ H5,upd H4 L (HO.lst (as1.map V.ref)) = H5:=⟨_,rfl⟩
    have s05 : Same H H5:=by rw [<- e5]; exact aW s04 fL
    rw [e5] at LI5 J5 ⊢
    obtain ⟨as2,b',ea2,LI6,I6,oI⟩:=LI5.pop
    subst ea2
    have J6:=J5.off (ys:=as2.map V.ref) oJ LI5.1
    rw [eD,eD] at tt
    unfold szI at tt
    refine ⟨_,rfl,.inl ⟨rfl,_,qL_ LI5.1⟩,_,rfl,.inl ⟨rfl,_,qL_ LI5.1⟩,L,_,_,rfl,rfl,LI5.1,pop_at.1,?_⟩
    rw [pop_at.2]
    obtain ⟨H6,e6⟩ : ∃ H6,upd H5 L (HO.lst (as2.map V.ref)) = H6:=⟨_,rfl⟩
    have s06 : Same H H6:=by rw [<- e6]; exact aW s05 fL
    rw [e6] at LI6 I6 J6 ⊢
    refine ⟨_,rfl,_,rfl,_,_,rfl,rfl,⟨by decide,by decide⟩,b',c',n / 8,ns,it,jt,rfl,I6,J6,by omega,by omega,fun l it' H7 s7 I7 f7 fn7 fr7 d7 b7 => ?_⟩
    have LI7:=LI6.same s7
    have o7 : Off L l it' := xR LI6.1 f7 fn7 fr7
    have ll : (its2 ++ [it] ++ [jt]).length = its2.length + 2:=by simp
    rw [ll] at c1 li20
    have la2 : as2.length = its2.length:=Paired.length LI6.2
    refine ⟨L,_,_,rfl,rfl,LI7.1,sm _ (by rw [lm_]; omega),?_⟩
    refine ⟨as2 ++ [l],its2 ++ [it'],_,_,_,_,_,rfl,aW (s06.trans s7) fL,LI7.push I7 o7,by simp,⟨?_,fun kt hk => ?_⟩⟩
    ·rw [eD]
     unfold szI
     omega
    ·rw [List.length_append,List.length_singleton]
     rcases ma_.mp hk with z | z
     ·have:=hM kt (by simp [z])
      omega
     ·rw [List.mem_singleton.mp z,d7]
      have h1:=hM it (by simp)
      have h2:=hM jt (by simp)
      omega
   refine FK (b1:=decide ((M : Int) + (its.length : Int) < 20)) (b2:=decide (((tot its : Nat) : Int) < 980)) (fun Q q => ⟨_,rfl,_,_,rfl,rfl,_,rfl,q⟩) (fun Q q => ⟨_,rfl,_,_,rfl,rfl,_,rfl,q⟩) (yQ (fun c => ?_) (fun _ => ?_))
   ·simp only [Bool.and_eq_true,decide_eq_true_eq] at c
    obtain ⟨c1,c2⟩:=c
    obtain ⟨its1,it,e1⟩:=j9 ne
    subst e1
    obtain ⟨as1,b',ea1,LI5,I5,oI⟩:=LI4.pop
    subst ea1
    rw [eD] at tt c2
    unfold szI at tt c2
    refine ⟨_,rfl,.inl ⟨rfl,_,qL_ LI4.1⟩,_,rfl,_,rfl,.inl ⟨rfl,_,qL_ LI4.1⟩,L,_,_,rfl,rfl,LI4.1,pop_at.1,?_⟩
    rw [pop_at.2]
    obtain ⟨H5,e5⟩ : ∃ H5,upd H4 L (HO.lst (as1.map V.ref)) = H5:=⟨_,rfl⟩
    have s05 : Same H H5:=by rw [<- e5]; exact aW s04 fL
    rw [e5] at LI5 I5 ⊢
    refine ⟨_,rfl,_,_,rfl,rfl,⟨by decide,by decide⟩,a,b',n / 8,ns,it,rfl,(hS.same s05),h63,Int.ediv_nonneg n0.1 (by decide),I5,by omega,fun l it' H7 s7 I7 f7 fn7 fr7 d7 b7 => ?_⟩
    have LI7:=LI5.same s7
    have o7 : Off L l it' := by
     refine ⟨fun z => ?_,fun z => ?_,fun z => ?_⟩
     ·rw [z,LI5.1] at f7; cases f7
     ·rcases fn7 with q | q
      ·exact oI.2.1 (q ▸ z)
      ·rw [z,LI5.1] at q; cases q
     ·exact oI.2.2 (fr7 ▸ z)
    have ll : (its1 ++ [it]).length = its1.length + 1:=by simp
    rw [ll] at c1 li20
    have la1 : as1.length = its1.length:=Paired.length LI5.2
    refine ⟨L,_,_,rfl,rfl,LI7.1,sm _ (by rw [lm_]; omega),?_⟩
    refine ⟨as1 ++ [l],its1 ++ [it'],_,_,_,_,_,rfl,aW (s05.trans s7) fL,LI7.push I7 o7,by simp,⟨?_,fun kt hk => ?_⟩⟩
    ·rw [eD]
     unfold szI
     omega
    ·rw [List.length_append,List.length_singleton]
     rcases ma_.mp hk with z | z
     ·have:=hM kt (by simp [z])
      omega
     ·rw [List.mem_singleton.mp z,d7]
      have h1:=hM it (by simp)
      omega
   ·exact ⟨as,its,_,_,_,_,_,rfl,s04,LI4,ne,few⟩
  ·rintro σ' H2 ⟨as,its,v2,v3,v4,v5,v6,rfl,s2,LI,ne,few⟩
   exact nxt _ _ ⟨as,its,v2,v3,v4,v5,v6,rfl,s2,LI,ne,few⟩
 rintro σ' H2 ⟨as,its,v2,v3,v4,v5,v6,rfl,s2,LI,ne,few⟩
 exact ⟨_,rfl,k L as its H2 s2 fL LI ne few⟩
end
def yn (K : PySem.W.Frag) : Sp:=fun vs H Q _ => ∃ (a : Addr) (ns : LI),vs = [.ref a] /\ SprAt K H a ns /\ 930 <= ns.length /\
 ∀ (l : Addr) (it : It) (H' : Hp),Same H H' -> ItAt ns H' l it -> aQ it.st <= 20 -> (au it.st).length <= 1000 -> Q (.ref l) H'
section
variable {P : Program} {w : World} {K : PySem.W.Frag} {mg : Str -> Option Value} {base : Heap} {f : Addr} {fd : FuncData} {dV : Value}
theorem sc__law_built : FnScope ["_law_spread_here","_law_items_here","_law_other","_law_statement","_law_line","_law_deep","_law_names","_law_rows"] ["_law_spread_here"] (ai cX):=⟨rfl,rfl,rfl,by decide +kernel,rfl,by decide +kernel,by decide +kernel⟩
theorem CS (F : FunD K "_law_built" "_law_built" cX dV f fd) (aN : DefOk P w K mg base "_law_draw" 1 ["_law_spread_here","_law_k"] [] (ij K)) (jk : DefOk P w K mg base "_law_items" 5 ["_law_spread_here"] [] (yo K)) (eI : DefOk P w K mg base "_law_two" 1 ["_law_one","_law_other","_law_number"] [] A8) (a9 : mg "len" = none) : FnOk P w K mg base CX0 6 f fd ["_law_spread_here"] (yn K):=by
 refine F.ok sc__law_built (fun vs H Q E h => ?_) (fun cdv A outer s H vs Q E hr h => ?_)
 ·obtain ⟨a,ns,rfl,_⟩:=h
  rfl
 obtain ⟨a,ns,rfl,hS,h63,k⟩:=h
 refine mS (ay (PSW.mk (aA (i:=1) sc__law_built.nd rfl (Or.inl rfl) (aU jk hr (aa (pv 0) ae))))
   (ay (PSW.mk (lF PassesOwn.never (aF wj (aB aX (by rfl) a9 cc (aa (pv 1) ae)) ag (aM _)) (aj (aA (i:=2) sc__law_built.nd rfl (Or.inl rfl) (tG PySem.F.plainAttrs_list PySem.F.slot_list_pop PySem.F.type_list_pop sS (pv 1)))
   (ao (bC (eG PySem.F.plainAttrs_list PySem.F.slot_list_append PySem.F.type_list_append bh (pv 1) (aa (aU eI hr (aa (tG PySem.F.plainAttrs_list PySem.F.slot_list_pop PySem.F.type_list_pop sS (pv 1)) (aa (pv 2) (aa (aB aX (by rfl) a9 cc (aa (pv 1) ae)) ae)))) ae)))))))
   (ay (PSW.mk (tP (aV aS (pv 1) ag (fun _ _ => rfl)) (xX rfl (aZ (aP (i:=3) sc__law_built.nd rfl (Or.inl rfl)) (aZ (aP (i:=4) sc__law_built.nd rfl (Or.inl rfl)) (aZ (aP (i:=5) sc__law_built.nd rfl (Or.inl rfl)) (aZ (aP (i:=6) sc__law_built.nd rfl (Or.inl rfl)) (aZ (aP (i:=7) sc__law_built.nd rfl (Or.inl rfl)) j6))))))))
   (ay (PSW.mk (bc (aF cQ (ak ba (aU aN hr (aa (pv 0) (aa ag ae))) ag) ag (aM _)) (ao (lF PassesOwn.never (PW.pt (nP (aF jb (pv 5) ag (aM _)) (oE (aF jb (aB cw (by rfl) a9 cc (aa (pv 4) ae)) ag (aM _))))) (aj (aA (i:=3) sc__law_built.nd rfl (Or.inl rfl) (a8 (aa ar (aa (pv 3) ae))))
   (aj (aA (i:=4) sc__law_built.nd rfl (Or.inl rfl) (ak aq ar (pv 4)))
   (ao (aA (i:=5) sc__law_built.nd rfl (Or.inl rfl) (ak bI (pv 5) ag))))))) aH))
   (c8 (qz (kr (av (PEW.mk (pv 3)) (av (PEW.mk (pv 4)) (av (PEW.mk (pv 5)) (av (PEW.mk (pv 6)) (av (PEW.mk (pv 7)) eE)))))))))))) ?_
 refine ⟨_,rfl,a,ns,rfl,hS,h63,fun L as0 its0 H1 s1 fL LI0 ne0 few0 => ?_⟩
 try dsimp only [aE,aK,List.set]
 have sm : ∀ m : Nat,m <= 100 -> m <= sizeLine:=fun m h => Nat.le_trans h (by decide)
 refine gE (t:=qj _ _) (fun σ' H' => ∃ (as : List Addr) (it : It) (v2 : OV),σ' = [some (.ref a),some (.ref L),v2,none,none,none,none,none] /\ Same H H' /\ LIa ns L as [it] H' /\ Few [it]) ?_ (fun D' nxt => ?_)
 rotate_left
 ·refine oW (fun mm σ' H' => ∃ (as : List Addr) (its : List It) (v2 : OV),mm = its.length /\ σ' = [some (.ref a),some (.ref L),v2,none,none,none,none,none] /\ Same H H' /\ LIa ns L as its H' /\ its ≠ [] /\ Few its) ⟨_,as0,its0,none,rfl,rfl,s1,LI0,ne0,few0⟩ ?_
  rintro mm σ' H4 ⟨as,its,v2,rfl,rfl,s04,LI4,ne,few⟩
  have la : as.length = its.length:=Paired.length LI4.2
  have tt:=few.tt
  refine ⟨_,rfl,L,_,rfl,.inl (qL_ LI4.1),_,_,rfl,rfl,_,rfl,yQ (fun c => ?_) (fun c => ?_)⟩
  ·have c2:=of_decide_eq_true c
   rw [lm_] at c2
   refine ⟨fun σ' H' => ∃ m',m' < its.length /\ ∃ (as : List Addr) (its : List It) (v2 : OV),m' = its.length /\ σ' = [some (.ref a),some (.ref L),v2,none,none,none,none,none] /\ Same H H' /\ LIa ns L as its H' /\ its ≠ [] /\ Few its,fun _ _ h => h,?_⟩
   obtain ⟨its1,jt,e1⟩:=j9 ne
   subst e1
   have ne1 : its1 ≠ []:=fun z => by rw [z] at la; simp at la; omega
   obtain ⟨its2,it,e2⟩:=j9 ne1
   subst e2
   obtain ⟨as1,c',ea1,LI5,J5,oJ⟩:=LI4.pop
   subst ea1
   refine ⟨_,rfl,.inl ⟨rfl,_,qL_ LI4.1⟩,L,_,_,rfl,rfl,LI4.1,pop_at.1,?_⟩
   rw [pop_at.2]
   try dsimp only [aE,aK,List.set]
   obtain ⟨H5,e5⟩ : ∃ H5,upd H4 L (HO.lst (as1.map V.ref)) = H5:=⟨_,rfl⟩
   have s05 : Same H H5:=by rw [<- e5]; exact aW s04 fL
   rw [e5] at LI5 J5 ⊢
   obtain ⟨as2,b',ea2,LI6,I6,oI⟩:=LI5.pop
   subst ea2
   have J6:=J5.off (ys:=as2.map V.ref) oJ LI5.1
   rw [eD,eD] at tt
   unfold szI at tt
   refine ⟨_,rfl,.inl ⟨rfl,_,qL_ LI5.1⟩,_,rfl,.inl ⟨rfl,_,qL_ LI5.1⟩,L,_,_,rfl,rfl,LI5.1,pop_at.1,?_⟩
   rw [pop_at.2]
   obtain ⟨H6,e6⟩ : ∃ H6,upd H5 L (HO.lst (as2.map V.ref)) = H6:=⟨_,rfl⟩
   have s06 : Same H H6:=by rw [<- e6]; exact aW s05 fL
   rw [e6] at LI6 I6 J6 ⊢
   refine ⟨_,rfl,_,rfl,L,_,rfl,.inl (qL_ LI6.1),b',c',_,ns,it,jt,rfl,I6,J6,by omega,by omega,fun l it' H7 s7 I7 f7 fn7 fr7 d7 b7 => ?_⟩
   have LI7:=LI6.same s7
   have o7 : Off L l it' := xR LI6.1 f7 fn7 fr7
   have ll : (its2 ++ [it] ++ [jt]).length = its2.length + 2:=by simp
   have dd:=few.dd
   rw [ll] at dd
   have la2 : as2.length = its2.length:=Paired.length LI6.2
   have h1:=dd it (by simp)
   have h2:=dd jt (by simp)
   refine ⟨L,_,_,rfl,rfl,LI7.1,sm _ (by rw [lm_]; omega),?_⟩
   refine ⟨(its2 ++ [it']).length,by simp,as2 ++ [l],its2 ++ [it'],_,rfl,rfl,aW (s06.trans s7) fL,LI7.push I7 o7,by simp,⟨?_,fun kt hk => ?_⟩⟩
   ·rw [eD]
    unfold szI
    omega
   ·rw [List.length_append,List.length_singleton]
    rcases ma_.mp hk with z | z
    ·have:=dd kt (by simp [z])
     omega
    ·rw [List.mem_singleton.mp z,d7]
     omega
  ·have c2 : ¬ (1 : Int) < ((as.map V.ref).length : Int):=fun z => c (decide_eq_true z)
   rw [lm_] at c2
   obtain ⟨its1,it,e1⟩:=j9 ne
   have e0 : its1 = []:=by
    cases its1 with
    | nil => rfl
    | cons x r => rw [e1] at la; simp at la; omega
   subst e0 e1
   exact nxt _ _ ⟨as,it,v2,rfl,s04,LI4,few⟩
 rintro σ' H2 ⟨as,it,v2,rfl,s2,LI,few⟩
 obtain ⟨b,I,ea⟩ : ∃ b,ItAt ns H2 b it /\ as = [b]:=by
  cases LI.2 with
  | cons q t =>
   cases t
   exact ⟨_,q.1,rfl⟩
 subst ea
 obtain ⟨st0,v0,nl,rl,names,rows⟩:=it
 have tt : (au st0).length + 7 + 0 <= 992:=few.tt
 have dd : aQ st0 + 1 <= 20:=few.dd _ List.mem_cons_self
 refine ⟨_,rfl,L,_,_,_,rfl,rfl,qL_ LI.1,rfl,b,_,rfl,qL_ I.li,rfl,_,_,rfl,_,_,rfl,_,_,rfl,_,_,rfl,_,_,rfl,rfl,?_⟩
 try dsimp only [aE,aK,List.set]
 have hS2:=(hS.same s2)
 refine gE (t:=Dq _ _ _) (fun σ' H' => ∃ (v : V) (st : Stt),σ' = [some (.ref a),some (.ref L),v2,some v,some (.str (au st)),some (.int (aQ st : Int)),some (.ref nl),some (.ref rl)] /\ Same H2 H' /\ StAt H' v st /\ (Wf st /\ Wr st) /\ gK st = gK st0 /\ gU st = gU st0 /\ aQ st <= 20 /\ (au st).length <= 1000) ?_ (fun D' nxt => ?_)
 rotate_left
 ·refine ⟨_,rfl,a,99,ns,rfl,hS2,h63,by decide,by decide,_,_,rfl,rfl,(by show (0 : Int) < 4; decide),rfl,_,rfl,xj (fun c => ?_) (fun c => ?_)⟩
  ·refine oW (fun mm σ' H' => ∃ (v : V) (st : Stt),mm = 20 - aQ st /\ σ' = [some (.ref a),some (.ref L),v2,some v,some (.str (au st)),some (.int (aQ st : Int)),some (.ref nl),some (.ref rl)] /\ Same H2 H' /\ StAt H' v st /\ (Wf st /\ Wr st) /\ gK st = gK st0 /\ gU st = gU st0 /\ aQ st <= 20 /\ (au st).length <= 1000) ⟨_,v0,st0,rfl,rfl,Same.refl _,I.sv,⟨I.wf,I.wr⟩,rfl,rfl,by omega,by omega⟩ ?_
   rintro mm σ' H3 ⟨v,st,rfl,rfl,s3,hst,wf,ef,er,d20,l20⟩
   refine FK (b1:=decide ((aQ st : Int) < 20)) (b2:=decide (((au st).length : Int) < 997)) (fun Q q => ⟨_,rfl,_,_,rfl,rfl,_,rfl,q⟩) (fun Q q => ⟨_,rfl,_,rfl,Nat.le_trans l20 (by decide),_,_,rfl,rfl,_,rfl,q⟩) (yQ (fun c => ?_) (fun _ => ?_))
   ·simp only [Bool.and_eq_true,decide_eq_true_eq] at c
    refine ⟨fun σ' H' => ∃ m',m' < 20 - aQ st /\ ∃ (v : V) (st : Stt),m' = 20 - aQ st /\ σ' = [some (.ref a),some (.ref L),v2,some v,some (.str (au st)),some (.int (aQ st : Int)),some (.ref nl),some (.ref rl)] /\ Same H2 H' /\ StAt H' v st /\ (Wf st /\ Wr st) /\ gK st = gK st0 /\ gU st = gU st0 /\ aQ st <= 20 /\ (au st).length <= 1000,fun _ _ h => h,?_⟩
    refine ⟨_,rfl,(by show 2 <= sizeLine; decide),fun T hT => ?_⟩
    have s4:=ah hT (HO.tup [V.str (Str.ofString "not"),v])
    have l4 : (Str.ofString "not ").length = 4:=by decide
    try dsimp only [aE,aK,List.set]
    refine ⟨_,rfl,_,_,rfl,rfl,Nat.le_trans (show _ + (au st).length <= 3000 by omega) (by decide),?_⟩
    try dsimp only [aE,aK,List.set]
    refine ⟨_,rfl,_,_,rfl,rfl,20 - aQ (.no st),?_,.ref T,.no st,rfl,?_,s3.trans s4,⟨T,v,rfl,af,StAt.same (tkS s4) hst⟩,wf,ef,er,?_,?_⟩
    ·show 20 - (1 + aQ st) < _
     omega
    ·show [some (V.ref a),some (V.ref L),v2,some (V.ref T),some (V.str (Str.ofString "not " ++ au st)),some (V.int ((aQ st : Int) + 1)),some (V.ref nl),some (V.ref rl)] = _
     have : (aQ st : Int) + 1 = ((1 + aQ st : Nat) : Int):=by omega
     rw [this]
     rfl
    ·show 1 + aQ st <= 20
     omega
    ·show (("not " : Str) ++ au st).length <= 1000
     rw [len_app]
     have : (("not " : Str)).length = 4:=by decide
     omega
   ·exact nxt _ _ ⟨v,st,rfl,s3,hst,wf,ef,er,d20,l20⟩
  ·exact nxt _ _ ⟨v0,st0,rfl,Same.refl _,I.sv,⟨I.wf,I.wr⟩,rfl,rfl,by omega,by omega⟩
 rintro σ' H3 ⟨v,st,rfl,s3,hst,wf,ef,er,d20,l20⟩
 refine ⟨_,rfl,_,rfl,_,rfl,_,rfl,_,rfl,(by show 5 <= sizeLine; decide),fun l hl => ?_⟩
 have s4:=ah hl (HO.lst [v,V.str (au st),V.int (aQ st : Int),V.ref nl,V.ref rl])
 have s34:=s3.trans s4
 exact k l ⟨st,v,nl,rl,names,rows⟩ _ (s2.trans s34) ⟨af,StAt.same (tkS s4) hst,s34 _ _ I.hn,s34 _ _ I.hr,wf.1,by rw [show gK (It.mk st v nl rl names rows).st = gK st0 from ef]; exact I.nm,by rw [show gU (It.mk st v nl rl names rows).st = gU st0 from er]; exact I.rs,I.ni,I.ri,wf.2⟩ d20 l20
end
def Alike : Nat -> Hp -> V -> V -> Prop
 | 0,_,u,v => (∃ x,u = .str x /\ v = .str x) \/ ∃ n,u = .int n /\ v = .int n
 | d + 1,H,u,v => ((∃ x,u = .str x /\ v = .str x) \/ ∃ n,u = .int n /\ v = .int n) \/ ∃ (a b : Addr) (us vs : List V),u = .ref a /\ v = .ref b /\ H a = some (.tup us) /\ H b = some (.tup vs) /\ Paired (Alike d H) us vs
theorem Alike.sc {d : Nat} {H : Hp} {u v : V} (h : (∃ x,u = .str x /\ v = .str x) \/ ∃ n,u = .int n /\ v = .int n) : Alike d H u v:=by
 cases d with
 | zero => exact h
 | succ d => exact .inl h
theorem Alike.up : ∀ {d : Nat} {H : Hp} {u v : V},Alike d H u v -> Alike (d + 1) H u v
 | 0,_,_,_,h => .inl h
 | d + 1,_,_,_,.inl h => .inl h
 | d + 1,_,_,_,.inr ⟨a,b,us,vs,e1,e2,h1,h2,p⟩ => .inr ⟨a,b,us,vs,e1,e2,h1,h2,Paired.mapP p fun _ _ q => Alike.up q⟩
theorem Alike.le {d e : Nat} {H : Hp} {u v : V} (h : Alike d H u v) (l : d <= e) : Alike e H u v:=by
 obtain ⟨k,rfl⟩:=Nat.exists_eq_add_of_le l
 induction k with
 | zero => exact h
 | succ k ih => exact (ih (by omega)).up
theorem Alike.same : ∀ {d : Nat} {H H' : Hp} {u v : V},Alike d H u v -> Same H H' -> Alike d H' u v
 | 0,_,_,_,_,h,_ => h
 | d + 1,_,_,_,_,.inl h,_ => .inl h
 | d + 1,_,_,_,_,.inr ⟨a,b,us,vs,e1,e2,h1,h2,p⟩,s => .inr ⟨a,b,us,vs,e1,e2,s _ _ h1,s _ _ h2,Paired.mapP p fun _ _ q => Alike.same q s⟩
theorem qx {H : Hp} : ∀ {ps : List Prt} {as bs : List Addr},Paired (ir H) as ps -> Paired (ir H) bs ps -> Paired (Alike 1 H) (as.map V.ref) (bs.map V.ref)
 | [],_,_,.nil,.nil => .nil
 | p :: ps,_,_,.cons (a:=a) h1 t1,.cons (a:=b) h2 t2 => .cons (.inr ⟨a,b,_,_,rfl,rfl,h1,h2,.cons (.inr ⟨_,rfl,rfl⟩) (.cons (.inl ⟨_,rfl,rfl⟩) .nil)⟩) (qx t1 t2)
theorem jg {H : Hp} {u v : V} {ps : List Prt} (h : SumAt H u ps) (h' : SumAt H v ps) : Alike 2 H u v:=by
 obtain ⟨a,as,e,h1,h2⟩:=h
 obtain ⟨b,bs,e',h1',h2'⟩:=h'
 exact .inr ⟨a,b,_,_,e,e',h1,h1',qx h2 h2'⟩
theorem jf {H : Hp} : ∀ {st : Stt} {u v : V},StAt H u st -> StAt H v st -> Alike (aQ st + 3) H u v
 | .cmp k a b,_,_,⟨x,va,vb,e,h,h1,h2⟩,⟨x',va',vb',e',h',h1',h2'⟩ => .inr ⟨x,x',_,_,e,e',h,h',.cons (Alike.sc (.inl ⟨_,rfl,rfl⟩)) (.cons ((jg h1 h1').le (by omega)) (.cons ((jg h2 h2').le (by omega)) .nil))⟩
 | .sg r a n,_,_,⟨x,va,e,h,h1⟩,⟨x',va',e',h',h1'⟩ => .inr ⟨x,x',_,_,e,e',h,h',.cons (Alike.sc (.inl ⟨_,rfl,rfl⟩)) (.cons (Alike.sc (.inl ⟨_,rfl,rfl⟩)) (.cons ((jg h1 h1').le (by omega)) (.cons (Alike.sc (.inr ⟨_,rfl,rfl⟩)) .nil)))⟩
 | .lk r a q b,_,_,⟨x,va,vb,e,h,h1,h2⟩,⟨x',va',vb',e',h',h1',h2'⟩ => .inr ⟨x,x',_,_,e,e',h,h',.cons (Alike.sc (.inl ⟨_,rfl,rfl⟩)) (.cons (Alike.sc (.inl ⟨_,rfl,rfl⟩)) (.cons ((jg h1 h1').le (by omega)) (.cons (Alike.sc (.inl ⟨_,rfl,rfl⟩)) (.cons ((jg h2 h2').le (by omega)) .nil))))⟩
 | .no t,_,_,⟨x,vs,e,h,h1⟩,⟨x',vs',e',h',h1'⟩ => .inr ⟨x,x',_,_,e,e',h,h',.cons (Alike.sc (.inl ⟨_,rfl,rfl⟩)) (.cons ((jf h1 h1').le (show aQ t + 3 <= 1 + aQ t + 2 by omega)) .nil)⟩
 | .jn k t u,_,_,⟨x,vs,vt,e,h,h1,h2⟩,⟨x',vs',vt',e',h',h1',h2'⟩ => .inr ⟨x,x',_,_,e,e',h,h',.cons (Alike.sc (.inl ⟨_,rfl,rfl⟩)) (.cons ((jf h1 h1').le (show aQ t + 3 <= 1 + max (aQ t) (aQ u) + 2 by omega)) (.cons ((jf h2 h2').le (show aQ u + 3 <= 1 + max (aQ t) (aQ u) + 2 by omega)) .nil))⟩
 | .ch k n t,_,_,⟨x,vs,e,h,h1⟩,⟨x',vs',e',h',h1'⟩ => .inr ⟨x,x',_,_,e,e',h,h',.cons (Alike.sc (.inl ⟨_,rfl,rfl⟩)) (.cons (Alike.sc (.inl ⟨_,rfl,rfl⟩)) (.cons ((jf h1 h1').le (show aQ t + 3 <= 1 + aQ t + 2 by omega)) .nil))⟩
def ud (d : Nat) : Sp:=fun vs H Q _ => ∃ (u v : V),vs = [u,v] /\ Alike d H u v /\ ∀ H',Same H H' -> Q (.bl true) H'
def Dk (d : Nat) : Sp:=fun vs H Q _ => ∃ (u v : V) (e : Nat),vs = [u,v] /\ e < d /\ Alike e H u v /\ ∀ H',Same H H' -> Q (.bl true) H'
theorem k7 (K : PySem.W.Frag) : PySem.W.kitOne K (.type "int") (.type "int") = some true:=by with_unfolding_all rfl
theorem om (K : PySem.W.Frag) : PySem.W.kitOne K (.type "int") (.type "bool") = some false:=by with_unfolding_all rfl
theorem yW (K : PySem.W.Frag) : PySem.W.kitOne K (.type "int") (.type "str") = some false:=by with_unfolding_all rfl
theorem vc (K : PySem.W.Frag) : PySem.W.kitOne K (.type "tuple") (.type "str") = some false:=by with_unfolding_all rfl
theorem u9 (K : PySem.W.Frag) : PySem.W.kitOne K (.type "tuple") (.type "int") = some false:=by with_unfolding_all rfl
theorem zi {R : V -> V -> Prop} : ∀ {us vs : List V} {i : Nat} {x y : V},Paired R us vs -> us[i]? = some x -> vs[i]? = some y -> R x y
 | _,_,_,_,_,.nil,h,_ => by simp at h
 | _,_,0,_,_,.cons r _,h,h' => Option.some.inj h ▸ Option.some.inj h' ▸ r
 | _,_,i + 1,_,_,.cons _ t,h,h' => zi (i:=i) t (by simpa using h) (by simpa using h')
section
variable {P : Program} {w : World} {K : PySem.W.Frag} {mg : Str -> Option Value} {base : Heap} {f : Addr} {fd : FuncData} {dV : Value}
theorem sc__law_same : FnScope ["_law_found","_law_due","_law_one","_law_other"] ["_law_found","_law_due"] (ai cS):=⟨rfl,rfl,rfl,by decide +kernel,rfl,by decide +kernel,by decide +kernel⟩
theorem AZ {d : Nat} (F : FunD K "_law_same" "_law_same" cS dV f fd) (cn : DefOk P w K mg base "_law_same" d ["_law_found","_law_due"] [] (Dk d)) (aL : mg "isinstance" = none) (bG : mg "str" = none) (fS : mg "int" = none) (nW : mg "bool" = none) (c6 : mg "tuple" = none) (a9 : mg "len" = none) (uv : mg "zip" = none) : FnOk P w K mg base CX0 (d + 1) f fd ["_law_found","_law_due"] (ud d):=by
 refine F.ok sc__law_same (fun vs H Q E h => ?_) (fun cdv A outer s H vs Q E hr h => ?_)
 ·obtain ⟨u,v,rfl,_⟩:=h
  rfl
 obtain ⟨u,v,rfl,al,q⟩:=h
 refine ⟨_,(aj (bc (bX (aB fv (by rfl) aL bL (aa (pv 1) (aa (ie (v:=.ty "str") rfl bG iC rfl) ae)))) (ao (aG (tF (aB fv (by rfl) aL bL (aa (pv 0) (aa (ie (v:=.ty "str") rfl bG iC rfl) ae))) (xW (oy cQ (pv 0) (pv 1) (aM _)))))) aH)
   (aj (bc (bX (aB fv (by rfl) aL bL (aa (pv 1) (aa (ie (v:=.ty "int") rfl fS pf rfl) ae)))) (ao (aG (tF (aB fv (by rfl) aL bL (aa (pv 0) (aa (ie (v:=.ty "int") rfl fS pf rfl) ae))) (tF (Fl (aB fv (by rfl) aL bL (aa (pv 0) (aa (ie (v:=.ty "bool") rfl nW DQ rfl) ae)))) (xW (oy cQ (pv 0) (pv 1) (aM _))))))) aH)
   (aj (bc (PW.pt (wo (dC (bX (aB fv (by rfl) aL bL (aa (pv 0) (aa (ie (v:=.ty "tuple") rfl c6 r8 rfl) ae))))) (tS (aF C3 (aB aX (by rfl) a9 cc (aa (pv 0) ae)) (aB aX (by rfl) a9 cc (aa (pv 1) ae)) (aM _))))) (ao (aG ox)) aH)
   (aj (lD PassesOwn.never rfl (Ej rfl uv (aa (pv 0) (aa (pv 1) ae))) (Ag rfl (aZ (aP (i:=2) sc__law_same.nd rfl (Or.inl rfl)) (aZ (aP (i:=3) sc__law_same.nd rfl (Or.inl rfl)) j6))) (ao (bc (dC (bX (aU cn hr (aa (pv 2) (aa (pv 3) ae)) (hkj:=by omega)))) (ao (aG ox)) aH)))
   (ao (aG ox)))))),?_⟩
 have sc : (∃ x,u = .str x /\ v = .str x) \/ (∃ n,u = .int n /\ v = .int n) \/ ∃ (e : Nat) (a b : Addr) (us vs : List V),d = e + 1 /\ u = .ref a /\ v = .ref b /\ H a = some (.tup us) /\ H b = some (.tup vs) /\ Paired (Alike e H) us vs:=by
  cases d with
  | zero => exact al.elim .inl fun h => .inr (.inl h)
  | succ d =>
   rcases al with (h | h) | ⟨a,b,us,vs,h⟩
   ·exact .inl h
   ·exact .inr (.inl h)
   ·exact .inr (.inr ⟨d,a,b,us,vs,rfl,h⟩)
 rcases sc with ⟨x,rfl,rfl⟩ | ⟨n,rfl,rfl⟩ | ⟨e,a,b,us,vs,ed,rfl,rfl,ha,hb,pr⟩
 ·refine ⟨_,rfl,_,_,_,_,rfl,TyOf.str _,ia K,_,rfl,eO ?_⟩
  refine ⟨_,rfl,_,_,_,_,rfl,TyOf.str _,ia K,_,rfl,eO ?_⟩
  refine ⟨_,rfl,_,rfl,rfl,?_⟩
  rw [decide_eq_true rfl]
  exact q H (Same.refl _)
 ·refine ⟨_,rfl,_,_,_,_,rfl,TyOf.int _,yW K,_,rfl,b8 ?_⟩
  refine ⟨_,rfl,_,_,_,_,rfl,TyOf.int _,k7 K,_,rfl,eO ?_⟩
  refine ⟨_,rfl,_,_,_,_,rfl,TyOf.int _,k7 K,_,rfl,eO ?_⟩
  refine ⟨_,rfl,_,_,_,_,rfl,TyOf.int _,om K,_,rfl,_,rfl,eO ?_⟩
  refine ⟨_,rfl,_,rfl,rfl,?_⟩
  rw [decide_eq_true rfl]
  exact q H (Same.refl _)
 ·refine ⟨_,rfl,_,_,_,_,rfl,TyOf.tup hb,vc K,_,rfl,b8 ?_⟩
  refine ⟨_,rfl,_,_,_,_,rfl,TyOf.tup hb,u9 K,_,rfl,b8 ?_⟩
  refine ⟨_,rfl,_,_,_,_,rfl,TyOf.tup ha,qR K,_,rfl,b8 ?_⟩
  have le : us.length = vs.length:=Paired.length pr
  refine ⟨_,rfl,a,_,rfl,.inr (qT_ ha),_,rfl,b,_,rfl,.inr (qT_ hb),rfl,_,rfl,?_⟩
  rw [le,decide_eq_true rfl]
  refine b8 ?_
  try dsimp only [aE,aK,List.set]
  refine ⟨_,rfl,_,rfl,a,b,rfl,⟨_,qT_ ha⟩,⟨_,qT_ hb⟩,?_⟩
  refine Cv (K:=K) le (fun i σ' H' => ∃ v2 v3 : OV,σ' = [some (.ref a),some (.ref b),v2,v3] /\ Same H H') ⟨none,none,rfl,Same.refl _⟩ (fun i σ' H' _ ⟨_,_,_,s⟩ => ⟨qT_ (s _ _ ha),qT_ (s _ _ hb)⟩) ?_ ?_
  ·rintro i x y σ' H2 T2 hx hy ⟨v2,v3,rfl,s2⟩ hT2
   have s3:=ah hT2 (HO.tup [x,y])
   refine ⟨T2,_,rfl,qT_ af,rfl,_,_,rfl,_,_,rfl,rfl,?_⟩
   try dsimp only [aE,aK,List.set]
   refine ⟨_,rfl,_,rfl,x,y,e,rfl,by omega,(zi pr hx hy).same (s2.trans s3),fun H3 s4 => ⟨_,rfl,b8 ?_⟩⟩
   exact ⟨_,_,rfl,s2.trans (s3.trans s4)⟩
  ·rintro σ' H2 ⟨v2,v3,rfl,s2⟩
   exact q H2 s2
end
theorem kq {l : List Expr} {x1} {p : Pos} {es : List Expr} {env : Env} : starEach (.Tuple l x1 p :: es) env = (false,eval (.Tuple l x1 p) env) :: starEach es env:=by rfl
theorem Gd {a b : Expr} {o : Operator} {p : Pos} {es : List Expr} {env : Env} : starEach (.BinOp a o b p :: es) env = (false,eval (.BinOp a o b p) env) :: starEach es env:=by rfl
def uw (H0 : Hp) (t : TE) (σ : St) (ps : List Prt) : Prop := ∀ (H : Hp) (Q : VK),Same H0 H -> (∀ (v : V) (H' : Hp),Same H H' -> SumAt H' v ps -> Q v H') -> t σ H Q
def GSt (H0 : Hp) (t : TE) (σ : St) (st : Stt) : Prop := ∀ (H : Hp) (Q : VK),Same H0 H -> (∀ (v : V) (H' : Hp),Same H H' -> StAt H' v st -> Q v H') -> t σ H Q
theorem p8 {α β : Type} {R : α -> β -> Prop} : ∀ {as : List α} {bs : List β} {cs : List α} {ds : List β},Paired R as bs -> Paired R cs ds -> Paired R (as ++ cs) (bs ++ ds)
 | _,_,_,_,.nil,h => h
 | _,_,_,_,.cons r t,h => .cons r (p8 t h)
section
variable {H0 : Hp} {σ : St} {K : PySem.W.Frag}
theorem gs1 {n : Int} {s : Str} : uw H0 (kd (bb (kd (bb (tC (V.int n)) (bb (tC (V.str s)) gW))) gW)) σ [(n,s)]:=fun H Q s0 q =>
 ⟨(by show 2 <= sizeLine; decide),fun T hT => ⟨(by show 1 <= sizeLine; decide),fun U hU => q (.ref U) _ ((ah hT _).trans (ah hU _)) ⟨U,[T],rfl,af,.cons ((ah hU _) _ _ af) .nil⟩⟩⟩
theorem gs2 {n m : Int} {s t : Str} : uw H0 (kd (bb (kd (bb (tC (V.int n)) (bb (tC (V.str s)) gW))) (bb (kd (bb (tC (V.int m)) (bb (tC (V.str t)) gW))) gW))) σ [(n,s),(m,t)]:=fun H Q s0 q =>
 ⟨(by show 2 <= sizeLine; decide),fun T hT => ⟨(by show 2 <= sizeLine; decide),fun T2 hT2 => ⟨(by show 2 <= sizeLine; decide),fun U hU => q (.ref U) _ ((ah hT _).trans ((ah hT2 _).trans (ah hU _))) ⟨U,[T,T2],rfl,af,.cons (((ah hT2 _).trans (ah hU _)) _ _ af) (.cons ((ah hU _) _ _ af) .nil)⟩⟩⟩⟩
theorem gsC {t u : TE} {ps qs : List Prt} (hp : ps ≠ []) (hq : qs ≠ []) (l : ps.length + qs.length <= 100) (ht : uw H0 t σ ps) (hu : uw H0 u σ qs) : uw H0 (tOp (EH K) t u) σ (ps ++ qs):=fun H Q s0 q => by
 refine ht H _ s0 fun v H1 s1 ⟨a,as,ev,ha,hA⟩ => ?_
 refine hu H1 _ (s0.trans s1) fun v' H2 s2 ⟨b,bs,ev',hb,hB⟩ => ?_
 have la : as.length = ps.length:=Paired.length hA
 have lb : bs.length = qs.length:=Paired.length hB
 have na : as ≠ []:=fun z => hp (List.length_eq_zero_iff.mp (by rw [<- la,z]; rfl))
 have nb : bs ≠ []:=fun z => hq (List.length_eq_zero_iff.mp (by rw [<- lb,z]; rfl))
 refine ⟨a,b,_,_,ev,ev',qT_ (s2 _ _ ha),qT_ hb,Nat.le_trans (show _ <= 100 by rw [lm_,lm_]; omega) (by decide),fun z => absurd (List.map_eq_nil_iff.mp z) na,fun _ z => absurd (List.map_eq_nil_iff.mp z) nb,fun _ _ T hT => ?_⟩
 have s3:=ah hT (HO.tup (as.map V.ref ++ bs.map V.ref))
 refine q (.ref T) _ (s1.trans (s2.trans s3)) ⟨T,as ++ bs,rfl,by rw [af,List.map_append],p8 (Paired.mapP hA fun _ _ e => (s2.trans s3) _ _ e) (Paired.mapP hB fun _ _ e => s3 _ _ e)⟩
theorem FP {k : Str} {t u : TE} {a b : List Prt} (ht : uw H0 t σ a) (hu : uw H0 u σ b) : GSt H0 (kd (bb (tC (V.str k)) (bb t (bb u gW)))) σ (.cmp k a b):=fun H Q s0 q => by
 refine ht H _ s0 fun v H1 s1 h1 => hu H1 _ (s0.trans s1) fun v' H2 s2 h2 => ⟨(by show 3 <= sizeLine; decide),fun T hT => ?_⟩
 have s3:=ah hT (HO.tup [V.str k,v,v'])
 exact q (.ref T) _ (s1.trans (s2.trans s3)) ⟨T,v,v',rfl,af,h1.same (tkS (s2.trans s3)),h2.same (tkS s3)⟩
theorem GG {r : Str} {n : Int} {t : TE} {a : List Prt} (ht : uw H0 t σ a) : GSt H0 (kd (bb (tC (V.str (Str.ofString "is"))) (bb (tC (V.str r)) (bb t (bb (tC (V.int n)) gW))))) σ (.sg r a n):=fun H Q s0 q => by
 refine ht H _ s0 fun v H1 s1 h1 => ⟨(by show 4 <= sizeLine; decide),fun T hT => ?_⟩
 have s3:=ah hT (HO.tup [V.str (Str.ofString "is"),V.str r,v,V.int n])
 exact q (.ref T) _ (s1.trans s3) ⟨T,v,rfl,af,h1.same (tkS s3)⟩
theorem GD {r p : Str} {t u : TE} {a b : List Prt} (ht : uw H0 t σ a) (hu : uw H0 u σ b) : GSt H0 (kd (bb (tC (V.str (Str.ofString "like"))) (bb (tC (V.str r)) (bb t (bb (tC (V.str p)) (bb u gW)))))) σ (.lk r a p b):=fun H Q s0 q => by
 refine ht H _ s0 fun v H1 s1 h1 => hu H1 _ (s0.trans s1) fun v' H2 s2 h2 => ⟨(by show 5 <= sizeLine; decide),fun T hT => ?_⟩
 have s3:=ah hT (HO.tup [V.str (Str.ofString "like"),V.str r,v,V.str p,v'])
 exact q (.ref T) _ (s1.trans (s2.trans s3)) ⟨T,v,v',rfl,af,h1.same (tkS (s2.trans s3)),h2.same (tkS s3)⟩
theorem GF {t : TE} {st : Stt} (ht : GSt H0 t σ st) : GSt H0 (kd (bb (tC (V.str (Str.ofString "not"))) (bb t gW))) σ (.no st):=fun H Q s0 q => by
 refine ht H _ s0 fun v H1 s1 h1 => ⟨(by show 2 <= sizeLine; decide),fun T hT => ?_⟩
 have s3:=ah hT (HO.tup [V.str (Str.ofString "not"),v])
 exact q (.ref T) _ (s1.trans s3) ⟨T,v,rfl,af,StAt.same (tkS s3) h1⟩
theorem GC {k : Str} {t u : TE} {a b : Stt} (ht : GSt H0 t σ a) (hu : GSt H0 u σ b) : GSt H0 (kd (bb (tC (V.str k)) (bb t (bb u gW)))) σ (.jn k a b):=fun H Q s0 q => by
 refine ht H _ s0 fun v H1 s1 h1 => hu H1 _ (s0.trans s1) fun v' H2 s2 h2 => ⟨(by show 3 <= sizeLine; decide),fun T hT => ?_⟩
 have s3:=ah hT (HO.tup [V.str k,v,v'])
 exact q (.ref T) _ (s1.trans (s2.trans s3)) ⟨T,v,v',rfl,af,StAt.same (tkS (s2.trans s3)) h1,StAt.same (tkS s3) h2⟩
theorem GB {k n : Str} {t : TE} {a : Stt} (ht : GSt H0 t σ a) : GSt H0 (kd (bb (tC (V.str k)) (bb (tC (V.str n)) (bb t gW)))) σ (.ch k n a):=fun H Q s0 q => by
 refine ht H _ s0 fun v H1 s1 h1 => ⟨(by show 3 <= sizeLine; decide),fun T hT => ?_⟩
 have s3:=ah hT (HO.tup [V.str k,V.str n,v])
 exact q (.ref T) _ (s1.trans s3) ⟨T,v,rfl,af,StAt.same (tkS s3) h1⟩
end
def smX : List Prt:=[(1,("x" : Str))]
def smY : List Prt:=[(1,("y" : Str))]
def HanAt (H : Hp) (a : Addr) (st : Stt) : Prop := ∃ v,H a = some (.tup [.str (au st),v]) /\ StAt H v st
structure HI (H0 : Hp) (sts : List Stt) (σ : St) (H : Hp) : Prop where
 ok : ∃ (v0 v1 : V) (L : Addr) (as : List Addr),σ = [some v0,some v1,some (.ref L)] /\ SumAt H v0 smX /\ SumAt H v1 smY /\ H L = some (.lst (as.map V.ref)) /\ Paired (HanAt H) as sts /\ Same H0 H /\ H0 L = none
def XY (σ : St) (H : Hp) : Prop := ∃ (v0 v1 : V) (r : St),σ = some v0 :: some v1 :: r /\ SumAt H v0 smX /\ SumAt H v1 smY
theorem XY.same {σ : St} {H H' : Hp} (h : XY σ H) (s : Same H H') : XY σ H' := by
 obtain ⟨v0,v1,r,e,h0,h1⟩:=h
 exact ⟨v0,v1,r,e,h0.same (tkS s),h1.same (tkS s)⟩
def ik (ps : List Prt) : TE:=fun σ H Q => XY σ H /\ ∀ (v : V) (H' : Hp),Same H H' -> SumAt H' v ps -> Q v H'
def uk (st : Stt) : TE:=fun σ H Q => XY σ H /\ ∀ (v : V) (H' : Hp),Same H H' -> StAt H' v st -> Q v H'
def zD (st : Stt) : TE:=fun σ H Q => XY σ H /\ ∀ (T : Addr) (H' : Hp),Same H H' -> HanAt H' T st -> Q (.ref T) H'
structure PES (X : Cx) (e : Expr) (t : TE) : Prop where
 pe : PE X e t
 st : ∀ es,starEach (e :: es) X.env = (false,eval e X.env) :: starEach es X.env
theorem dn {X : Cx} {e : Expr} {t t' : TE} (h : PE X e t) (w : ∀ σ H Q,t' σ H Q -> t σ H Q) : PE X e t' := fun pins s σ H Q I q => h pins s σ H Q I (w _ _ _ q)
section
variable {X : Cx}
theorem EG {n : Int} {s : Str} {j1 j2 k1 k2 p1 p2 p3 p4} : PE X (.Tuple [.Tuple [.Constant (.int n) j1 p1,.Constant (.str s) j2 p2] k1 p3] k2 p4) (kd (bb (kd (bb (tC (V.int n)) (bb (tC (V.str s)) gW))) gW)):=
 a8 (aa (a8 (aa ag (aa ar ae))) ae kq)
theorem vG {n : Int} {s : Str} {j1 j2 k1 k2 p1 p2 p3 p4} : PES X (.Tuple [.Tuple [.Constant (.int n) j1 p1,.Constant (.str s) j2 p2] k1 p3] k2 p4) (ik [(n,s)]):=
 ⟨dn EG fun σ H Q h => gs1 (H0:=H) H Q (Same.refl _) h.2,fun _ => kq⟩
theorem F1 {n m : Int} {s t : Str} {j1 j2 j3 j4 k1 k2 k3 p1 p2 p3 p4 p5 p6 p7} : PES X (.Tuple [.Tuple [.Constant (.int n) j1 p1,.Constant (.str s) j2 p2] k1 p3,.Tuple [.Constant (.int m) j3 p4,.Constant (.str t) j4 p5] k2 p6] k3 p7) (ik [(n,s),(m,t)]):=
 ⟨dn (a8 (aa (a8 (aa ag (aa ar ae))) (aa (a8 (aa ag (aa ar ae))) ae kq) kq)) fun σ H Q h => gs2 (H0:=H) H Q (Same.refl _) h.2,fun _ => kq⟩
theorem q_x {n : Str} {p : Pos} (h : PE X (.Name n p) (rD 0)) : PES X (.Name n p) (ik smX):=
 ⟨dn h fun σ H Q q => by
  obtain ⟨⟨v0,v1,r,rfl,h0,h1⟩,q⟩:=q
  exact ⟨v0,rfl,q v0 H (Same.refl _) h0⟩,fun _ => rfl⟩
theorem q_y {n : Str} {p : Pos} (h : PE X (.Name n p) (rD 1)) : PES X (.Name n p) (ik smY):=
 ⟨dn h fun σ H Q q => by
  obtain ⟨⟨v0,v1,r,rfl,h0,h1⟩,q⟩:=q
  exact ⟨v1,rfl,q v1 H (Same.refl _) h1⟩,fun _ => rfl⟩
theorem tT {a b : Expr} {p : Pos} {ps qs : List Prt} (ha : PES X a (ik ps)) (hb : PES X b (ik qs)) (hp : ps ≠ []:=by decide +kernel) (hq : qs ≠ []:=by decide +kernel) (l : ps.length + qs.length <= 100:=by decide +kernel) : PES X (.BinOp a .Add b p) (ik (ps ++ qs)):=
 ⟨dn (ak ow ha.pe hb.pe) fun σ H Q q => gsC (H0:=H) hp hq l (fun H1 Q1 s1 q1 => ⟨q.1.same s1,q1⟩) (fun H1 Q1 s1 q1 => ⟨q.1.same s1,q1⟩) H Q (Same.refl _) q.2,fun _ => Gd⟩
theorem tD {s : Str} {j p es t} (h : PA X es t) : PA X (.Constant (.str s) j p :: es) (bb (tC (V.str s)) t):=aa ar h
theorem GK {s : Int} {j p es t} (h : PA X es t) : PA X (.Constant (.int s) j p :: es) (bb (tC (V.int s)) t):=aa ag h
theorem rg {e es te t} (h : PES X e te) (r : PA X es t) : PA X (e :: es) (bb te t):=aa h.pe r (h.st es)
theorem je {k : Str} {j a b k1 p p1 as bs} (ha : PES X a (ik as)) (hb : PES X b (ik bs)) : PES X (.Tuple [.Constant (.str k) j p,a,b] k1 p1) (uk (.cmp k as bs)):=
 ⟨dn (a8 (tD (rg ha (rg hb ae)))) fun σ H Q q => FP (H0:=H) (fun H1 Q1 s1 q1 => ⟨q.1.same s1,q1⟩) (fun H1 Q1 s1 q1 => ⟨q.1.same s1,q1⟩) H Q (Same.refl _) q.2,fun _ => kq⟩
theorem GN {r : Str} {n : Int} {j j2 j3 a k1 p p1 p2 p3 as} (ha : PES X a (ik as)) : PES X (.Tuple [.Constant (.str "is") j p,.Constant (.str r) j2 p2,a,.Constant (.int n) j3 p3] k1 p1) (uk (.sg r as n)):=
 ⟨dn (a8 (tD (tD (rg ha (GK ae))))) fun σ H Q q => GG (H0:=H) (fun H1 Q1 s1 q1 => ⟨q.1.same s1,q1⟩) H Q (Same.refl _) q.2,fun _ => kq⟩
theorem GL {r s : Str} {j j2 j3 a b k1 p p1 p2 p3 as bs} (ha : PES X a (ik as)) (hb : PES X b (ik bs)) : PES X (.Tuple [.Constant (.str "like") j p,.Constant (.str r) j2 p2,a,.Constant (.str s) j3 p3,b] k1 p1) (uk (.lk r as s bs)):=
 ⟨dn (a8 (tD (tD (rg ha (tD (rg hb ae)))))) fun σ H Q q => GD (H0:=H) (fun H1 Q1 s1 q1 => ⟨q.1.same s1,q1⟩) (fun H1 Q1 s1 q1 => ⟨q.1.same s1,q1⟩) H Q (Same.refl _) q.2,fun _ => kq⟩
theorem Ft {j a k1 p p1 s} (ha : PES X a (uk s)) : PES X (.Tuple [.Constant (.str "not") j p,a] k1 p1) (uk (.no s)):=
 ⟨dn (a8 (tD (rg ha ae))) fun σ H Q q => GF (H0:=H) (fun H1 Q1 s1 q1 => ⟨q.1.same s1,q1⟩) H Q (Same.refl _) q.2,fun _ => kq⟩
theorem Fs {k : Str} {j a b k1 p p1 s t} (ha : PES X a (uk s)) (hb : PES X b (uk t)) : PES X (.Tuple [.Constant (.str k) j p,a,b] k1 p1) (uk (.jn k s t)):=
 ⟨dn (a8 (tD (rg ha (rg hb ae)))) fun σ H Q q => GC (H0:=H) (fun H1 Q1 s1 q1 => ⟨q.1.same s1,q1⟩) (fun H1 Q1 s1 q1 => ⟨q.1.same s1,q1⟩) H Q (Same.refl _) q.2,fun _ => kq⟩
theorem En {k n : Str} {j j2 a k1 p p1 p2 s} (ha : PES X a (uk s)) : PES X (.Tuple [.Constant (.str k) j p,.Constant (.str n) j2 p2,a] k1 p1) (uk (.ch k n s)):=
 ⟨dn (a8 (tD (tD (rg ha ae)))) fun σ H Q q => GB (H0:=H) (fun H1 Q1 s1 q1 => ⟨q.1.same s1,q1⟩) H Q (Same.refl _) q.2,fun _ => kq⟩
theorem ko {l : Str} {j a k1 p p1 s} (ha : PES X a (uk s)) (hl : l = au s:=by decide +kernel) : PES X (.Tuple [.Constant (.str l) j p,a] k1 p1) (zD s):=
 ⟨dn (a8 (tD (rg ha ae))) fun σ H Q q => by
  refine ⟨q.1,fun v H1 s1 h1 => ⟨(by show 2 <= sizeLine; decide),fun T hT => ?_⟩⟩
  have s2:=ah hT (HO.tup [V.str l,v])
  exact q.2 T _ (s1.trans s2) ⟨v,by rw [af,hl],StAt.same (tkS s2) h1⟩,fun _ => kq⟩
def Gf (st : Stt) : TS:=fun D σ H => ∃ (v0 v1 : V) (v2 : OV) (H0 : Hp),σ = [some v0,some v1,v2] /\ SumAt H v0 smX /\ SumAt H v1 smY /\ Same H0 H /\ ∀ (σ' : St) (H' : Hp),HI H0 [st] σ' H' -> D.nx σ' H'
def EL (st : Stt) : TS:=fun D σ H => ∃ (H0 : Hp) (sts : List Stt),sts.length < 100 /\ HI H0 sts σ H /\ ∀ (H' : Hp),HI H0 (sts ++ [st]) σ H' -> D.nx σ H'
theorem A4 {st : Stmt} {t t' : TS} (h : PS X st t) (w : ∀ D σ H,t' D σ H -> t D σ H) : PS X st t' := fun pins s σ H D I q => h pins s σ H D I (w _ _ _ q)
theorem HanAt.same {H H' : Hp} {a : Addr} {st : Stt} (h : HanAt H a st) (s : eX H H') : HanAt H' a st:=by
 obtain ⟨v,e,h⟩:=h
 exact ⟨v,s _ _ e,StAt.same s h⟩
theorem Fq {x : Str} {pos' : Pos} {e : Expr} {p pos : Pos} {st : Stt} (hN : X.N.Nodup) (hi : X.N[2]? = some x) (hx : Loc X.env.scope x) (he : PES X e (zD st)) (hf : X.fn x = true \/ X.env.scope.names.lookup x = some .local:=by first | exact .inl rfl | exact .inr rfl | assumption) : PS X (.Assign [.Name x pos'] (.List [e] p) pos) (Gf st):=
 A4 (aA hN hi hx (cR (rg he ae)) rfl hf) fun D σ H q => by
  obtain ⟨v0,v1,v2,H0,rfl,h0,h1,s0,q⟩:=q
  refine ⟨⟨v0,v1,_,rfl,h0,h1⟩,fun T H1 s1 hT => ⟨(by show 1 <= sizeLine; decide),fun L hL => ?_⟩⟩
  have s2:=ah hL (HO.lst [V.ref T])
  have s02:=s0.trans (s1.trans s2)
  exact q _ _ ⟨v0,v1,L,[T],rfl,h0.same (tkS (s1.trans s2)),h1.same (tkS (s1.trans s2)),af,.cons (hT.same (tkS s2)) .nil,s02,by
   cases e : H0 L with
   | none => rfl
   | some u => exact absurd ((s0.trans s1) _ _ e) (by rw [hL]; exact fun z => nomatch z)⟩
theorem Em {x : Str} {pn apos cpos pos : Pos} {e : Expr} {st : Stt} (hv : PE X (.Name x pn) (rD 2)) (he : PES X e (zD st))
  (hbase : attributeBase (.Name x pn) "append" X.env (eval (.Name x pn) X.env) = eval (.Name x pn) X.env:=by rfl)
  (hfew : ((backTo cpos (starEach [e] X.env)).all (fun x => !x.1) && (backToKw cpos (keywordEach [] X.env)).all (fun x => x.1.isSome) && decide (([e] : List Expr).length + ([] : List Keyword).length + (if ([] : List Keyword).isEmpty then 0 else 1) < 30)) = true:=by rfl)
  (hline : (apos.endLine == cpos.line) = true:=by rfl) : PS X (.Expr (.Call (.Attribute (.Name x pn) "append" apos) [e] [] cpos) pos) (EL st):=
 A4 (bC (eG PySem.F.plainAttrs_list PySem.F.slot_list_append PySem.F.type_list_append bh hv (rg he ae) hbase hfew hline (he.st []) rfl) rfl) fun D σ H q => by
  obtain ⟨H0,sts,ls,⟨v0,v1,L,as,rfl,h0,h1,hL,hA,s0,nL⟩,q⟩:=q
  refine ⟨_,rfl,.inl ⟨rfl,_,qL_ hL⟩,⟨v0,v1,_,rfl,h0,h1⟩,fun T H1 s1 hT => ?_⟩
  have la : as.length = sts.length:=Paired.length hA
  refine ⟨L,_,_,rfl,rfl,s1 _ _ hL,cH (by rw [lm_]; omega),?_⟩
  have tk : eX H1 (upd H1 L (.lst (as.map V.ref ++ [.ref T]))):=fun b xs e => by
   rw [aw fun z => by rw [z,s1 _ _ hL] at e; cases e]
   exact e
  have tk1 : eX H (upd H1 L (.lst (as.map V.ref ++ [.ref T]))):=fun b xs e => tk _ _ (s1 _ _ e)
  refine q _ ⟨v0,v1,L,as ++ [T],rfl,h0.same tk1,h1.same tk1,by rw [af,List.map_append]; rfl,p8 (Paired.mapP hA fun _ _ h => h.same tk1) (.cons (hT.same tk) .nil),fun c u e => ?_,nL⟩
  rw [aw fun z => by rw [z,nL] at e; cases e]
  exact s1 _ _ (s0 _ _ e)
theorem Gn {x : Str} {pos' : Pos} {e : Expr} {p pos : Pos} {st : Stt} (hN : X.N.Nodup) (hi : X.N[2]? = some x) (hx : Loc X.env.scope x) (he : PES X e (zD st)) (hf : X.fn x = true \/ X.env.scope.names.lookup x = some .local:=by first | exact .inl rfl | exact .inr rfl | assumption) : PSW X (.Assign [.Name x pos'] (.List [e] p) pos) (Gf st):=⟨Fq hN hi hx he hf⟩
theorem Gq {i : Nat} {n : Int} {s x : Str} {j1 j2 k1 k2 p1 p2 p3 p4} {pos' pos : Pos} (hN : X.N.Nodup) (hi : X.N[i]? = some x) (hx : Loc X.env.scope x) (hf : X.fn x = true \/ X.env.scope.names.lookup x = some .local:=by first | exact .inl rfl | exact .inr rfl | assumption) : PSW X (.Assign [.Name x pos'] (.Tuple [.Tuple [.Constant (.int n) j1 p1,.Constant (.str s) j2 p2] k1 p3] k2 p4) pos) (uj (kd (bb (kd (bb (tC (V.int n)) (bb (tC (V.str s)) gW))) gW)) (aE i)):=⟨aA hN hi hx EG rfl hf⟩
theorem gX {x : Str} {pn apos cpos pos : Pos} {e : Expr} {st : Stt} (hv : PEW X (.Name x pn) (rD 2)) (he : PES X e (zD st))
  (hbase : attributeBase (.Name x pn) "append" X.env (eval (.Name x pn) X.env) = eval (.Name x pn) X.env:=by rfl)
  (hfew : ((backTo cpos (starEach [e] X.env)).all (fun x => !x.1) && (backToKw cpos (keywordEach [] X.env)).all (fun x => x.1.isSome) && decide (([e] : List Expr).length + ([] : List Keyword).length + (if ([] : List Keyword).isEmpty then 0 else 1) < 30)) = true:=by rfl)
  (hline : (apos.endLine == cpos.line) = true:=by rfl) : PSW X (.Expr (.Call (.Attribute (.Name x pn) "append" apos) [e] [] cpos) pos) (EL st):=⟨Em hv.out he hbase hfew hline⟩
theorem lG {n : Str} {p : Pos} (h : PEW X (.Name n p) (rD 0)) : PES X (.Name n p) (ik smX):=q_x h.out
theorem Ai {n : Str} {p : Pos} (h : PEW X (.Name n p) (rD 1)) : PES X (.Name n p) (ik smY):=q_y h.out
end
def EE : List Stt:=[.cmp "=" [(1,"nota")] [(3,"")],
 .cmp "<=" [(1,"somex")] [(1,"alls")],
 .cmp "<" [(1,"orx"),(1,"an")] [(1,"andy")],
 .cmp "=" [(0,"")] [(0,"")],
 .cmp "<=" [(999999,"")] [(20,"zzzzzz")],
 .sg "ABCDEF" [(1,"x"),(0,"")] 999999,
 .no (.no (.cmp "=" smX smX)),
 .ch "some" "x" (.ch "all" "x" (.cmp "=" smX smY)),
 .cmp "<" (smX ++ smX ++ smX ++ smX ++ smX ++ smX ++ smX ++ smX) [(2,"x")],
 .jn "and" (.ch "some" "x" (.cmp "=" smX smY)) (.cmp "<" smX smY),
 .ch "some" "x" (.jn "or" (.cmp "=" smX smY) (.cmp "<" smX smY)),
 .jn "or" (.no (.cmp "=" smX smY)) (.lk "T" smX "T" smY)]
theorem EI {n : Int} {s : Str} {i : Nat} {u : TS} {D : Ends} {σ : St} {H : Hp} (h : ∀ (v : V) (H1 : Hp),Same H H1 -> SumAt H1 v [(n,s)] -> u D (σ.set i (some v)) H1) : zE (uj (kd (bb (kd (bb (tC (V.int n)) (bb (tC (V.str s)) gW))) gW)) (aE i)) u D σ H:=
 gs1 (H0:=H) (σ:=σ) H _ (Same.refl _) h
theorem Fi {X : Cx} {x : Str} {j k : Nat} {ps : List Str} {dvs : List V} {sp : Sp} {p pos : Pos} (G : DefOk X.prog X.w X.K X.mg X.base x k ps dvs sp) (hr : Room j X.A) (hkj : k <= j:=by decide) (hg : Gl X x:=by rfl) (hdb : (x == ("__debug__" : Str)) = false:=by decide) :
  PE X (.Call (.Name x p) [] [] pos) (Bb sp dvs E0 gW):=by
 obtain ⟨f,fd,ds,hm,hk,hd,hb,F⟩:=G.ex
 exact C5 F (hr.mono hkj) hg hm hk hb hd (fun _ _ _ _ _ _ _ h => h.elim) hdb
def An : Sp:=fun vs H Q _ => vs = [] /\ ∀ (L : Addr) (as : List Addr) (H' : Hp),Same H H' -> H' L = some (.lst (as.map V.ref)) -> Paired (HanAt H') as EE -> Q (.ref L) H'
section
variable {P : Program} {w : World} {K : PySem.W.Frag} {mg : Str -> Option Value} {base : Heap} {f : Addr} {fd : FuncData} {dV : Value}
theorem sc__law_by_hand : FnScope ["_law_x","_law_y","_law_pairs"] [] (ai cm):=⟨rfl,rfl,rfl,by decide +kernel,rfl,by decide +kernel,by decide +kernel⟩
theorem D4 (F : FunD K "_law_by_hand" "_law_by_hand" cm dV f fd) : FnOk P w K mg base CX0 1 f fd [] An:=by
 refine F.ok sc__law_by_hand (fun vs H Q E h => ?_) (fun cdv A outer s H vs Q E hr h => ?_)
 ·obtain ⟨rfl,_⟩:=h
  rfl
 obtain ⟨rfl,q⟩:=h
 refine mS (ay (Gq (i:=0) sc__law_by_hand.nd rfl (Or.inl rfl))
   (ay (Gq (i:=1) sc__law_by_hand.nd rfl (Or.inl rfl))
   (ay (Gn sc__law_by_hand.nd rfl (Or.inl rfl) (ko (je vG vG)))
   (ay (gX (PEW.mk (pv 2)) (ko (je vG vG)))
   (ay (gX (PEW.mk (pv 2)) (ko (je F1 vG)))
   (ay (gX (PEW.mk (pv 2)) (ko (je vG vG)))
   (ay (gX (PEW.mk (pv 2)) (ko (je vG vG)))
   (ay (gX (PEW.mk (pv 2)) (ko (GN F1)))
   (ay (gX (PEW.mk (pv 2)) (ko (Ft (Ft (je (lG (PEW.mk (pv 0))) (lG (PEW.mk (pv 0))))))))
   (ay (gX (PEW.mk (pv 2)) (ko (En (En (je (lG (PEW.mk (pv 0))) (Ai (PEW.mk (pv 1))))))))
   (ay (gX (PEW.mk (pv 2)) (ko (je (tT (tT (tT (tT (tT (tT (tT (lG (PEW.mk (pv 0))) (lG (PEW.mk (pv 0)))) (lG (PEW.mk (pv 0)))) (lG (PEW.mk (pv 0)))) (lG (PEW.mk (pv 0)))) (lG (PEW.mk (pv 0)))) (lG (PEW.mk (pv 0)))) (lG (PEW.mk (pv 0)))) vG)))
   (ay (gX (PEW.mk (pv 2)) (ko (Fs (En (je (lG (PEW.mk (pv 0))) (Ai (PEW.mk (pv 1))))) (je (lG (PEW.mk (pv 0))) (Ai (PEW.mk (pv 1)))))))
   (ay (gX (PEW.mk (pv 2)) (ko (En (Fs (je (lG (PEW.mk (pv 0))) (Ai (PEW.mk (pv 1)))) (je (lG (PEW.mk (pv 0))) (Ai (PEW.mk (pv 1))))))))
   (ay (gX (PEW.mk (pv 2)) (ko (Fs (Ft (je (lG (PEW.mk (pv 0))) (Ai (PEW.mk (pv 1))))) (GL (lG (PEW.mk (pv 0))) (Ai (PEW.mk (pv 1)))))))
   (c8 (PSW.mk (aG (pv 2)))))))))))))))))) ?_
 refine EI fun v0 H1 s1 h0 => EI fun v1 H2 s2 h1 => ?_
 have s12:=s1.trans s2
 refine ⟨v0,v1,none,H,rfl,h0.same (tkS s2),h1,s12,fun σ H3 h3 => ?_⟩
 refine ⟨H,_,by decide,h3,fun H3 h3 => ?_⟩
 refine ⟨H,_,by decide,h3,fun H3 h3 => ?_⟩
 refine ⟨H,_,by decide,h3,fun H3 h3 => ?_⟩
 refine ⟨H,_,by decide,h3,fun H3 h3 => ?_⟩
 refine ⟨H,_,by decide,h3,fun H3 h3 => ?_⟩
 refine ⟨H,_,by decide,h3,fun H3 h3 => ?_⟩
 refine ⟨H,_,by decide,h3,fun H3 h3 => ?_⟩
 refine ⟨H,_,by decide,h3,fun H3 h3 => ?_⟩
 refine ⟨H,_,by decide,h3,fun H3 h3 => ?_⟩
 refine ⟨H,_,by decide,h3,fun H3 h3 => ?_⟩
 refine ⟨H,_,by decide,h3,fun H3 h3 => ?_⟩
 obtain ⟨u0,u1,L,as,rfl,_,_,hL,hA,s4,_⟩:=h3
 exact ⟨_,rfl,q L as _ s4 hL hA⟩
end
def ug : Sp:=fun vs H Q _ => ∃ (a : Addr) (ns : LI) (it : It),vs = [.ref a] /\ ItAt ns H a it /\ aQ it.st <= 20 /\ (au it.st).length <= 1000 /\ ∀ H',Same H H' -> Q (.bl true) H'
def A7 (K : PySem.W.Frag) : Sp:=fun vs H Q _ => ∃ (a : Addr) (ns : LI),vs = [.ref a] /\ SqL K H a (ns.map V.int) /\ ns.length <= 63 /\ ∀ H',Q (.bl true) H'
def B8 (st : Stt) : Prop:=Wr st /\ aQ st <= 20 /\ (au st).length <= 1000
instance (a b : Nat) (n : Str) : Decidable (mL a b n):=inferInstanceAs (Decidable (_ /\ _ /\ _))
instance (n : Str) : Decidable (dN n):=inferInstanceAs (Decidable (_ /\ _))
instance (n : Str) : Decidable (gn n):=inferInstanceAs (Decidable (mL _ _ _))
instance (n : Str) : Decidable (yB n):=inferInstanceAs (Decidable (_ \/ _))
instance (p : Prt) : Decidable (o4 p):=inferInstanceAs (Decidable (_ \/ _))
instance (ps : List Prt) : Decidable (c9 ps):=inferInstanceAs (Decidable (_ /\ _ /\ _))
def wrD : (st : Stt) -> Decidable (Wr st)
 | .cmp k a b => inferInstanceAs (Decidable (yB k /\ c9 a /\ c9 b))
 | .sg r a s => inferInstanceAs (Decidable (gn r /\ c9 a /\ 0 <= s /\ s <= 999999))
 | .lk r a q b => inferInstanceAs (Decidable (gn r /\ c9 a /\ gn q /\ c9 b))
 | .no s => wrD s
 | .jn k s t => have:=wrD s; have:=wrD t; inferInstanceAs (Decidable ((k = ("and" : Str) \/ k = ("or" : Str)) /\ Wr s /\ Wr t))
 | .ch k n s => have:=wrD s; inferInstanceAs (Decidable ((k = ("some" : Str) \/ k = ("all" : Str)) /\ dN n /\ Wr s))
instance (st : Stt) : Decidable (Wr st):=wrD st
instance (st : Stt) : Decidable (B8 st):=inferInstanceAs (Decidable (_ /\ _ /\ _))
theorem Cz : ∀ st ∈ EE,B8 st:=by decide +kernel
theorem zj {α : Type} {R : Addr -> α -> Prop} : ∀ {as : List Addr} {ps : List α} {i : Nat} {y : V},Paired R as ps -> (as.map V.ref)[i]? = some y -> ∃ (a : Addr) (p : α),y = .ref a /\ R a p /\ p ∈ ps
 | _,_,_,_,.nil,h => by simp at h
 | _,_,0,_,.cons (a:=a) (b:=p) r _,h => ⟨a,p,(Option.some.inj h).symm,r,List.mem_cons_self⟩
 | _,_,i + 1,_,.cons _ t,h => by
  obtain ⟨a,p,e,r,q⟩:=zj (i:=i) t (by simpa using h)
  exact ⟨a,p,e,r,List.mem_cons_of_mem _ q⟩
section
variable {P : Program} {w : World} {K : PySem.W.Frag} {mg : Str -> Option Value} {base : Heap} {f : Addr} {fd : FuncData} {dV : Value}
theorem sc__law_told : FnScope ["_law_item","_law_found"] ["_law_item"] (ai dH):=⟨rfl,rfl,rfl,by decide +kernel,rfl,by decide +kernel,by decide +kernel⟩
theorem sc_law : FnScope ["_law_script","_law_spread_here","_law_item","_law_line","_law_statement"] ["_law_script"] (ai oH):=⟨rfl,rfl,rfl,by decide +kernel,rfl,by decide +kernel,by decide +kernel⟩
theorem BU (F : FunD K "_law_told" "_law_told" dH dV f fd) (o3 : DefOk P w K mg base "read" 50 ["text"] [] yw) (cn : DefOk P w K mg base "_law_same" 24 ["_law_found","_law_due"] [] (ud 23)) (g0 : DefOk P w K mg base "shown" 24 ["statement"] [] (rR 20)) : FnOk P w K mg base CX0 51 f fd ["_law_item"] ug:=by
 refine F.ok sc__law_told (fun vs H Q E h => ?_) (fun cdv A outer s H vs Q E hr h => ?_)
 ·obtain ⟨a,ns,it,rfl,_⟩:=h
  rfl
 obtain ⟨a,ns,it,rfl,I,d20,l20,k⟩:=h
 refine ⟨_,(aj (aA (i:=1) sc__law_told.nd rfl (Or.inl rfl) (aU o3 hr (aa (aV aS (pv 0) ag (fun _ _ => rfl)) ae)))
   (ao (aG (tF (aU cn hr (aa (pv 1) (aa (aV aS (pv 0) ag (fun _ _ => rfl)) ae))) (xW (oy cQ (aU g0 hr (aa (pv 1) ae)) (aV aS (pv 0) ag (fun _ _ => rfl)) (aM _))))))),?_⟩
 refine ⟨_,rfl,a,_,_,_,rfl,rfl,qL_ I.li,rfl,au it.st,it.st,rfl,rfl,l20,I.wr,d20,fun v H1 s1 hv => ?_⟩
 try dsimp only [aE,aK,List.set]
 refine ⟨_,rfl,_,rfl,a,_,_,_,rfl,rfl,qL_ (s1 _ _ I.li),rfl,v,it.v,rfl,(jf hv (StAt.same (tkS s1) I.sv)).le (by omega),fun H2 s2 => ⟨_,rfl,eO ?_⟩⟩
 refine ⟨_,rfl,v,it.st,rfl,StAt.same (tkS s2) hv,I.wf,d20,by omega,fun H3 s3 => ?_⟩
 refine ⟨_,rfl,a,_,_,_,rfl,rfl,qL_ (s3 _ _ (s2 _ _ (s1 _ _ I.li))),rfl,rfl,?_⟩
 rw [decide_eq_true rfl]
 exact k _ (s1.trans (s2.trans s3))
theorem Fd (F : FunD K "law" "law" oH dV f fd) (ip : DefOk P w K mg base "_law_spread" 2 ["_law_script"] [] (ue K)) (jj : DefOk P w K mg base "_law_built" 6 ["_law_spread_here"] [] (yn K)) (cu : DefOk P w K mg base "_law_plain" 4 ["_law_spread_here","_law_at"] [] (rQ K)) (fq : DefOk P w K mg base "_law_told" 51 ["_law_item"] [] ug) (o3 : DefOk P w K mg base "read" 50 ["text"] [] yw) (cn : DefOk P w K mg base "_law_same" 24 ["_law_found","_law_due"] [] (ud 23)) (gk : DefOk P w K mg base "_law_by_hand" 1 [] [] An) : FnOk P w K mg base CX0 52 f fd ["_law_script"] (A7 K):=by
 refine F.ok sc_law (fun vs H Q E h => ?_) (fun cdv A outer s H vs Q E hr h => ?_)
 ·obtain ⟨a,ns,rfl,_⟩:=h
  rfl
 obtain ⟨a,ns,rfl,hS,h63,k⟩:=h
 refine ⟨_,(aj (aA (i:=1) sc_law.nd rfl (Or.inl rfl) (aU ip hr (aa (pv 0) ae)))
   (aj (aA (i:=2) sc_law.nd rfl (Or.inl rfl) (aU jj hr (aa (pv 1) ae)))
   (aj (bc (PW.pt (wo (dC (bX (aU fq hr (aa (pv 2) ae)))) (wo (dC (bX (aU fq hr (aa (aU cu hr (aa (pv 1) (aa ag ae))) ae)))) (tS (dC (bX (aU fq hr (aa (pv 2) ae)))))))) (ao (aG ox)) aH)
   (aj (lD PassesOwn.never rfl (rN (Fi gk hr)) (Ag rfl (aZ (aP (i:=3) sc_law.nd rfl (Or.inl rfl)) (aZ (aP (i:=4) sc_law.nd rfl (Or.inl rfl)) j6))) (ao (bc (dC (bX (aU cn hr (aa (aU o3 hr (aa (pv 3) ae)) (aa (pv 4) ae))))) (ao (aG ox)) aH)))
   (ao (aG ox)))))),?_⟩
 refine ⟨_,rfl,a,ns,rfl,hS,h63,fun sp H1 xs s1 hX lX => ?_⟩
 try dsimp only [aE,aK,List.set]
 refine ⟨_,rfl,sp,xs,rfl,hX,lX,fun l it H2 s2 I d20 l20 => ?_⟩
 try dsimp only [aE,aK,List.set]
 refine ⟨_,rfl,l,xs,it,rfl,I,d20,l20,fun H3 s3 => ⟨_,rfl,b8 ?_⟩⟩
 refine ⟨_,rfl,sp,0,xs,rfl,hX.same (s2.trans s3),lX,⟨by decide,by decide⟩,fun l2 it2 H4 s4 I4 _ _ _ d4 b4 => ?_⟩
 refine ⟨l2,xs,it2,rfl,I4,by omega,by omega,fun H5 s5 => ⟨_,rfl,b8 ?_⟩⟩
 refine ⟨_,rfl,l,xs,it,rfl,I.same (s3.trans (s4.trans s5)),d20,l20,fun H6 s6 => ⟨_,rfl,b8 ?_⟩⟩
 try dsimp only [aE,aK,List.set]
 refine ⟨rfl,fun L as H7 s7 hL hA => ⟨L,rfl,⟨_,qL_ hL⟩,?_⟩⟩
 refine Cu (K:=K) (fun i σ' H' => ∃ v3 v4 : OV,σ' = [some (.ref a),some (.ref sp),some (.ref l),v3,v4] /\ Same H7 H') ⟨none,none,rfl,Same.refl _⟩ (fun i σ' H' _ ⟨_,_,_,s⟩ => qL_ (s _ _ hL)) ?_ ?_
 ·rintro i x σ' H8 hx ⟨v3,v4,rfl,s8⟩
  obtain ⟨T,st,rfl,⟨v,hT,hv⟩,hm⟩:=zj hA hx
  obtain ⟨wr,dp,ln⟩:=Cz st hm
  refine ⟨T,_,rfl,qT_ (s8 _ _ hT),rfl,_,_,rfl,_,_,rfl,rfl,?_⟩
  try dsimp only [aE,aK,List.set]
  refine ⟨_,rfl,au st,st,rfl,rfl,ln,wr,dp,fun u H9 s9 hu => ?_⟩
  refine ⟨_,rfl,u,v,rfl,(jf hu (StAt.same (tkS (s8.trans s9)) hv)).le (by omega),fun H10 s10 => ⟨_,rfl,b8 ?_⟩⟩
  exact ⟨_,_,rfl,s8.trans (s9.trans s10)⟩
 ·rintro σ' H8 ⟨v3,v4,rfl,s8⟩
  exact k H8
end
theorem Fw {K : PySem.W.Frag} {a : Addr} {x y z : Str} {td : Option Addr} {tn : Nat} {tsl : Array (Option Value)} {t0 t1 t2 : Tok} (h : K.lookup a = some ⟨.type "tuple",td,.seq #[.str x t0,.str y t1,.str z t2] tn,tsl⟩) (H : Hp) : SqT K H a [.str x,.str y,.str z]:=
 .inr ⟨_,_,_,h,rfl,rfl,(by show 3 <= sizeLine; decide),.cons ⟨_,rfl⟩ (.cons ⟨_,rfl⟩ (.cons ⟨_,rfl⟩ .nil))⟩
theorem Dm {K : PySem.W.Frag} {a : Addr} {x y : Str} {td : Option Addr} {tn : Nat} {tsl : Array (Option Value)} {t0 t1 : Tok} (h : K.lookup a = some ⟨.type "tuple",td,.seq #[.str x t0,.str y t1] tn,tsl⟩) (H : Hp) : SqT K H a [.str x,.str y]:=
 .inr ⟨_,_,_,h,rfl,rfl,(by show 2 <= sizeLine; decide),.cons ⟨_,rfl⟩ (.cons ⟨_,rfl⟩ .nil)⟩
theorem Fx {K : PySem.W.Frag} {a : Addr} {x y z p q : Str} {td : Option Addr} {tn : Nat} {tsl : Array (Option Value)} {t0 t1 t2 t3 t4 : Tok} (h : K.lookup a = some ⟨.type "tuple",td,.seq #[.str x t0,.str y t1,.str z t2,.str p t3,.str q t4] tn,tsl⟩) (H : Hp) : SqT K H a [.str x,.str y,.str z,.str p,.str q]:=
 .inr ⟨_,_,_,h,rfl,rfl,(by show 5 <= sizeLine; decide),.cons ⟨_,rfl⟩ (.cons ⟨_,rfl⟩ (.cons ⟨_,rfl⟩ (.cons ⟨_,rfl⟩ (.cons ⟨_,rfl⟩ .nil))))⟩
section
variable {P : Program} {w : World} {K : PySem.W.Frag} {mg : Str -> Option Value} {base : Heap} {f : Addr} {fd : FuncData} {dV : Value} {TC TJ : Addr}
theorem wx (F : FunD K "shown" "shown" j8 dV f fd) (m : mg "shown" = some (.ref f)) (kp : PySem.W.keepIn K (.ref f) = true) (b : Binds K fd ["statement"] []) (bM : mg "COMPARING" = some (.ref TC)) (bR : mg "JOINING" = some (.ref TJ)) (sqC : ∀ H,SqT K H TC kindsC) (sqJ : ∀ H,SqT K H TJ kindsJ) (bA : DefOk P w K mg base "shown_sum" 2 ["added"] [] zB) (bz : DefOk P w K mg base "shown_place" 3 ["row_name","added"] [] rP) (bG : mg "str" = none) :
  ∀ d : Nat,FnOk P w K mg base CX0 (d + 4) f fd ["statement"] (rR d)
 | 0 => zg F bM bR sqC sqJ bA bz ⟨f,fd,[],m,kp,.nil,b,⟨(fun vs H Q E ⟨v,st,_,_,_,h,_⟩ => absurd h (Nat.not_lt_zero _)),(fun A outer s H args us vs Q E hr he hb hv ⟨v,st,_,_,_,h,_⟩ => absurd h (Nat.not_lt_zero _))⟩⟩ bG
 | d + 1 => zg F bM bR sqC sqJ bA bz ⟨f,fd,[],m,kp,.nil,b,(wx F m kp b bM bR sqC sqJ bA bz bG d).imp fun vs H Q E ⟨v,st,h1,h2,h3,h4,h5⟩ => ⟨v,st,h1,h2,h3,Nat.lt_succ_iff.mp h4,h5⟩⟩ bG
theorem zt (F : FunD K "_law_same" "_law_same" cS dV f fd) (m : mg "_law_same" = some (.ref f)) (kp : PySem.W.keepIn K (.ref f) = true) (b : Binds K fd ["_law_found","_law_due"] []) (aL : mg "isinstance" = none) (bG : mg "str" = none) (fS : mg "int" = none) (nW : mg "bool" = none) (c6 : mg "tuple" = none) (a9 : mg "len" = none) (uv : mg "zip" = none) :
  ∀ d : Nat,FnOk P w K mg base CX0 (d + 1) f fd ["_law_found","_law_due"] (ud d)
 | 0 => AZ F ⟨f,fd,[],m,kp,.nil,b,⟨(fun vs H Q E ⟨u,v,e,_,h,_⟩ => absurd h (Nat.not_lt_zero _)),(fun A outer s H args us vs Q E hr he hb hv ⟨u,v,e,_,h,_⟩ => absurd h (Nat.not_lt_zero _))⟩⟩ aL bG fS nW c6 a9 uv
 | d + 1 => AZ F ⟨f,fd,[],m,kp,.nil,b,(zt F m kp b aL bG fS nW c6 a9 uv d).imp fun vs H Q E ⟨u,v,e,h1,h2,h3,h4⟩ => ⟨u,v,h1,h3.le (Nat.lt_succ_iff.mp h2),h4⟩⟩ aL bG fS nW c6 a9 uv
variable {f2 f3 C TH : Addr} {fd2 fd3 : FuncData} {dV2 dV3 : Value}
theorem Dn (cl : Cls K C) (F : FunD K "statement" "Reader.statement" bg dV f fd) (F2 : FunD K "joined" "Reader.joined" bK dV2 f2 fd2) (F3 : FunD K "chosen" "Reader.chosen" bJ dV3 f3 fd3) (m : Meth K C "statement" f) (m2 : Meth K C "joined" f2) (m3 : Meth K C "chosen" f3) (b : Binds K fd ["self","deep"] []) (b2 : Binds K fd2 ["self","deep"] []) (b3 : Binds K fd3 ["self","kind","deep"] [])
  (aY : DefMe P w K mg base C "takes" 1 ["self","word"] (gd C)) (cq : DefMe P w K mg base C "need" 2 ["self","word"] (kb C)) (cM : DefMe P w K mg base C "run" 1 ["self","first","last"] (qy C)) (fU : DefMe P w K mg base C "name" 3 ["self"] (oP C)) (fm : DefMe P w K mg base C "compared" 6 ["self"] (ka C)) (dM : DefMe P w K mg base C "looked_up" 7 ["self","row"] (yp C)) (bR : mg "JOINING" = some (.ref TJ)) (gL : mg "CHOOSING" = some (.ref TH)) (sqJ : ∀ H,SqT K H TJ kindsJ) (sqH : ∀ H,SqT K H TH kindsH) :
  ∀ d : Nat,FnOk P w K mg base CX0 (2 * d + 9) f fd ["self","deep"] (uf C d):=by
 have step : ∀ d : Nat,DefMe P w K mg base C "statement" (2 * d + 7) ["self","deep"] (oU C d) -> FnOk P w K mg base CX0 (2 * d + 9) f fd ["self","deep"] (uf C d):=fun d G =>
  Ec F aY cM G ⟨cl,f2,fd2,m2,b2,BO F2 aY cq G bR sqJ⟩ ⟨cl,f3,fd3,m3,b3,BL F3 fU cq G⟩ fm dM gL sqH
 intro d
 induction d with
 | zero => exact step 0 ⟨cl,f,fd,m,b,⟨(fun vs H Q E ⟨x,z,st,m,i,r,_,h,_⟩ => absurd h (Nat.not_lt_zero _)),(fun A outer s H args us vs Q E hr he hb hv ⟨x,z,st,m,i,r,_,h,_⟩ => absurd h (Nat.not_lt_zero _))⟩⟩
 | succ d ih => exact step (d + 1) ⟨cl,f,fd,m,b,ih.imp fun vs H Q E ⟨x,z,st,m,i,r,h1,h2,h3⟩ => ⟨x,z,st,m,i,r,h1,Nat.lt_succ_iff.mp h2,h3⟩⟩
end
@[elab_as_elim] theorem len0 {motive : List Value -> Prop} {us : List Value} (hl : us.length = 0) (h : motive []) : motive us:=match us,hl with | [],_ => h
@[elab_as_elim] theorem mf {motive : List Value -> Prop} {us : List Value} (hl : us.length = 1) (h : ∀ a0,motive [a0]) : motive us:=match us,hl with | [a0],_ => h _
@[elab_as_elim] theorem mh {motive : List Value -> Prop} {us : List Value} (hl : us.length = 2) (h : ∀ a0 a1,motive [a0,a1]) : motive us:=match us,hl with | [a0,a1],_ => h _ _
@[elab_as_elim] theorem CH {motive : List Value -> Prop} {us : List Value} (hl : us.length = 3) (h : ∀ a0 a1 a2,motive [a0,a1,a2]) : motive us:=match us,hl with | [a0,a1,a2],_ => h _ _ _
@[elab_as_elim] theorem G3 {motive : List Value -> Prop} {us : List Value} (hl : us.length = 4) (h : ∀ a0 a1 a2 a3,motive [a0,a1,a2,a3]) : motive us:=match us,hl with | [a0,a1,a2,a3],_ => h _ _ _ _
@[elab_as_elim] theorem G4 {motive : List Value -> Prop} {us : List Value} (hl : us.length = 5) (h : ∀ a0 a1 a2 a3 a4,motive [a0,a1,a2,a3,a4]) : motive us:=match us,hl with | [a0,a1,a2,a3,a4],_ => h _ _ _ _ _
@[elab_as_elim] theorem G5 {motive : List Value -> Prop} {us : List Value} (hl : us.length = 6) (h : ∀ a0 a1 a2 a3 a4 a5,motive [a0,a1,a2,a3,a4,a5]) : motive us:=match us,hl with | [a0,a1,a2,a3,a4,a5],_ => h _ _ _ _ _ _
@[elab_as_elim] theorem G6 {motive : List Value -> Prop} {us : List Value} (hl : us.length = 7) (h : ∀ a0 a1 a2 a3 a4 a5 a6,motive [a0,a1,a2,a3,a4,a5,a6]) : motive us:=match us,hl with | [a0,a1,a2,a3,a4,a5,a6],_ => h _ _ _ _ _ _ _
theorem all_mk {l : PySem.W.OpenLaw} {w : World} {K : PySem.W.Frag} {h : Heap} {mg : Str -> Option Value} {fa : Addr} (X : K.In h) (G : h.Ns mainGlobals mg) (hfa : mg "law" = some (.ref fa))
  {xf kS cy df de jP kW iO jO pG iM bT dY eZ fV eY dg e7 dX cI cJ cx zW jM iL kQ kU kR nk nq jN gG nr jL jK gF kT Cr : Addr} {CO Ca xN wH mn lV pX o9 pW o8 vy uF xQ wK tw rY vx uE Af zK tu rX nG mP qZ qB tm rU vo uz sZ rT pY pd tp rV qY qA nH mQ nJ mR ml lU D0 DM vv uC tq rW xK wF xP wJ xM wG zc yD zd yE vw uD q9 qD ze yF vq uB vp uA q8 qC xO wI Fc B9 : Option Addr} {Dg yi mx qf qe vO yl t8 vN Am t6 nR rA tY vI tX qg tZ rz nU nV mw Et vL t5 yg yk yh zw zx vM rC zy vK vJ rB yj Fu : Array (Option Value)} {CN CC Co C9 yG Ck xG xn w5 x4 n8 wV mj me l7 mv fQ lZ pU pK pD qb i8 pA pT pJ pC qa i7 pw vn u7 uU vF mG uM xJ xq xa x8 oh wY sY sN sC tM kO sq vm u6 uS vE mF uL Ae zY zS Ah r9 zR sX sM sA tL kN sk nC nu m7 nM gB mY qV qO qJ rj ki qF sU sH su tI kK sh vg uV uN vz mz uG sT sG sr tH kJ sf pV pM pE qc i9 pB sV sI sx tJ kL si qU qN qI rh kh qE nD nv m9 nN gC mZ nF ny nc nO gD m6 mi ma l5 mq fP lY DZ DV DT Ek AE DS vj uY uQ vC mD uJ sW sJ sy tK kM sj xE xl wZ x2 n4 wR xI xp w9 x6 og wX xF xm w4 x3 n6 wU y9 yT yN zo qo yJ za yU yO zp qp yK vk uZ uR vD mE uK qX qQ qL rn km qH zb yV yP zq qq yL vi uX uP vB mC uI vh uW uO vA mB uH qW qP qK rk kj qG xH xo w6 x5 n9 wW Fb CB Cn C8 zP Cj : Value}
  (wD : PySem.W.nsIn K mainGlobals "shown" = some (some (.ref xf))) (xt : K.lookup xf = some ⟨CN,CO,.func (PySem.W.fnOf "shown" "shown" (aD j8) (aC j8) (ai j8) .none CC Co C9 Ca yG Ck),Dg⟩) (wN : PySem.W.codeIn K yG "shown" = true) (oj : PySem.W.keepIn K (.ref xf) = true)
  (kz : PySem.W.nsIn K mainGlobals "_law_same" = some (some (.ref kS))) (lg : K.lookup kS = some ⟨xG,xN,.func (PySem.W.fnOf "_law_same" "_law_same" (aD cS) (aC cS) (ai cS) .none xn w5 x4 wH n8 wV),yi⟩) (kF : PySem.W.codeIn K n8 "_law_same" = true) (fw : PySem.W.keepIn K (.ref kS) = true)
  (jA : PySem.W.nsIn K mainGlobals "shown_part" = some (some (.ref jP))) (j5 : K.lookup jP = some ⟨vn,vy,.func (PySem.W.fnOf "shown_part" "shown_part" (aD c5) (aC c5) (ai c5) .none u7 uU vF uF mG uM),vO⟩) (jH : PySem.W.codeIn K mG "shown_part" = true) (gc : PySem.W.keepIn K (.ref jP) = true)
  (kC : PySem.W.nsIn K mainGlobals "shown_sum" = some (some (.ref kW))) (lq : K.lookup kW = some ⟨xJ,xQ,.func (PySem.W.fnOf "shown_sum" "shown_sum" (aD cT) (aC cT) (ai cT) .none xq xa x8 wK oh wY),yl⟩) (kI : PySem.W.codeIn K oh "shown_sum" = true) (hZ : PySem.W.keepIn K (.ref kW) = true)
  (iB : PySem.W.nsIn K mainGlobals "shown_place" = some (some (.ref iO))) (iY : K.lookup iO = some ⟨sY,tw,.func (PySem.W.fnOf "shown_place" "shown_place" (aD cG) (aC cG) (ai cG) .none sN sC tM rY kO sq),t8⟩) (iK : PySem.W.codeIn K kO "shown_place" = true) (fh : PySem.W.keepIn K (.ref iO) = true)
  (jz : PySem.W.nsIn K mainGlobals "is_text_of" = some (some (.ref jO))) (jZ : K.lookup jO = some ⟨vm,vx,.func (PySem.W.fnOf "is_text_of" "is_text_of" (aD cB) (aC cB) (ai cB) .none u6 uS vE uE mF uL),vN⟩) (jG : PySem.W.codeIn K mF "is_text_of" = true) (gb : PySem.W.keepIn K (.ref jO) = true)
  (o6 : PySem.W.nsIn K mainGlobals "is_name" = some (some (.ref pG))) (pO : K.lookup pG = some ⟨Ae,Af,.func (PySem.W.fnOf "is_name" "is_name" (aD gi) (aC gi) (ai gi) .none zY zS Ah zK r9 zR),Am⟩) (ph : PySem.W.codeIn K r9 "is_name" = true) (lJ : PySem.W.keepIn K (.ref pG) = true)
  (iA : PySem.W.nsIn K mainGlobals "is_row_name" = some (some (.ref iM))) (iX : K.lookup iM = some ⟨sX,tu,.func (PySem.W.fnOf "is_row_name" "is_row_name" (aD cF) (aC cF) (ai cF) .none sM sA tL rX kN sk),t6⟩) (iJ : PySem.W.codeIn K kN "is_row_name" = true) (fg : PySem.W.keepIn K (.ref iM) = true)
  (zJ : PySem.W.nsIn K mainGlobals "read" = some (some (.ref zW))) (z5 : K.lookup zW = some ⟨DZ,D0,.func (PySem.W.fnOf "read" "read" (aD qd) (aC qd) (ai qd) .none DV DT Ek DM AE DS),Et⟩) (zN : PySem.W.codeIn K AE "read" = true) (xr : PySem.W.keepIn K (.ref zW) = true)
  (jx : PySem.W.nsIn K mainGlobals "_law_mixed" = some (some (.ref jM))) (jX : K.lookup jM = some ⟨vj,vv,.func (PySem.W.fnOf "_law_mixed" "_law_mixed" (aD cY) (aC cY) (ai cY) .none uY uQ vC uC mD uJ),vL⟩) (jE : PySem.W.codeIn K mD "_law_mixed" = true) (fZ : PySem.W.keepIn K (.ref jM) = true)
  (iz : PySem.W.nsIn K mainGlobals "_law_spread" = some (some (.ref iL))) (iW : K.lookup iL = some ⟨sW,tq,.func (PySem.W.fnOf "_law_spread" "_law_spread" (aD bZ) (aC bZ) (ai bZ) .none sJ sy tK rW kM sj),t5⟩) (iI : PySem.W.codeIn K kM "_law_spread" = true) (fe : PySem.W.keepIn K (.ref iL) = true)
  (kv : PySem.W.nsIn K mainGlobals "_law_draw" = some (some (.ref kQ))) (k8 : K.lookup kQ = some ⟨xE,xK,.func (PySem.W.fnOf "_law_draw" "_law_draw" (aD dF) (aC dF) (ai dF) .none xl wZ x2 wF n4 wR),yg⟩) (kD : PySem.W.codeIn K n4 "_law_draw" = true) (g9 : PySem.W.keepIn K (.ref kQ) = true)
  (kB : PySem.W.nsIn K mainGlobals "_law_word" = some (some (.ref kU))) (lj : K.lookup kU = some ⟨xI,xP,.func (PySem.W.fnOf "_law_word" "_law_word" (aD dI) (aC dI) (ai dI) .none xp w9 x6 wJ og wX),yk⟩) (kH : PySem.W.codeIn K og "_law_word" = true) (hV : PySem.W.keepIn K (.ref kU) = true)
  (kx : PySem.W.nsIn K mainGlobals "_law_name" = some (some (.ref kR))) (k9 : K.lookup kR = some ⟨xF,xM,.func (PySem.W.fnOf "_law_name" "_law_name" (aD dG) (aC dG) (ai dG) .none xm w4 x3 wG n6 wU),yh⟩) (kE : PySem.W.codeIn K n6 "_law_name" = true) (hG : PySem.W.keepIn K (.ref kR) = true)
  (mM : PySem.W.nsIn K mainGlobals "_law_row" = some (some (.ref nk))) (nz : K.lookup nk = some ⟨y9,zc,.func (PySem.W.fnOf "_law_row" "_law_row" (aD eS) (aC eS) (ai eS) .none yT yN zo yD qo yJ),zw⟩) (mT : PySem.W.codeIn K qo "_law_row" = true) (jR : PySem.W.keepIn K (.ref nk) = true)
  (mN : PySem.W.nsIn K mainGlobals "_law_sum" = some (some (.ref nq))) (nA : K.lookup nq = some ⟨za,zd,.func (PySem.W.fnOf "_law_sum" "_law_sum" (aD eU) (aC eU) (ai eU) .none yU yO zp yE qp yK),zx⟩) (mU : PySem.W.codeIn K qp "_law_sum" = true) (jS : PySem.W.keepIn K (.ref nq) = true)
  (jy : PySem.W.nsIn K mainGlobals "_law_plain" = some (some (.ref jN))) (jY : K.lookup jN = some ⟨vk,vw,.func (PySem.W.fnOf "_law_plain" "_law_plain" (aD cZ) (aC cZ) (ai cZ) .none uZ uR vD uD mE uK),vM⟩) (jF : PySem.W.codeIn K mE "_law_plain" = true) (f9 : PySem.W.keepIn K (.ref jN) = true)
  (gs : PySem.W.nsIn K mainGlobals "_law_wrapped" = some (some (.ref gG))) (gQ : K.lookup gG = some ⟨qX,q9,.func (PySem.W.fnOf "_law_wrapped" "_law_wrapped" (aD bQ) (aC bQ) (ai bQ) .none qQ qL rn qD km qH),rC⟩) (gz : PySem.W.codeIn K km "_law_wrapped" = true) (ee : PySem.W.keepIn K (.ref gG) = true)
  (mO : PySem.W.nsIn K mainGlobals "_law_two" = some (some (.ref nr))) (nB : K.lookup nr = some ⟨zb,ze,.func (PySem.W.fnOf "_law_two" "_law_two" (aD eV) (aC eV) (ai eV) .none yV yP zq yF qq yL),zy⟩) (mV : PySem.W.codeIn K qq "_law_two" = true) (jT : PySem.W.keepIn K (.ref nr) = true)
  (jw : PySem.W.nsIn K mainGlobals "_law_items" = some (some (.ref jL))) (jW : K.lookup jL = some ⟨vi,vq,.func (PySem.W.fnOf "_law_items" "_law_items" (aD bV) (aC bV) (ai bV) .none uX uP vB uB mC uI),vK⟩) (jD : PySem.W.codeIn K mC "_law_items" = true) (fY : PySem.W.keepIn K (.ref jL) = true)
  (jv : PySem.W.nsIn K mainGlobals "_law_built" = some (some (.ref jK))) (jV : K.lookup jK = some ⟨vh,vp,.func (PySem.W.fnOf "_law_built" "_law_built" (aD cX) (aC cX) (ai cX) .none uW uO vA uA mB uH),vJ⟩) (jC : PySem.W.codeIn K mB "_law_built" = true) (fX : PySem.W.keepIn K (.ref jK) = true)
  (gr : PySem.W.nsIn K mainGlobals "_law_by_hand" = some (some (.ref gF))) (gP : K.lookup gF = some ⟨qW,q8,.func (PySem.W.fnOf "_law_by_hand" "_law_by_hand" (aD cm) (aC cm) (ai cm) .none qP qK rk qC kj qG),rB⟩) (gy : PySem.W.codeIn K kj "_law_by_hand" = true) (d9 : PySem.W.keepIn K (.ref gF) = true)
  (kA : PySem.W.nsIn K mainGlobals "_law_told" = some (some (.ref kT))) (lh : K.lookup kT = some ⟨xH,xO,.func (PySem.W.fnOf "_law_told" "_law_told" (aD dH) (aC dH) (ai dH) .none xo w6 x5 wI n9 wW),yj⟩) (kG : PySem.W.codeIn K n9 "_law_told" = true) (hJ : PySem.W.keepIn K (.ref kT) = true)
  (AB : PySem.W.nsIn K mainGlobals "law" = some (some (.ref Cr))) (CF : K.lookup Cr = some ⟨Fb,Fc,.func (PySem.W.fnOf "law" "law" (aD oH) (aC oH) (ai oH) .none CB Cn C8 B9 zP Cj),Fu⟩) (Cd : PySem.W.codeIn K zP "law" = true) (CD : PySem.W.keepIn K (.ref Cr) = true)
  (Dy : PySem.W.nsIn K mainGlobals "len" = some none)
  (yz : PySem.W.nsIn K mainGlobals "range" = some none)
  (yA : PySem.W.nsIn K mainGlobals "tuple" = some none)
  (Ay : PySem.W.nsIn K mainGlobals "list" = some none)
  (kg : PySem.W.nsIn K mainGlobals "isinstance" = some none)
  (Dx : PySem.W.nsIn K mainGlobals "int" = some none)
  (y_bool : PySem.W.nsIn K mainGlobals "bool" = some none)
  (DC : PySem.W.nsIn K mainGlobals "str" = some none)
  (ur : PySem.W.nsIn K mainGlobals "sorted" = some none)
  (DB : PySem.W.nsIn K mainGlobals "set" = some none)
  (Dz : PySem.W.nsIn K mainGlobals "max" = some none)
  (DA : PySem.W.nsIn K mainGlobals "min" = some none)
  (DD : PySem.W.nsIn K mainGlobals "sum" = some none)
  (DE : PySem.W.nsIn K mainGlobals "zip" = some none)
  (Dw : PySem.W.nsIn K mainGlobals "all" = some none)
  (uq : PySem.W.nsIn K mainGlobals "divmod" = some none)
  {tkc_MOST_LONG : Tok} (lI : PySem.W.nsIn K mainGlobals "MOST_LONG" = some (some (.int 6 tkc_MOST_LONG)))
  {tkc_MOST_LETTERS : Tok} (gY : PySem.W.nsIn K mainGlobals "MOST_LETTERS" = some (some (.int 1000 tkc_MOST_LETTERS)))
  {tkc_MOST_DEEP : Tok} (lH : PySem.W.nsIn K mainGlobals "MOST_DEEP" = some (some (.int 20 tkc_MOST_DEEP)))
  {tkc_MOST_PARTS : Tok} (ke : PySem.W.nsIn K mainGlobals "MOST_PARTS" = some (some (.int 8 tkc_MOST_PARTS)))
  {tkc_MOST_FACTOR : Tok} (i4 : PySem.W.nsIn K mainGlobals "MOST_FACTOR" = some (some (.int 20 tkc_MOST_FACTOR)))
  {tkc_MOST_NUMBER : Tok} (i5 : PySem.W.nsIn K mainGlobals "MOST_NUMBER" = some (some (.int 999999 tkc_MOST_NUMBER)))
  {qm : Addr} (jI : PySem.W.nsIn K mainGlobals "COMPARING" = some (some (.ref qm)))
  {vS : Addr} (mW : PySem.W.nsIn K mainGlobals "JOINING" = some (some (.ref vS)))
  {rS : Addr} (kP : PySem.W.nsIn K mainGlobals "CHOOSING" = some (some (.ref rS)))
  {Az : Addr} (sd : PySem.W.nsIn K mainGlobals "WORDS" = some (some (.ref Az)))
  {ax : Addr} (pq : PySem.W.nsIn K mainGlobals "Reader" = some (some (.ref ax)))
  (cv : PySem.W.findIn K (.ref ax) "statement" = some (some (.ref cy))) (dB : K.lookup cy = some ⟨mj,mn,.func (PySem.W.fnOf "statement" "Reader.statement" (aD bg) (aC bg) (ai bg) .none me l7 mv lV fQ lZ),mx⟩) (dv : PySem.W.codeIn K fQ "Reader.statement" = true) (bP : PySem.W.keepIn K (.ref cy) = true)
  (fB : PySem.W.findIn K (.ref ax) "joined" = some (some (.ref df))) (fN : K.lookup df = some ⟨pU,pX,.func (PySem.W.fnOf "joined" "Reader.joined" (aD bK) (aC bK) (ai bK) .none pK pD qb o9 i8 pA),qf⟩) (fH : PySem.W.codeIn K i8 "Reader.joined" = true) (di : PySem.W.keepIn K (.ref df) = true)
  (fA : PySem.W.findIn K (.ref ax) "chosen" = some (some (.ref de))) (fM : K.lookup de = some ⟨pT,pW,.func (PySem.W.fnOf "chosen" "Reader.chosen" (aD bJ) (aC bJ) (ai bJ) .none pJ pC qa o8 i7 pw),qe⟩) (fG : PySem.W.codeIn K i7 "Reader.chosen" = true) (dh : PySem.W.keepIn K (.ref de) = true)
  (dP : PySem.W.findIn K (.ref ax) "__init__" = some (some (.ref bT))) (eh : K.lookup bT = some ⟨nC,nG,.func (PySem.W.fnOf "__init__" "Reader.__init__" (aD bD) (aC bD) (ai bD) .none nu m7 nM mP gB mY),nR⟩) (dS : PySem.W.codeIn K gB "Reader.__init__" = true) (dZ : PySem.W.keepIn K (.ref bT) = true)
  (gq : PySem.W.findIn K (.ref ax) "takes" = some (some (.ref dY))) (gO : K.lookup dY = some ⟨qV,qZ,.func (PySem.W.fnOf "takes" "Reader.takes" (aD ck) (aC ck) (ai ck) .none qO qJ rj qB ki qF),rA⟩) (gx : PySem.W.codeIn K ki "Reader.takes" = true) (d8 : PySem.W.keepIn K (.ref dY) = true)
  (iw : PySem.W.findIn K (.ref ax) "need" = some (some (.ref eZ))) (iU : K.lookup eZ = some ⟨sU,tm,.func (PySem.W.fnOf "need" "Reader.need" (aD cD) (aC cD) (ai cD) .none sH su tI rU kK sh),tY⟩) (iG : PySem.W.codeIn K kK "Reader.need" = true) (e9 : PySem.W.keepIn K (.ref eZ) = true)
  (ju : PySem.W.findIn K (.ref ax) "run" = some (some (.ref fV))) (jU : K.lookup fV = some ⟨vg,vo,.func (PySem.W.fnOf "run" "Reader.run" (aD cW) (aC cW) (ai cW) .none uV uN vz uz mz uG),vI⟩) (jB : PySem.W.codeIn K mz "Reader.run" = true) (fW : PySem.W.keepIn K (.ref fV) = true)
  (iu : PySem.W.findIn K (.ref ax) "name" = some (some (.ref eY))) (iT : K.lookup eY = some ⟨sT,sZ,.func (PySem.W.fnOf "name" "Reader.name" (aD cC) (aC cC) (ai cC) .none sG sr tH rT kJ sf),tX⟩) (iE : PySem.W.codeIn K kJ "Reader.name" = true) (e8 : PySem.W.keepIn K (.ref eY) = true)
  (fE : PySem.W.findIn K (.ref ax) "number" = some (some (.ref dg))) (fO : K.lookup dg = some ⟨pV,pY,.func (PySem.W.fnOf "number" "Reader.number" (aD bS) (aC bS) (ai bS) .none pM pE qc pd i9 pB),qg⟩) (fI : PySem.W.codeIn K i9 "Reader.number" = true) (dj : PySem.W.keepIn K (.ref dg) = true)
  (iy : PySem.W.findIn K (.ref ax) "part" = some (some (.ref e7))) (iV : K.lookup e7 = some ⟨sV,tp,.func (PySem.W.fnOf "part" "Reader.part" (aD cE) (aC cE) (ai cE) .none sI sx tJ rV kL si),tZ⟩) (iH : PySem.W.codeIn K kL "Reader.part" = true) (fb : PySem.W.keepIn K (.ref e7) = true)
  (gp : PySem.W.findIn K (.ref ax) "added" = some (some (.ref dX))) (gN : K.lookup dX = some ⟨qU,qY,.func (PySem.W.fnOf "added" "Reader.added" (aD cj) (aC cj) (ai cj) .none qN qI rh qA kh qE),rz⟩) (gv : PySem.W.codeIn K kh "Reader.added" = true) (d6 : PySem.W.keepIn K (.ref dX) = true)
  (dQ : PySem.W.findIn K (.ref ax) "compared" = some (some (.ref cI))) (el : K.lookup cI = some ⟨nD,nH,.func (PySem.W.fnOf "compared" "Reader.compared" (aD bE) (aC bE) (ai bE) .none nv m9 nN mQ gC mZ),nU⟩) (dU : PySem.W.codeIn K gC "Reader.compared" = true) (cK : PySem.W.keepIn K (.ref cI) = true)
  (dR : PySem.W.findIn K (.ref ax) "place_of" = some (some (.ref cJ))) (eA : K.lookup cJ = some ⟨nF,nJ,.func (PySem.W.fnOf "place_of" "Reader.place_of" (aD bF) (aC bF) (ai bF) .none ny nc nO mR gD m6),nV⟩) (dW : PySem.W.codeIn K gD "Reader.place_of" = true) (cL : PySem.W.keepIn K (.ref cJ) = true)
  (dq : PySem.W.findIn K (.ref ax) "looked_up" = some (some (.ref cx))) (dA : K.lookup cx = some ⟨mi,ml,.func (PySem.W.fnOf "looked_up" "Reader.looked_up" (aD bw) (aC bw) (ai bw) .none ma l5 mq lU fP lY),mw⟩) (du : PySem.W.codeIn K fP "Reader.looked_up" = true) (cz : PySem.W.keepIn K (.ref cx) = true)
  {td_COMPARING : Option Addr} {tn_COMPARING : Nat} {tsl_COMPARING : Array (Option Value)} {tk0_COMPARING tk1_COMPARING tk2_COMPARING : Tok} (tp_COMPARING : K.lookup qm = some ⟨.type "tuple",td_COMPARING,.seq #[.str "=" tk0_COMPARING,.str "<=" tk1_COMPARING,.str "<" tk2_COMPARING] tn_COMPARING,tsl_COMPARING⟩)
  {td_JOINING : Option Addr} {tn_JOINING : Nat} {tsl_JOINING : Array (Option Value)} {tk0_JOINING tk1_JOINING : Tok} (tp_JOINING : K.lookup vS = some ⟨.type "tuple",td_JOINING,.seq #[.str "and" tk0_JOINING,.str "or" tk1_JOINING] tn_JOINING,tsl_JOINING⟩)
  {td_CHOOSING : Option Addr} {tn_CHOOSING : Nat} {tsl_CHOOSING : Array (Option Value)} {tk0_CHOOSING tk1_CHOOSING : Tok} (tp_CHOOSING : K.lookup rS = some ⟨.type "tuple",td_CHOOSING,.seq #[.str "some" tk0_CHOOSING,.str "all" tk1_CHOOSING] tn_CHOOSING,tsl_CHOOSING⟩)
  {td_WORDS : Option Addr} {tn_WORDS : Nat} {tsl_WORDS : Array (Option Value)} {tk0_WORDS tk1_WORDS tk2_WORDS tk3_WORDS tk4_WORDS : Tok} (tp_WORDS : K.lookup Az = some ⟨.type "tuple",td_WORDS,.seq #[.str "and" tk0_WORDS,.str "or" tk1_WORDS,.str "not" tk2_WORDS,.str "some" tk3_WORDS,.str "all" tk4_WORDS] tn_WORDS,tsl_WORDS⟩)
  (d_pg : PySem.W.plainGet K ax Str.empty = true)
  (d_hd : PySem.W.hasDictIn K ax = true)
  (d_po : PySem.W.plainOver K ax = true)
  (d_sa : PySem.W.findIn K (.ref ax) "__setattr__" = some (some (.builtin "object.__setattr__")))
  (d_n1 : PySem.W.findIn K (.ref ax) "text" = some none)
  (d_n2 : PySem.W.findIn K (.ref ax) "at" = some none)
  (d_mk : PySem.W.makesIn K ax = true)
  (d_fi : PySem.W.isFn K (.ref bT) = true)
  (d_kp : PySem.W.keepIn K (.ref ax) = true)
  (fK : PySem.W.isFn K (.ref dY) = true)
  (gI : PySem.W.isFn K (.ref eZ) = true)
  (iP : PySem.W.isFn K (.ref fV) = true)
  (cb : PySem.W.isFn K (.ref cy) = true)
  (eK : PySem.W.isFn K (.ref df) = true)
  (eJ : PySem.W.isFn K (.ref de) = true)
  (dy : PySem.W.isFn K (.ref cI) = true)
  (c7 : PySem.W.isFn K (.ref cx) = true)
  (dz : PySem.W.isFn K (.ref cJ) = true)
  (fJ : PySem.W.isFn K (.ref dX) = true)
  (gJ : PySem.W.isFn K (.ref e7) = true)
  (eN : PySem.W.isFn K (.ref dg) = true)
  (gH : PySem.W.isFn K (.ref eY) = true) :
  ∃ fd : FuncData,(∀ (s : Shared) (v : Value),BindsTo s fd ⟨[v],[]⟩ [("_law_script",v)]) /\ ∀ base : Heap,K.In base -> base.Ns mainGlobals mg -> FnOk l.prog w K mg base CX0 52 fa fd ["_law_script"] (A7 K):=by
 have e:=hfa.symm.trans (PySem.W.mg_of X G AB)
 cases e
 have F_shown:=aJ (st:=j8) xt wN oj
 have b_shown:=F_shown.binds (ps:=["statement"]) fun _ _ _ _ _ _ us hl => mf hl fun _ => rfl
 have AS:=PySem.W.mg_of X G wD
 have F__law_same:=aJ (st:=cS) lg kF fw
 have b__law_same:=F__law_same.binds (ps:=["_law_found","_law_due"]) fun _ _ _ _ _ _ us hl => mh hl fun _ _ => rfl
 have qv:=PySem.W.mg_of X G kz
 have F_Reader_statement:=aJ (st:=bg) dB dv bP
 have b_Reader_statement:=F_Reader_statement.binds (ps:=["self","deep"]) fun _ _ _ _ _ _ us hl => mh hl fun _ _ => rfl
 have F_Reader_joined:=aJ (st:=bK) fN fH di
 have b_Reader_joined:=F_Reader_joined.binds (ps:=["self","deep"]) fun _ _ _ _ _ _ us hl => mh hl fun _ _ => rfl
 have F_Reader_chosen:=aJ (st:=bJ) fM fG dh
 have b_Reader_chosen:=F_Reader_chosen.binds (ps:=["self","kind","deep"]) fun _ _ _ _ _ _ us hl => CH hl fun _ _ _ => rfl
 have F_shown_part:=aJ (st:=c5) j5 jH gc
 have b_shown_part:=F_shown_part.binds (ps:=["part"]) fun _ _ _ _ _ _ us hl => mf hl fun _ => rfl
 have xC:=PySem.W.mg_of X G jA
 have F_shown_sum:=aJ (st:=cT) lq kI hZ
 have b_shown_sum:=F_shown_sum.binds (ps:=["added"]) fun _ _ _ _ _ _ us hl => mf hl fun _ => rfl
 have y6:=PySem.W.mg_of X G kC
 have F_shown_place:=aJ (st:=cG) iY iK fh
 have b_shown_place:=F_shown_place.binds (ps:=["row_name","added"]) fun _ _ _ _ _ _ us hl => mh hl fun _ _ => rfl
 have vf:=PySem.W.mg_of X G iB
 have F_is_text_of:=aJ (st:=cB) jZ jG gb
 have b_is_text_of:=F_is_text_of.binds (ps:=["thing","first","last"]) fun _ _ _ _ _ _ us hl => CH hl fun _ _ _ => rfl
 have xB:=PySem.W.mg_of X G jz
 have F_is_name:=aJ (st:=gi) pO ph lJ
 have b_is_name:=F_is_name.binds (ps:=["thing"]) fun _ _ _ _ _ _ us hl => mf hl fun _ => rfl
 have BH:=PySem.W.mg_of X G o6
 have F_is_row_name:=aJ (st:=cF) iX iJ fg
 have b_is_row_name:=F_is_row_name.binds (ps:=["thing"]) fun _ _ _ _ _ _ us hl => mf hl fun _ => rfl
 have ve:=PySem.W.mg_of X G iA
 have F_Reader___init__:=aJ (st:=bD) eh dS dZ
 have b_Reader___init__:=F_Reader___init__.binds (ps:=["self","text"]) fun _ _ _ _ _ _ us hl => mh hl fun _ _ => rfl
 have F_Reader_takes:=aJ (st:=ck) gO gx d8
 have b_Reader_takes:=F_Reader_takes.binds (ps:=["self","word"]) fun _ _ _ _ _ _ us hl => mh hl fun _ _ => rfl
 have F_Reader_need:=aJ (st:=cD) iU iG e9
 have b_Reader_need:=F_Reader_need.binds (ps:=["self","word"]) fun _ _ _ _ _ _ us hl => mh hl fun _ _ => rfl
 have F_Reader_run:=aJ (st:=cW) jU jB fW
 have b_Reader_run:=F_Reader_run.binds (ps:=["self","first","last"]) fun _ _ _ _ _ _ us hl => CH hl fun _ _ _ => rfl
 have F_Reader_name:=aJ (st:=cC) iT iE e8
 have b_Reader_name:=F_Reader_name.binds (ps:=["self"]) fun _ _ _ _ _ _ us hl => mf hl fun _ => rfl
 have F_Reader_number:=aJ (st:=bS) fO fI dj
 have b_Reader_number:=F_Reader_number.binds (ps:=["self"]) fun _ _ _ _ _ _ us hl => mf hl fun _ => rfl
 have F_Reader_part:=aJ (st:=cE) iV iH fb
 have b_Reader_part:=F_Reader_part.binds (ps:=["self"]) fun _ _ _ _ _ _ us hl => mf hl fun _ => rfl
 have F_Reader_added:=aJ (st:=cj) gN gv d6
 have b_Reader_added:=F_Reader_added.binds (ps:=["self"]) fun _ _ _ _ _ _ us hl => mf hl fun _ => rfl
 have F_Reader_compared:=aJ (st:=bE) el dU cK
 have b_Reader_compared:=F_Reader_compared.binds (ps:=["self"]) fun _ _ _ _ _ _ us hl => mf hl fun _ => rfl
 have F_Reader_place_of:=aJ (st:=bF) eA dW cL
 have b_Reader_place_of:=F_Reader_place_of.binds (ps:=["self","row"]) fun _ _ _ _ _ _ us hl => mh hl fun _ _ => rfl
 have F_Reader_looked_up:=aJ (st:=bw) dA du cz
 have b_Reader_looked_up:=F_Reader_looked_up.binds (ps:=["self","row"]) fun _ _ _ _ _ _ us hl => mh hl fun _ _ => rfl
 have F_read:=aJ (st:=qd) z5 zN xr
 have b_read:=F_read.binds (ps:=["text"]) fun _ _ _ _ _ _ us hl => mf hl fun _ => rfl
 have E7:=PySem.W.mg_of X G zJ
 have F__law_mixed:=aJ (st:=cY) jX jE fZ
 have b__law_mixed:=F__law_mixed.binds (ps:=["_law_script","_law_k"]) fun _ _ _ _ _ _ us hl => mh hl fun _ _ => rfl
 have xy:=PySem.W.mg_of X G jx
 have F__law_spread:=aJ (st:=bZ) iW iI fe
 have b__law_spread:=F__law_spread.binds (ps:=["_law_script"]) fun _ _ _ _ _ _ us hl => mf hl fun _ => rfl
 have vd:=PySem.W.mg_of X G iz
 have F__law_draw:=aJ (st:=dF) k8 kD g9
 have b__law_draw:=F__law_draw.binds (ps:=["_law_spread_here","_law_k"]) fun _ _ _ _ _ _ us hl => mh hl fun _ _ => rfl
 have yY:=PySem.W.mg_of X G kv
 have F__law_word:=aJ (st:=dI) lj kH hV
 have b__law_word:=F__law_word.binds (ps:=["_law_number","_law_letters"]) fun _ _ _ _ _ _ us hl => mh hl fun _ _ => rfl
 have y4:=PySem.W.mg_of X G kB
 have F__law_name:=aJ (st:=dG) k9 kE hG
 have b__law_name:=F__law_name.binds (ps:=["_law_spread_here","_law_number"]) fun _ _ _ _ _ _ us hl => mh hl fun _ _ => rfl
 have yZ:=PySem.W.mg_of X G kx
 have F__law_row:=aJ (st:=eS) nz mT jR
 have b__law_row:=F__law_row.binds (ps:=["_law_spread_here","_law_number"]) fun _ _ _ _ _ _ us hl => mh hl fun _ _ => rfl
 have z8:=PySem.W.mg_of X G mM
 have F__law_sum:=aJ (st:=eU) nA mU jS
 have b__law_sum:=F__law_sum.binds (ps:=["_law_spread_here","_law_at"]) fun _ _ _ _ _ _ us hl => mh hl fun _ _ => rfl
 have z9:=PySem.W.mg_of X G mN
 have F__law_plain:=aJ (st:=cZ) jY jF f9
 have b__law_plain:=F__law_plain.binds (ps:=["_law_spread_here","_law_at"]) fun _ _ _ _ _ _ us hl => mh hl fun _ _ => rfl
 have xA:=PySem.W.mg_of X G jy
 have F__law_wrapped:=aJ (st:=bQ) gQ gz ee
 have b__law_wrapped:=F__law_wrapped.binds (ps:=["_law_spread_here","_law_item","_law_number"]) fun _ _ _ _ _ _ us hl => CH hl fun _ _ _ => rfl
 have sQ:=PySem.W.mg_of X G gs
 have F__law_two:=aJ (st:=eV) nB mV jT
 have b__law_two:=F__law_two.binds (ps:=["_law_one","_law_other","_law_number"]) fun _ _ _ _ _ _ us hl => CH hl fun _ _ _ => rfl
 have Aa:=PySem.W.mg_of X G mO
 have F__law_items:=aJ (st:=bV) jW jD fY
 have b__law_items:=F__law_items.binds (ps:=["_law_spread_here"]) fun _ _ _ _ _ _ us hl => mf hl fun _ => rfl
 have xx:=PySem.W.mg_of X G jw
 have F__law_built:=aJ (st:=cX) jV jC fX
 have b__law_built:=F__law_built.binds (ps:=["_law_spread_here"]) fun _ _ _ _ _ _ us hl => mf hl fun _ => rfl
 have xw:=PySem.W.mg_of X G jv
 have F__law_by_hand:=aJ (st:=cm) gP gy d9
 have b__law_by_hand:=F__law_by_hand.binds (ps:=[]) fun _ _ _ _ _ _ us hl => len0 hl rfl
 have sP:=PySem.W.mg_of X G gr
 have F__law_told:=aJ (st:=dH) lh kG hJ
 have b__law_told:=F__law_told.binds (ps:=["_law_item"]) fun _ _ _ _ _ _ us hl => mf hl fun _ => rfl
 have y3:=PySem.W.mg_of X G kA
 have F_law:=aJ (st:=oH) CF Cd CD
 have b_law:=F_law.binds (ps:=["_law_script"]) fun _ _ _ _ _ _ us hl => mf hl fun _ => rfl
 have G2:=PySem.W.mg_of X G AB
 have a9:=PySem.W.mg_none_of X G Dy
 have fj:=PySem.W.mg_none_of X G yz
 have c6:=PySem.W.mg_none_of X G yA
 have G0:=PySem.W.mg_none_of X G Ay
 have aL:=PySem.W.mg_none_of X G kg
 have fS:=PySem.W.mg_none_of X G Dx
 have nW:=PySem.W.mg_none_of X G y_bool
 have bG:=PySem.W.mg_none_of X G DC
 have eF:=PySem.W.mg_none_of X G ur
 have oX:=PySem.W.mg_none_of X G DB
 have wC:=PySem.W.mg_none_of X G Dz
 have DG:=PySem.W.mg_none_of X G DA
 have DH:=PySem.W.mg_none_of X G DD
 have uv:=PySem.W.mg_none_of X G DE
 have DF:=PySem.W.mg_none_of X G Dw
 have uu:=PySem.W.mg_none_of X G uq
 have kZ:=PySem.W.mg_of X G lI
 have gM:=PySem.W.mg_of X G gY
 have kY:=PySem.W.mg_of X G lH
 have jQ:=PySem.W.mg_of X G ke
 have iQ:=PySem.W.mg_of X G i4
 have iR:=PySem.W.mg_of X G i5
 have bM:=PySem.W.mg_of X G jI
 have bR:=PySem.W.mg_of X G mW
 have gL:=PySem.W.mg_of X G kP
 have xh:=PySem.W.mg_of X G sd
 have Cw:=PySem.W.mg_of X G pq
 refine ⟨PySem.W.fnOf "law" "law" (aD oH) (aC oH) (ai oH) .none CB Cn C8 B9 zP Cj,fun s v => .of_eq rfl,fun base _ _ => ?_⟩
 have bp:=(show Cls K ax from ⟨d_pg,d_hd,d_po,d_sa⟩)
 have BI:=(show Mk K ax bT from ⟨d_mk,dP,d_fi,d_kp⟩)
 have rc:=(show RCls K ax from ⟨bp,d_n1,d_n2⟩)
 have SQC:=(Fw tp_COMPARING)
 have SQJ:=(Dm tp_JOINING)
 have SQH:=(Dm tp_CHOOSING)
 have SQW:=(Fx tp_WORDS)
 have jr : DefOk l.prog w K mg base "shown_part" 1 ["part"] [] (Ap):=⟨_,_,[],xC,gc,.nil,b_shown_part,D9 F_shown_part bG⟩
 have bA : DefOk l.prog w K mg base "shown_sum" 2 ["added"] [] (zB):=⟨_,_,[],y6,hZ,.nil,b_shown_sum,Ff F_shown_sum jr⟩
 have bz : DefOk l.prog w K mg base "shown_place" 3 ["row_name","added"] [] (rP):=⟨_,_,[],vf,fh,.nil,b_shown_place,CZ F_shown_place bA⟩
 have GSH:=(wx F_shown AS oj b_shown bM bR SQC SQJ bA bz bG 20)
 have g0:=(show DefOk l.prog w K mg base "shown" 24 ["statement"] [] (rR 20) from ⟨_,_,[],AS,oj,.nil,b_shown,GSH⟩)
 have cU : DefOk l.prog w K mg base "is_text_of" 1 ["thing","first","last"] [] (oV):=⟨_,_,[],xB,gb,.nil,b_is_text_of,BS F_is_text_of aL bG a9 DF kZ⟩
 have oZ : DefOk l.prog w K mg base "is_name" 2 ["thing"] [] (ua):=⟨_,_,[],BH,lJ,.nil,b_is_name,BM F_is_name cU xh SQW⟩
 have iq : DefOk l.prog w K mg base "is_row_name" 2 ["thing"] [] (ub):=⟨_,_,[],ve,fg,.nil,b_is_row_name,BN F_is_row_name cU⟩
 have oY : DefMk l.prog w K mg base "Reader" ax 1 ["self","text"] (yu ax):=⟨Cw,bp,_,_,BI,b_Reader___init__,C1 F_Reader___init__ rc⟩
 have aY : DefMe l.prog w K mg base ax "takes" 1 ["self","word"] (gd ax):=⟨bp,_,_,⟨gq,fK,d8⟩,b_Reader_takes,C2 F_Reader_takes rc a9⟩
 have cq : DefMe l.prog w K mg base ax "need" 2 ["self","word"] (kb ax):=⟨bp,_,_,⟨iw,gI,e9⟩,b_Reader_need,D8 F_Reader_need aY⟩
 have cM : DefMe l.prog w K mg base ax "run" 1 ["self","first","last"] (qy ax):=⟨bp,_,_,⟨ju,iP,fW⟩,b_Reader_run,Fe F_Reader_run rc a9⟩
 have fU : DefMe l.prog w K mg base ax "name" 3 ["self"] (oP ax):=⟨bp,_,_,⟨iu,gH,e8⟩,b_Reader_name,CW F_Reader_name cM oZ⟩
 have gf : DefMe l.prog w K mg base ax "number" 2 ["self"] (oQ ax):=⟨bp,_,_,⟨fE,eN,dj⟩,b_Reader_number,BP F_Reader_number cM iR bG fS⟩
 have rE : DefMe l.prog w K mg base ax "part" 4 ["self"] (yt ax):=⟨bp,_,_,⟨iy,gJ,fb⟩,b_Reader_part,CY F_Reader_part rc cM aY fU gf iQ⟩
 have gj : DefMe l.prog w K mg base ax "added" 5 ["self"] (rO ax):=⟨bp,_,_,⟨gp,fJ,d6⟩,b_Reader_added,CQ F_Reader_added aY rE jQ a9 c6⟩
 have fm : DefMe l.prog w K mg base ax "compared" 6 ["self"] (ka ax):=⟨bp,_,_,⟨dQ,dy,cK⟩,b_Reader_compared,zf F_Reader_compared aY gj bM SQC⟩
 have gZ : DefMe l.prog w K mg base ax "place_of" 6 ["self","row"] (uc ax):=⟨bp,_,_,⟨dR,dz,cL⟩,b_Reader_place_of,BQ F_Reader_place_of cq gj iq⟩
 have dM : DefMe l.prog w K mg base ax "looked_up" 7 ["self","row"] (yp ax):=⟨bp,_,_,⟨dq,c7,cz⟩,b_Reader_looked_up,D5 F_Reader_looked_up gZ cq cM gf⟩
 have GST:=(Dn bp F_Reader_statement F_Reader_joined F_Reader_chosen ⟨cv,cb,bP⟩ ⟨fB,eK,di⟩ ⟨fA,eJ,dh⟩ b_Reader_statement b_Reader_joined b_Reader_chosen aY cq cM fU fm dM bR gL SQJ SQH 20)
 have bx:=(show DefMe l.prog w K mg base ax "statement" 49 ["self","deep"] (uf ax 20) from ⟨bp,_,_,⟨cv,cb,bP⟩,b_Reader_statement,GST⟩)
 have o3 : DefOk l.prog w K mg base "read" 50 ["text"] [] (yw):=⟨_,_,[],E7,xr,.nil,b_read,Ea F_read rc oY bx gM kY aL bG a9⟩
 have jm : DefOk l.prog w K mg base "_law_mixed" 1 ["_law_script","_law_k"] [] (yq K):=⟨_,_,[],xy,fZ,.nil,b__law_mixed,CV F__law_mixed a9⟩
 have ip : DefOk l.prog w K mg base "_law_spread" 2 ["_law_script"] [] (ue K):=⟨_,_,[],vd,fe,.nil,b__law_spread,BR F__law_spread jm a9 fj uu⟩
 have aN : DefOk l.prog w K mg base "_law_draw" 1 ["_law_spread_here","_law_k"] [] (ij K):=⟨_,_,[],yY,g9,.nil,b__law_draw,CT F__law_draw ⟩
 have dE : DefOk l.prog w K mg base "_law_word" 1 ["_law_number","_law_letters"] [] (yx):=⟨_,_,[],y4,hV,.nil,b__law_word,Ed F__law_word ⟩
 have dD : DefOk l.prog w K mg base "_law_name" 2 ["_law_spread_here","_law_number"] [] (yr K):=⟨_,_,[],yZ,hG,.nil,b__law_name,D7 F__law_name aN dE⟩
 have jo : DefOk l.prog w K mg base "_law_row" 2 ["_law_spread_here","_law_number"] [] (Aq K):=⟨_,_,[],z8,jR,.nil,b__law_row,Eb F__law_row aN dE⟩
 have jq : DefOk l.prog w K mg base "_law_sum" 3 ["_law_spread_here","_law_at"] [] (Ao K):=⟨_,_,[],z9,jS,.nil,b__law_sum,D6 F__law_sum aN dD fj bG fS c6⟩
 have cu : DefOk l.prog w K mg base "_law_plain" 4 ["_law_spread_here","_law_at"] [] (rQ K):=⟨_,_,[],xA,f9,.nil,b__law_plain,C0 F__law_plain aN jq jo bG eF oX⟩
 have gm : DefOk l.prog w K mg base "_law_wrapped" 3 ["_law_spread_here","_law_item","_law_number"] [] (Ar K):=⟨_,_,[],sQ,ee,.nil,b__law_wrapped,Ee F__law_wrapped dD⟩
 have eI : DefOk l.prog w K mg base "_law_two" 1 ["_law_one","_law_other","_law_number"] [] (A8):=⟨_,_,[],Aa,jT,.nil,b__law_two,Fg F__law_two wC eF oX⟩
 have jk : DefOk l.prog w K mg base "_law_items" 5 ["_law_spread_here"] [] (yo K):=⟨_,_,[],xx,fY,.nil,b__law_items,CU F__law_items aN cu eI gm a9 DG wC DH fj⟩
 have jj : DefOk l.prog w K mg base "_law_built" 6 ["_law_spread_here"] [] (yn K):=⟨_,_,[],xw,fX,.nil,b__law_built,CS F__law_built aN jk eI a9⟩
 have GSA:=(zt (P:=l.prog) (w:=w) (base:=base) F__law_same qv fw b__law_same aL bG fS nW c6 a9 uv 23)
 have cn:=(show DefOk l.prog w K mg base "_law_same" 24 ["_law_found","_law_due"] [] (ud 23) from ⟨_,_,[],qv,fw,.nil,b__law_same,GSA⟩)
 have gk : DefOk l.prog w K mg base "_law_by_hand" 1 [] [] (An):=⟨_,_,[],sP,d9,.nil,b__law_by_hand,D4 F__law_by_hand ⟩
 have fq : DefOk l.prog w K mg base "_law_told" 51 ["_law_item"] [] (ug):=⟨_,_,[],y3,hJ,.nil,b__law_told,BU F__law_told o3 cn g0⟩
 exact Fd F_law ip jj cu fq o3 cn gk
theorem walk {l : PySem.W.OpenLaw} {q : Program} {loose : List Str} {XP : (Str -> Option Value) -> Heap -> Prop} {YP : World -> Heap -> Prop} {d : DefRec} {K : Params -> PySem.W.Frag} (hn : l.most = some 63) (hdf : d.params.defaults = [])
  (hY : ∀ (w : World) (h : Heap),YP w h -> (K w.params).In h)
  (F : ∀ (w : World) (mg : Str -> Option Value) (fa : Addr) (h : Heap),(K w.params).In h -> h.Ns mainGlobals mg -> mg d.name = some (.ref fa) ->
   ∃ fd : FuncData,(∀ (s : Shared) (u : Value),BindsTo s fd ⟨[u],[]⟩ [("_law_script",u)]) /\ ∀ base : Heap,(K w.params).In base -> base.Ns mainGlobals mg -> FnOk l.prog w (K w.params) mg base CX0 52 fa fd ["_law_script"] (A7 (K w.params))) :
  PySem.W.WalkO q loose XP YP l.row.toRowW d [] (fun f vs => PySem.call f vs):=
 L2.walk_of (n:=63) (k:=52) (x := "_law_script") (CX:=fun _ => CX0) (sp:=fun w => A7 (K w.params)) hn (by decide) hdf ⟨rfl,by decide,by decide⟩ hY F (fun _ _ a ns hl _ hS => ⟨a,ns,rfl,hS,hl,fun _ => rfl⟩) fun _ _ _ _ _ z => z
end My
def PySem.W.Fast.tw10186500592820478480:=0
def PySem.W.Fast.tw13481769554154387877:=0
def PySem.W.Fast.tw7510587439665153525:=0
def PySem.W.Fast.tw15729090142633484264:=0
def PySem.W.Fast.tw16959372669404451065:=0
def PySem.W.Fast.tw5172765927793417227:=0
def PySem.W.Fast.tw18182081590624862924:=0
def PySem.W.Fast.tw8741396944355184667:=0
def PySem.W.Fast.tw4386479486897601011:=0
def PySem.W.Fast.tw370563087251661890:=0
def PySem.W.Fast.tw10881486300700636979:=0
def PySem.W.Fast.tw4099664740765868962:=0
def PySem.W.Fast.tw4934820600111944104:=0
def PySem.W.Fast.tw7169388179315452576:=0
def PySem.W.Fast.tw8491282238003361482:=0
def PySem.W.Fast.tw6809517112638144769:=0
def PySem.W.Fast.tw16598427950333417328:=0
def PySem.W.Fast.tw16312462836799959176:=0
def PySem.W.Fast.tw10364485533518494160:=0
def PySem.W.Fast.tw11982499792593994173:=0
def PySem.W.Fast.tw13551668916413233033:=0
def PySem.W.Fast.tw17043486916301375176:=0
def PySem.W.Fast.tw16115866642877243498:=0
def PySem.W.Fast.tw16332541173873720253:=0
def PySem.W.Fast.tw16790016160862735265:=0
def PySem.W.Fast.tw16983559737809641195:=0
def PySem.W.Fast.tw10971921468523046120:=0
def PySem.W.Fast.tw7447852555021778373:=0
def PySem.W.Fast.tw7340641726072763148:=0
def PySem.W.Fast.tw11636740292429568370:=0
def PySem.W.Fast.tw12704556807106501198:=0
def PySem.W.Fast.tw1604279920855250240:=0
def PySem.W.Fast.tw11058356029661860241:=0
def PySem.W.Fast.tw1474962341726682779:=0
def PySem.W.Fast.tw10068606752938734375:=0
def PySem.W.Fast.tw4456179480826782077:=0
def PySem.W.Fast.tw2743900975064642523:=0
def PySem.W.Fast.tw1778038716564566547:=0
def PySem.W.Fast.tw16291439186875018979:=0
def PySem.W.Fast.tw18445466562658203476:=0
def PySem.W.Fast.tw4261774367088026566:=0
def PySem.W.Fast.tw5341403305319040517:=0
def PySem.W.Fast.tw10233880073545148615:=0
def PySem.W.Fast.tw6424574201863668096:=0
def PySem.W.Fast.tw12007518540468048582:=0
def PySem.W.Fast.tw8361179779576735949:=0
def PySem.W.Fast.tw14212127821668597397:=0
def PySem.W.Fast.tw9068849737695781567:=0
def PySem.W.Fast.tw8997846126266007828:=0
def PySem.W.Fast.tw14871657754348959178:=0
def PySem.W.Fast.tw10245280080732785081:=0
def PySem.W.Fast.tw18214716394102650436:=0
def PySem.W.Fast.tw8266420502225217963:=0
def PySem.W.Fast.tw14679668438659257828:=0
def PySem.W.Fast.tw4954316171115560723:=0
def PySem.W.Fast.tw7741631745153944974:=0
def PySem.W.Fast.tw14079189325503864314:=0
def PySem.W.Fast.tw1122403956392779868:=0
def PySem.W.Fast.tw2740980263318883922:=0
def PySem.W.Fast.tw15826585108760113197:=0
def PySem.W.Fast.tw14577164580317436278:=0
def PySem.W.Fast.tw4754253894834396508:=0
def PySem.W.Fast.tw16092634526281701014:=0
def PySem.W.Fast.tw13381092567760339836:=0
def PySem.W.Fast.tw12510358083654933750:=0
def PySem.W.Fast.tw17824227422964468804:=0
def PySem.W.Fast.tw9074481561066374119:=0
def PySem.W.Fast.tw3378499825831786111:=0
def PySem.W.Fast.tw6353707515015121184:=0
def PySem.W.Fast.tw5154541839441658621:=0
def PySem.W.Fast.tw16570515555732056837:=0
def PySem.W.Fast.tw11501636519994523092:=0
def PySem.W.Fast.tw2510295152376958075:=0
def PySem.W.Fast.tw7651161766214023799:=0
def PySem.W.Fast.tw15586923703101889298:=0
def PySem.W.Fast.tw17656286889323886493:=0
def PySem.W.Fast.tw8928722612815889688:=0
def PySem.W.Fast.tw13673527824662719803:=0
def PySem.W.Fast.tw10769787745510921588:=0
def PySem.W.Fast.tw7623894868065433367:=0
def PySem.W.Fast.tw2873726238718820051:=0
def PySem.W.Fast.tw2578809430718658772:=0
def PySem.W.Fast.tw16083969118936010403:=0
def PySem.W.Fast.tw11172130860637868464:=0
def PySem.W.Fast.tw3292364315158349276:=0
def PySem.W.Fast.tw8318124988727028727:=0
def PySem.W.Fast.tw5739870122145176408:=0
def PySem.W.Fast.tw8466495143404717006:=0
def PySem.W.Fast.tw15689874571333570781:=0
def PySem.W.Fast.tw12303093692755833594:=0
def PySem.W.Fast.tw1517267126026036606:=0
def PySem.W.Fast.tw7030720721182169550:=0
def PySem.W.Fast.tw8763877068979645404:=0
def PySem.W.Fast.tw3516779781614733116:=0
def PySem.W.Fast.tw11577313271320337665:=0
def PySem.W.Fast.tw8844964254637543645:=0
def PySem.W.Fast.tw11992960441622949902:=0
def PySem.W.Fast.tw14694593245631708380:=0
def PySem.W.Fast.tw9771464745426955156:=0
def PySem.W.Fast.tw5492919345810530867:=0
def PySem.W.Fast.tw2529069094146731317:=0
def PySem.W.Fast.tw9819611379851526669:=0
def PySem.W.Fast.tw11592128856781603233:=0
def PySem.W.Fast.tw14923549480784765572:=0
def PySem.W.Fast.tw1707493143048433996:=0
def PySem.W.Fast.tw18247031170678691847:=0
def PySem.W.Fast.tw12514168167751380577:=0
def PySem.W.Fast.tw17206387526975323670:=0
def PySem.W.Fast.tw17782889804647415123:=0
def PySem.W.Fast.tw4890576855918480539:=0
def PySem.W.Fast.tw2233508005269236961:=0
def PySem.W.Fast.tw7821127408972380997:=0
def PySem.W.Fast.tw16253311979497585888:=0
def PySem.W.Fast.tw9640829091866296123:=0
def PySem.W.Fast.tw13439038798215604257:=0
def PySem.W.Fast.tw14061887524293166109:=0
def PySem.W.Fast.tw14026969252949419688:=0
def PySem.W.Fast.tw6338762420901542181:=0
def PySem.W.Fast.tw12366799152216092431:=0
def PySem.W.Fast.tw16235787577909862853:=0
def PySem.W.Fast.tw5086562089718084930:=0
def PySem.W.Fast.tw2346323281080954970:=0
def PySem.W.Fast.tw6975184561567203077:=0
def PySem.W.Fast.tw9950381241011539149:=0
def PySem.W.Fast.tw10747577394611564941:=0
def PySem.W.Fast.tw4230199049850582756:=0
def PySem.W.Fast.tw9238247461014392998:=0
open PySem PySem.W PyProof.Rows
set_option maxRecDepth 100000 in
set_option maxHeartbeats 0 in
theorem PySem.Challenge.cw_figuretell_k53_whole_read_holds : PySem.Challenge.rw_figuretell_k53_whole_read.Holds := by
 w_on; o_law; k_head; (case hw => w_witness2)
 k_fill
 refine My.walk (l:=PySem.Challenge.rw_figuretell_k53_whole_read) rfl rfl (fun w h Y => PySem.W.kIn_of Y) ?F
 case F =>
  intro w mg fa h KX G hmg
  refine' My.all_mk KX G hmg ?wD ?xt ?wN ?oj ?kz ?lg ?kF ?fw ?jA ?j5 ?jH ?gc ?kC ?lq ?kI ?hZ ?iB ?iY ?iK ?fh ?jz ?jZ ?jG ?gb ?o6 ?pO ?ph ?lJ ?iA ?iX ?iJ ?fg ?zJ ?z5 ?zN ?xr ?jx ?jX ?jE ?fZ ?iz ?iW ?iI ?fe ?kv ?k8 ?kD ?g9 ?kB ?lj ?kH ?hV ?kx ?k9 ?kE ?hG ?mM ?nz ?mT ?jR ?mN ?nA ?mU ?jS ?jy ?jY ?jF ?f9 ?gs ?gQ ?gz ?ee ?mO ?nB ?mV ?jT ?jw ?jW ?jD ?fY ?jv ?jV ?jC ?fX ?gr ?gP ?gy ?d9 ?kA ?lh ?kG ?hJ ?AB ?CF ?Cd ?CD ?Dy ?yz ?yA ?Ay ?kg ?Dx ?y_bool ?DC ?ur ?DB ?Dz ?DA ?DD ?DE ?Dw ?uq ?lI ?gY ?lH ?ke ?i4 ?i5 ?jI ?mW ?kP ?sd ?pq ?cv ?dB ?dv ?bP ?fB ?fN ?fH ?di ?fA ?fM ?fG ?dh ?dP ?eh ?dS ?dZ ?gq ?gO ?gx ?d8 ?iw ?iU ?iG ?e9 ?ju ?jU ?jB ?fW ?iu ?iT ?iE ?e8 ?fE ?fO ?fI ?dj ?iy ?iV ?iH ?fb ?gp ?gN ?gv ?d6 ?dQ ?el ?dU ?cK ?dR ?eA ?dW ?cL ?dq ?dA ?du ?cz ?tp_COMPARING ?tp_JOINING ?tp_CHOOSING ?tp_WORDS ?d_pg ?d_hd ?d_po ?d_sa ?d_n1 ?d_n2 ?d_mk ?d_fi ?d_kp ?fK ?gI ?iP ?cb ?eK ?eJ ?dy ?c7 ?dz ?fJ ?gJ ?eN ?gH
  (case wD => k_is); (case xt => k_is); (case wN => k_is); (case oj => k_is)
  (case kz => k_is); (case lg => k_is); (case kF => k_is); (case fw => k_is)
  (case jA => k_is); (case j5 => k_is); (case jH => k_is); (case gc => k_is)
  (case kC => k_is); (case lq => k_is); (case kI => k_is); (case hZ => k_is)
  (case iB => k_is); (case iY => k_is); (case iK => k_is); (case fh => k_is)
  (case jz => k_is); (case jZ => k_is); (case jG => k_is); (case gb => k_is)
  (case o6 => k_is); (case pO => k_is); (case ph => k_is); (case lJ => k_is)
  (case iA => k_is); (case iX => k_is); (case iJ => k_is); (case fg => k_is)
  (case zJ => k_is); (case z5 => k_is); (case zN => k_is); (case xr => k_is)
  (case jx => k_is); (case jX => k_is); (case jE => k_is); (case fZ => k_is)
  (case iz => k_is); (case iW => k_is); (case iI => k_is); (case fe => k_is)
  (case kv => k_is); (case k8 => k_is); (case kD => k_is); (case g9 => k_is)
  (case kB => k_is); (case lj => k_is); (case kH => k_is); (case hV => k_is)
  (case kx => k_is); (case k9 => k_is); (case kE => k_is); (case hG => k_is)
  (case mM => k_is); (case nz => k_is); (case mT => k_is); (case jR => k_is)
  (case mN => k_is); (case nA => k_is); (case mU => k_is); (case jS => k_is)
  (case jy => k_is); (case jY => k_is); (case jF => k_is); (case f9 => k_is)
  (case gs => k_is); (case gQ => k_is); (case gz => k_is); (case ee => k_is)
  (case mO => k_is); (case nB => k_is); (case mV => k_is); (case jT => k_is)
  (case jw => k_is); (case jW => k_is); (case jD => k_is); (case fY => k_is)
  (case jv => k_is); (case jV => k_is); (case jC => k_is); (case fX => k_is)
  (case gr => k_is); (case gP => k_is); (case gy => k_is); (case d9 => k_is)
  (case kA => k_is); (case lh => k_is); (case kG => k_is); (case hJ => k_is)
  (case AB => k_is); (case CF => k_is); (case Cd => k_is); (case CD => k_is)
  (case Dy => k_is); (case yz => k_is); (case yA => k_is); (case Ay => k_is); (case kg => k_is); (case Dx => k_is); (case y_bool => k_is); (case DC => k_is); (case ur => k_is); (case DB => k_is); (case Dz => k_is); (case DA => k_is); (case DD => k_is); (case DE => k_is); (case Dw => k_is); (case uq => k_is); (case lI => k_is); (case gY => k_is); (case lH => k_is); (case ke => k_is); (case i4 => k_is); (case i5 => k_is)
  (case jI => k_is)
  (case mW => k_is)
  (case kP => k_is)
  (case sd => k_is)
  (case pq => k_is)
  (case cv => k_is); (case dB => k_is); (case dv => k_is); (case bP => k_is)
  (case fB => k_is); (case fN => k_is); (case fH => k_is); (case di => k_is)
  (case fA => k_is); (case fM => k_is); (case fG => k_is); (case dh => k_is)
  (case dP => k_is); (case eh => k_is); (case dS => k_is); (case dZ => k_is)
  (case gq => k_is); (case gO => k_is); (case gx => k_is); (case d8 => k_is)
  (case iw => k_is); (case iU => k_is); (case iG => k_is); (case e9 => k_is)
  (case ju => k_is); (case jU => k_is); (case jB => k_is); (case fW => k_is)
  (case iu => k_is); (case iT => k_is); (case iE => k_is); (case e8 => k_is)
  (case fE => k_is); (case fO => k_is); (case fI => k_is); (case dj => k_is)
  (case iy => k_is); (case iV => k_is); (case iH => k_is); (case fb => k_is)
  (case gp => k_is); (case gN => k_is); (case gv => k_is); (case d6 => k_is)
  (case dQ => k_is); (case el => k_is); (case dU => k_is); (case cK => k_is)
  (case dR => k_is); (case eA => k_is); (case dW => k_is); (case cL => k_is)
  (case dq => k_is); (case dA => k_is); (case du => k_is); (case cz => k_is)
  (case tp_COMPARING => k_is)
  (case tp_JOINING => k_is)
  (case tp_CHOOSING => k_is)
  (case tp_WORDS => k_is)
  (case d_pg => first | k_is | k_exc | decide | kernel_rfl)
  (case d_hd => first | k_is | k_exc | decide | kernel_rfl)
  (case d_po => first | k_is | k_exc | decide | kernel_rfl)
  (case d_sa => first | k_is | k_exc | decide | kernel_rfl)
  (case d_n1 => first | k_is | k_exc | decide | kernel_rfl)
  (case d_n2 => first | k_is | k_exc | decide | kernel_rfl)
  (case d_mk => first | k_is | k_exc | decide | kernel_rfl)
  (case d_fi => first | k_is | k_exc | decide | kernel_rfl)
  (case d_kp => first | k_is | k_exc | decide | kernel_rfl)
  (case fK => first | k_is | k_exc | decide | kernel_rfl)
  (case gI => first | k_is | k_exc | decide | kernel_rfl)
  (case iP => first | k_is | k_exc | decide | kernel_rfl)
  (case cb => first | k_is | k_exc | decide | kernel_rfl)
  (case eK => first | k_is | k_exc | decide | kernel_rfl)
  (case eJ => first | k_is | k_exc | decide | kernel_rfl)
  (case dy => first | k_is | k_exc | decide | kernel_rfl)
  (case c7 => first | k_is | k_exc | decide | kernel_rfl)
  (case dz => first | k_is | k_exc | decide | kernel_rfl)
  (case fJ => first | k_is | k_exc | decide | kernel_rfl)
  (case gJ => first | k_is | k_exc | decide | kernel_rfl)
  (case eN => first | k_is | k_exc | decide | kernel_rfl)
  (case gH => first | k_is | k_exc | decide | kernel_rfl)
