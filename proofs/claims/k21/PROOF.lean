import PyProof.Rows.All
import Wide.All
import OpenK.AllK
import Wide.FinOn
import Lean
import PyProof.EqAt
import PyProof.EqKinds
import PyProof.TupleCall
import PyProof.NeKinds
import PyProof.ExcBaseAll.ValueError
import PyProof.ExcClass3
import OpenK.KOwn
import PyProof.Rows.FStr
import KE.KTryMore
import PyProof.ExcAttrAll.ValueError
import KE.KDictList
import PyProof.CompMap
import PyProof.Draws
import PyProof.ListRange
import PyProof.ZipIter
import PyProof.EnumMake
import PyProof.CollectIter
import PyProof.SetRoads
import PyProof.Rows.SortShell
import PyProof.Rows.SortWalk
import PySem.Challenge.RW_figuretell_k21_reading_and_pairing
set_option Elab.async false
set_option linter.all false
set_option maxRecDepth 100000
namespace L2
open PySem PySem.Spec PyProof.Rows
abbrev Key:=Sum Int Str
def qS : Key -> Value -> Bool
 | .inl k,v => Value.isInt k v
 | .inr x,v => Value.isStrOf x v
def sy (w : World) : Key -> Int
 | .inl k => hashInt k
 | .inr x => hashStr w x
theorem bu : ∀ {k : Key} {v : Value},qS k v = true -> (∃ i t,k = Sum.inl i /\ v = Value.int i t) \/ (∃ x t,k = Sum.inr x /\ v = Value.str x t)
 | .inl i,v,h => by
  obtain ⟨t,e⟩:=Value.isInt_shape (k:=i) (v:=v) h
  exact .inl ⟨i,t,rfl,e⟩
 | .inr x,v,h => by
  obtain ⟨t,e⟩:=Value.isStrOf_shape (x:=x) (v:=v) h
  exact .inr ⟨x,t,rfl,e⟩
theorem rf (a b : Int) : decide ((Sum.inl a : Key) = Sum.inl b) = (a == b):=by
 by_cases e : a = b
 ·subst e; simp
 ·have h : ¬ (Sum.inl a : Key) = Sum.inl b:=fun q => e (Sum.inl.inj q)
  rw [decide_eq_false h]
  exact (beq_eq_false_iff_ne.mpr e).symm
theorem ri (a b : Str) : decide ((Sum.inr a : Key) = Sum.inr b) = decide (a = b):=by
 by_cases e : a = b
 ·subst e; simp
 ·have h : ¬ (Sum.inr a : Key) = Sum.inr b:=fun q => e (Sum.inr.inj q)
  rw [decide_eq_false h,decide_eq_false e]
theorem rg (a : Int) (b : Str) : decide ((Sum.inl a : Key) = Sum.inr b) = false:=decide_eq_false (fun q => nomatch q)
theorem rh (a : Str) (b : Int) : decide ((Sum.inr a : Key) = Sum.inl b) = false:=decide_eq_false (fun q => nomatch q)
def oE (prog : Program) (w : World) : PySem.KeyKind prog w Key where
 is:=qS
 hash:=sy w
 inj:=fun v a b ha hb => by
  rcases bu ha with ⟨i,t,rfl,rfl⟩ | ⟨x,t,rfl,rfl⟩
  ·rcases bu hb with ⟨j,u,rfl,e⟩ | ⟨y,u,rfl,e⟩
   ·injection e with e1 _; rw [e1]
   ·exact nomatch e
  ·rcases bu hb with ⟨j,u,rfl,e⟩ | ⟨y,u,rfl,e⟩
   ·exact nomatch e
   ·injection e with e1 _; rw [e1]
 byValue:=fun k v h => by
  rcases bu h with ⟨i,t,rfl,rfl⟩ | ⟨x,t,rfl,rfl⟩ <;> rfl
 pyHash:=fun hv h => by
  rcases bu hv with ⟨i,t,rfl,rfl⟩ | ⟨x,t,rfl,rfl⟩
  ·exact wpAny_pyHash_int h
  ·exact wpAny_pyHash_str h
 eqBool:=fun hu hv h => by
  rcases bu hu with ⟨i,t,rfl,rfl⟩ | ⟨x,t,rfl,rfl⟩
  ·rcases bu hv with ⟨j,u,rfl,rfl⟩ | ⟨y,u,rfl,rfl⟩
   ·rw [rf] at h; exact wpAny_eqBool_int h
   ·rw [rg] at h; exact SeqAt.EqAt.int_str i t y u _ _ _ _ h
  ·rcases bu hv with ⟨j,u,rfl,rfl⟩ | ⟨y,u,rfl,rfl⟩
   ·rw [rh] at h; exact SeqAt.EqAt.str_int x t j u _ _ _ _ h
   ·rw [ri] at h; exact wpAny_eqBool_str h
 «strs» := fun k x t v h => by
  rcases bu h with ⟨i,u,rfl,e⟩ | ⟨y,u,rfl,e⟩
  ·exact nomatch e
  ·injection e with e1 _
   subst e1
   cases v <;> rfl
end L2
namespace L2
open PySem PySem.Spec PyProof.Rows
inductive V where
 | non | bl (b : Bool) | int (i : Int) | str (x : Str) | byt (b : Array UInt8) | flt (b : UInt64) | ref (a : Addr) | ty (n : String)
 deriving DecidableEq
def RelV : V -> Value -> Prop
 | .non,u => u = Value.none
 | .bl b,u => u = Value.bool b
 | .int i,u => ∃ t,u = Value.int i t
 | .str x,u => ∃ t,u = Value.str x t
 | .byt b,u => ∃ t,u = Value.bytes b t
 | .flt b,u => ∃ t,u = Value.float b t
 | .ref a,u => u = Value.ref a
 | .ty n,u => u = Value.type n
abbrev Vals : List V -> List Value -> Prop:=Paired RelV
theorem Vals.length {xs : List V} {us : List Value} (r : Vals xs us) : xs.length = us.length:=Paired.length r
theorem Vals.get : ∀ {xs : List V} {us : List Value} {i : Nat} {x : V},Vals xs us -> xs[i]? = some x -> ∃ u,us[i]? = some u /\ RelV x u
 | _,_,_,_,.nil,e => by simp at e
 | _,_,0,_,.cons r _,e => by simp at e; subst e; exact ⟨_,rfl,r⟩
 | _,_,i + 1,x,.cons _ t,e => by
  obtain ⟨u,h1,h2⟩:=Vals.get (i:=i) (x:=x) t (by simpa using e)
  exact ⟨u,by simpa using h1,h2⟩
theorem Vals.append : ∀ {xs ys : List V} {us ws : List Value},Vals xs us -> Vals ys ws -> Vals (xs ++ ys) (us ++ ws)
 | _,_,_,_,.nil,s => s
 | _,_,_,_,.cons r t,s => .cons r (Vals.append t s)
def RelO : Option V -> Option Value -> Prop
 | some v,some u => RelV v u
 | none,none => True
 | _,_ => False
def KV {κ : Type} : List (κ × V) -> List (κ × Value) -> Prop:=Paired fun (p : κ × V) (q : κ × Value) => p.1 = q.1 /\ RelV p.2 q.2
def kV : Key -> V
 | .inl i => .int i
 | .inr x => .str x
inductive HO where
  | lst (xs : List V)
  | tup (xs : List V)
  | dK (kvs : List (Key × V)) | dT (kvs : List (List Key × V))
  | set (S : Int -> Bool) (n : Nat)
  | ins (C dx : Addr) (fs : List (Str × V))
  | own (x : Addr)
  | xd (fs : List (Str × V))
  | met (f x : Addr)
  | rng (lo hi : Int)
  | frz (o : Obj) (u : HO)
  | tbl (ps : Array Value)
  | ext (φ : Heap -> Prop)
abbrev Hp:=Addr -> Option HO
def upd (H : Hp) (a : Addr) (o : HO) : Hp:=fun b => if b = a then some o else H b
theorem aj {H : Hp} {a : Addr} {o : HO} : upd H a o a = some o:=by unfold upd; rw [if_pos rfl]
theorem aw {H : Hp} {a b : Addr} {o : HO} (h : b ≠ a) : upd H a o b = H b:=by unfold upd; rw [if_neg h]
theorem iw {H : Hp} {a b : Addr} {o u : HO} (h : H a = some o) (h' : H b = some u) (d : o ≠ u) : a ≠ b:=by
 intro e; subst e; rw [h] at h'; exact d (Option.some.inj h')
theorem aJ {H : Hp} {a b : Addr} {o : HO} (h : H a = some o) (h' : H b = none) : a ≠ b:=by
 intro e; subst e; rw [h] at h'; cases h'
section
variable (P : Program) (w : World)
def ObjOk (H : Hp) (h : Heap) (a : Addr) : HO -> Prop
 | .lst xs => xs.length <= sizeLine /\ ∃ (its : List Value) (n : Nat),Vals xs its /\ h.get? a = some { cls:=.type "list",data:=.seq its.toArray n }
 | .tup xs => xs.length <= sizeLine /\ ∃ its : List Value,Vals xs its /\ IsTup h a its.toArray
 | .dK kvs => kvs.length <= sizeLine /\ (a == sysModules) = false /\ ∃ vs,KV kvs vs /\ h.DictOf (oE P w) a vs
 | .dT kvs => kvs.length <= sizeLine /\ (a == sysModules) = false /\ ∃ xs : List (List Key × Addr × Value),
   Paired (fun (p : List Key × V) (q : List Key × Addr × Value) => p.1 = q.1 /\ H q.2.1 = some (.tup (p.1.map kV)) /\ RelV p.2 q.2.2) kvs xs /\
   ∃ o es ep,h.get? a = some o /\ o.ExactDict /\ o.data = .dict es ep /\ es.toList = xs.map (entryOfKey (tupleKind (oE P w))) /\ (xs.map (·.1)).Nodup
 | .set S n => h.SetOf (intKind P w) a S n
 | .ins C dx fs => H dx = some (.own a) /\ fs.length <= 1000 /\ dx ≠ a /\ h.get? a = some (PySem.W.instObj C dx) /\
   ∃ mA,h.Ns1 dx mA /\ (∀ f,RelO (fs.lookup f) (mA f)) /\ PySem.Within mA (fs.map (·.1))
 | .own _ => ∃ o,h.get? a = some o
 | .xd fs => ∃ mA,h.Ns1 a mA /\ ∀ f,RelO (fs.lookup f) (mA f)
 | .rng lo hi => ∃ t u v,h.get? a = some { cls:=.type "range",data:=.fields #[.int lo t,.int hi u,.int 1 v] }
 | .frz o u => h.get? a = some o /\ ObjOk H h a u
 | .tbl ps => h.get? a = some { cls:=.none,data:=.fields ps }
 | .met f x => h.get? a = some (PySem.W.methodObj (.ref f) (.ref x))
 | .ext φ => φ h /\ (∃ o,h.get? a = some o) /\ ∀ h1 h2 : Heap,φ h1 -> (∀ o,h1.get? a = some o -> h2.get? a = some o) -> φ h2
def HOk (H : Hp) (h : Heap) : Prop := ∀ a o,H a = some o -> ObjOk P w H h a o
end
section
variable {P : Program} {w : World} {H H' : Hp} {h h' : Heap} {a : Addr} {o : HO}
theorem ObjOk.lt (x : ObjOk P w H h a o) : a < h.objs.size:=by
 cases o with
 | lst xs => obtain ⟨_,_,_,_,e⟩:=x; exact Heap.lt_size e
 | tup xs => obtain ⟨_,_,_,p⟩:=x; exact p.lt
 | dK kvs => obtain ⟨_,_,_,_,o,_,_,e,_⟩:=x; exact Heap.lt_size e
 | dT kvs => obtain ⟨_,_,_,_,o,_,_,e,_⟩:=x; exact Heap.lt_size e
 | set S n => obtain ⟨o,_,_,_,e,_⟩:=x; exact Heap.lt_size e
 | ins C dx fs => obtain ⟨_,_,_,e,_⟩:=x; exact Heap.lt_size e
 | own y => obtain ⟨_,e⟩:=x; exact Heap.lt_size e
 | xd fs => obtain ⟨_,⟨_,_,_,e,_⟩,_⟩:=x; exact Heap.lt_size e
 | rng lo hi => obtain ⟨_,_,_,e⟩:=x; exact Heap.lt_size e
 | frz ob u => obtain ⟨e,_⟩:=x; exact Heap.lt_size e
 | tbl ps => exact Heap.lt_size (show h.get? a = some _ from x)
 | met f y => exact Heap.lt_size (show h.get? a = some _ from x)
 | ext φ => obtain ⟨_,⟨_,e⟩,_⟩:=x; exact Heap.lt_size e
theorem Paired.mapP {α β : Type} {F G : α -> β -> Prop} : ∀ {l₁ : List α} {l₂ : List β},Paired F l₁ l₂ -> (∀ a b,F a b -> G a b) -> Paired G l₁ l₂
 | _,_,.nil,_ => .nil
 | _,_,.cons r t,f => .cons (f _ _ r) (Paired.mapP t f)
theorem ObjOk.stay (x : ObjOk P w H h a o) (k : ∀ b u,(b = a \/ H b = some (.own a)) -> h.get? b = some u -> h'.get? b = some u)
  (ho : ∀ b,H b = some (.own a) -> H' b = some (.own a)) (ht : ∀ b xs,H b = some (.tup xs) -> H' b = some (.tup xs)) : ObjOk P w H' h' a o:=by
 induction o with
 | lst xs => obtain ⟨z,its,n,r,e⟩:=x; exact ⟨z,its,n,r,k _ _ (.inl rfl) e⟩
 | tup xs => obtain ⟨z,its,r,ob,e,c⟩:=x; exact ⟨z,its,r,ob,k _ _ (.inl rfl) e,c⟩
 | dK kvs => obtain ⟨z,y,vs,r,ob,es,ep,e,c⟩:=x; exact ⟨z,y,vs,r,ob,es,ep,k _ _ (.inl rfl) e,c⟩
 | dT kvs =>
  obtain ⟨z,y,xs,r,ob,es,ep,e,c⟩:=x
  exact ⟨z,y,xs,Paired.mapP r fun p q z => ⟨z.1,ht _ _ z.2.1,z.2.2⟩,ob,es,ep,k _ _ (.inl rfl) e,c⟩
 | set S n => obtain ⟨ob,es,ep,t,e,c⟩:=x; exact ⟨ob,es,ep,t,k _ _ (.inl rfl) e,c⟩
 | ins C dx fs =>
  obtain ⟨d,z,ne,e,mA,⟨od,es,ep,e2,c⟩,r⟩:=x
  exact ⟨ho _ d,z,ne,k _ _ (.inl rfl) e,mA,⟨od,es,ep,k _ _ (.inr d) e2,c⟩,r⟩
 | own y => obtain ⟨ob,e⟩:=x; exact ⟨ob,k _ _ (.inl rfl) e⟩
 | xd fs => obtain ⟨mA,⟨od,es,ep,e,c⟩,r⟩:=x; exact ⟨mA,⟨od,es,ep,k _ _ (.inl rfl) e,c⟩,r⟩
 | rng lo hi => obtain ⟨t,u,v,e⟩:=x; exact ⟨t,u,v,k _ _ (.inl rfl) e⟩
 | frz ob u ih => obtain ⟨e,q⟩:=x; exact ⟨k _ _ (.inl rfl) e,ih q⟩
 | tbl ps =>
  have e : h.get? a = some { cls:=.none,data:=.fields ps }:=x
  show h'.get? a = some { cls:=.none,data:=.fields ps }
  exact k a _ (.inl rfl) e
 | met f y =>
  have e : h.get? a = some (PySem.W.methodObj (.ref f) (.ref y)):=x
  show h'.get? a = some (PySem.W.methodObj (.ref f) (.ref y))
  exact k a _ (.inl rfl) e
 | ext φ => obtain ⟨p,⟨o,e⟩,st⟩:=x; exact ⟨st _ _ p fun o q => k _ _ (.inl rfl) q,⟨o,k _ _ (.inl rfl) e⟩,st⟩
theorem HOk.lt (x : HOk P w H h) (e : H a = some o) : a < h.objs.size:=(x a o e).lt
theorem HOk.fresh (x : HOk P w H h) (e : h.objs.size <= a) : H a = none:=by
 cases q : H a with
 | none => rfl
 | some u => exact absurd (Nat.lt_of_lt_of_le (x.lt q) e) (Nat.lt_irrefl _)
theorem HOk.kept (x : HOk P w H h) (k : ∀ b u,h.get? b = some u -> h'.get? b = some u) : HOk P w H h' := fun a o e =>
 (x a o e).stay (fun b u _ q => k b u q) (fun _ q => q) fun _ _ q => q
theorem HOk.laid (x : HOk P w H h) (k : ∀ b u,h.get? b = some u -> h'.get? b = some u) (hp : h.objs.size <= a) (new : ObjOk P w (upd H a o) h' a o) : HOk P w (upd H a o) h' := fun b u e => by
 have hn:=x.fresh hp
 by_cases hb : b = a
 ·subst hb; rw [aj] at e; cases e; exact new
 ·rw [aw hb] at e
  exact (x b u e).stay (fun c v _ q => k c v q) (fun c q => by rw [aw (aJ q hn)]; exact q) fun c xs q => by rw [aw (aJ q hn)]; exact q
end
def Rd (H : Hp) (a : Addr) (u : HO) : Prop:=H a = some u \/ ∃ o,H a = some (.frz o u)
theorem Rd.ok {P : Program} {w : World} {H : Hp} {h : Heap} {a : Addr} {u : HO} (r : Rd H a u) (x : HOk P w H h) : ObjOk P w H h a u:=by
 rcases r with r | ⟨o,r⟩
 ·exact x a u r
 ·obtain ⟨_,q⟩:=x a _ r
  exact q
def Mut : Option HO -> Prop
 | some (.lst _) => True
 | some (.dK _) => True
 | some (.dT _) => True
 | some (.set _ _) => True
 | some (.ins _ _ _) => True
 | some (.ext _) => True
 | _ => False
section
variable {P : Program} {w : World} {H : Hp} {h h' : Heap} {x e : Addr} {o' : HO}
theorem HOk.write (ok : HOk P w H h) (mu : Mut (H x)) (he : e = x \/ H e = some (.own x)) (k : ∀ b u,b ≠ e -> h.get? b = some u -> h'.get? b = some u) (heo : ∃ u,h'.get? e = some u)
  (new : ObjOk P w (upd H x o') h' x o') : HOk P w (upd H x o') h' := fun b u q => by
 have nown : ∀ c y,H c = some (.own y) -> c ≠ x:=fun c y r z => by subst z; rw [r] at mu; exact mu
 have ntup : ∀ c xs,H c = some (.tup xs) -> c ≠ x:=fun c xs r z => by subst z; rw [r] at mu; exact mu
 by_cases hb : b = x
 ·subst hb; rw [aj] at q; cases q; exact new
 ·rw [aw hb] at q
  by_cases hbe : b = e
  ·have q' : H b = some (.own x):=by
    rcases he with z | z
    ·exact absurd (hbe.trans z) hb
    ·rw [hbe]; exact z
   rw [q] at q'; cases q'
   obtain ⟨v,hv⟩:=heo
   exact ⟨v,by rw [hbe]; exact hv⟩
  ·refine (ok b u q).stay (fun c v hc r => k c v ?_ r) (fun c r => by rw [aw (nown c b r)]; exact r) fun c xs r => by rw [aw (ntup c xs r)]; exact r
   rcases hc with rfl | hc
   ·exact hbe
   ·rintro rfl
    rcases he with z | z
    ·exact nown c b hc z
    ·rw [hc] at z; cases z; exact hb rfl
end
structure Un (fs ex : List Addr) (H H' : Hp) (h h' : Heap) : Prop where
 keep : ∀ b o,h.get? b = some o -> H b = none -> b ∉ fs -> b ∉ ex -> h'.get? b = some o
 slot : ∀ b o,h.get? b = some o -> H b = none -> b ∈ fs -> b ∉ ex -> ∃ sl,h'.get? b = some { o with slots:=sl }
 free : ∀ b o,h.get? b = some o -> H b = none -> b ∉ ex -> H' b = none
 there : ∀ b o,h.get? b = some o -> b ∉ ex -> ∃ o',h'.get? b = some o'
 tups : ∀ b xs,H b = some (.tup xs) -> H' b = some (.tup xs)
 frzs : ∀ b o u,H b = some (.frz o u) -> H' b = some (.frz o u)
 tbls : ∀ b ps,H b = some (.tbl ps) -> ∃ more,H' b = some (.tbl (ps ++ more))
section
variable {fs fs' ex ex' : List Addr} {H H1 H2 : Hp} {h h1 h2 h' : Heap} {a x e : Addr} {o : HO}
theorem Un.any (u : Un fs ex H H1 h h1) {b : Addr} {ob : Obj} (q : h.get? b = some ob) (n : H b = none) (hx : b ∉ ex) : ∃ sl,h1.get? b = some { ob with slots:=sl }:=by
 by_cases hb : b ∈ fs
 ·exact u.slot b ob q n hb hx
 ·exact ⟨ob.slots,u.keep b ob q n hb hx⟩
theorem Un.kept (k : ∀ b u,h.get? b = some u -> h'.get? b = some u) : Un fs ex H H h h' :=
 ⟨fun b ob q _ _ _ => k b ob q,fun b ob q _ _ _ => ⟨ob.slots,k b ob q⟩,fun _ _ _ n _ => n,fun b ob q _ => ⟨ob,k b ob q⟩,fun _ _ q => q,fun _ _ _ q => q,fun _ ps q => ⟨#[],by rw [q]; simp⟩⟩
theorem Un.refl : Un fs ex H H h h:=Un.kept fun _ _ q => q
theorem Un.laid (k : ∀ b u,h.get? b = some u -> h'.get? b = some u) (hp : h.objs.size <= a) (hn : H a = none) : Un fs ex H (upd H a o) h h' where
 keep:=fun b u q _ _ _ => k b u q
 slot:=fun b u q _ _ _ => ⟨u.slots,k b u q⟩
 free:=fun b u q n _ => by rw [aw (Nat.ne_of_lt (Nat.lt_of_lt_of_le (Heap.lt_size q) hp))]; exact n
 there:=fun b u q _ => ⟨u,k b u q⟩
 tups:=fun b xs q => by rw [aw (aJ q hn)]; exact q
 frzs:=fun b u xs q => by rw [aw (aJ q hn)]; exact q
 tbls:=fun b ps q => ⟨#[],by rw [aw (aJ q hn),q]; simp⟩
theorem Un.write (mu : Mut (H x)) (he : e = x \/ H e = some (.own x)) (k : ∀ b u,b ≠ e -> h.get? b = some u -> h'.get? b = some u) (heo : ∃ u,h'.get? e = some u) : Un fs ex H (upd H x o) h h' := by
 have hx : ∀ b,H b = none -> b ≠ x:=fun b n z => by subst z; rw [n] at mu; exact mu
 have hb : ∀ b,H b = none -> b ≠ e:=fun b n z => by
  subst z
  rcases he with r | r
  ·exact hx b n r
  ·rw [n] at r; cases r
 have hm : ∀ b u,H b = some u -> ¬ Mut (some u) -> b ≠ x:=fun b u q nm z => by subst z; rw [q] at mu; exact nm mu
 refine ⟨fun b u q n _ _ => k b u (hb b n) q,fun b u q n _ _ => ⟨u.slots,k b u (hb b n) q⟩,fun b u q n _ => by rw [aw (hx b n)]; exact n,fun b u q _ => ?_,
  fun b xs q => by rw [aw (hm b _ q fun z => z)]; exact q,fun b u xs q => by rw [aw (hm b _ q fun z => z)]; exact q,fun b ps q => ⟨#[],by rw [aw (hm b _ q fun z => z),q]; simp⟩⟩
 by_cases hbe : b = e
 ·subst hbe; exact heo
 ·exact ⟨u,k b u hbe q⟩
end
def trk (h : Heap) (H : Hp) : List Addr:=(List.range h.objs.size).filter fun a => (H a).isSome
def kR (h : Heap) (H : Hp) : Heap:=PySem.W.hideAll h (trk h H)
theorem oV (h : Heap) (H : Hp) : (kR h H).objs.size = h.objs.size:=PySem.W.hideAll_size _ _
theorem pH {h : Heap} {H : Hp} {b : Addr} {o : Obj} (e : h.get? b = some o) (n : H b = none) : (kR h H).get? b = some o:=
 PySem.W.hideAll_get _ e fun hm => by
  have q : (H b).isSome = true:=(List.mem_filter.mp hm).2
  rw [n] at q; simp at q
theorem qB {h : Heap} {H : Hp} {b : Addr} {o : Obj} (e : (kR h H).get? b = some o) : h.get? b = some o /\ H b = none:=by
 have e' : h.get? b = some o:=PySem.W.of_hideAll (trk h H) e
 refine ⟨e',?_⟩
 cases q : H b with
 | none => rfl
 | some x =>
  have hm : b ∈ trk h H:=List.mem_filter.mpr ⟨List.mem_range.mpr (Heap.lt_size e'),by simp [q]⟩
  have z : (kR h H).get? b = none:=PySem.W.hideAll_none (trk h H) hm
  rw [z] at e; cases e
def qq (g h : Heap) (L : Addr) : List (Addr × Obj):=(List.range h.objs.size).filterMap fun a => if a = L \/ (g.get? a).isSome = true then none else (h.get? a).map fun o => (a,o)
def rest (g h : Heap) (L d : Addr) : List (Addr × Obj):=(qq g h L).filter fun p => decide (p.1 ≠ d)
end L2
namespace L2
open PySem PySem.Spec PyProof.Rows
structure Mod (K : PySem.W.Frag) (mg : Str -> Option Value) (base : Heap) : Prop where
 kin : K.In base
 glob : base.Ns mainGlobals mg
 blt : ∃ mb,base.Ns builtinsNs mb /\ ∀ x : Str,x ≠ "__name__" -> mb x = bootBuiltins x
 nolimit : base.NoLimit
structure Cx where
 prog : Program
 w : World
 K : PySem.W.Frag
 mg : Str -> Option Value
 base : Heap
 A : Around
 N : List Str
 s₀ : Shared
 H₀ : Hp
 env : Env
 outer : List Env
 stack : List Env
 ex : List Addr
 fn : Str -> Bool
 calm : Bool
 pn : List (Addr × Obj)
 xe : Value -> Shared -> Prop
def frs (l : List Env) : List Addr:=l.filterMap (·.frame)
abbrev Cx.fs (X : Cx) : List Addr:=frs X.outer
def Vis (sc : Scope) (x : Str) : Prop:=sc.names.lookup x = some .local \/ sc.names.lookup x = some .cell \/ sc.names.lookup x = some .free
def Loc (sc : Scope) (x : Str) : Prop:=sc.names.lookup x = some .local \/ sc.names.lookup x = some .cell
def Look (env : Env) (h : Heap) (m : Str -> Option Value) (x : Str) (u : Value) : Prop:=
 (env.kindOf x = some .local /\ m x = some u) \/ ((env.kindOf x = some .cell \/ env.kindOf x = some .free) /\ ∃ c,env.cells.lookup x = some c /\ h.IsCell c (some u))
structure Cx.Ok (X : Cx) : Prop where
 mod : Mod X.K X.mg X.base
 kind : X.env.scope.kind = .function
 glob : X.env.globals = mainGlobals
 blt : X.env.builtins = builtinsNs
 above : X.s₀.heap.objs.size <= X.env.locals
 inj : ∀ x y c,X.env.cells.lookup x = some c -> X.env.cells.lookup y = some c -> x = y
 has : ∀ x,(X.env.kindOf x = some .cell \/ X.env.kindOf x = some .free) -> ∃ c,X.env.cells.lookup x = some c
 cab : ∀ x c,X.fn x = true -> X.env.cells.lookup x = some c -> X.s₀.heap.objs.size <= c
 hd : X.calm = true -> X.A.handled = none
 frames : X.A.frames = some X.stack
 stk : X.stack = X.outer \/ (X.stack = X.env :: X.outer /\ X.env.frame = some X.env.locals)
 exf : ∀ b ∈ X.ex,b ≠ X.env.locals /\ ∀ x c,X.env.cells.lookup x = some c -> c ≠ b
 bs : ∀ b o,X.base.get? b = some o -> X.s₀.heap.get? b = some o /\ X.H₀ b = none
 bsz : X.base.objs.size <= X.s₀.heap.objs.size
 noex : ∀ b o,X.base.get? b = some o -> b ∉ X.ex
 exfs : ∀ b ∈ X.ex,b ∉ X.fs
 funs : X.s₀.heap.FunFrames X.base X.outer
 frf : ∀ b ∈ X.fs,X.H₀ b = none
structure Inv (X : Cx) (pins : List (Addr × Obj)) (σ : List (Option V)) (H : Hp) (s : Shared) : Prop where
 ok : X.Ok
 os : s.os = X.s₀.os
 bare : AllBare s.gens
 base : Un X.fs X.ex X.H₀ H X.s₀.heap s.heap
 loc : ∃ m,s.heap.Ns X.env.locals m /\ ∀ (i : Nat) (x : Str) (v : V),X.N[i]? = some x -> σ[i]? = some (some v) -> Vis X.env.scope x -> ∃ u,RelV v u /\ Look X.env s.heap m x u
 cell : ∀ x c,X.env.cells.lookup x = some c -> ∃ v,s.heap.IsCell c v
 free : H X.env.locals = none
 freeC : ∀ x c,X.env.cells.lookup x = some c -> H c = none
 pin : ∀ p ∈ X.pn ++ pins,s.heap.get? p.1 = some p.2 /\ H p.1 = none /\ p.1 ≠ X.env.locals /\ p.1 ∉ X.fs /\ ∀ v,p.2.data ≠ .cell v
 hok : HOk X.prog X.w H s.heap
 len : σ.length = X.N.length
section
variable {X : Cx} {pins : List (Addr × Obj)} {σ : List (Option V)} {H H' : Hp} {s : Shared} {h' : Heap}
theorem Cx.Ok.nofr (ok : X.Ok) {b : Addr} {o : Obj} (e : X.base.get? b = some o) : b ∉ X.fs:=fun hb => by
 have:=(ok.funs.mem hb).1
 rw [e] at this; cases this
theorem Inv.bs (I : Inv X pins σ H s) : ∀ b o,X.base.get? b = some o -> s.heap.get? b = some o /\ H b = none:=fun b o e =>
 ⟨I.base.keep b o (I.ok.bs b o e).1 (I.ok.bs b o e).2 (I.ok.nofr e) (I.ok.noex b o e),I.base.free b o (I.ok.bs b o e).1 (I.ok.bs b o e).2 (I.ok.noex b o e)⟩
theorem Inv.bk (I : Inv X pins σ H s) : ∀ b o,X.base.get? b = some o -> s.heap.get? b = some o:=fun b o e => (I.bs b o e).1
theorem Inv.mod (I : Inv X pins σ H s) : Mod X.K X.mg X.base:=I.ok.mod
theorem Inv.kIn (I : Inv X pins σ H s) : X.K.In s.heap:=I.ok.mod.kin.keeps I.bk
theorem Inv.lt (I : Inv X pins σ H s) : X.env.locals < s.heap.objs.size:=let ⟨_,hn,_⟩:=I.loc; hn.lt
theorem Inv.sz (I : Inv X pins σ H s) : X.s₀.heap.objs.size <= s.heap.objs.size:=Nat.le_trans I.ok.above (Nat.le_of_lt I.lt)
theorem Inv.nofs (I : Inv X pins σ H s) {a : Addr} (h : s.heap.objs.size <= a) : a ∉ X.fs:=fun hb => by
 obtain ⟨_,o,ho,_⟩:=I.ok.funs.mem hb
 exact absurd (Nat.lt_of_lt_of_le (Heap.lt_size ho) (Nat.le_trans I.sz h)) (Nat.lt_irrefl _)
theorem Inv.cne (I : Inv X pins σ H s) : ∀ x c,X.env.cells.lookup x = some c -> c ≠ X.env.locals:=fun x c e z => by
 obtain ⟨v,o,ho,hd⟩:=I.cell x c e
 obtain ⟨m,⟨o',es,ep,ho',hd',_⟩,_⟩:=I.loc
 rw [z,ho'] at ho; cases ho; rw [hd'] at hd; cases hd
theorem Inv.funs (I : Inv X pins σ H s) : s.heap.FunFrames X.base X.outer:=by
 have all : ∀ (l : List Env),(∀ b ∈ frs l,b ∈ X.fs) -> X.s₀.heap.FunFrames X.base l -> s.heap.FunFrames X.base l:=by
  intro l
  induction l with
  | nil => intro _ _; trivial
  | cons env r ih =>
   intro hs hl
   obtain ⟨hk,⟨L,o,hf,hn,ho,hd⟩,hr⟩:=hl
   have hL : L ∈ X.fs:=hs L (by unfold frs; rw [List.filterMap_cons,hf]; exact List.mem_cons_self)
   obtain ⟨sl,e⟩:=I.base.slot L o ho (I.ok.frf L hL) hL fun z => I.ok.exfs L z hL
   exact ⟨hk,⟨L,_,hf,hn,e,hd⟩,ih (fun b hb => hs b (by unfold frs; rw [List.filterMap_cons,hf]; exact List.mem_cons_of_mem _ hb)) hr⟩
 exact all X.outer (fun _ hb => hb) I.ok.funs
theorem Inv.stack (I : Inv X pins σ H s) : s.heap.FunFrames X.base X.stack:=by
 rcases I.ok.stk with e | ⟨e,hf⟩
 ·rw [e]; exact I.funs
 ·rw [e]
  obtain ⟨m,hn,_⟩:=I.loc
  refine .cons (by rw [I.ok.kind]; decide) hf hn ?_ I.funs
  exact Heap.get?_none_of_le (Nat.le_trans I.ok.bsz I.ok.above)
theorem Inv.stkSub (I : Inv X pins σ H s) : ∀ b ∈ frs X.stack,b ∈ X.env.locals :: X.fs:=fun b hb => by
 rcases I.ok.stk with e | ⟨e,hf⟩
 ·rw [e] at hb; exact List.mem_cons_of_mem _ hb
 ·rw [e] at hb
  unfold frs at hb
  rw [List.filterMap_cons,hf] at hb
  exact hb
theorem Inv.stkFree (I : Inv X pins σ H s) : ∀ b ∈ frs X.stack,H b = none:=fun b hb => by
 rcases List.mem_cons.mp (I.stkSub b hb) with e | hb
 ·rw [e]; exact I.free
 ·obtain ⟨_,o,ho,_⟩:=I.ok.funs.mem hb
  exact I.base.free b o ho (I.ok.frf b hb) fun z => I.ok.exfs b z hb
theorem Inv.step {g' : Array GenState} {t' : Nat} {d' : Drawn} {ch : List Addr} (I : Inv X pins σ H s)
  (hch : ∀ b ∈ ch,(b ∈ X.ex \/ X.s₀.heap.objs.size <= b) /\ b ≠ X.env.locals /\ (∀ x c,X.env.cells.lookup x = some c -> c ≠ b) /\ ∀ p ∈ X.pn ++ pins,p.1 ≠ b)
  (keep : ∀ b o,b ≠ X.env.locals -> b ∉ X.fs -> b ∉ ch -> s.heap.get? b = some o -> H b = none -> h'.get? b = some o)
  (slot : ∀ b o,b ≠ X.env.locals -> b ∈ X.fs -> b ∉ ch -> s.heap.get? b = some o -> H b = none -> ∃ sl,h'.get? b = some { o with slots:=sl }) (free : ∀ b o,b ∉ ch -> s.heap.get? b = some o -> H b = none -> H' b = none)
  (there : ∀ b o,b ∉ ch -> s.heap.get? b = some o -> ∃ o',h'.get? b = some o')
  (tups : ∀ b xs,H b = some (.tup xs) -> H' b = some (.tup xs)) (frzs : ∀ b o u,H b = some (.frz o u) -> H' b = some (.frz o u)) (tbls : ∀ b ps,H b = some (.tbl ps) -> ∃ more,H' b = some (.tbl (ps ++ more)))
  (ns : ∀ m,s.heap.Ns X.env.locals m -> h'.Ns X.env.locals m) (hok : HOk X.prog X.w H' h') (hg : AllBare g') :
  Inv X pins σ H' { s with heap:=h',gens:=g',drawn:=d',toks:=t' }:=by
 have neL : ∀ b o,X.s₀.heap.get? b = some o -> b ≠ X.env.locals:=fun b o e => Nat.ne_of_lt (Nat.lt_of_lt_of_le (Heap.lt_size e) I.ok.above)
 have neC : ∀ b o,X.s₀.heap.get? b = some o -> b ∉ X.ex -> b ∉ ch:=fun b o e hx hb => by
  rcases (hch b hb).1 with z | z
  ·exact hx z
  ·exact absurd (Nat.lt_of_lt_of_le (Heap.lt_size e) z) (Nat.lt_irrefl _)
 have cellK : ∀ x c,X.env.cells.lookup x = some c -> ∀ v,s.heap.IsCell c v -> h'.IsCell c v:=fun x c e v ⟨o,ho,hd⟩ => by
  have nch : c ∉ ch:=fun z => (hch c z).2.2.1 x c e rfl
  by_cases hc : c ∈ X.fs
  ·obtain ⟨sl,q⟩:=slot c o (I.cne x c e) hc nch ho (I.freeC x c e)
   exact ⟨_,q,hd⟩
  ·exact ⟨o,keep c o (I.cne x c e) hc nch ho (I.freeC x c e),hd⟩
 refine ⟨I.ok,I.os,hg,⟨fun b o e n hb hx => ?_,fun b o e n hb hx => ?_,fun b o e n hx => ?_,fun b o e hx => ?_,fun b xs e => tups b xs (I.base.tups b xs e),fun b o xs e => frzs b o xs (I.base.frzs b o xs e),fun b ps e => ?_⟩,?_,fun x c e => ?_,?_,fun x c e => ?_,fun p hp => ?_,hok,I.len⟩
 ·exact keep b o (neL b o e) hb (neC b o e hx) (I.base.keep b o e n hb hx) (I.base.free b o e n hx)
 ·obtain ⟨sl,e1⟩:=I.base.slot b o e n hb hx
  obtain ⟨sl',e2⟩:=slot b _ (neL b o e) hb (neC b o e hx) e1 (I.base.free b o e n hx)
  exact ⟨sl',e2⟩
 ·obtain ⟨o',e1⟩:=I.base.there b o e hx
  exact free b o' (neC b o e hx) e1 (I.base.free b o e n hx)
 ·obtain ⟨o',e1⟩:=I.base.there b o e hx
  exact there b o' (neC b o e hx) e1
 ·obtain ⟨m1,e1⟩:=I.base.tbls b ps e
  obtain ⟨m2,e2⟩:=tbls b _ e1
  exact ⟨m1 ++ m2,by rw [e2,Array.append_assoc]⟩
 ·obtain ⟨m,hn,hl⟩:=I.loc
  refine ⟨m,ns m hn,fun i x v e1 e2 e3 => ?_⟩
  obtain ⟨u,r,l⟩:=hl i x v e1 e2 e3
  refine ⟨u,r,?_⟩
  rcases l with l | ⟨k,c,e,z⟩
  ·exact .inl l
  ·exact .inr ⟨k,c,e,cellK x c e _ z⟩
 ·obtain ⟨v,z⟩:=I.cell x c e
  exact ⟨v,cellK x c e v z⟩
 ·obtain ⟨m,⟨o,_,_,ho,_⟩,_⟩:=I.loc
  exact free _ o (fun z => (hch _ z).2.1 rfl) ho I.free
 ·obtain ⟨v,o,ho,hd⟩:=I.cell x c e
  exact free c o (fun z => (hch c z).2.2.1 x c e rfl) ho (I.freeC x c e)
 ·obtain ⟨e,n,ne,nf,d⟩:=I.pin p hp
  have nch : p.1 ∉ ch:=fun z => (hch p.1 z).2.2.2 p hp rfl
  exact ⟨keep p.1 p.2 ne nf nch e n,free p.1 p.2 nch e n,ne,nf,d⟩
theorem Inv.un {t' : Nat} (I : Inv X pins σ H s) (u : Un X.fs [] H H' s.heap h') (hok : HOk X.prog X.w H' h') : Inv X pins σ H' { s with heap:=h',toks:=t' }:=by
 obtain ⟨m,⟨o,es,ep,ho,r⟩,_⟩:=id I.loc
 obtain ⟨sl,hL⟩:=u.any ho I.free (by simp)
 exact I.step (g' := s.gens) (d' := s.drawn) (ch:=[]) (fun _ z => nomatch z) (fun b o _ hb _ e n => u.keep b o e n hb (by simp)) (fun b o _ hb _ e n => u.slot b o e n hb (by simp)) (fun b o _ e n => u.free b o e n (by simp)) (fun b o _ e => u.there b o e (by simp)) u.tups u.frzs u.tbls (fun m' hm => by
  obtain ⟨o',es',ep',ho',r'⟩:=hm
  rw [ho] at ho'; cases ho'
  exact ⟨_,es',ep',hL,r'⟩) hok I.bare
theorem Inv.call {g' : Array GenState} {t' : Nat} {d' : Drawn} {ch : List Addr} (I : Inv X pins σ H s) (u : Un (frs X.stack) ch H H' s.heap h') (hok : HOk X.prog X.w H' h') (hg : AllBare g')
  (hch : ∀ b ∈ ch,(b ∈ X.ex \/ X.s₀.heap.objs.size <= b) /\ b ≠ X.env.locals /\ (∀ x c,X.env.cells.lookup x = some c -> c ≠ b) /\ ∀ p ∈ X.pn ++ pins,p.1 ≠ b) :
  Inv X pins σ H' { s with heap:=h',gens:=g',drawn:=d',toks:=t' }:=by
 obtain ⟨m,⟨o,es,ep,ho,r⟩,_⟩:=id I.loc
 obtain ⟨sl,hL⟩:=u.any ho I.free fun z => (hch _ z).2.1 rfl
 exact I.step (ch:=ch) hch (fun b o hL hb hc e n => u.keep b o e n (fun z => (List.mem_cons.mp (I.stkSub b z)).elim hL hb) hc) (fun b o _ _ hc e n => u.any e n hc) (fun b o hc e n => u.free b o e n hc) (fun b o hc e => u.there b o e hc) u.tups u.frzs u.tbls (fun m' hm => by
  obtain ⟨o',es',ep',ho',r'⟩:=hm
  rw [ho] at ho'; cases ho'
  exact ⟨_,es',ep',hL,r'⟩) hok hg
theorem Inv.turned {t' : Nat} {it : Addr} (I : Inv X pins σ H s) (k : ∀ b o,b ≠ it -> s.heap.get? b = some o -> h'.get? b = some o) (hn : H it = none) (hL : it ≠ X.env.locals)
  (h1 : it ∈ X.ex \/ X.s₀.heap.objs.size <= it) (h2 : ∀ x c,X.env.cells.lookup x = some c -> c ≠ it) (h3 : ∀ p ∈ X.pn ++ pins,p.1 ≠ it) : Inv X pins σ H { s with heap:=h',toks:=t' }:=by
 have nit : ∀ b u,H b = some u -> b ≠ it:=fun b u e z => by rw [z,hn] at e; cases e
 refine I.step (g' := s.gens) (d' := s.drawn) (ch:=[it]) (fun b hb => ?_) (fun b o _ _ hc e _ => k b o (fun z => hc (by simp [z])) e) (fun b o _ _ hc e _ => ⟨o.slots,k b o (fun z => hc (by simp [z])) e⟩) (fun _ _ _ _ n => n)
  (fun b o hc e => ⟨o,k b o (fun z => hc (by simp [z])) e⟩) (fun _ _ e => e) (fun _ _ _ e => e) (fun b ps e => ⟨#[],by rw [e]; simp⟩) (fun m hm => ?_) (fun b u e => ?_) I.bare
 ·have e : b = it:=by simpa using hb
  subst e
  exact ⟨h1,hL,h2,h3⟩
 ·obtain ⟨o,es,ep,ho,r⟩:=hm
  exact ⟨o,es,ep,k _ o (Ne.symm hL) ho,r⟩
 ·refine (I.hok b u e).stay (fun c v hc q => k c v ?_ q) (fun _ q => q) fun _ _ q => q
  rcases hc with z | z
  ·rw [z]; exact nit b u e
  ·exact nit c _ z
theorem Inv.tok (I : Inv X pins σ H s) (t : Nat) : Inv X pins σ H { s with toks:=t }:=I.un (h' := s.heap) (t' := t) Un.refl I.hok
theorem Inv.kept {t' : Nat} (I : Inv X pins σ H s) (k : ∀ b u,s.heap.get? b = some u -> h'.get? b = some u) : Inv X pins σ H { s with heap:=h',toks:=t' }:=I.un (Un.kept k) (I.hok.kept k)
theorem Inv.laid {a : Addr} {o : HO} {t' : Nat} (I : Inv X pins σ H s) (k : ∀ b u,s.heap.get? b = some u -> h'.get? b = some u) (hp : s.heap.objs.size <= a) (new : ObjOk X.prog X.w (upd H a o) h' a o) :
  Inv X pins σ (upd H a o) { s with heap:=h',toks:=t' }:=I.un (Un.laid k hp (I.hok.fresh hp)) (I.hok.laid k hp new)
theorem Inv.write {x e : Addr} {o : HO} {t' : Nat} (I : Inv X pins σ H s) (mu : Mut (H x)) (he : e = x \/ H e = some (.own x)) (k : ∀ b u,b ≠ e -> s.heap.get? b = some u -> h'.get? b = some u) (heo : ∃ u,h'.get? e = some u)
  (new : ObjOk X.prog X.w (upd H x o) h' x o) : Inv X pins σ (upd H x o) { s with heap:=h',toks:=t' }:=I.un (Un.write mu he k heo) (I.hok.write mu he k heo new)
theorem Inv.pins_of {pins' : List (Addr × Obj)} (I : Inv X pins σ H s) (h : ∀ p ∈ pins',s.heap.get? p.1 = some p.2 /\ H p.1 = none /\ p.1 ≠ X.env.locals /\ p.1 ∉ X.fs /\ ∀ v,p.2.data ≠ .cell v) : Inv X pins' σ H s:=
 ⟨I.ok,I.os,I.bare,I.base,I.loc,I.cell,I.free,I.freeC,fun p hp => (List.mem_append.mp hp).elim (fun z => I.pin p (List.mem_append_left _ z)) (h p),I.hok,I.len⟩
theorem nN {N : List Str} (hN : N.Nodup) {i j : Nat} {x : Str} (a : N[i]? = some x) (b : N[j]? = some x) : i = j:=by
 obtain ⟨h1,e1⟩:=List.getElem?_eq_some_iff.mp a
 obtain ⟨h2,e2⟩:=List.getElem?_eq_some_iff.mp b
 exact (List.getElem_inj hN).mp (e1.trans e2.symm)
theorem lS {M : Model} {A : Around} {E : Value -> Shared -> Prop} {i : Nat} {x : Str} {v : V} {u : Value} {Q : Unit -> Shared -> Prop} (I : Inv X pins σ H s) (hN : X.N.Nodup) (hi : X.N[i]? = some x) (hx : Loc X.env.scope x) (r : RelV v u)
  (h : ∀ s',Inv X pins (σ.set i (some v)) H s' -> (∃ a,Heap.SameBut a s.heap s'.heap /\ (a = X.env.locals \/ X.env.cells.lookup x = some a)) -> Q () s') (hf : X.fn x = true \/ X.env.scope.names.lookup x = some .local:=by first | exact .inl rfl | exact .inr rfl | assumption) : wpAny M A (storeName X.env x u) Q E s:=by
 obtain ⟨m,hn,hl⟩:=id I.loc
 have hcls : (X.env.scope.kind == .class || (X.env.scope.kind == .module && X.env.locals != X.env.globals)) = false:=by rw [I.ok.kind]; rfl
 have hiσ : i < σ.length:=by rw [I.len]; exact (List.getElem?_eq_some_iff.mp hi).1
 have cne:=I.cne
 have tracked : ∀ {a : Addr} {h' : Heap},(∃ o,s.heap.get? a = some o /\ H a = none) -> Heap.SameBut a s.heap h' -> HOk X.prog X.w H h' := fun {a h'} ha hs b ob e => by
  obtain ⟨_,_,hfree⟩:=ha
  refine (I.hok b ob e).stay (fun c w' hc q => (hs.2 c ?_).trans q) (fun _ q => q) fun _ _ q => q
  rintro rfl
  rcases hc with rfl | hc
  ·rw [hfree] at e; cases e
  ·rw [hfree] at hc; cases hc
 rcases hx with hk | hk
 ·refine wpAny_storeName_local hk hn (fun h' hn' hs => ?_) hcls
  obtain ⟨oL,_,_,hoL,_⟩:=id hn
  refine h _ ⟨I.ok,I.os,I.bare,⟨fun b o e n hb hx => ?_,fun b o e n hb hx => ?_,I.base.free,fun b o e hx => ?_,I.base.tups,I.base.frzs,I.base.tbls⟩,⟨_,hn',fun j y v' e1 e2 e3 => ?_⟩,fun y c e => ?_,I.free,I.freeC,fun p hp => ?_,tracked ⟨oL,hoL,I.free⟩ hs,by simpa using I.len⟩ ⟨_,hs,.inl rfl⟩
  ·exact (hs.2 b (Nat.ne_of_lt (Nat.lt_of_lt_of_le (Heap.lt_size e) I.ok.above))).trans (I.base.keep b o e n hb hx)
  ·obtain ⟨sl,e1⟩:=I.base.slot b o e n hb hx
   exact ⟨sl,(hs.2 b (Nat.ne_of_lt (Nat.lt_of_lt_of_le (Heap.lt_size e) I.ok.above))).trans e1⟩
  ·obtain ⟨o',e1⟩:=I.base.there b o e hx
   exact ⟨o',(hs.2 b (Nat.ne_of_lt (Nat.lt_of_lt_of_le (Heap.lt_size e) I.ok.above))).trans e1⟩
  ·by_cases hj : j = i
   ·subst hj
    rw [hi] at e1; cases e1
    rw [List.getElem?_set_self hiσ] at e2
    cases e2
    exact ⟨u,r,.inl ⟨hk,by simp⟩⟩
   ·rw [List.getElem?_set_ne (Ne.symm hj)] at e2
    obtain ⟨u',r',q⟩:=hl j y v' e1 e2 e3
    refine ⟨u',r',?_⟩
    rcases q with ⟨k,e⟩ | ⟨k,c,e,z⟩
    ·refine .inl ⟨k,?_⟩
     have : y ≠ x:=fun e => hj (nN hN e1 (e ▸ hi))
     simp [this,e]
    ·exact .inr ⟨k,c,e,z.sameBut hs (cne y c e)⟩
  ·obtain ⟨w',z⟩:=I.cell y c e
   exact ⟨w',z.sameBut hs (cne y c e)⟩
  ·obtain ⟨e,n,ne,nf,d⟩:=I.pin p hp
   exact ⟨(hs.2 p.1 ne).trans e,n,ne,nf,d⟩
 ·have hfn : X.fn x = true:=by
   rcases hf with z | z
   ·exact z
   ·rw [z] at hk; cases hk
  obtain ⟨c,hc⟩:=I.ok.has x (.inl hk)
  obtain ⟨w',z⟩:=I.cell x c hc
  refine wpAny_storeName_cell I.ok.kind hk hc z (fun h' hc' hs => ?_)
  obtain ⟨oc,hoc,hocd⟩:=id z
  refine h { s with heap:=h' } ⟨I.ok,I.os,I.bare,⟨fun b o e n hb hx => ?_,fun b o e n hb hx => ?_,I.base.free,fun b o e hx => ?_,I.base.tups,I.base.frzs,I.base.tbls⟩,⟨m,hn.sameBut hs (Ne.symm (cne x c hc)),fun j y v' e1 e2 e3 => ?_⟩,fun y c' e => ?_,I.free,I.freeC,fun p hp => ?_,tracked ⟨oc,hoc,I.freeC x c hc⟩ hs,by simpa using I.len⟩ ⟨c,hs,.inr hc⟩
  ·exact (hs.2 b (Nat.ne_of_lt (Nat.lt_of_lt_of_le (Heap.lt_size e) (I.ok.cab x c hfn hc)))).trans (I.base.keep b o e n hb hx)
  ·obtain ⟨sl,e1⟩:=I.base.slot b o e n hb hx
   exact ⟨sl,(hs.2 b (Nat.ne_of_lt (Nat.lt_of_lt_of_le (Heap.lt_size e) (I.ok.cab x c hfn hc)))).trans e1⟩
  ·obtain ⟨o',e1⟩:=I.base.there b o e hx
   exact ⟨o',(hs.2 b (Nat.ne_of_lt (Nat.lt_of_lt_of_le (Heap.lt_size e) (I.ok.cab x c hfn hc)))).trans e1⟩
  ·by_cases hj : j = i
   ·subst hj
    rw [hi] at e1; cases e1
    rw [List.getElem?_set_self hiσ] at e2
    cases e2
    exact ⟨u,r,.inr ⟨.inl hk,c,hc,hc'⟩⟩
   ·rw [List.getElem?_set_ne (Ne.symm hj)] at e2
    obtain ⟨u',r',q⟩:=hl j y v' e1 e2 e3
    refine ⟨u',r',?_⟩
    rcases q with q | ⟨k,c',e,z'⟩
    ·exact .inl q
    ·refine .inr ⟨k,c',e,z'.sameBut hs ?_⟩
     rintro rfl
     exact hj (nN hN e1 (I.ok.inj _ _ _ e hc ▸ hi))
  ·by_cases hcc : c' = c
   ·subst hcc; exact ⟨_,hc'⟩
   ·obtain ⟨w2,z2⟩:=I.cell y c' e
    exact ⟨w2,z2.sameBut hs hcc⟩
  ·obtain ⟨e,n,ne,nf,d⟩:=I.pin p hp
   refine ⟨(hs.2 p.1 ?_).trans e,n,ne,nf,d⟩
   intro q
   rw [q,hoc] at e
   have q' : oc = p.2:=Option.some.inj e
   exact d w' (by rw [<- q']; exact hocd)
theorem nS {M : Model} {A : Around} {E : Value -> Shared -> Prop} {i : Nat} {x : Str} {v : V} {u : Value} {Q : Unit -> Shared -> Prop} (I : Inv X pins σ H s) (hN : X.N.Nodup) (hi : X.N[i]? = some x) (hx : Loc X.env.scope x) (r : RelV v u)
  (h : ∀ s',Inv X pins (σ.set i (some v)) H s' -> Q () s') (hf : X.fn x = true \/ X.env.scope.names.lookup x = some .local:=by first | exact .inl rfl | exact .inr rfl | assumption) : wpAny M A (storeName X.env x u) Q E s:=
 lS I hN hi hx r (fun s' I' _ => h s' I') hf
theorem Inv.call' {s' : Shared} {ch : List Addr} (I : Inv X pins σ H s) (ho : s'.os = s.os) (u : Un (frs X.stack) ch H H' s.heap s'.heap) (hok : HOk X.prog X.w H' s'.heap) (hg : AllBare s'.gens)
  (hch : ∀ b ∈ ch,(b ∈ X.ex \/ X.s₀.heap.objs.size <= b) /\ b ≠ X.env.locals /\ (∀ x c,X.env.cells.lookup x = some c -> c ≠ b) /\ ∀ p ∈ X.pn ++ pins,p.1 ≠ b) : Inv X pins σ H' s' := by
 obtain ⟨h',g',d',t',o'⟩:=s'
 have e : o' = s.os:=ho
 subst e
 exact I.call (g' := g') (t' := t') (d' := d') u hok hg hch
end
abbrev XK:=Value -> Option Addr -> Hp -> Prop
abbrev St:=List (Option V)
abbrev VK:=V -> Hp -> Prop
abbrev TE:=St -> Hp -> VK -> Prop
abbrev TT:=St -> Hp -> (Bool -> Hp -> Prop) -> Prop
abbrev TA:=St -> Hp -> (List V -> Hp -> Prop) -> Prop
structure Ends where
 nx : St -> Hp -> Prop
 rt : VK
 bk : St -> Hp -> Prop:=fun _ _ => False
 ct : St -> Hp -> Prop:=fun _ _ => False
abbrev TS:=Ends -> St -> Hp -> Prop
def EP (X : Cx) (pins : List (Addr × Obj)) (σ : St) (Q : VK) (u : Value) (s' : Shared) : Prop := ∃ v H',Inv X pins σ H' s' /\ RelV v u /\ Q v H'
def TP (X : Cx) (pins : List (Addr × Obj)) (σ : St) (Q : Bool -> Hp -> Prop) (b : Bool) (s' : Shared) : Prop := ∃ H',Inv X pins σ H' s' /\ Q b H'
def AP (X : Cx) (pins : List (Addr × Obj)) (σ : St) (Q : List V -> Hp -> Prop) (us : List Value) (s' : Shared) : Prop := ∃ vs H',Inv X pins σ H' s' /\ Vals vs us /\ Q vs H'
def SP (X : Cx) (pins : List (Addr × Obj)) (D : Ends) (f : Flow) (s' : Shared) : Prop:=
 match f with
 | .next => ∃ σ' H',Inv X pins σ' H' s' /\ D.nx σ' H'
 | .brk => ∃ σ' H',Inv X pins σ' H' s' /\ D.bk σ' H'
 | .cont => ∃ σ' H',Inv X pins σ' H' s' /\ D.ct σ' H'
 | .ret u => ∃ v σ' H',Inv X pins σ' H' s' /\ RelV v u /\ D.rt v H'
def PE (X : Cx) (e : Expr) (t : TE) : Prop:=
 ∀ (pins : List (Addr × Obj)) (s : Shared) (σ : St) (H : Hp) (Q : VK),Inv X pins σ H s -> t σ H Q -> wpAny (model X.prog X.w) X.A (eval e X.env) (EP X pins σ Q) X.xe s
def PT (X : Cx) (e : Expr) (t : TT) : Prop:=
 ∀ (pins : List (Addr × Obj)) (s : Shared) (σ : St) (H : Hp) (Q : Bool -> Hp -> Prop),Inv X pins σ H s -> t σ H Q -> wpAny (model X.prog X.w) X.A (isTrue e X.env (eval e X.env)) (TP X pins σ Q) X.xe s
def PW (X : Cx) (e : Expr) (t : TT) : Prop:=
 ∀ (whole : Sem Value) (pins : List (Addr × Obj)) (s : Shared) (σ : St) (H : Hp) (Q : Bool -> Hp -> Prop),Inv X pins σ H s -> t σ H Q -> wpAny (model X.prog X.w) X.A (isTrue e X.env whole) (TP X pins σ Q) X.xe s
theorem PW.pt {X : Cx} {e : Expr} {t : TT} (h : PW X e t) : PT X e t:=h _
def PA (X : Cx) (es : List Expr) (t : TA) : Prop:=
 ∀ (pos : Pos) (pins : List (Addr × Obj)) (s : Shared) (σ : St) (H : Hp) (Q : List V -> Hp -> Prop),Inv X pins σ H s -> t σ H Q -> wpAny (model X.prog X.w) X.A (spliced (backTo pos (starEach es X.env))) (AP X pins σ Q) X.xe s
def PS (X : Cx) (st : Stmt) (t : TS) : Prop:=
 ∀ (pins : List (Addr × Obj)) (s : Shared) (σ : St) (H : Hp) (D : Ends),Inv X pins σ H s -> t D σ H -> wpAny (model X.prog X.w) X.A (exec st X.env) (SP X pins D) X.xe s
def PSs (X : Cx) (st : List Stmt) (t : TS) : Prop:=
 ∀ (pins : List (Addr × Obj)) (s : Shared) (σ : St) (H : Hp) (D : Ends),Inv X pins σ H s -> t D σ H -> wpAny (model X.prog X.w) X.A (execs st X.env) (SP X pins D) X.xe s
theorem thn {α : Type} {t : Sem α} {Q Q' : α -> Shared -> Prop} {M : Model} {A : Around} {E : Value -> Shared -> Prop} {s : Shared} (h : wpAny M A t Q E s) (hQ : ∀ a s,Q a s -> Q' a s) : wpAny M A t Q' E s:=wpAny_mono h hQ fun _ _ x => x
end L2
namespace L2
open PySem PySem.Spec PyProof.Rows
section
variable {X : Cx}
def dM (i : Nat) : TE:=fun σ H Q => ∃ v,σ[i]? = some (some v) /\ Q v H
def tC (v : V) : TE:=fun _ H Q => Q v H
theorem kr {i : Nat} {x : Str} {pos : Pos} (hN : X.N[i]? = some x) (hv : Vis X.env.scope x) (hd : (x == ("__debug__" : Str)) = false:=by decide) (hcd : (x == ("__classdict__" : Str)) = false:=by decide) : PE X (.Name x pos) (dM i):=by
 intro pins s σ H Q I h
 obtain ⟨v,e,h⟩:=h
 obtain ⟨m,hn,hl⟩:=I.loc
 obtain ⟨u,r,l⟩:=hl i x v hN e hv
 have fin : EP X pins σ Q u s:=⟨v,H,I,r,h⟩
 rcases l with ⟨hk,hm⟩ | ⟨hk,c,hc,hcell⟩
 ·exact wpAny_Name (wpAny_loadName_local I.ok.kind hk hn hm fin) hd
 ·rcases hk with hk | hk
  ·exact wpAny_Name (wpAny_loadName_cell I.ok.kind hk hc hcell fin) hd
  ·exact wpAny_Name (wpAny_loadName_free I.ok.kind hk hc hcell fin hcd) hd
theorem af {i j pos} : PE X (.Constant (.int i) j pos) (tC (.int i)):=fun _ _ _ H _ I h => wpAny_Constant_int ⟨.int i,H,I.tok _,⟨_,rfl⟩,h⟩
theorem dD {b j pos} : PE X (.Constant (.bool b) j pos) (tC (.bl b)):=fun _ _ _ H _ I h => Constant_bool ⟨.bl b,H,I,rfl,h⟩
theorem eS {j pos} : PE X (.Constant .none j pos) (tC .non):=fun _ _ _ H _ I h => Constant_none ⟨.non,H,I,rfl,h⟩
def Gl (X : Cx) (x : Str) : Prop:=X.env.kindOf x = some .globalImplicit
theorem j1 {E : Value -> Shared -> Prop} {pins : List (Addr × Obj)} {s : Shared} {σ : St} {H : Hp} {x : Str} {u : Value} {pos : Pos} {Q : Value -> Shared -> Prop} (I : Inv X pins σ H s) (hg : Gl X x) (hm : X.mg x = some u) (h : Q u s)
  (hd : (x == ("__debug__" : Str)) = false:=by decide) : wpAny (model X.prog X.w) X.A (eval (.Name x pos) X.env) Q E s:=
 Calls.Name_function_global I.ok.kind hg (Calls.loadGlobal_global (by rw [I.ok.glob]; exact I.mod.glob.keeps I.bk) hm h) hd
theorem kg {E : Value -> Shared -> Prop} {pins : List (Addr × Obj)} {s : Shared} {σ : St} {H : Hp} {x : Str} {u : Value} {pos : Pos} {Q : Value -> Shared -> Prop} (I : Inv X pins σ H s) (hg : Gl X x) (hm : X.mg x = none) (hv : bootBuiltins x = some u) (h : Q u s)
  (hn : x ≠ "__name__" := by decide) (hd : (x == ("__debug__" : Str)) = false:=by decide) : wpAny (model X.prog X.w) X.A (eval (.Name x pos) X.env) Q E s:=by
 obtain ⟨mb,h1,h2⟩:=I.mod.blt
 exact Calls.Name_function_global I.ok.kind hg (Calls.loadGlobal_builtin (by rw [I.ok.glob]; exact I.mod.glob.keeps I.bk) hm (by rw [I.ok.blt]; exact h1.keeps I.bk) ((h2 x hn).trans hv) h) hd
theorem qL {x : Str} {v : V} {u : Value} {pos : Pos} (hg : Gl X x) (hm : X.mg x = some u) (r : RelV v u) (hd : (x == ("__debug__" : Str)) = false:=by decide) : PE X (.Name x pos) (tC v):=
 fun _ _ _ H _ I h => j1 I hg hm ⟨v,H,I,r,h⟩ hd
theorem eA {x : Str} {v : V} {u : Value} {pos : Pos} (hg : Gl X x) (hm : X.mg x = none) (hv : bootBuiltins x = some u) (r : RelV v u) (hn : x ≠ "__name__" := by decide) (hd : (x == ("__debug__" : Str)) = false:=by decide) : PE X (.Name x pos) (tC v):=
 fun _ _ _ H _ I h => kg I hg hm hv ⟨v,H,I,r,h⟩ hn hd
variable {a b : Expr} {ta tb : TE} {pos : Pos}
def tB (t : TE) : TT:=fun σ H Q => t σ H fun x H1 => ∃ c,x = .bl c /\ Q c H1
theorem cf {e : Expr} {t : TE} (h : PE X e t) (he : ∀ whole,isTrue e X.env whole = (do let v <- whole; standAt e.pos; holding [v] (truthy v)):=by intro _; rfl) : PT X e (tB t):=by
 intro pins s σ H Q I hw
 refine isTrue_plain (thn (h pins s σ H _ I hw) fun v s1 ⟨x,H1,I1,r1,q1⟩ => ?_) (he _)
 obtain ⟨d,rfl,q⟩:=q1
 cases r1
 exact wpAny_truthy_bool ⟨H1,I1,q⟩
variable {tA tB' : TT} {rest : List Expr}
def tOr (t u : TT) : TT:=fun σ H Q => t σ H fun c H1 => if c = true then Q true H1 else u σ H1 Q
def sN (t : TT) : TT:=fun σ H Q => t σ H fun c H1 => Q (!c) H1
theorem mW (ha : PT X a tA) : PW X (.BoolOp .Or [a] pos) tA:=by
 intro wh pins s σ H Q I h
 refine isTrue_or (thn (ha pins s σ H Q I h) fun c s1 e => ?_)
 cases c with
 | false => exact isTrue_or_nil e
 | true => exact e
theorem oH (ha : PT X a tA) (hb : PW X (.BoolOp .Or (b :: rest) pos) tB') : PW X (.BoolOp .Or (a :: b :: rest) pos) (tOr tA tB'):=by
 intro wh pins s σ H Q I h
 refine isTrue_or (thn (ha pins s σ H _ I h) fun c s1 ⟨H1,I1,q1⟩ => ?_)
 cases c with
 | true => exact ⟨H1,I1,q1⟩
 | false => exact hb wh pins s1 σ H1 Q I1 q1
theorem cc (ha : PT X a tA) : PT X (.UnaryOp .Not a pos) (sN tA):=by
 intro pins s σ H Q I h
 exact isTrue_not (ha pins s σ H (fun c H1 => Q (!c) H1) I h)
def sf (ta tb : TE) : TE:=fun σ H Q => ta σ H fun x H1 => ∃ c,x = .bl c /\ if c = true then tb σ H1 Q else Q (.bl false) H1
def sk (ta : TE) : TE:=fun σ H Q => ta σ H fun x H1 => ∃ c,x = .bl c /\ Q (.bl (!c)) H1
theorem mN {op} {t : TE} (h : PE X a t) : PE X (.BoolOp op [a] pos) t:=fun pins s σ H Q I hw => BoolOp_one (h pins s σ H Q I hw)
theorem mM (ha : PE X a ta) (hb : PE X (.BoolOp .And (b :: rest) pos) tb) : PE X (.BoolOp .And (a :: b :: rest) pos) (sf ta tb):=by
 intro pins s σ H Q I h
 refine BoolOp_and (thn (ha pins s σ H _ I h) fun v s1 ⟨x,H1,I1,r1,q1⟩ => ?_)
 obtain ⟨c,rfl,q1⟩:=q1
 cases r1
 refine wpAny_truthy_bool ?_
 cases c with
 | true => exact hb pins s1 σ H1 Q I1 q1
 | false => exact ⟨.bl false,H1,I1,rfl,q1⟩
theorem rH (ha : PE X a ta) : PE X (.UnaryOp .Not a pos) (sk ta):=by
 intro pins s σ H Q I h
 refine UnaryOp_ (thn (ha pins s σ H _ I h) fun v s1 ⟨x,H1,I1,r1,q1⟩ => ?_)
 obtain ⟨c,rfl,q1⟩:=q1
 cases r1
 exact not_of (wpAny_truthy_bool ⟨.bl (!c),H1,I1,rfl,q1⟩)
end
end L2
namespace L2
open PySem PySem.Spec PyProof.Rows
def SqL (K : PySem.W.Frag) (H : Hp) (a : Addr) (xs : List V) : Prop:=
 Rd H a (.lst xs) \/
  ∃ (o : Obj) (its : Array Value) (n : Nat),K.lookup a = some o /\ o.cls = .type "list" /\ o.dict = none /\ o.data = .seq its n /\ its.size <= sizeLine /\ Vals xs its.toList
def SqT (K : PySem.W.Frag) (H : Hp) (a : Addr) (xs : List V) : Prop:=
 Rd H a (.tup xs) \/
  ∃ (o : Obj) (its : Array Value) (n : Nat),K.lookup a = some o /\ o.cls = .type "tuple" /\ o.data = .seq its n /\ its.size <= sizeLine /\ Vals xs its.toList
def sx : Value -> Option V
 | .none => some .non
 | .bool b => some (.bl b)
 | .int i _ => some (.int i)
 | .str x _ => some (.str x)
 | .bytes b _ => some (.byt b)
 | .float b _ => some (.flt b)
 | .ref a => some (.ref a)
 | .type n => some (.ty n)
 | _ => none
theorem RelV.abs {x : V} {u : Value} (r : RelV x u) : sx u = some x:=by
 cases x with
 | non => cases r; rfl
 | bl _ => cases r; rfl
 | int _ => obtain ⟨t,rfl⟩:=r; rfl
 | str _ => obtain ⟨t,rfl⟩:=r; rfl
 | byt _ => obtain ⟨t,rfl⟩:=r; rfl
 | flt _ => obtain ⟨t,rfl⟩:=r; rfl
 | ref _ => cases r; rfl
 | ty _ => cases r; rfl
theorem RelV.inj {x y : V} {u : Value} (r : RelV x u) (q : RelV y u) : x = y:=Option.some.inj (r.abs.symm.trans q.abs)
theorem Vals.inj : ∀ {xs ys : List V} {us : List Value},Vals xs us -> Vals ys us -> xs = ys
 | _,_,_,.nil,.nil => rfl
 | _,_,_,.cons r t,.cons r' t' => by rw [r.inj r',Vals.inj t t']
section
variable {X : Cx} {pins : List (Addr × Obj)} {σ : St} {H : Hp} {s : Shared} {a : Addr} {xs ys : List V}
theorem SqL.of {K : PySem.W.Frag} (h : H a = some (.lst xs)) : SqL K H a xs:=.inl (.inl h)
theorem SqT.of {K : PySem.W.Frag} (h : H a = some (.tup xs)) : SqT K H a xs:=.inl (.inl h)
theorem Inv.list (I : Inv X pins σ H s) (h : SqL X.K H a xs) : ∃ its : List Value,Vals xs its /\ PlainL s.heap a its.toArray /\ xs.length <= sizeLine:=by
 rcases h with h | ⟨o,its,n,hk,hc,hd,hs,hz,r⟩
 ·obtain ⟨z,its,n,r,e⟩:=h.ok I.hok
  exact ⟨its,r,⟨_,n,e,rfl,rfl,rfl⟩,z⟩
 ·refine ⟨its.toList,r,⟨o,n,I.kIn a o hk,hc,hd,by simpa using hs⟩,?_⟩
  have e:=r.length
  simp only [Array.length_toList] at e
  omega
theorem Inv.tuple (I : Inv X pins σ H s) (h : SqT X.K H a xs) : ∃ its : List Value,Vals xs its /\ IsTup s.heap a its.toArray /\ xs.length <= sizeLine:=by
 rcases h with h | ⟨o,its,n,hk,hc,hs,hz,r⟩
 ·obtain ⟨z,its,r,p⟩:=h.ok I.hok
  exact ⟨its,r,p,z⟩
 ·refine ⟨its.toList,r,⟨o,I.kIn a o hk,hc,n,by simpa using hs⟩,?_⟩
  have e:=r.length
  simp only [Array.length_toList] at e
  omega
theorem Inv.list_inj (I : Inv X pins σ H s) (h : SqL X.K H a xs) (h' : SqL X.K H a ys) : xs = ys:=by
 obtain ⟨its,r,⟨o,n,e,_,_,d⟩,_⟩:=I.list h
 obtain ⟨its',r',⟨o',n',e',_,_,d'⟩,_⟩:=I.list h'
 rw [e] at e'; cases e'
 rw [d] at d'
 injection d' with d1 _
 have : its = its' := by simpa using congrArg Array.toList d1
 subst this
 exact r.inj r'
end
abbrev Cx.wish (X : Cx) (E : Value -> Shared -> Prop) : Cx:={ X with xe:=E }
abbrev Cx.nox (X : Cx) : Cx:=X.wish fun _ _ => False
theorem Cx.Ok.wish {X : Cx} (ok : X.Ok) (E : Value -> Shared -> Prop) : (X.wish E).Ok:=
 ⟨ok.mod,ok.kind,ok.glob,ok.blt,ok.above,ok.inj,ok.has,ok.cab,ok.hd,ok.frames,ok.stk,ok.exf,ok.bs,ok.bsz,ok.noex,ok.exfs,ok.funs,ok.frf⟩
theorem Cx.Ok.unwish {X : Cx} {E : Value -> Shared -> Prop} (ok : (X.wish E).Ok) : X.Ok:=
 ⟨ok.mod,ok.kind,ok.glob,ok.blt,ok.above,ok.inj,ok.has,ok.cab,ok.hd,ok.frames,ok.stk,ok.exf,ok.bs,ok.bsz,ok.noex,ok.exfs,ok.funs,ok.frf⟩
section
variable {X : Cx} {pins : List (Addr × Obj)} {σ : St} {H : Hp} {s : Shared} {E : Value -> Shared -> Prop}
theorem Inv.wish (I : Inv X pins σ H s) (E : Value -> Shared -> Prop) : Inv (X.wish E) pins σ H s:=⟨I.ok.wish E,I.os,I.bare,I.base,I.loc,I.cell,I.free,I.freeC,I.pin,I.hok,I.len⟩
theorem Inv.unwish (I : Inv (X.wish E) pins σ H s) : Inv X pins σ H s:=⟨I.ok.unwish,I.os,I.bare,I.base,I.loc,I.cell,I.free,I.freeC,I.pin,I.hok,I.len⟩
theorem SP.unwish {D : Ends} {f : Flow} {s' : Shared} (h : SP (X.wish E) pins D f s') : SP X pins D f s' := by
 cases f with
 | next => obtain ⟨σ',H',I,q⟩:=h; exact ⟨σ',H',I.unwish,q⟩
 | brk => obtain ⟨σ',H',I,q⟩:=h; exact ⟨σ',H',I.unwish,q⟩
 | cont => obtain ⟨σ',H',I,q⟩:=h; exact ⟨σ',H',I.unwish,q⟩
 | ret u => obtain ⟨v,σ',H',I,r,q⟩:=h; exact ⟨v,σ',H',I.unwish,r,q⟩
theorem PSs.nox {st : List Stmt} {t : TS} (h : PSs X.nox st t) : PSs X st t:=fun pins s σ H D I hw =>
 wpAny_mono (h pins s σ H D (I.wish _) hw) (fun _ _ q => q.unwish) fun _ _ z => False.elim z
end
section
variable {X : Cx} {st : Stmt} {rest : List Stmt} {t u : TS} {e : Expr} {te : TE} {pos : Pos}
def nT : TS:=fun D σ H => D.nx σ H
def nU (t u : TS) : TS:=fun D σ H => t { D with nx:=u D } σ H
theorem aO : PSs X [] nT:=fun _ _ σ H _ I h => wpAny_execs_nil ⟨σ,H,I,h⟩
theorem ao (h1 : PS X st t) (h2 : PSs X rest u) : PSs X (st :: rest) (nU t u):=by
 intro pins s σ H D I h
 refine wpAny_execs_cons (thn (h1 pins s σ H { D with nx:=u D } I h) fun f s1 q => ?_)
 cases f with
 | next =>
  obtain ⟨σ',H',I',q⟩:=q
  exact h2 pins s1 σ' H' D I' q
 | ret v => exact q
 | brk => exact q
 | cont => exact q
theorem ai (h1 : PS X st t) : PSs X [st] t:=by
 intro pins s σ H D I h
 refine wpAny_execs_cons (thn (h1 pins s σ H D I h) fun f s1 q => ?_)
 cases f with
 | next => exact wpAny_execs_nil q
 | ret v => exact q
 | brk => exact q
 | cont => exact q
theorem Inv.quiet {pins : List (Addr × Obj)} {σ : St} {H : Hp} {s : Shared} (I : Inv X pins σ H s) : interactive X.env = false:=by simp [interactive,I.ok.kind]
def sh (te : TE) : TS:=fun D σ H => te σ H fun _ H1 => D.nx σ H1
theorem mV (he : PE X e te) (hs : swapsWith e none pos.line X.env = pure false:=by rfl) : PS X (.Expr e pos) (sh te):=by
 intro pins s σ H D I h
 exact wpAny_Expr_any (thn (he pins s σ H _ I h) fun v s1 ⟨x,H1,I1,r1,q1⟩ => ⟨σ,H1,I1,q1⟩) I.quiet hs
def sm (te : TE) : TS:=fun D σ H => te σ H D.rt
theorem au (he : PE X e te) : PS X (.Return (some e) pos) (sm te):=by
 intro pins s σ H D I h
 exact wpAny_Return_some (thn (he pins s σ H _ I h) fun v s1 ⟨x,H1,I1,r1,q1⟩ => ⟨x,σ,H1,I1,r1,q1⟩)
def rM (c : TT) (t u : TS) : TS:=fun D σ H => c σ H fun b H1 => if b = true then t D σ H1 else u D σ H1
theorem bX {c : Expr} {a b : List Stmt} {tc : TT} (hc : PT X c tc) (ha : PSs X a t) (hb : PSs X b u) : PS X (.If c a b pos) (rM tc t u):=by
 intro pins s σ H D I h
 refine wpAny_If (thn (hc pins s σ H _ I h) fun d s1 ⟨H1,I1,q1⟩ => ?_)
 cases d with
 | true => exact ha pins s1 σ H1 D I1 q1
 | false => exact hb pins s1 σ H1 D I1 q1
end
abbrev TG:=V -> St -> Hp -> (St -> Hp -> Prop) -> Prop
abbrev TGs:=List V -> St -> Hp -> (St -> Hp -> Prop) -> Prop
def PG (X : Cx) (target : Expr) (t : TG) : Prop:=
 ∀ (pins : List (Addr × Obj)) (s : Shared) (σ : St) (H : Hp) (v : V) (u : Value) (Q : St -> Hp -> Prop),Inv X pins σ H s -> RelV v u -> t v σ H Q ->
  wpAny (model X.prog X.w) X.A (assign target X.env u) (fun _ s' => ∃ σ' H',Inv X pins σ' H' s' /\ Q σ' H') X.xe s
def PGs (X : Cx) (ts : List Expr) (t : TGs) : Prop:=
 ∀ (pins : List (Addr × Obj)) (s : Shared) (σ : St) (H : Hp) (vs : List V) (us : List Value) (Q : St -> Hp -> Prop),Inv X pins σ H s -> Vals vs us -> t vs σ H Q ->
  wpAny (model X.prog X.w) X.A (assignInOrder ((assignEach ts X.env).map (·.2)) us) (fun _ s' => ∃ σ' H',Inv X pins σ' H' s' /\ Q σ' H') X.xe s
section
variable {X : Cx} {pos : Pos}
def aV (i : Nat) : TG:=fun v σ H Q => Q (σ.set i (some v)) H
theorem aR {i : Nat} {x : Str} (hN : X.N.Nodup) (hi : X.N[i]? = some x) (hx : Loc X.env.scope x) (hf : X.fn x = true \/ X.env.scope.names.lookup x = some .local:=by first | exact .inl rfl | exact .inr rfl | assumption) : PG X (.Name x pos) (aV i):=by
 intro pins s σ H v u Q I r h
 exact wpAny_assign_Name (nS I hN hi hx r (fun s' I' => ⟨_,H,I',h⟩) hf)
def q4 : TGs:=fun vs σ H Q => vs = [] /\ Q σ H
def nI (t : TG) (u : TGs) : TGs:=fun vs σ H Q => ∃ v r,vs = v :: r /\ t v σ H fun σ' H' => u r σ' H' Q
theorem gB : PGs X [] q4:=by
 intro pins s σ H vs us Q I r h
 obtain ⟨e,h⟩:=h
 subst e
 cases r
 exact assignInOrder_nil ⟨σ,H,I,h⟩
theorem bQ {e : Expr} {es : List Expr} {t : TG} {u : TGs} (h1 : PG X e t) (h2 : PGs X es u)
  (hs : (assignEach (e :: es) X.env).map (·.2) = assign e X.env :: (assignEach es X.env).map (·.2):=by rfl) : PGs X (e :: es) (nI t u):=by
 intro pins s σ H vs us Q I r h
 obtain ⟨v,vr,e1,h⟩:=h
 subst e1
 cases r with
 | cons r rr =>
  rw [hs]
  refine assignInOrder_cons (thn (h1 pins s σ H _ _ _ I r h) fun _ s1 ⟨σ1,H1,I1,q1⟩ => ?_)
  exact h2 pins s1 σ1 H1 _ _ Q I1 rr q1
def qw (K : PySem.W.Frag) (n : Nat) (t : TGs) : TG:=fun v σ H Q => ∃ a xs,v = .ref a /\ SqT K H a xs /\ xs.length = n /\ t xs σ H Q
theorem rJ {es : List Expr} {k : Nat} {t : TGs} {n : Nat} (hc : X.calm = true) (h : PGs X es t)
  (hn : (assignEach es X.env).length = n:=by rfl) (hst : (assignEach es X.env).findIdx? (·.1) = none:=by rfl) : PG X (.Tuple es k pos) (qw X.K n t):=by
 intro pins s σ H v u Q I r hw
 obtain ⟨a,xs,e1,hq,hl,hw⟩:=hw
 subst e1
 cases r
 obtain ⟨its,rv,ht,hz⟩:=I.tuple hq
 refine assign_Tuple_tuple (I.ok.hd hc) ht (by simp [hn,<- hl,rv.length]) hst fun h' hx => ?_
 have I1 : Inv X pins σ H { s with heap:=h' }:=I.kept (t' := s.toks) fun b o e => hx b o (Nat.ne_of_lt (Heap.lt_size e)) e
 exact h pins _ σ H xs _ Q I1 (by simpa using rv) hw
def qe (te : TE) (g : TG) : TS:=fun D σ H => te σ H fun x H1 => g x σ H1 D.nx
theorem aW {i : Nat} {x : Str} {e : Expr} {te : TE} {pos' : Pos} (hN : X.N.Nodup) (hi : X.N[i]? = some x) (hx : Loc X.env.scope x) (he : PE X e te) (hs : swapsWith e (some (.Name x pos')) pos.line X.env = pure false:=by rfl) (hf : X.fn x = true \/ X.env.scope.names.lookup x = some .local:=by first | exact .inl rfl | exact .inr rfl | assumption) :
  PS X (.Assign [.Name x pos'] e pos) (qe te (aV i)):=by
 intro pins s σ H D I h
 refine wpAny_Assign_Name (thn (he pins s σ H _ I h) fun v s1 ⟨y,H1,I1,r1,q1⟩ => ?_) hs
 exact nS I1 hN hi hx r1 (fun s2 I2 => ⟨_,H1,I2,q1⟩) hf
end
section
variable {X : Cx} {pos : Pos}
end
structure It where
 go : Nat -> Hp -> Prop
 yld : Nat -> Hp -> V -> Hp -> Prop
 stop : Nat -> Hp -> Prop
def jd (X : Cx) (pins : List (Addr × Obj)) (H : Hp) (b : Addr) : Prop:=
 H b = none /\ b ≠ X.env.locals /\ b ∉ X.fs /\ (b ∈ X.ex \/ X.s₀.heap.objs.size <= b) /\ (∀ x c,X.env.cells.lookup x = some c -> c ≠ b) /\ ∀ p ∈ X.pn ++ pins,p.1 ≠ b
theorem Inv.fpOk {X : Cx} {pins : List (Addr × Obj)} {σ : St} {H H' : Hp} {s : Shared} {b : Addr} (I : Inv X pins σ H s) (hb : s.heap.objs.size <= b) (hn : H' b = none) : jd X pins H' b:=by
 refine ⟨hn,Nat.ne_of_gt (Nat.lt_of_lt_of_le I.lt hb),I.nofs hb,.inr (Nat.le_trans I.sz hb),fun x c e z => ?_,fun p hp z => ?_⟩
 ·obtain ⟨v,q⟩:=I.cell x c e
  exact absurd (Nat.lt_of_lt_of_le q.lt (by rw [z]; exact hb)) (Nat.lt_irrefl _)
 ·exact absurd (Nat.lt_of_lt_of_le (Heap.lt_size (I.pin p hp).1) (by rw [z]; exact hb)) (Nat.lt_irrefl _)
structure Turn (P : Program) (w : World) (K : PySem.W.Frag) (tg : Expr) (J : It) (fp : List Addr) (it : Addr) (tn : Nat -> Heap -> Prop) : Prop where
 mem : it ∈ fp
 obj : ∀ i h,tn i h -> ∀ b ∈ fp,∃ o,h.get? b = some o /\ ∀ v,o.data ≠ .cell v
 keep : ∀ i h h',tn i h -> (∀ b ∈ fp,∀ o,h.get? b = some o -> h'.get? b = some o) -> tn i h'
 item : ∀ (X : Cx),X.prog = P -> X.w = w -> X.K = K -> X.calm = true -> ∀ (i : Nat) (pins : List (Addr × Obj)) (s : Shared) (σ : St) (H : Hp) (E : Value -> Shared -> Prop),Inv X pins σ H s -> (∀ b ∈ fp,jd X pins H b) -> tn i s.heap -> J.go i H ->
  wpAny (model P w) X.A (pyNext (.ref it)) (fun r s1 => ∃ u,r = some u /\
   wpAny (model P w) X.A (letOwnedTupleGo tg (.ref it) u) (fun _ s2 => ∃ x H',Inv X pins σ H' s2 /\ RelV x u /\ J.yld i H x H' /\ tn (i + 1) s2.heap /\ ∀ b ∈ fp,H' b = none) E s1) E s
 done : ∀ (X : Cx),X.prog = P -> X.w = w -> X.K = K -> X.calm = true -> ∀ (i : Nat) (pins : List (Addr × Obj)) (s : Shared) (σ : St) (H : Hp) (E : Value -> Shared -> Prop),Inv X pins σ H s -> (∀ b ∈ fp,jd X pins H b) -> tn i s.heap -> J.stop i H ->
  wpAny (model P w) X.A (pyNext (.ref it)) (fun r s1 => r = none /\ Inv X pins σ H s1) E s
 self : ∀ (A : Around) (i : Nat) (s : Shared) (Q : Value -> Shared -> Prop) (E : Value -> Shared -> Prop),tn i s.heap -> Q (.ref it) s -> wpAny (model P w) A (pyIter (.ref it)) Q E s
abbrev TI:=St -> Hp -> (It -> Hp -> Prop) -> Prop
def PIE (X : Cx) (pins : List (Addr × Obj)) (σ : St) (tg : Expr) (R : It -> Hp -> Prop) (itv : Value) (s2 : Shared) : Prop:=
 ∃ (it : Addr) (fp : List Addr) (tn : Nat -> Heap -> Prop) (J : It) (H' : Hp),itv = .ref it /\ Inv X pins σ H' s2 /\ Turn X.prog X.w X.K tg J fp it tn /\ tn 0 s2.heap /\ (∀ b ∈ fp,jd X pins H' b) /\ R J H'
def PI (X : Cx) (tg iter : Expr) (wi : TI) : Prop:=
 ∀ (pins : List (Addr × Obj)) (s : Shared) (σ : St) (H : Hp) (R : It -> Hp -> Prop),Inv X pins σ H s -> wi σ H R ->
  wpAny (model X.prog X.w) X.A (eval iter X.env) (fun v s1 => wpAny (model X.prog X.w) X.A (pyIter v) (PIE X pins σ tg R) X.xe s1) X.xe s
theorem qR {M : Model} {A : Around} {E : Value -> Shared -> Prop} {s : Shared} {tg : Expr} {it : Addr} {u : Value} {o : Obj} {n : String} {vs : Array Value} {Q : Unit -> Shared -> Prop} (ho : s.heap.get? it = some o) (hc : o.cls = .type n) (hd : o.data = .fields vs)
  (hn : ["enumerate","zip","dict_itemiterator","dict_reverseitemiterator","odict_iterator","itertools.zip_longest","itertools.pairwise"].contains n = false) (hQ : Q () s) : wpAny M A (letOwnedTupleGo tg (.ref it) u) Q E s:=by
 unfold letOwnedTupleGo
 cases tg <;> first
  | exact wpAny_pure hQ
  | (cases u <;> first
    | exact wpAny_pure hQ
    | (refine wpAny_bind (wpAny_load ho ?_)
       rw [hc,hd]
       show wpAny M A (if (["enumerate","zip","dict_itemiterator","dict_reverseitemiterator","odict_iterator","itertools.zip_longest","itertools.pairwise"].contains n && vs[0]? == some (rawInt _)) = true then _ else _) Q E s
       rw [if_neg (by intro h; rw [hn,Bool.false_and] at h; cases h)]
       exact wpAny_pure hQ))
def Itl (K : PySem.W.Frag) (a : Addr) : It:=
 ⟨fun i H => ∃ xs x,SqL K H a xs /\ xs[i]? = some x,fun i H x H' => H' = H /\ ∀ xs,SqL K H a xs -> xs[i]? = some x,fun i H => ∃ xs,SqL K H a xs /\ xs.length <= i⟩
def Itr (lo : Int) (n : Nat) : It:=⟨fun i _ => i < n,fun i H x H' => H' = H /\ x = .int (lo + i),fun i _ => n <= i⟩
theorem o8 {P : Program} {w : World} {K : PySem.W.Frag} {tg : Expr} (a it : Addr) : Turn P w K tg (Itl K a) [it] it (fun i h => h.IsListIter it a i) where
 mem:=by simp
 obj:=fun i h st b hb => by
  have e : b = it:=by simpa using hb
  subst e
  obtain ⟨o,e,c,d⟩:=st
  exact ⟨o,e,fun v z => by rw [d] at z; cases z⟩
 keep:=fun i h h' st k => st.at fun o e => k it (by simp) o e
 item:=by
  intro X hP hw hK hc i pins s σ H E I hf st hg
  subst hP hw hK
  obtain ⟨xs,x,hq,hx⟩:=hg
  obtain ⟨its,rv,p,hz⟩:=I.list hq
  obtain ⟨u,hu,ru⟩:=rv.get hx
  obtain ⟨f0,f1,f2,f3,f4,f5⟩:=hf it (by simp)
  refine wpAny_pyNext_list_item st p.isList (x:=u) (by simpa using hu) fun h' st' sb => ?_
  have I1 : Inv X pins σ H { s with heap:=h' }:=I.turned (t' := s.toks) (fun b o hb e => (sb.2 b hb).trans e) f0 f1 f3 f4 f5
  obtain ⟨o,e,c,d⟩:=id st'
  exact ⟨u,rfl,qR (s:={ s with heap:=h' }) e c d (by decide) ⟨x,H,I1,ru,⟨rfl,fun ys hy => by rw [I.list_inj hy hq]; exact hx⟩,st',fun b hb => (hf b hb).1⟩⟩
 done:=by
  intro X hP hw hK hc i pins s σ H E I hf st hg
  subst hP hw hK
  obtain ⟨xs,hq,hx⟩:=hg
  obtain ⟨its,rv,p,hz⟩:=I.list hq
  obtain ⟨f0,f1,f2,f3,f4,f5⟩:=hf it (by simp)
  have hl:=rv.length
  exact wpAny_pyNext_list_end (I.ok.hd hc) st p.isList (by simp; omega) fun h' eb => ⟨rfl,I.turned (t' := s.toks) (fun b o hb e => eb b o hb e) f0 f1 f3 f4 f5⟩
 self:=fun _ _ _ _ _ st h => wpAny_pyIter_listiter st h
theorem oq {P : Program} {w : World} {K : PySem.W.Frag} {tg : Expr} (it : Addr) (lo : Int) (n : Nat) : Turn P w K tg (Itr lo n) [it] it (fun i h => IsRangeIter h it (lo + (i : Nat) * 1) ((n : Int) - (i : Nat)) 1) where
 mem:=by simp
 obj:=fun i h st b hb => by
  have e : b = it:=by simpa using hb
  subst e
  exact ⟨_,st,fun v z => by
   have z' : Data.fields _ = Data.cell v:=z
   cases z'⟩
 keep:=fun i h h' st k => k it (by simp) _ st
 item:=by
  intro X hP hw hK hc i pins s σ H E I hf st hg
  subst hP hw hK
  obtain ⟨f0,f1,f2,f3,f4,f5⟩:=hf it (by simp)
  have W:=Walks.range (prog:=X.prog) (w:=X.w) (I.ok.hd hc) it lo 1 n
  refine W.item i s _ _ hg st fun v h' tk hv st' kk => ?_
  obtain ⟨t,rfl⟩:=hv
  have I1 : Inv X pins σ H { s with heap:=h',toks:=tk }:=I.turned (fun b o hb e => kk b o (by simpa using hb) e) f0 f1 f3 f4 f5
  refine ⟨_,rfl,qR (s:={ s with heap:=h',toks:=tk }) (n := "range_iterator") st' rfl rfl (by decide) ⟨.int (lo + i),H,I1,⟨t,?_⟩,⟨rfl,rfl⟩,st',fun b hb => (hf b hb).1⟩⟩
  rw [Int.mul_one]
 done:=by
  intro X hP hw hK hc i pins s σ H E I hf st hg
  subst hP hw hK
  obtain ⟨f0,f1,f2,f3,f4,f5⟩:=hf it (by simp)
  exact wpAny_pyNext_range_end (I.ok.hd hc) st (by have : n <= i:=hg; omega) fun h' eb => ⟨rfl,I.turned (t' := s.toks) (fun b o hb e => eb b o hb e) f0 f1 f3 f4 f5⟩
 self:=fun _ _ _ _ _ st h => wpAny_pyIter_rangeiter st h
end L2
namespace L2
open PySem PySem.Spec PyProof.Rows
section
variable {X : Cx} {tg : Expr}
def rU (K : PySem.W.Frag) (tl : TE) : TI:=fun σ H R => tl σ H fun x H1 => ∃ a,x = .ref a /\ (∃ xs,SqL K H1 a xs) /\ R (Itl K a) H1
theorem j3 {l : Expr} {tl : TE} (hl : PE X l tl) : PI X tg l (rU X.K tl):=by
 intro pins s σ H R I h
 refine thn (hl pins s σ H _ I h) fun v s1 ⟨x,H1,I1,r1,q1⟩ => ?_
 obtain ⟨a,e,⟨xs,hq⟩,q⟩:=q1
 subst e
 cases r1
 obtain ⟨its,rv,p,hz⟩:=I1.list hq
 refine wpAny_pyIter_list p.isList ?_
 refine ⟨s1.heap.objs.size,[s1.heap.objs.size],_,_,H1,rfl,I1.kept (t' := s1.toks) fun b o e => Heap.get?_push_of_some _ e,o8 a _,⟨_,Heap.get?_push_size _ rfl,rfl,rfl⟩,fun b hb => ?_,q⟩
 have e : b = s1.heap.objs.size:=by simpa using hb
 subst e
 exact I1.fpOk (Nat.le_refl _) (I1.hok.fresh (Nat.le_refl _))
theorem qa {pins : List (Addr × Obj)} {σ : St} {H : Hp} {s : Shared} {R : It -> Hp -> Prop} {E : Value -> Shared -> Prop} {lo hi : Int} {t u v : Tok} {tk : Nat} (I : Inv X pins σ H s) (h1 : -(2 ^ 62) <= lo) (h2 : lo < 2 ^ 62) (h3 : -(2 ^ 62) <= hi) (h4 : hi < 2 ^ 62)
  (q : R (Itr lo (hi - lo).toNat) H) : wpAny (model X.prog X.w) X.A (pyIter (.ref s.heap.objs.size)) (PIE X pins σ tg R) E { s with heap:=s.heap.push { cls:=.type "range",data:=.fields #[.int lo t,.int hi u,.int 1 v] },toks:=tk }:=by
 refine wpAny_pyIter_range (IsRange.new ..) (small_one h1 h2 h3 h4) ?_
 have I1 : Inv X pins σ H { s with heap:=s.heap.push { cls:=.type "range",data:=.fields #[.int lo t,.int hi u,.int 1 v] },toks:=tk }:=I.kept fun b o e => Heap.get?_push_of_some _ e
 refine ⟨(s.heap.push { cls:=.type "range",data:=.fields #[.int lo t,.int hi u,.int 1 v] }).objs.size,[(s.heap.push { cls:=.type "range",data:=.fields #[.int lo t,.int hi u,.int 1 v] }).objs.size],_,_,H,rfl,
  I1.kept (t' := tk) fun b o e => Heap.get?_push_of_some _ e,oq _ lo (hi - lo).toNat,?_,fun b hb => ?_,q⟩
 ·have e1 : lo + ((0 : Nat) : Int) * 1 = lo:=by simp
  have e2 : (((hi - lo).toNat : Nat) : Int) - ((0 : Nat) : Int) = Builtin.Range.rangeSize lo hi 1:=by rw [rangeSize_one]; split <;> omega
  show IsRangeIter _ _ (lo + ((0 : Nat) : Int) * 1) ((((hi - lo).toNat : Nat) : Int) - ((0 : Nat) : Int)) 1
  rw [e1,e2]
  exact Heap.get?_push_size _ rfl
 ·have e : b = (s.heap.push { cls:=.type "range",data:=.fields #[.int lo t,.int hi u,.int 1 v] }).objs.size:=by simpa using hb
  subst e
  exact I1.fpOk (Nat.le_refl _) (I1.hok.fresh (Nat.le_refl _))
def rV (ta : TA) : TI:=fun σ H R => ta σ H fun vs H1 => ∃ j : Int,vs = [.int j] /\ -(2 ^ 62) <= j /\ j < 2 ^ 62 /\ R (Itr 0 j.toNat) H1
theorem da {a : Expr} {ta : TA} {p pos : Pos} (hg : Gl X "range") (hm : X.mg "range" = none) (ha : PA X [a] ta) (hs : starEach [a] X.env = [(false,eval a X.env)]:=by rfl) : PI X tg (.Call (.Name "range" p) [a] [] pos) (rV ta):=by
 intro pins s σ H R I h
 refine Call_ (kg I hg hm boot_range (PyProof.Rows.callWith_type1 (thn (ha pos pins s σ H _ I h) fun us s1 ⟨vs,H1,I1,r1,q1⟩ => ?_) hs rfl))
 obtain ⟨j,e,q1,q2,q⟩:=q1
 subst e
 cases r1 with
 | cons r rr =>
  cases rr
  obtain ⟨t,rfl⟩:=r
  exact call_range_1 (qa I1 (by omega) (by omega) q1 q2 (by simpa using q))
def qf (wi : TI) (g : TG) (tb : TS) : TS:=fun D σ H => wi σ H fun J H1 => ∃ W : Nat -> Nat -> St -> Hp -> Prop,(∃ m,W 0 m σ H1) /\ ∀ i m σ H,W i m σ H ->
 (J.stop i H /\ D.nx σ H) \/ (J.go i H /\ ∃ N : St -> Hp -> Prop,(∀ σ' H',N σ' H' -> ∃ m',m' < m /\ W (i + 1) m' σ' H') /\ ∀ x H',J.yld i H x H' -> g x σ H' fun σ2 H2 => tb { D with nx:=N,ct:=N,bk:=D.nx } σ2 H2)
def mO (fp : List Addr) (h : Heap) : List (Addr × Obj):=fp.filterMap fun b => (h.get? b).map fun o => (b,o)
theorem fN {fp : List Addr} {h : Heap} {b : Addr} {o : Obj} (hb : b ∈ fp) (e : h.get? b = some o) : (b,o) ∈ mO fp h:=List.mem_filterMap.mpr ⟨b,hb,by rw [e]; rfl⟩
theorem o4 {fp : List Addr} {h : Heap} {p : Addr × Obj} (hp : p ∈ mO fp h) : p.1 ∈ fp /\ h.get? p.1 = some p.2:=by
 obtain ⟨b,hb,e⟩:=List.mem_filterMap.mp hp
 cases q : h.get? b with
 | none => rw [q] at e; cases e
 | some o =>
  rw [q] at e
  have e' : (b,o) = p:=Option.some.inj e
  subst e'
  exact ⟨hb,q⟩
theorem Inv.pinned {pins : List (Addr × Obj)} {σ : St} {H : Hp} {s : Shared} {fp : List Addr} (I : Inv X pins σ H s) (hf : ∀ b ∈ fp,jd X pins H b) (ho : ∀ b ∈ fp,∃ o,s.heap.get? b = some o /\ ∀ v,o.data ≠ .cell v) : Inv X (pins ++ mO fp s.heap) σ H s:=
 I.pins_of fun p hp => (List.mem_append.mp hp).elim (fun z => I.pin p (List.mem_append_right _ z)) fun z => by
  obtain ⟨hb,e⟩:=o4 z
  obtain ⟨f0,f1,f2,_⟩:=hf p.1 hb
  obtain ⟨o,e',d⟩:=ho p.1 hb
  rw [e] at e'; cases e'
  exact ⟨e,f0,f1,f2,d⟩
theorem Inv.unpinned {pins pl : List (Addr × Obj)} {σ : St} {H : Hp} {s : Shared} (I : Inv X (pins ++ pl) σ H s) : Inv X pins σ H s:=I.pins_of fun p hp => I.pin p (List.mem_append_right _ (List.mem_append_left _ hp))
theorem ia {iter : Expr} {body : List Stmt} {wi : TI} {g : TG} {tb : TS} {pos : Pos} (hp : PassesOwn (model X.prog X.w) X.A X.env X.xe) (hc : X.calm = true) (hi : PI X tg iter wi) (hg : PG X tg g) (hb : PSs X body tb)
  (hs : ∀ x,foldedSetIterable iter X.env x = pure x:=by intro _; rfl) : PS X (.For tg iter body [] pos) (qf wi g tb):=by
 intro pins s σ H D I h
 refine wpAny_For (thn (hi pins s σ H _ I h) fun v s1 h1 => thn h1 fun itv s2 h2 => ?_) hs
 obtain ⟨it,fp,tn,J,H2,e,I2,T,st2,f2,W,⟨m0,w0⟩,turn⟩:=h2
 subst e
 have stat : ∀ {H' : Hp},(∀ b ∈ fp,H' b = none) -> ∀ b ∈ fp,jd X pins H' b:=fun hn b hb => ⟨hn b hb,(f2 b hb).2⟩
 refine codeAny_forLoop_any (fun n s' => ∃ i σ' H',Inv X pins σ' H' s' /\ tn i s'.heap /\ (∀ b ∈ fp,H' b = none) /\ W i n σ' H') ?_ m0 ⟨0,σ,H2,I2,st2,fun b hb => (f2 b hb).1,w0⟩
 rintro n s3 ⟨i,σ3,H3,I3,st3,fr3,w3⟩
 rcases turn i n σ3 H3 w3 with ⟨stop,qn⟩ | ⟨go,N,hN,step⟩
 ·refine wpAny_passesOwn hp (thn (T.done X rfl rfl rfl hc i pins s3 σ3 H3 X.xe I3 (stat fr3) st3 stop) fun r s4 ⟨hr,I4⟩ => ?_)
  subst hr
  exact wpAny_execs_nil ⟨σ3,H3,I4,qn⟩
 ·refine wpAny_passesOwn hp (thn (T.item X rfl rfl rfl hc i pins s3 σ3 H3 X.xe I3 (stat fr3) st3 go) fun r s4 ⟨u,hr,h4⟩ => ?_)
  subst hr
  refine wpAny_passesOwn hp (thn h4 fun _ s5 ⟨x,H5,I5,r5,y5,st5,fr5⟩ => ?_)
  have I5' := I5.pinned (stat fr5) (T.obj _ _ st5)
  refine wpAny_passesOwn hp (thn (hg _ s5 σ3 H5 x u _ I5' r5 (step x H5 y5)) fun _ s6 ⟨σ6,H6,I6,q6⟩ => ?_)
  refine wpAny_passesOwn hp (thn (hb _ s6 σ6 H6 _ I6 q6) fun f s7 q7 => ?_)
  have again : ∀ {σ7 : St} {H7 : Hp},Inv X (pins ++ mO fp s5.heap) σ7 H7 s7 -> N σ7 H7 -> ∃ m,m < n /\ ∃ i σ' H',Inv X pins σ' H' s7 /\ tn i s7.heap /\ (∀ b ∈ fp,H' b = none) /\ W i m σ' H' := fun {σ7 H7} I7 n7 => by
   obtain ⟨m',hm,w7⟩:=hN σ7 H7 n7
   refine ⟨m',hm,i + 1,σ7,H7,I7.unpinned,T.keep _ _ _ st5 fun b hb o e => (I7.pin (b,o) (List.mem_append_right _ (List.mem_append_right _ (fN hb e)))).1,fun b hb => ?_,w7⟩
   obtain ⟨o,e,d⟩:=T.obj _ _ st5 b hb
   exact (I7.pin (b,o) (List.mem_append_right _ (List.mem_append_right _ (fN hb e)))).2.1
  cases f with
  | next => obtain ⟨σ7,H7,I7,n7⟩:=q7; exact again I7 n7
  | cont => obtain ⟨σ7,H7,I7,n7⟩:=q7; exact again I7 n7
  | brk => obtain ⟨σ7,H7,I7,q7⟩:=q7; exact ⟨σ7,H7,I7.unpinned,q7⟩
  | ret v => obtain ⟨x7,σ7,H7,I7,r7,q7⟩:=q7; exact ⟨x7,σ7,H7,I7.unpinned,r7,q7⟩
end
theorem nH {K : PySem.W.Frag} {a : Addr} {xs : List V} {g : TG} {tb : TS} {D : Ends} {σ : St} {H : Hp} (Pv : Nat -> St -> Hp -> Prop) (h0 : Pv 0 σ H) (hl : ∀ i σ H,i <= xs.length -> Pv i σ H -> SqL K H a xs)
  (hs : ∀ i x σ H,xs[i]? = some x -> Pv i σ H -> g x σ H fun σ2 H2 => tb { D with nx:=Pv (i + 1),ct:=Pv (i + 1),bk:=D.nx } σ2 H2) (hd : ∀ σ H,Pv xs.length σ H -> D.nx σ H) :
  ∃ W : Nat -> Nat -> St -> Hp -> Prop,(∃ m,W 0 m σ H) /\ ∀ i m σ H,W i m σ H ->
   ((Itl K a).stop i H /\ D.nx σ H) \/ ((Itl K a).go i H /\ ∃ N : St -> Hp -> Prop,(∀ σ' H',N σ' H' -> ∃ m',m' < m /\ W (i + 1) m' σ' H') /\ ∀ x H',(Itl K a).yld i H x H' -> g x σ H' fun σ2 H2 => tb { D with nx:=N,ct:=N,bk:=D.nx } σ2 H2):=by
 refine ⟨fun i m σ H => m = xs.length - i /\ i <= xs.length /\ Pv i σ H,⟨xs.length,by simp,Nat.zero_le _,h0⟩,?_⟩
 rintro i m σ H ⟨rfl,hi,p⟩
 have q:=hl i σ H hi p
 by_cases hlt : i < xs.length
 ·refine .inr ⟨⟨xs,xs[i],q,by simp [hlt]⟩,Pv (i + 1),fun σ' H' p' => ⟨xs.length - (i + 1),by omega,rfl,hlt,p'⟩,fun x H' y => ?_⟩
  obtain ⟨e,y⟩:=y
  subst e
  exact hs i x σ _ (y xs q) p
 ·have e : i = xs.length:=by omega
  subst e
  exact .inl ⟨⟨xs,q,Nat.le_refl _⟩,hd σ H p⟩
theorem eZ {lo : Int} {n : Nat} {g : TG} {tb : TS} {D : Ends} {σ : St} {H : Hp} (Pv : Nat -> St -> Hp -> Prop) (h0 : Pv 0 σ H)
  (hs : ∀ i σ H,i < n -> Pv i σ H -> g (.int (lo + i)) σ H fun σ2 H2 => tb { D with nx:=Pv (i + 1),ct:=Pv (i + 1),bk:=D.nx } σ2 H2) (hd : ∀ σ H,Pv n σ H -> D.nx σ H) :
  ∃ W : Nat -> Nat -> St -> Hp -> Prop,(∃ m,W 0 m σ H) /\ ∀ i m σ H,W i m σ H ->
   ((Itr lo n).stop i H /\ D.nx σ H) \/ ((Itr lo n).go i H /\ ∃ N : St -> Hp -> Prop,(∀ σ' H',N σ' H' -> ∃ m',m' < m /\ W (i + 1) m' σ' H') /\ ∀ x H',(Itr lo n).yld i H x H' -> g x σ H' fun σ2 H2 => tb { D with nx:=N,ct:=N,bk:=D.nx } σ2 H2):=by
 refine ⟨fun i m σ H => m = n - i /\ i <= n /\ Pv i σ H,⟨n,by simp,Nat.zero_le _,h0⟩,?_⟩
 rintro i m σ H ⟨rfl,hi,p⟩
 by_cases hlt : i < n
 ·refine .inr ⟨hlt,Pv (i + 1),fun σ' H' p' => ⟨n - (i + 1),by omega,rfl,hlt,p'⟩,fun x H' y => ?_⟩
  obtain ⟨e,y⟩:=y
  subst e y
  exact hs i σ _ hlt p
 ·have e : i = n:=by omega
  subst e
  exact .inl ⟨Nat.le_refl _,hd σ H p⟩
end L2
namespace L2
open PySem PySem.Spec PyProof.Rows
abbrev R2:=V -> V -> Hp -> VK -> Prop
def OpR (X : Cx) (f : Value -> Value -> Sem Value) (r : R2) : Prop:=
 ∀ (pins : List (Addr × Obj)) (s : Shared) (σ : St) (H : Hp) (x y : V) (v u : Value) (Q : VK),Inv X pins σ H s -> RelV x v -> RelV y u -> r x y H Q ->
  wpAny (model X.prog X.w) X.A (f v u) (EP X pins σ Q) X.xe s
def lH (X : Cx) (f : Value) (r : List V -> Hp -> VK -> Prop) : Prop:=
 ∀ (pins : List (Addr × Obj)) (s : Shared) (σ : St) (H : Hp) (xs : List V) (us : List Value) (Q : VK),Inv X pins σ H s -> Vals xs us -> r xs H Q ->
  wpAny (model X.prog X.w) X.A (call f us) (EP X pins σ Q) X.xe s
def tOp (r : R2) (ta tb : TE) : TE:=fun σ H Q => ta σ H fun x H1 => tb σ H1 fun y H2 => r x y H2 Q
def rI (C : Int -> Int -> Prop) (g : Int -> Int -> V) : R2:=fun x y H Q => ∃ i j,x = .int i /\ y = .int j /\ C i j /\ Q (g i j) H
def rI0 (g : Int -> Int -> V) : R2:=fun x y H Q => ∃ i j,x = .int i /\ y = .int j /\ Q (g i j) H
section
variable {X : Cx} {a b c : Expr} {ta tb tc : TE} {pos : Pos}
theorem qX (ha : PE X a ta) (hb : PE X b tb) {pins : List (Addr × Obj)} {s : Shared} {σ : St} {H : Hp} {R : V -> V -> Hp -> Prop} (I : Inv X pins σ H s)
  (h : ta σ H fun x H1 => tb σ H1 fun y H2 => R x y H2) {Q : Value -> Shared -> Prop} {f : Value -> Value -> Sem Value}
  (hf : ∀ v u s2 x y H2,Inv X pins σ H2 s2 -> RelV x v -> RelV y u -> R x y H2 -> wpAny (model X.prog X.w) X.A (f v u) Q X.xe s2) :
  wpAny (model X.prog X.w) X.A (eval a X.env) (fun v s₁ => wpAny (model X.prog X.w) X.A (eval b X.env) (fun u s₂ => wpAny (model X.prog X.w) X.A (f v u) Q X.xe s₂) X.xe s₁) X.xe s:=by
 refine thn (ha pins s σ H _ I h) fun v s1 ⟨x,H1,I1,r1,q1⟩ => ?_
 refine thn (hb pins s1 σ H1 _ I1 q1) fun u s2 ⟨y,H2,I2,r2,q2⟩ => ?_
 exact hf v u s2 x y H2 I2 r1 r2 q2
theorem aF {op : Operator} {r : R2} (ho : OpR X (binaryOp op) r) (ha : PE X a ta) (hb : PE X b tb) : PE X (.BinOp a op b pos) (tOp r ta tb):=by
 intro pins s σ H Q I h
 exact wpAny_BinOp (qX ha hb I h fun v u s2 x y H2 I2 rx ry q => ho pins s2 σ H2 x y v u Q I2 rx ry q)
theorem opI {f : Value -> Value -> Sem Value} {C : Int -> Int -> Prop} {g : Int -> Int -> Int}
  (rule : ∀ (i j : Int) (t u : Tok) (s : Shared) (Q : Value -> Shared -> Prop) (E : Value -> Shared -> Prop),C i j -> Q (.int (g i j) s.toks) { s with toks:=s.toks + 1 } -> wpAny (model X.prog X.w) X.A (f (.int i t) (.int j u)) Q E s) :
  OpR X f (rI C fun i j => .int (g i j)):=by
 intro pins s σ H x y v u Q I rx ry h
 obtain ⟨i,j,rfl,rfl,hc,q⟩:=h
 obtain ⟨t,rfl⟩:=rx
 obtain ⟨t',rfl⟩:=ry
 exact rule i j t t' s _ _ hc ⟨.int (g i j),H,I.tok _,⟨_,rfl⟩,q⟩
theorem r0 {f : Value -> Value -> Sem Value} {g : Int -> Int -> Int}
  (rule : ∀ (i j : Int) (t u : Tok) (s : Shared) (Q : Value -> Shared -> Prop) (E : Value -> Shared -> Prop),Q (.int (g i j) s.toks) { s with toks:=s.toks + 1 } -> wpAny (model X.prog X.w) X.A (f (.int i t) (.int j u)) Q E s) :
  OpR X f (rI0 fun i j => .int (g i j)):=by
 intro pins s σ H x y v u Q I rx ry h
 obtain ⟨i,j,rfl,rfl,q⟩:=h
 obtain ⟨t,rfl⟩:=rx
 obtain ⟨t',rfl⟩:=ry
 exact rule i j t t' s _ _ ⟨.int (g i j),H,I.tok _,⟨_,rfl⟩,q⟩
theorem rZ {f : Value -> Value -> Sem Value} {g : Int -> Int -> Bool}
  (rule : ∀ (i j : Int) (t u : Tok) (s : Shared) (Q : Value -> Shared -> Prop) (E : Value -> Shared -> Prop),Q (.bool (g i j)) s -> wpAny (model X.prog X.w) X.A (f (.int i t) (.int j u)) Q E s) :
  OpR X f (rI0 fun i j => .bl (g i j)):=by
 intro pins s σ H x y v u Q I rx ry h
 obtain ⟨i,j,rfl,rfl,q⟩:=h
 obtain ⟨t,rfl⟩:=rx
 obtain ⟨t',rfl⟩:=ry
 exact rule i j t t' s _ _ ⟨.bl (g i j),H,I,rfl,q⟩
def su (i j : Int) : Prop:=0 < j /\ j < 1073741824
def CMul (i j : Int) : Prop:=(-(2 ^ 64) < i /\ i < 2 ^ 64) \/ (-(2 ^ 64) < j /\ j < 2 ^ 64)
theorem CMul.ok {i j : Int} (h : CMul i j) : IntMulOk i j:=by
 rcases h with ⟨h1,h2⟩ | ⟨h1,h2⟩
 ·exact .of_left (intBits_le_64 h1 h2)
 ·exact .of_right (intBits_le_64 h1 h2)
theorem cu : OpR X (binaryOp .Add) (rI0 fun i j => .int (i + j)):=r0 fun _ _ _ _ _ _ _ q => add_int q
theorem rF : OpR X (binaryOp .Sub) (rI0 fun i j => .int (i - j)):=r0 fun _ _ _ _ _ _ _ q => sub_int q
theorem eO : OpR X (binaryOp .Mult) (rI CMul fun i j => .int (i * j)):=opI fun _ _ _ _ _ _ _ hc q => mul_int q hc.ok
theorem mL : OpR X (binaryOp .FloorDiv) (rI su fun i j => .int (i / j)):=opI fun i j _ _ _ _ _ hc q => by
 have h1 : (0 : Int) < j:=hc.1
 have h2 : j < 1073741824:=hc.2
 exact floordiv_int (by omega) (by rw [Int.fdiv_eq_ediv_of_nonneg i (by omega)]; exact q) (.inl (PyProof.noPylong_small (by omega)))
theorem bH : OpR X (binaryOp .Mod) (rI (fun _ j => 0 < j) fun i j => .int (i % j)):=opI fun i j _ _ _ _ _ hc q => by
 have h1 : (0 : Int) < j:=hc
 exact mod_int' (by omega) (by rw [Int.fmod_eq_emod_of_nonneg i (by omega)]; exact q)
end
def se : V -> V -> Bool
 | .non,.non => true | .non,.int _ => true | .int _,.non => true | .non,.bl _ => true | .bl _,.non => true | .non,.str _ => true | .str _,.non => true
 | .int _,.int _ => true | .bl _,.bl _ => true | .str _,.str _ => true | .byt _,.byt _ => true
 | .int _,.str _ => true | .str _,.int _ => true | .bl _,.str _ => true | .str _,.bl _ => true
 | _,_ => false
def rEq : R2:=fun x y H Q => se x y = true /\ Q (.bl (decide (x = y))) H
def rNe : R2:=fun x y H Q => se x y = true /\ Q (.bl (!decide (x = y))) H
theorem oz {i j : Int} : decide (V.int i = V.int j) = (i == j):=by
 rw [Bool.eq_iff_iff]
 simp
theorem pD {i j : Bool} : decide (V.bl i = V.bl j) = (i == j):=by
 rw [Bool.eq_iff_iff]
 simp
theorem oA {i j : Str} : decide (V.str i = V.str j) = (i == j):=by
 rw [Bool.eq_iff_iff]
 simp
theorem oy {i j : Array UInt8} : decide (V.byt i = V.byt j) = (i.toList == j.toList):=by
 rw [Bool.eq_iff_iff]
 cases i
 cases j
 simp
section
variable {X : Cx} {a b c : Expr} {ta tb tc : TE} {pos : Pos}
theorem aL {pins : List (Addr × Obj)} {σ : St} {H : Hp} {s : Shared} {Q : VK} {k k' : Bool} (I : Inv X pins σ H s) (q : Q (.bl k) H) (e : k = k') : EP X pins σ Q (.bool k') s:=by
 subst e
 exact ⟨.bl k,H,I,rfl,q⟩
theorem ko : OpR X (compareOp .Eq) rEq:=by
 intro pins s σ H x y v u Q I rx ry h
 obtain ⟨hs,q⟩:=h
 cases x with
 | non =>
  cases rx
  cases y with
  | non => cases ry; exact PySem.EqNone.eq_none_none (aL I q (by simp))
  | bl j => cases ry; exact PySem.EqNone.eq_none_bool (aL I q (by simp))
  | int j => obtain ⟨t',rfl⟩:=ry; exact PySem.EqNone.eq_none_int (aL I q (by simp))
  | str j => obtain ⟨t',rfl⟩:=ry; exact PySem.EqNone.eq_none_str (aL I q (by simp))
  | _ => exact absurd (show false = true from hs) Bool.false_ne_true
 | bl i =>
  cases rx
  cases y with
  | non => cases ry; exact PySem.EqNone.eq_bool_none (aL I q (by simp))
  | bl j => cases ry; exact eq_bool (aL I q pD)
  | str j => obtain ⟨t',rfl⟩:=ry; exact PySem.EqMixed.eq_bool_str (aL I q (by simp))
  | _ => exact absurd (show false = true from hs) Bool.false_ne_true
 | int i =>
  obtain ⟨t,rfl⟩:=rx
  cases y with
  | non => cases ry; exact PySem.EqNone.eq_int_none (aL I q (by simp))
  | int j => obtain ⟨t',rfl⟩:=ry; exact eq_int (aL I q oz)
  | str j => obtain ⟨t',rfl⟩:=ry; exact PySem.EqMixed.eq_int_str (aL I q (by simp))
  | _ => exact absurd (show false = true from hs) Bool.false_ne_true
 | str i =>
  obtain ⟨t,rfl⟩:=rx
  cases y with
  | non => cases ry; exact PySem.EqNone.eq_str_none (aL I q (by simp))
  | bl j => cases ry; exact PySem.EqMixed.eq_str_bool (aL I q (by simp))
  | int j => obtain ⟨t',rfl⟩:=ry; exact PySem.EqMixed.eq_str_int (aL I q (by simp))
  | str j => obtain ⟨t',rfl⟩:=ry; exact eq_str (aL I q oA)
  | _ => exact absurd (show false = true from hs) Bool.false_ne_true
 | byt i =>
  obtain ⟨t,rfl⟩:=rx
  cases y with
  | byt j => obtain ⟨t',rfl⟩:=ry; exact PySem.W.eq_bytes (aL I q oy)
  | _ => exact absurd (show false = true from hs) Bool.false_ne_true
 | _ => cases y <;> exact absurd (show false = true from hs) Bool.false_ne_true
theorem p3 : OpR X (compareOp .NotEq) rNe:=by
 intro pins s σ H x y v u Q I rx ry h
 obtain ⟨hs,q⟩:=h
 cases x with
 | non =>
  cases rx
  cases y with
  | non => cases ry; exact PySem.EqNone.ne_none_none (aL I q (by simp))
  | bl j => cases ry; exact PySem.EqNone.ne_none_bool (aL I q (by simp))
  | int j => obtain ⟨t',rfl⟩:=ry; exact PySem.EqNone.ne_none_int (aL I q (by simp))
  | str j => obtain ⟨t',rfl⟩:=ry; exact PySem.EqNone.ne_none_str (aL I q (by simp))
  | _ => exact absurd (show false = true from hs) Bool.false_ne_true
 | bl i =>
  cases rx
  cases y with
  | non => cases ry; exact PySem.EqNone.ne_bool_none (aL I q (by simp))
  | bl j => cases ry; exact ne_bool (aL I q (congrArg not pD))
  | str j => obtain ⟨t',rfl⟩:=ry; exact PySem.EqMixed.ne_bool_str (aL I q (by simp))
  | _ => exact absurd (show false = true from hs) Bool.false_ne_true
 | int i =>
  obtain ⟨t,rfl⟩:=rx
  cases y with
  | non => cases ry; exact PySem.EqNone.ne_int_none (aL I q (by simp))
  | int j => obtain ⟨t',rfl⟩:=ry; exact ne_int (aL I q (congrArg not oz))
  | str j => obtain ⟨t',rfl⟩:=ry; exact PySem.EqMixed.ne_int_str (aL I q (by simp))
  | _ => exact absurd (show false = true from hs) Bool.false_ne_true
 | str i =>
  obtain ⟨t,rfl⟩:=rx
  cases y with
  | non => cases ry; exact PySem.EqNone.ne_str_none (aL I q (by simp))
  | bl j => cases ry; exact PySem.EqMixed.ne_str_bool (aL I q (by simp))
  | int j => obtain ⟨t',rfl⟩:=ry; exact PySem.EqMixed.ne_str_int (aL I q (by simp))
  | str j => obtain ⟨t',rfl⟩:=ry; exact ne_str (aL I q (congrArg not oA))
  | _ => exact absurd (show false = true from hs) Bool.false_ne_true
 | byt i =>
  obtain ⟨t,rfl⟩:=rx
  cases y with
  | byt j => obtain ⟨t',rfl⟩:=ry; exact PySem.W.ne_bytes (aL I q (congrArg not oy))
  | _ => exact absurd (show false = true from hs) Bool.false_ne_true
 | _ => cases y <;> exact absurd (show false = true from hs) Bool.false_ne_true
theorem r9 : OpR X (compareOp .Lt) (rI0 fun i j => .bl (decide (i < j))):=rZ fun _ _ _ _ _ _ _ q => lt_int q
theorem r8 : OpR X (compareOp .Gt) (rI0 fun i j => .bl (decide (j < i))):=rZ fun _ _ _ _ _ _ _ q => gt_int q
theorem iX : OpR X (compareOp .Is) (fun x y H Q => y = .non /\ Q (.bl (decide (x = .non))) H):=by
 intro pins s σ H x y v u Q I rx ry h
 obtain ⟨rfl,q⟩:=h
 cases ry
 refine is_none_gen (aL I q ?_)
 cases x <;> first
  | (cases rx; rfl)
  | (obtain ⟨t,rfl⟩:=rx; rfl)
theorem bV (b : Expr) {op : CmpOp} (h : op ≠ .In:=by decide) (h2 : op ≠ .NotIn:=by decide) : behindInMarks op b = false:=by
 have e1 : (op == CmpOp.In) = false:=by cases op <;> first | rfl | exact absurd rfl h
 have e2 : (op == CmpOp.NotIn) = false:=by cases op <;> first | rfl | exact absurd rfl h2
 cases b <;> simp [behindInMarks,e1,e2]
theorem fO {op : CmpOp} {r : R2} (ho : OpR X (compareOp op) r) (ha : PE X a ta) (hb : PE X b tb) (hm : behindInMarks op b = false) : PE X (.Compare a [op] [b] pos) (tOp r ta tb):=by
 intro pins s σ H Q I h
 exact wpAny_Compare1 (qX ha hb I h fun v u s2 x y H2 I2 rx ry q => ho pins s2 σ H2 x y v u Q I2 rx ry q) hm
def so (t : TE) : TT:=fun σ H Q => t σ H fun x H' => ∃ k,x = .bl k /\ Q k H'
theorem c6 {op : CmpOp} {r : R2} (ho : OpR X (compareOp op) r) (ha : PE X a ta) (hb : PE X b tb) (hm : behindInMarks op b = false) : PT X (.Compare a [op] [b] pos) (so (tOp r ta tb)):=by
 intro pins s σ H Q I h
 refine wpAny_isTrue_Compare1 (thn (ha pins s σ H _ I h) fun v s1 ⟨x,H1,I1,r1,q1⟩ => thn (hb pins s1 σ H1 _ I1 q1) fun u s2 ⟨y,H2,I2,r2,q2⟩ =>
  thn (ho pins s2 σ H2 x y v u _ I2 r1 r2 q2) fun c s3 ⟨z,H3,I3,r3,k,e,q3⟩ => ?_) hm
 subst e
 cases r3
 exact wpAny_truthy_bool ⟨H3,I3,q3⟩
theorem n5 : (sizeLine : Nat) < 2 ^ 63:=by rw [sizeLine_eq]; decide
theorem vals1 {x : V} {us : List Value} (r : Vals [x] us) : ∃ u,us = [u] /\ RelV x u:=by
 cases r with
 | cons r1 r2 => cases r2; exact ⟨_,rfl,r1⟩
end
end L2
namespace L2
open PySem PySem.Spec PyProof.Rows
structure ObjM (h : Heap) (x dx C : Addr) (mA : Str -> Option Value) : Prop where
 obj : h.get? x = some (PySem.W.instObj C dx)
 ns : h.Ns1 dx mA
 ne : dx ≠ x
theorem oZ {h : Heap} {dx : Addr} {mA : Str -> Option Value} (n : h.Ns1 dx mA) : ∃ od,h.get? dx = some od /\ ∀ name,PySem.W.lookIn name od = some (mA name):=by
 obtain ⟨o,es,ep,ho,hd,hk,_,hm⟩:=n
 refine ⟨o,ho,fun name => ?_⟩
 have e:=hm name
 unfold nsFind findBy at e
 rw [<- Array.find?_toList] at e
 unfold PySem.W.lookIn
 rw [hd]
 dsimp only
 split
 ·rename_i y q
  rw [q] at e
  exact congrArg some e
 ·rename_i q
  rw [q] at e
  have a : es.toList.any (·.refKey) = false:=by
   rw [List.any_eq_false]
   intro y hy
   obtain ⟨z,t,hkey⟩:=hk y (Array.mem_toList_iff.mp hy)
   simp [DictEntry.refKey,hkey]
  have a' : ¬ es.toList.any (·.refKey) = true:=by rw [a]; exact Bool.false_ne_true
  rw [if_neg a']
  exact congrArg some e
theorem ObjM.look {h : Heap} {x dx C : Addr} {mA : Str -> Option Value} (I : ObjM h x dx C mA) : ∃ od,PySem.W.InstAt h x (PySem.W.instObj C dx) C (some od) /\ ∀ name,PySem.W.lookIn name od = some (mA name):=
 let ⟨od,ho,hl⟩:=oZ I.ns
 ⟨od,⟨I.obj,rfl,rfl,ho⟩,hl⟩
section
variable {prog : Program} {w : World} {A : Around} {E : Value -> Shared -> Prop} {s : Shared} {K : PySem.W.Frag} {x dx C f : Addr} {mA : Str -> Option Value} {name : Str} {v : Value}
theorem get_map {expr : Bool} {Q : Value -> Shared -> Prop} (X : K.In s.heap) (I : ObjM s.heap x dx C mA) (hg : PySem.W.plainGet K C name = true) (hh : PySem.W.hasDictIn K C = true)
  (ha : PySem.W.findIn K (.ref C) name = some none) (hv : mA name = some v) (hv' : PySem.W.handedIn v = true) (h : Q v { s with toks:=s.toks + 1 }) :
  wpAny (model prog w) A (getAttr (.ref x) name expr) Q E s:=by
 obtain ⟨od,J,hl⟩:=I.look
 exact PySem.W.get_value X J (PySem.W.plainGet_of hg).1 (PySem.W.findObj_own hh ha rfl (by rw [hl,hv])) hv' h
theorem pG {pl : Sem Bool} {Q : Value × List Value -> Shared -> Prop} (X : K.In s.heap) (I : ObjM s.heap x dx C mA) (hg : PySem.W.plainGet K C name = true)
  (hf : PySem.W.findIn K (.ref C) name = some (some (.ref f))) (ht : PySem.W.isFn K (.ref f) = true) (hv : mA name = none) (h : Q (.ref f,[.ref x]) s) :
  wpAny (model prog w) A (getMethod (.ref x) name pl) Q E s:=by
 obtain ⟨od,J,hl⟩:=I.look
 exact PySem.W.method_fn X J (PySem.W.plainGet_of hg).1 (PySem.W.plainGet_of hg).2 hf (beq_iff_eq.mp ht) (by show (PySem.W.lookIn name od).map (·.isSome) = some false; rw [hl,hv]; rfl) h
theorem qP {ns : List Str} {Q : Unit -> Shared -> Prop} (X : K.In s.heap) (I : ObjM s.heap x dx C mA)
  (hs : PySem.W.findIn K (.ref C) "__setattr__" = some (some (.builtin "object.__setattr__"))) (hp : PySem.W.plainOver K C = true) (ht : PySem.W.takerIn K C name = some none) (hh : PySem.W.hasDictIn K C = true)
  (hw : PySem.Within mA ns) (hsz : ns.length <= sizeLine)
  (h : ∀ h',ObjM h' x dx C (fun y => if y = name then some v else mA y) -> Heap.SameBut dx s.heap h' -> Q () { s with heap:=h',toks:=s.toks + 2 }) :
  wpAny (model prog w) A (setAttr (.ref x) name v) Q E s:=by
 obtain ⟨od,J,hl⟩:=I.look
 refine PySem.W.set_plain X J hs (PySem.W.osa_open (s:={ s with toks:=s.toks + 1 }) (r:=none) X J hp ht fun b => ?_)
 obtain ⟨cd,hc,hd'⟩:=PySem.W.any_some hh
 have hx : s.heap.get? x = some ⟨.ref C,some dx,.plain,#[]⟩:=I.obj
 refine wpAny_bind (wpAny_pure (wpAny_bind (wpAny_bind (wpAny_loadPart hx (wpAny_bind (PySem.W.Looks.here (s:={ s with toks:=s.toks + 1 }) (PySem.W.looks_clsIn X hc) ?_))))))
 rw [hd']
 refine wpAny_pure (a:=some dx) (wpAny_bind (wpAny_pure (wpAny_bind ?_)))
 refine wpAny_nsSet1 (s:={ s with toks:=s.toks + 1 }) I.ns fun h' hn2 hs2 => ?_
 obtain ⟨oD,esD,epD,hoD,hdD,hcD⟩:=hn2.count (PySem.Within.cons name v hw)
 refine wpAny_bind (wpAny_lookBehind hoD (by rw [hdD]; exact pastItsLine_dict (Nat.le_trans hcD (by rw [List.length_cons]; omega))) ?_)
 exact wpAny_pure (h _ ⟨(hs2.2 _ (Ne.symm I.ne)).trans I.obj,hn2,I.ne⟩ hs2)
theorem pM {R : Result -> Shared -> Prop} {vs : List Value} {kw : List (Str × Value)} (X : K.In s.heap) (hm : PySem.W.makesIn K C = true)
  (hi : PySem.W.findIn K (.ref C) "__init__" = some (some (.ref f))) (hf : PySem.W.typeIn K (.ref f) = some (.type "function"))
  (h : codeAny (model prog w) (A.under (.builtin "type.__call__" ⟨.ref C :: vs,kw⟩)) (.call (.ref f) ⟨.ref (s.heap.objs.size + 1) :: vs,kw⟩) (PySem.W.InitBack (s.heap.objs.size + 1) R)
   { s with heap:=(s.heap.push PySem.W.emptyDict).push (PySem.W.instObj C s.heap.objs.size) }) :
  codeAny (model prog w) A (.call (.ref C) ⟨vs,kw⟩) R s:=by
 obtain ⟨hh,g,d,t,os⟩:=s
 exact PySem.W.make_core (PySem.W.makes_of X hm) (PySem.W.looks_findIn X hi) (fun self => PySem.W.bind_fn X self hf) (.inl rfl) h
theorem o3 {R : Result -> Shared -> Prop} (X : K.In s.heap) (hm : PySem.W.makesIn K C = true)
  (hi : PySem.W.findIn K (.ref C) "__init__" = some (some (.builtin "object.__init__")))
  (hb : ∀ self,PySem.W.Looks (model prog w) s.heap (bindSpecial (.builtin "object.__init__") self) (.builtin "object.__init__",[self]))
  (h : codeAny (model prog w) (A.under (.builtin "type.__call__" ⟨[.ref C],[]⟩)) (.call (.builtin "object.__init__") ⟨[.ref (s.heap.objs.size + 1)],[]⟩) (PySem.W.InitBack (s.heap.objs.size + 1) R)
   { s with heap:=(s.heap.push PySem.W.emptyDict).push (PySem.W.instObj C s.heap.objs.size) }) :
  codeAny (model prog w) A (.call (.ref C) ⟨[],[]⟩) R s:=by
 obtain ⟨hh,g,d,t,os⟩:=s
 exact PySem.W.make_core (PySem.W.makes_of X hm) (PySem.W.looks_findIn X hi) hb (.inr ⟨rfl,rfl⟩) h
end
def gS (f : Str) (v : V) : List (Str × V) -> List (Str × V)
 | [] => [(f,v)]
 | (g,x) :: r => if g = f then (g,v) :: r else (g,x) :: gS f v r
theorem jb (f g : Str) (v : V) : ∀ fs : List (Str × V),(gS f v fs).lookup g = if g = f then some v else fs.lookup g
 | [] => by
  show List.lookup g [(f,v)] = _
  by_cases h : g = f
  ·have hb : (g == f) = true:=beq_iff_eq.mpr h
   simp only [List.lookup,hb,if_pos h]
  ·have hb : (g == f) = false:=beq_eq_false_iff_ne.mpr h
   simp only [List.lookup,hb,if_neg h]
 | (k,x) :: r => by
  have ih:=jb f g v r
  rw [show gS f v ((k,x) :: r) = (if k = f then (k,v) :: r else (k,x) :: gS f v r) from rfl]
  by_cases hk : k = f
  ·rw [if_pos hk]
   by_cases h : g = k
   ·have hb : (g == k) = true:=beq_iff_eq.mpr h
    simp only [List.lookup,hb,if_pos (h.trans hk)]
   ·have hb : (g == k) = false:=beq_eq_false_iff_ne.mpr h
    simp only [List.lookup,hb,if_neg (fun e : g = f => h (e.trans hk.symm))]
  ·rw [if_neg hk]
   by_cases h : g = k
   ·have hb : (g == k) = true:=beq_iff_eq.mpr h
    simp only [List.lookup,hb,if_neg (fun e : g = f => hk (h.symm.trans e))]
   ·have hb : (g == k) = false:=beq_eq_false_iff_ne.mpr h
    simp only [List.lookup,hb]
    exact ih
theorem iP (f : Str) (v : V) : ∀ fs : List (Str × V),f ∈ (gS f v fs).map (·.1) /\ ∀ g,g ∈ fs.map (·.1) -> g ∈ (gS f v fs).map (·.1)
 | [] => ⟨by simp [gS],fun g h => by simp at h⟩
 | (k,x) :: r => by
  obtain ⟨i1,i2⟩:=iP f v r
  rw [show gS f v ((k,x) :: r) = (if k = f then (k,v) :: r else (k,x) :: gS f v r) from rfl]
  by_cases hk : k = f
  ·rw [if_pos hk]
   subst hk
   exact ⟨by simp,fun g h => by simpa using h⟩
  ·rw [if_neg hk]
   refine ⟨?_,fun g h => ?_⟩
   ·rw [List.map_cons]
    exact List.mem_cons_of_mem _ i1
   ·rw [List.map_cons] at h ⊢
    rcases List.mem_cons.mp h with e | e
    ·exact List.mem_cons.mpr (.inl e)
    ·exact List.mem_cons_of_mem _ (i2 g e)
theorem ja (f : Str) (v : V) : ∀ fs : List (Str × V),(gS f v fs).length <= fs.length + 1
 | [] => by simp [gS]
 | (k,x) :: r => by
  have ih:=ja f v r
  rw [show gS f v ((k,x) :: r) = (if k = f then (k,v) :: r else (k,x) :: gS f v r) from rfl]
  by_cases hk : k = f
  ·rw [if_pos hk,List.length_cons,List.length_cons]; omega
  ·rw [if_neg hk,List.length_cons,List.length_cons]; omega
theorem RelO.some_of {v : V} {o : Option Value} (r : RelO (some v) o) : ∃ u,o = some u /\ RelV v u:=by
 cases o with
 | none => exact (show False from r).elim
 | some u => exact ⟨u,rfl,r⟩
theorem RelO.none_of {o : Option Value} (r : RelO none o) : o = none:=by
 cases o with
 | none => rfl
 | some u => exact (show False from r).elim
theorem oU {v : V} {u : Value} (r : RelV v u) : PySem.W.handedIn u = true:=by
 cases v with
 | non => cases (show u = Value.none from r); rfl
 | bl b => cases (show u = Value.bool b from r); rfl
 | int i => obtain ⟨t,e⟩:=(show ∃ t,u = Value.int i t from r); cases e; rfl
 | str x => obtain ⟨t,e⟩:=(show ∃ t,u = Value.str x t from r); cases e; rfl
 | byt b => obtain ⟨t,e⟩:=(show ∃ t,u = Value.bytes b t from r); cases e; rfl
 | flt b => obtain ⟨t,e⟩:=(show ∃ t,u = Value.float b t from r); cases e; rfl
 | ref a => cases (show u = Value.ref a from r); rfl
 | ty n => cases (show u = Value.type n from r); rfl
section
variable {P : Program} {w : World} {H H' : Hp} {h h' : Heap} {a C dx : Addr} {fs fs' : List (Str × V)}
theorem jZ (hok : HOk P w H h) (e : H a = some (.ins C dx fs)) : ∃ mA,ObjM h a dx C mA /\ (∀ f,RelO (fs.lookup f) (mA f)) /\ PySem.Within mA (fs.map (·.1)) /\ fs.length <= 1000 /\ H dx = some (.own a):=by
 obtain ⟨d,z,ne,ob,mA,n,r,q⟩:=(show ObjOk P w H h a (.ins C dx fs) from hok a _ e)
 exact ⟨mA,⟨ob,n,ne⟩,r,q,z,d⟩
end
structure Cls (K : PySem.W.Frag) (C : Addr) : Prop where
 pg : PySem.W.plainGet K C Str.empty = true
 hd : PySem.W.hasDictIn K C = true
 po : PySem.W.plainOver K C = true
 sa : PySem.W.findIn K (.ref C) "__setattr__" = some (some (.builtin "object.__setattr__"))
theorem Cls.get {K : PySem.W.Frag} {C : Addr} (c : Cls K C) (f : Str) : PySem.W.plainGet K C f = true:=c.pg
def NoAttr (K : PySem.W.Frag) (C : Addr) (f : Str) : Prop:=PySem.W.findIn K (.ref C) f = some none
theorem NoAttr.taker {K : PySem.W.Frag} {C : Addr} {f : Str} (n : NoAttr K C f) : PySem.W.takerIn K C f = some none:=by
 unfold PySem.W.takerIn
 rw [show PySem.W.findIn K (.ref C) f = some none from n]
 rfl
structure Con (K : PySem.W.Frag) (C : Addr) (f : Str) (v : V) (u : Value) : Prop where
 at_ : PySem.W.findIn K (.ref C) f = some (some u)
 rel : RelV v u
 get : PySem.W.specialIn K u "__get__" = some none
 cp : PySem.W.copiedNames.contains f = false
structure Meth (K : PySem.W.Frag) (C : Addr) (m : Str) (f : Addr) : Prop where
 at_ : PySem.W.findIn K (.ref C) m = some (some (.ref f))
 fn : PySem.W.isFn K (.ref f) = true
 kp : PySem.W.keepIn K (.ref f) = true
section
variable {X : Cx} {pins : List (Addr × Obj)} {σ : St} {H : Hp} {s : Shared} {a C dx : Addr} {fs : List (Str × V)} {f : Str} {v : V} {A : Around} {E : Value -> Shared -> Prop}
theorem n4 {b : Bool} {Q : Value -> Shared -> Prop} (I : Inv X pins σ H s) (e : H a = some (.ins C dx fs)) (c : Cls X.K C) (n : NoAttr X.K C f) (l : fs.lookup f = some v)
  (h : ∀ u s',Inv X pins σ H s' -> RelV v u -> Q u s') : wpAny (model X.prog X.w) A (getAttr (.ref a) f b) Q E s:=by
 obtain ⟨mA,O,r,_,_,_⟩:=jZ I.hok e
 obtain ⟨u,hu,ru⟩:=RelO.some_of (v:=v) (o:=mA f) (by rw [<- l]; exact r f)
 exact get_map I.kIn O (c.get f) c.hd n hu (oU ru) (h u _ (I.tok _) ru)
theorem kd {m : Str} {g : Addr} {pl : Sem Bool} {Q : Value × List Value -> Shared -> Prop} (I : Inv X pins σ H s) (e : H a = some (.ins C dx fs)) (c : Cls X.K C) (k : Meth X.K C m g) (l : fs.lookup m = none)
  (h : Q (.ref g,[.ref a]) s) : wpAny (model X.prog X.w) A (getMethod (.ref a) m pl) Q E s:=by
 obtain ⟨mA,O,r,_,_,_⟩:=jZ I.hok e
 have hn : mA m = none:=RelO.none_of (by rw [<- l]; exact r m)
 exact pG I.kIn O (c.get m) k.at_ k.fn hn h
theorem om {y : V} {u : Value} {Q : Unit -> Shared -> Prop} (I : Inv X pins σ H s) (e : H a = some (.ins C dx fs)) (c : Cls X.K C) (n : NoAttr X.K C f) (hl : fs.length < 1000) (ry : RelV y u)
  (h : ∀ s',Inv X pins σ (upd H a (.ins C dx (gS f y fs))) s' -> Q () s') : wpAny (model X.prog X.w) A (setAttr (.ref a) f u) Q E s:=by
 obtain ⟨mA,O,r,wi,_,ho⟩:=jZ I.hok e
 have hz : (fs.map (·.1)).length <= sizeLine:=by rw [List.length_map,sizeLine_eq]; omega
 refine qP I.kIn O c.sa c.po n.taker c.hd wi hz fun h' O' sb => h _ ?_
 have hd : ∃ o,h'.get? dx = some o:=let ⟨o,_,_,e',_⟩:=O'.ns; ⟨o,e'⟩
 refine I.write (x:=a) (e:=dx) (by rw [e]; exact True.intro) (.inr ho) (fun b q hb z => (sb.2 b hb).trans z) hd ?_
 refine ⟨by rw [aw O.ne]; exact ho,?_,O.ne,O'.obj,_,O'.ns,fun g => ?_,fun g hg => ?_⟩
 ·have:=ja f y fs; omega
 ·show RelO ((gS f y fs).lookup g) (if g = f then some u else mA g)
  rw [jb]
  by_cases q : g = f
  ·rw [if_pos q,if_pos q]; exact ry
  ·rw [if_neg q,if_neg q]; exact r g
 ·by_cases q : g = f
  ·rw [q]; exact (iP f y fs).1
  ·refine (iP f y fs).2 g (wi g fun z => hg ?_)
   show (if g = f then some u else mA g) = none
   rw [if_neg q]; exact z
theorem Inv.made (I : Inv X pins σ H s) : Inv X pins σ (upd (upd H s.heap.objs.size (.own (s.heap.objs.size + 1))) (s.heap.objs.size + 1) (.ins C s.heap.objs.size []))
  { s with heap:=(s.heap.push PySem.W.emptyDict).push (PySem.W.instObj C s.heap.objs.size) }:=by
 have e1 : (s.heap.push PySem.W.emptyDict).get? s.heap.objs.size = some PySem.W.emptyDict:=Heap.get?_push_size s.heap rfl
 have e2 : ((s.heap.push PySem.W.emptyDict).push (PySem.W.instObj C s.heap.objs.size)).get? (s.heap.objs.size + 1) = some (PySem.W.instObj C s.heap.objs.size):=by
  have:=Heap.get?_push_size (s.heap.push PySem.W.emptyDict) (o:=PySem.W.instObj C s.heap.objs.size) rfl
  rwa [Heap.size_push] at this
 have e3 : (s.heap.push PySem.W.emptyDict).Ns s.heap.objs.size (fun _ => none):=⟨PySem.W.emptyDict,#[],_,e1,rfl,(fun e he => absurd he (by simp)),fun _ => rfl⟩
 have I1:=I.laid (a:=s.heap.objs.size) (o:=.own (s.heap.objs.size + 1)) (h' := s.heap.push PySem.W.emptyDict) (t' := s.toks) (fun b u q => Heap.get?_push_of_some _ q) (Nat.le_refl _) ⟨_,e1⟩
 refine I1.laid (a:=s.heap.objs.size + 1) (o:=.ins C s.heap.objs.size []) (t' := s.toks) (fun b u q => Heap.get?_push_of_some _ q) (Nat.le_of_eq (Heap.size_push _ _)) ?_
 have ne : s.heap.objs.size ≠ s.heap.objs.size + 1:=Nat.ne_of_lt (Nat.lt_succ_self _)
 refine ⟨by rw [aw ne,aj],Nat.zero_le _,ne,e2,fun _ => none,(Heap.Ns1.of_empty e3).at fun o q => Heap.get?_push_of_some _ q,fun _ => True.intro,fun y hy => absurd rfl hy⟩
theorem qr {prog : Program} {w : World} {env : Env} {e : Expr} {f : Str} {pos : Pos} {s : Shared} {Q : Value -> Shared -> Prop} (hb : attributeBase e f env (eval e env) = eval e env)
  (h : wpAny (model prog w) A (eval e env) (fun o s₁ => wpAny (model prog w) A (getAttr o f true) Q E s₁) E s) : wpAny (model prog w) A (eval (.Attribute e f pos) env) Q E s:=
 Attribute_any_ h (by rw [arm_eval_Attribute,hb])
end
def sL (K : PySem.W.Frag) (ta : TE) (f : Str) : TE:=fun σ H Q => ta σ H fun x H1 => ∃ a C dx fs v,x = .ref a /\ H1 a = some (.ins C dx fs) /\ Cls K C /\ NoAttr K C f /\ fs.lookup f = some v /\ Q v H1
def sJ (K : PySem.W.Frag) (ta tv : TE) (f : Str) : TS:=fun D σ H => tv σ H fun y H1 => ta σ H1 fun x H2 => ∃ a C dx fs,x = .ref a /\ H2 a = some (.ins C dx fs) /\ Cls K C /\ NoAttr K C f /\ fs.length < 1000 /\
 D.nx σ (upd H2 a (.ins C dx (gS f y fs)))
section
variable {X : Cx} {o e value : Expr} {f : Str} {pos pos' tpos : Pos} {ta tv : TE}
theorem aA (he : PE X e ta) (hb : attributeBase e f X.env (eval e X.env) = eval e X.env) : PE X (.Attribute e f pos) (sL X.K ta f):=by
 intro pins s σ H Q I h
 refine qr hb (thn (he pins s σ H _ I h) fun u s1 ⟨x,H1,I1,rx,a,C,dx,fs,v,ex,ea,c,n,l,q⟩ => ?_)
 subst ex
 obtain rfl : u = Value.ref a:=rx
 exact n4 I1 ea c n l fun u' s2 I2 ru => ⟨v,H1,I2,ru,q⟩
theorem kx (ha : PE X o ta) (hv : PE X value tv) (hs : swapsWith value (some (.Attribute o f pos')) pos.line X.env = pure false) : PS X (.Assign [.Attribute o f pos'] value pos) (sJ X.K ta tv f):=by
 intro pins s σ H D I h
 refine plainObj_wpAny_Assign_Attribute (thn (hv pins s σ H _ I h) fun u s1 ⟨y,H1,I1,ry,q⟩ => thn (ha pins s1 σ H1 _ I1 q) fun ov s2 ⟨x,H2,I2,rx,a,C,dx,fs,ex,ea,c,n,l,q2⟩ => ?_) hs
 subst ex
 obtain rfl : ov = Value.ref a:=rx
 exact om I2 ea c n l ry fun s3 I3 => ⟨σ,_,I3,q2⟩
end
section
variable {X : Cx} {pins : List (Addr × Obj)} {σ : St} {H : Hp} {s : Shared} {A : Around} {E : Value -> Shared -> Prop} {Q : Value -> Shared -> Prop} {c : Value} {b : Bool}
inductive TyOf (K : PySem.W.Frag) (H : Hp) : V -> Value -> Prop where
 | non : TyOf K H .non (.type "NoneType")
 | bl (x : Bool) : TyOf K H (.bl x) (.type "bool")
 | int (i : Int) : TyOf K H (.int i) (.type "int")
 | str (x : Str) : TyOf K H (.str x) (.type "str")
 | flt (x : UInt64) : TyOf K H (.flt x) (.type "float")
 | lst {a : Addr} {xs : List V} (e : H a = some (.lst xs)) : TyOf K H (.ref a) (.type "list")
 | frz {a : Addr} {o : Obj} {xs : List V} (e : H a = some (.frz o (.lst xs))) : TyOf K H (.ref a) (.type "list")
 | tup {a : Addr} {xs : List V} (e : H a = some (.tup xs)) : TyOf K H (.ref a) (.type "tuple")
 | dK {a : Addr} {kvs : List (Key × V)} (e : H a = some (.dK kvs)) : TyOf K H (.ref a) (.type "dict")
 | dT {a : Addr} {kvs : List (List Key × V)} (e : H a = some (.dT kvs)) : TyOf K H (.ref a) (.type "dict")
 | ins {a C dx : Addr} {fs : List (Str × V)} (e : H a = some (.ins C dx fs)) (cl : Cls K C) (ha : PySem.W.findIn K (.ref C) "__class__" = some (some (.builtin "object.__class__")))
   (hn : PySem.W.specialIn K (.builtin "object.__class__") "__get__" = some (some (.builtin "getset_descriptor.__get__"))) (htk : PySem.W.takesIn K (.builtin "object.__class__") = some true)
   (hm : PySem.W.mroIn K C (.type "object") = some true) : TyOf K H (.ref a) (.ref C)
theorem lQ {x : V} {u t : Value} (I : Inv X pins σ H s) (rx : RelV x u) (ty : TyOf X.K H x t) (e : PySem.W.kitOne X.K t c = some b) (h : ∀ tk,Q (.bool b) { s with toks:=tk }) :
  wpAny (model X.prog X.w) A (call (.builtin "isinstance") [u,c]) Q E s:=by
 cases ty with
 | non => cases (show u = Value.none from rx); exact PySem.W.kia_one PySem.W.kitx_none I.kIn True.intro e (fun z => nomatch z) h
 | bl y => cases (show u = Value.bool y from rx); exact PySem.W.kia_one PySem.W.kitx_bool I.kIn True.intro e (fun z => nomatch z) h
 | int i => obtain ⟨t,q⟩:=(show ∃ t,u = Value.int i t from rx); cases q; exact PySem.W.kia_one PySem.W.kitx_int I.kIn True.intro e (fun z => nomatch z) h
 | str y => obtain ⟨t,q⟩:=(show ∃ t,u = Value.str y t from rx); cases q; exact PySem.W.kia_one PySem.W.kitx_str I.kIn True.intro e (fun z => nomatch z) h
 | flt y => obtain ⟨t,q⟩:=(show ∃ t,u = Value.float y t from rx); cases q; exact PySem.W.kia_one PySem.W.kitx_float I.kIn True.intro e (fun z => nomatch z) h
 | @lst a xs ea =>
  cases (show u = Value.ref a from rx)
  obtain ⟨_,_,n,_,h1⟩:=(show ObjOk X.prog X.w H s.heap a (.lst xs) from I.hok a _ ea)
  exact PySem.W.kia_one PySem.W.kitx_list I.kIn ⟨_,h1,rfl⟩ e (fun z => nomatch z) h
 | @frz a ob xs ea =>
  cases (show u = Value.ref a from rx)
  obtain ⟨_,_,_,n,_,h1⟩:=(show ObjOk X.prog X.w H s.heap a (.frz ob (.lst xs)) from I.hok a _ ea)
  exact PySem.W.kia_one PySem.W.kitx_list I.kIn ⟨_,h1,rfl⟩ e (fun z => nomatch z) h
 | @tup a xs ea =>
  cases (show u = Value.ref a from rx)
  obtain ⟨_,_,_,p⟩:=(show ObjOk X.prog X.w H s.heap a (.tup xs) from I.hok a _ ea)
  obtain ⟨o,h1,h2,_⟩:=p
  exact PySem.W.kia_one PySem.W.kitx_tuple I.kIn ⟨o,h1,h2⟩ e (fun z => nomatch z) h
 | @dK a kvs ea =>
  cases (show u = Value.ref a from rx)
  obtain ⟨_,_,vs,_,p⟩:=(show ObjOk X.prog X.w H s.heap a (.dK kvs) from I.hok a _ ea)
  obtain ⟨o,es,ep,h1,h2,_⟩:=p
  exact PySem.W.kia_one PySem.W.kitx_dict I.kIn ⟨o,h1,h2.1⟩ e (fun z => nomatch z) h
 | @dT a kvs ea =>
  cases (show u = Value.ref a from rx)
  obtain ⟨_,_,xs,_,o,es,ep,h1,h2,_⟩:=(show ObjOk X.prog X.w H s.heap a (.dT kvs) from I.hok a _ ea)
  exact PySem.W.kia_one PySem.W.kitx_dict I.kIn ⟨o,h1,h2.1⟩ e (fun z => nomatch z) h
 | @ins a C dx fs ea cl ha hn htk hm =>
  cases (show u = Value.ref a from rx)
  obtain ⟨mA,O,_⟩:=jZ I.hok ea
  obtain ⟨od,J,_⟩:=O.look
  exact PySem.W.kia_one (PySem.W.kitx_own (cl.get _) cl.hd ha hn htk hm) I.kIn J e (fun z => nomatch z) h
end
end L2
namespace L2
open PySem PySem.Spec PyProof.Rows
structure Room (k : Nat) (A : Around) : Prop where
 hd : A.handled = none
 dp : A.depth + 3 * k + 5 < recursionLimit
 un : A.units + 16 * k + 200 < cLine
theorem Room.mono {j k : Nat} {A : Around} (r : Room k A) (h : j <= k) : Room j A:=⟨r.hd,by have:=r.dp; omega,by have:=r.un; omega⟩
theorem Room.deeper {k : Nat} {A : Around} (r : Room (k + 1) A) (env : Env) : Room k (A.deeper env):=
 ⟨r.hd,by have:=r.dp; show A.depth + 1 + 3 * k + 5 < _; omega,by have:=r.un; show A.units + 3 + 16 * k + 200 < _; omega⟩
theorem n8 {A : Around} {C : Addr} {us : List Value} {kw : List (Str × Value)} : (A.under (.builtin "type.__call__" ⟨.ref C :: us,kw⟩)).depth = A.depth + 1:=by
 first | rfl | simp [Around.under,Code.weight,Code.isCreation,Code.isGuard,Code.isCaller,Code.frames,Code.isFrame,guardIds]
theorem n9 {A : Around} {C : Addr} {us : List Value} {kw : List (Str × Value)} : (A.under (.builtin "type.__call__" ⟨.ref C :: us,kw⟩)).units = A.units + 1:=by
 first | rfl | simp [Around.under,Code.cUnits,Code.frames,Code.isFrame]
theorem Room.make {k : Nat} {A : Around} (r : Room (k + 1) A) (C : Addr) (us : List Value) (kw : List (Str × Value)) : Room k (A.under (.builtin "type.__call__" ⟨.ref C :: us,kw⟩)):=
 ⟨r.hd,by have:=r.dp; rw [n8]; omega,by have:=r.un; rw [n9]; omega⟩
theorem Room.depth {k : Nat} {A : Around} (r : Room k A) : A.depth < recursionLimit:=by have:=r.dp; omega
def gY : TA:=fun _ H Q => Q [] H
def fX (ta : TE) (tr : TA) : TA:=fun σ H Q => ta σ H fun x H1 => tr σ H1 fun xs H2 => Q (x :: xs) H2
section
variable {X : Cx} {e : Expr} {es : List Expr} {te : TE} {t : TA} {pos : Pos}
theorem ab : PA X [] gY:=fun _ _ _ _ H Q I h => Calls.spliced_nil ⟨[],H,I,.nil,h⟩
theorem aa (ha : PE X e te) (hr : PA X es t) (hs : starEach (e :: es) X.env = (false,eval e X.env) :: starEach es X.env:=by rfl) : PA X (e :: es) (fX te t):=by
 intro pos pins s σ H Q I h
 rw [hs]
 show wpAny _ _ (spliced ((false,eval e X.env) :: backTo pos (starEach es X.env))) _ _ s
 refine Calls.spliced_cons (thn (ha pins s σ H _ I h) fun u s1 ⟨x,H1,I1,r1,q1⟩ => ?_)
 exact thn (hr pos pins s1 σ H1 _ I1 q1) fun us s2 ⟨xs,H2,I2,r2,q2⟩ => ⟨x :: xs,H2,I2,.cons r1 r2,q2⟩
def sO (t : TA) : TE:=fun σ H Q => t σ H fun xs H1 => xs.length <= sizeLine /\ ∀ p,H1 p = none -> Q (.ref p) (upd H1 p (.tup xs))
def si (t : TA) : TE:=fun σ H Q => t σ H fun xs H1 => xs.length <= sizeLine /\ ∀ p,H1 p = none -> Q (.ref p) (upd H1 p (.lst xs))
theorem eT {x1} (h : PA X es t) : PE X (.Tuple es x1 pos) (sO t):=by
 intro pins s σ H Q I hq
 refine wpAny_Tuple_spliced (thn (h pos pins s σ H _ I hq) fun us s1 ⟨xs,H1,I1,r,z,q⟩ => ⟨by rw [<- r.length]; exact z,?_⟩)
 have hf : H1 s1.heap.objs.size = none:=I1.hok.fresh (Nat.le_refl _)
 refine ⟨.ref s1.heap.objs.size,upd H1 s1.heap.objs.size (.tup xs),I1.laid (t' := s1.toks) (fun b u e => Heap.get?_push_of_some _ e) (Nat.le_refl _) ?_,rfl,q _ hf⟩
 exact ⟨z,us,r,⟨_,Heap.get?_push_size _ rfl,rfl,_,rfl⟩⟩
theorem kq (h : PA X es t) : PE X (.List es pos) (si t):=by
 intro pins s σ H Q I hq
 refine wpAny_List_spliced (thn (h pos pins s σ H _ I hq) fun us s1 ⟨xs,H1,I1,r,z,q⟩ => ⟨by rw [<- r.length]; exact z,?_⟩)
 have hf : H1 s1.heap.objs.size = none:=I1.hok.fresh (Nat.le_refl _)
 refine ⟨.ref s1.heap.objs.size,upd H1 s1.heap.objs.size (.lst xs),I1.laid (t' := s1.toks) (fun b u e => Heap.get?_push_of_some _ e) (Nat.le_refl _) ?_,rfl,q _ hf⟩
 exact ⟨z,us,0,r,Heap.get?_push_size _ rfl⟩
end
abbrev Sp:=List V -> Hp -> VK -> XK -> Prop
abbrev CXT:=List Env -> Hp -> Shared -> XK -> Value -> Shared -> Prop
structure Env0 (P : Program) (w : World) (K : PySem.W.Frag) (mg : Str -> Option Value) (base : Heap) (A : Around) (outer : List Env) (s : Shared) (H : Hp) : Prop where
 frames : A.frames = some outer
 mod : Mod K mg base
 bs : ∀ b o,base.get? b = some o -> s.heap.get? b = some o /\ H b = none
 bsz : base.objs.size <= s.heap.objs.size
 funs : s.heap.FunFrames base outer
 frf : ∀ b ∈ frs outer,H b = none
 hok : HOk P w H s.heap
 bare : AllBare s.gens
def CE (outer : List Env) (P : Program) (w : World) (H : Hp) (s : Shared) (Q : VK) (u : Value) (s' : Shared) : Prop:=
 ∃ v H',s'.os = s.os /\ AllBare s'.gens /\ Un (frs outer) [] H H' s.heap s'.heap /\ HOk P w H' s'.heap /\ RelV v u /\ Q v H'
def CR (CX : CXT) (outer : List Env) (P : Program) (w : World) (H : Hp) (s : Shared) (Q : VK) (E : XK) (r : Result) (s' : Shared) : Prop:=
 match r with
 | .ok (.ret u) => CE outer P w H s Q u s'
 | .ok _ => False
 | .error e => CX outer H s E e s'
structure FnOk (P : Program) (w : World) (K : PySem.W.Frag) (mg : Str -> Option Value) (base : Heap) (CX : CXT) (k : Nat) (f : Addr) (fd : FuncData) (ps : List Str) (sp : Sp) : Prop where
 len : ∀ vs H Q E,sp vs H Q E -> vs.length = ps.length
 run : ∀ (A : Around) (outer : List Env) (s : Shared) (H : Hp) (args : Args) (us : List Value) (vs : List V) (Q : VK) (E : XK),Room k A -> Env0 P w K mg base A outer s H -> BindsTo s fd args (ps.zip us) -> Vals vs us -> sp vs H Q E ->
  codeAny (model P w) A (.call (.ref f) args) (CR CX outer P w H s Q E) s
theorem Env0.make {P : Program} {w : World} {K : PySem.W.Frag} {mg : Str -> Option Value} {base : Heap} {A : Around} {outer : List Env} {s : Shared} {H : Hp} (e : Env0 P w K mg base A outer s H) (C : Addr) (us : List Value) (kw : List (Str × Value)) :
  Env0 P w K mg base (A.under (.builtin "type.__call__" ⟨.ref C :: us,kw⟩)) outer s H:=⟨by first | exact e.frames | (simpa [Around.under,Code.envs,Code.isFrame,pushEnvs] using e.frames),e.mod,e.bs,e.bsz,e.funs,e.frf,e.hok,e.bare⟩
section
variable {X : Cx} {pins : List (Addr × Obj)} {σ : St} {H : Hp} {s s' : Shared}
theorem Inv.env0 (I : Inv X pins σ H s) : Env0 X.prog X.w X.K X.mg X.base X.A X.stack s H:=
 ⟨I.ok.frames,I.ok.mod,I.bs,Nat.le_trans I.ok.bsz I.sz,I.stack,I.stkFree,I.hok,I.bare⟩
theorem Inv.after {Q : VK} {u : Value} (I : Inv X pins σ H s) (h : CE X.stack X.prog X.w H s Q u s') : EP X pins σ Q u s' := by
 obtain ⟨v,H',os,bare,un,hok,r,q⟩:=h
 obtain ⟨hh,g,d,t,os'⟩:=s'
 obtain rfl : os' = s.os:=os
 exact ⟨v,H',I.call (h' := hh) (g' := g) (d' := d) (t' := t) (ch:=[]) un hok bare (fun b z => absurd z (by simp)),r,q⟩
end
def qT (sp : Sp) (dvs : List V) (E : XK) (t : TA) : TE:=fun σ H Q => t σ H fun vs H1 => sp (vs ++ dvs) H1 Q E
def bS (C : Addr) (m : Str) (sp : Sp) (dvs : List V) (E : XK) (ta : TE) (t : TA) : TE:=fun σ H Q => ta σ H fun x H1 => ∃ a dx fs,x = .ref a /\ H1 a = some (.ins C dx fs) /\ fs.lookup m = none /\
 t σ H1 fun vs H2 => sp (x :: (vs ++ dvs)) H2 Q E
def qg (C : Addr) (sp : Sp) (dvs : List V) (E : XK) (t : TA) : TE:=fun σ H Q => t σ H fun vs H1 => ∀ x dx,H1 x = none -> H1 dx = none -> dx ≠ x ->
 sp (.ref x :: (vs ++ dvs)) (upd (upd H1 dx (.own x)) x (.ins C dx [])) (fun v H2 => v = .non /\ Q (.ref x) H2) E
def Binds (K : PySem.W.Frag) (fd : FuncData) (ps : List Str) (ds : List Value) : Prop:=
 ∀ (s : Shared) (us : List Value),K.In s.heap -> (us ++ ds).length = ps.length -> BindsTo s fd ⟨us,[]⟩ (ps.zip (us ++ ds))
theorem Binds.all {K : PySem.W.Frag} {fd : FuncData} {ps : List Str} (h : ∀ us : List Value,us.length = ps.length -> bindArgs fd ⟨us,[]⟩ = pure (ps.zip us)) : Binds K fd ps []:=fun s us _ hl => by
 rw [List.append_nil] at hl ⊢
 exact .of_eq (h us hl)
def Passes (CX : CXT) (X : Cx) (E : XK) : Prop := ∀ (pins : List (Addr × Obj)) (σ : St) (H : Hp) (s : Shared) (e : Value) (s' : Shared),Inv X pins σ H s -> CX X.stack H s E e s' -> X.xe e s'
section
variable {X : Cx} {CX : CXT} {k : Nat} {f C : Addr} {fd : FuncData} {ps : List Str} {sp : Sp} {dvs : List V} {ds : List Value} {E : XK} {x m : Str} {p pos apos : Pos} {e o : Expr} {es : List Expr} {ta : TE} {t : TA}
theorem oj {pins : List (Addr × Obj)} {σ : St} {H : Hp} {s : Shared} {Q : VK} {us : List Value} {vs : List V} (F : FnOk X.prog X.w X.K X.mg X.base CX k f fd ps sp) (hr : Room k X.A) (hb : Binds X.K fd ps ds) (hd : Vals dvs ds) (hx : Passes CX X E)
  (I : Inv X pins σ H s) (r : Vals vs us) (h : sp (vs ++ dvs) H Q E) : wpAny (model X.prog X.w) X.A (call (.ref f) us) (EP X pins σ Q) X.xe s:=by
 have r2 : Vals (vs ++ dvs) (us ++ ds):=r.append hd
 have hl : (us ++ ds).length = ps.length:=by rw [<- r2.length]; exact F.len _ _ _ _ h
 refine wpAny_call (codeAny_mono (F.run X.A X.stack s H ⟨us,[]⟩ (us ++ ds) (vs ++ dvs) Q E hr I.env0 (hb s us I.kIn hl) r2 h) fun r s' hq => ?_)
 cases r with
 | error e => exact hx pins σ H s e s' I hq
 | ok fl =>
  cases fl with
  | ret u => exact I.after hq
  | next => exact False.elim hq
  | brk => exact False.elim hq
  | cont => exact False.elim hq
theorem qK (F : FnOk X.prog X.w X.K X.mg X.base CX k f fd ps sp) (hr : Room k X.A) (hg : Gl X x) (hm : X.mg x = some (.ref f)) (hk : PySem.W.keepIn X.K (.ref f) = true) (hb : Binds X.K fd ps ds) (hd : Vals dvs ds) (hx : Passes CX X E)
  (ha : PA X (e :: es) t) (hdb : (x == ("__debug__" : Str)) = false:=by decide) (he : starEach (e :: es) X.env = (false,eval e X.env) :: starEach es X.env:=by rfl) (hpl : (backTo pos (starEach es X.env)).any (·.1) = false:=by rfl) :
  PE X (.Call (.Name x p) (e :: es) [] pos) (qT sp dvs E t):=by
 intro pins s σ H Q I h
 refine wpAny_Call_Name_kw (j1 I hg hm ?_ hdb)
 refine PySem.W.callWith_K (h₀:=X.base) I.ok.mod.kin hk (thn (ha pos pins s σ H _ I h) fun us s1 ⟨vs,H1,I1,r,q⟩ => ⟨I1.kIn,?_⟩) he hpl
 exact oj F hr hb hd hx I1 r q
theorem qN {pl : Sem Bool} (he : PE X o ta) (c : Cls X.K C) (hm : Meth X.K C m f) (F : FnOk X.prog X.w X.K X.mg X.base CX k f fd ps sp) (hr : Room k X.A) (hb : Binds X.K fd ps ds) (hd : Vals dvs ds) (hx : Passes CX X E) (ha : PA X (e :: es) t)
  (hst : starEach (e :: es) X.env = (false,eval e X.env) :: starEach es X.env:=by rfl) (hpl : (backTo pos (starEach es X.env)).any (·.1) = false:=by rfl)
  (ht : eval (.Call (.Attribute o m apos) (e :: es) [] pos) X.env = (do
   let ov <- eval o X.env
   standAt apos.atName
   let (f,first) <- holding [ov] (getMethod ov m pl)
   callWith pos f first (backTo pos (starEach (e :: es) X.env)) (backToKw pos (keywordEach [] X.env))):=by rfl) :
  PE X (.Call (.Attribute o m apos) (e :: es) [] pos) (bS C m sp dvs E ta t):=by
 intro pins s σ H Q I h
 refine PySem.W.methodCall_KW (pl:=pl) (thn (he pins s σ H _ I h) fun u s1 ⟨x,H1,I1,rx,a,dx,fs,ex,ea,l,q⟩ => ?_) ht
 subst ex
 obtain rfl : u = Value.ref a:=rx
 refine kd I1 ea c hm l ?_
 refine PySem.W.callWith_K (first:=[.ref a]) (h₀:=X.base) I.ok.mod.kin hm.kp (thn (ha pos pins s1 σ H1 _ I1 q) fun us s2 ⟨vs,H2,I2,r,q2⟩ => ⟨I2.kIn,?_⟩) hst hpl
 exact oj (us:=.ref a :: us) (vs:=.ref a :: vs) F hr hb hd hx I2 (.cons rfl r) q2
theorem p7 {pl : Sem Bool} (he : PE X o ta) (c : Cls X.K C) (hm : Meth X.K C m f) (F : FnOk X.prog X.w X.K X.mg X.base CX k f fd ps sp) (hr : Room k X.A) (hb : Binds X.K fd ps ds) (hd : Vals dvs ds) (hx : Passes CX X E)
  (ht : eval (.Call (.Attribute o m apos) [] [] pos) X.env = (do
   let ov <- eval o X.env
   standAt apos.atName
   let (f,first) <- holding [ov] (getMethod ov m pl)
   callWith pos f first (backTo pos (starEach [] X.env)) (backToKw pos (keywordEach [] X.env))):=by rfl) :
  PE X (.Call (.Attribute o m apos) [] [] pos) (bS C m sp dvs E ta gY):=by
 intro pins s σ H Q I h
 refine PySem.W.methodCall_KW (pl:=pl) (thn (he pins s σ H _ I h) fun u s1 ⟨x,H1,I1,rx,a,dx,fs,ex,ea,l,q⟩ => ?_) ht
 subst ex
 obtain rfl : u = Value.ref a:=rx
 refine kd I1 ea c hm l ?_
 exact PySem.W.callWith_K0 (first:=[.ref a]) I1.kIn hm.kp (oj (us:=[.ref a]) (vs:=[.ref a]) F hr hb hd hx I1 (.cons rfl .nil) q)
structure Mk (K : PySem.W.Frag) (C f : Addr) : Prop where
 makes : PySem.W.makesIn K C = true
 init : PySem.W.findIn K (.ref C) "__init__" = some (some (.ref f))
 fn : PySem.W.isFn K (.ref f) = true
 kp : PySem.W.keepIn K (.ref C) = true
theorem qb {pins : List (Addr × Obj)} {σ : St} {H : Hp} {s : Shared} {Q : VK} {us : List Value} {vs : List V} (M : Mk X.K C f) (F : FnOk X.prog X.w X.K X.mg X.base CX k f fd ps sp) (hr : Room (k + 1) X.A) (hb : Binds X.K fd ps ds) (hd : Vals dvs ds)
  (hx : Passes CX X E) (I : Inv X pins σ H s) (r : Vals vs us)
  (h : ∀ x dx,H x = none -> H dx = none -> dx ≠ x -> sp (.ref x :: (vs ++ dvs)) (upd (upd H dx (.own x)) x (.ins C dx [])) (fun v H2 => v = .non /\ Q (.ref x) H2) E) :
  wpAny (model X.prog X.w) X.A (call (.ref C) us) (EP X pins σ Q) X.xe s:=by
 have hq:=h (s.heap.objs.size + 1) s.heap.objs.size (I.hok.fresh (Nat.le_succ _)) (I.hok.fresh (Nat.le_refl _)) (Nat.ne_of_lt (Nat.lt_succ_self _))
 have I2:=Inv.made (C:=C) I
 have r2 : Vals (V.ref (s.heap.objs.size + 1) :: (vs ++ dvs)) (Value.ref (s.heap.objs.size + 1) :: (us ++ ds)):=.cons rfl (r.append hd)
 have hl : (Value.ref (s.heap.objs.size + 1) :: us ++ ds).length = ps.length:=by
  have e:=r2.length
  rw [F.len _ _ _ _ hq] at e
  exact e.symm
 refine wpAny_call (pM (f:=f) I.kIn M.makes M.init (beq_iff_eq.mp M.fn) (codeAny_mono (F.run _ X.stack _ _ ⟨Value.ref (s.heap.objs.size + 1) :: us,[]⟩ (Value.ref (s.heap.objs.size + 1) :: (us ++ ds)) _ _ E (hr.make C us [])
  (I2.env0.make C us []) (hb _ (Value.ref (s.heap.objs.size + 1) :: us) I2.kIn hl) r2 hq) fun r s' hq' => ?_))
 cases r with
 | error e => exact hx pins σ _ _ e s' I2 hq'
 | ok fl =>
  cases fl with
  | ret u =>
   obtain ⟨v,H',I3,rv,ev,q3⟩:=I2.after hq'
   subst ev
   exact ⟨rv,⟨V.ref (s.heap.objs.size + 1),H',I3,rfl,q3⟩⟩
  | next => exact False.elim hq'
  | brk => exact False.elim hq'
  | cont => exact False.elim hq'
theorem qM (M : Mk X.K C f) (F : FnOk X.prog X.w X.K X.mg X.base CX k f fd ps sp) (hr : Room (k + 1) X.A) (hg : Gl X x) (hm : X.mg x = some (.ref C)) (hb : Binds X.K fd ps ds) (hd : Vals dvs ds) (hx : Passes CX X E)
  (ha : PA X (e :: es) t) (hdb : (x == ("__debug__" : Str)) = false:=by decide) (he : starEach (e :: es) X.env = (false,eval e X.env) :: starEach es X.env:=by rfl) (hpl : (backTo pos (starEach es X.env)).any (·.1) = false:=by rfl) :
  PE X (.Call (.Name x p) (e :: es) [] pos) (qg C sp dvs E t):=by
 intro pins s σ H Q I h
 refine wpAny_Call_Name_kw (j1 I hg hm ?_ hdb)
 refine PySem.W.callWith_K (h₀:=X.base) I.ok.mod.kin M.kp (thn (ha pos pins s σ H _ I h) fun us s1 ⟨vs,H1,I1,r,q⟩ => ⟨I1.kIn,?_⟩) he hpl
 exact qb M F hr hb hd hx I1 r q
end
section
variable {X : Cx} {CX : CXT} {k : Nat} {f C : Addr} {fd : FuncData} {ps ks : List Str} {sp : Sp} {E : XK} {x m : Str} {p pos apos kpos : Pos} {e o : Expr} {es : List Expr} {kws : List Keyword} {te ta : TE} {t tk : TA} {nm : Option Str}
structure KBinds (K : PySem.W.Frag) (fd : FuncData) (ps ks : List Str) (g : List Value -> List Value -> List Value) (gV : List V -> List V -> List V) : Prop where
 to : ∀ (s : Shared) (us ws : List Value),K.In s.heap -> (g us ws).length = ps.length -> BindsTo s fd ⟨us,ks.zip ws⟩ (ps.zip (g us ws))
 rel : ∀ {vs : List V} {us : List Value} {zs : List V} {ws : List Value},Vals vs us -> Vals zs ws -> Vals (gV vs zs) (g us ws)
variable {g : List Value -> List Value -> List Value} {gV : List V -> List V -> List V}
end
structure FnScope (N P : List Str) (sc : Scope) : Prop where
 kind : sc.kind = .function
 co : sc.isCoroutine = false
 gen : sc.isGenerator = false
 nd : N.Nodup
 pre : N.take P.length = P
 par : ∀ x ∈ P,sc.names.lookup x = some .local \/ sc.names.lookup x = some .cell
 nofree : ∀ y ∈ sc.names,y.2 ≠ .free
theorem lM {kindOf : Str -> Option NameKind} {x : Str} : ∀ {binds : List (Str × Value)} {m : Str -> Option Value},(∀ v,(x,v) ∉ binds) -> bindL kindOf binds m x = m x
 | [],_,_ => rfl
 | (n,v) :: r,m,h => by
  unfold bindL
  rw [lM fun w hw => h w (List.mem_cons_of_mem _ hw)]
  split
  ·have : x ≠ n:=by rintro rfl; exact h v List.mem_cons_self
   simp [this]
  ·rfl
theorem lK {kindOf : Str -> Option NameKind} {x : Str} : ∀ {binds : List (Str × Value)} {m : Str -> Option Value},(∀ v,(x,v) ∉ binds) -> bindC kindOf binds m x = m x
 | [],_,_ => rfl
 | (n,v) :: r,m,h => by
  unfold bindC
  rw [lK fun w hw => h w (List.mem_cons_of_mem _ hw)]
  split
  ·rfl
  ·have : x ≠ n:=by rintro rfl; exact h v List.mem_cons_self
   simp [this]
theorem lL {kindOf : Str -> Option NameKind} {x : Str} {v : Value} : ∀ {P : List Str} {vs : List Value} {i : Nat} {m : Str -> Option Value},P.Nodup -> P[i]? = some x -> vs[i]? = some v -> kindOf x = some .local ->
  bindL kindOf (P.zip vs) m x = some v
 | [],_,_,_,_,h,_,_ => by simp at h
 | _ :: _,[],_,_,_,_,h,_ => by simp at h
 | p :: P,w :: vs,0,m,nd,h1,h2,hk => by
  simp at h1 h2; subst h1; subst h2
  show bindL kindOf ((p,w) :: P.zip vs) m p = _
  unfold bindL
  rw [lM fun v hv => (List.nodup_cons.mp nd).1 (List.of_mem_zip hv).1,if_pos hk]
  simp
 | p :: P,w :: vs,i + 1,m,nd,h1,h2,hk => by
  show bindL kindOf ((p,w) :: P.zip vs) m x = _
  unfold bindL
  exact lL (i:=i) (List.nodup_cons.mp nd).2 (by simpa using h1) (by simpa using h2) hk
theorem lJ {kindOf : Str -> Option NameKind} {x : Str} {v : Value} : ∀ {P : List Str} {vs : List Value} {i : Nat} {m : Str -> Option Value},P.Nodup -> P[i]? = some x -> vs[i]? = some v -> kindOf x ≠ some .local ->
  bindC kindOf (P.zip vs) m x = some v
 | [],_,_,_,_,h,_,_ => by simp at h
 | _ :: _,[],_,_,_,_,h,_ => by simp at h
 | p :: P,w :: vs,0,m,nd,h1,h2,hk => by
  simp at h1 h2; subst h1; subst h2
  show bindC kindOf ((p,w) :: P.zip vs) m p = _
  unfold bindC
  rw [lK fun v hv => (List.nodup_cons.mp nd).1 (List.of_mem_zip hv).1,if_neg hk]
  simp
 | p :: P,w :: vs,i + 1,m,nd,h1,h2,hk => by
  show bindC kindOf ((p,w) :: P.zip vs) m x = _
  unfold bindC
  exact lJ (i:=i) (List.nodup_cons.mp nd).2 (by simpa using h1) (by simpa using h2) hk
def start (N : List Str) (vs : List V) : St:=vs.map some ++ List.replicate (N.length - vs.length) none
def nF (CX : CXT) (P : Program) (w : World) (K : PySem.W.Frag) (mg : Str -> Option Value) (base : Heap) (N : List Str) (qual : Str) (scope : Scope) (f : Addr) (cd : Value) (A : Around) (outer : List Env) (s : Shared) (H : Hp) (E : XK) : Cx where
 prog:=P
 w:=w
 K:=K
 mg:=mg
 base:=base
 A:=A.deeper (envOfC qual scope s.heap.objs.size f cd)
 N:=N
 s₀:=s
 H₀:=H
 env:=envOfC qual scope s.heap.objs.size f cd
 outer:=outer
 stack:=envOfC qual scope s.heap.objs.size f cd :: outer
 ex:=[]
 calm:=true
 fn:=fun _ => true
 pn:=[]
 xe:=fun e s' => wpAny (model P w) (A.deeper (envOfC qual scope s.heap.objs.size f cd)) (leaving (envOfC qual scope s.heap.objs.size f cd) e) (fun _ s'' => CX outer H s E e s'') (fun e' s'' => CX outer H s E e' s'') s'
theorem nz {sc : Scope} {n : Nat} {x : Str} (h : sc.names.lookup x = some .cell) : ∃ c,(cellsFrom n sc.names []).lookup x = some c:=by
 have q:=PySem.W.cellsFrom_some sc.names n [] (.inl h)
 exact Option.isSome_iff_exists.mp q
theorem lP {CX : CXT} {P : Program} {w : World} {K : PySem.W.Frag} {mg : Str -> Option Value} {base : Heap} {N ps : List Str} {qual : Str} {scope : Scope} {f : Addr} {cd : Value} {A : Around} {outer : List Env} {s s1 : Shared} {H : Hp} {E : XK} {us : List Value} {vs : List V}
  (S : FnScope N ps scope) (hd : A.handled = none) (e0 : Env0 P w K mg base A outer s H) (hl : vs.length = ps.length) (r : Vals vs us)
  (x : InCallC s s.heap.objs.size (bindL (envOfC qual scope s.heap.objs.size f cd).kindOf (ps.zip us) fun _ => none) (cellsFrom (s.heap.objs.size + 1) scope.names []) (bindC (envOfC qual scope s.heap.objs.size f cd).kindOf (ps.zip us) fun _ => none) s1) :
  Inv (nF CX P w K mg base N qual scope f cd A outer s H E) [] (start N vs) H s1:=by
 have hpl : ps.length <= N.length:=by have:=congrArg List.length S.pre; rw [List.length_take] at this; omega
 obtain ⟨h1,tk,rfl,hk⟩:=x.done
 have noA : ∀ b : Addr,b ∉ (nF CX P w K mg base N qual scope f cd A outer s H E).ex:=fun b z => absurd (show b ∈ ([] : List Addr) from z) (by simp)
 refine ⟨⟨e0.mod,S.kind,rfl,rfl,Nat.le_refl _,fun y z c h1 h2 => ?_,fun y hy => ?_,fun y c _ h => ?_,fun _ => hd,Around.frames_deeper e0.frames,.inr ⟨rfl,rfl⟩,fun b z => absurd z (noA b),e0.bs,e0.bsz,fun b _ _ => noA b,fun b z => absurd z (noA b),e0.funs,e0.frf⟩,
  rfl,e0.bare,Un.kept hk,⟨_,x.toInCall.ns,fun i y v h1 h2 h3 => ?_⟩,fun y c h => ⟨_,x.cell y c h⟩,e0.hok.fresh (Nat.le_refl _),fun y c h => ?_,fun p hp => absurd (show p ∈ ([] : List (Addr × Obj)) from hp) (by simp),e0.hok.kept hk,?_⟩
 ·exact name_of_addr x.apart (PySem.mem_of_lookup h1) (PySem.mem_of_lookup h2)
 ·have hy : scope.names.lookup y = some .cell \/ scope.names.lookup y = some .free:=hy
  rcases hy with hy | hy
  ·exact nz hy
  ·exact absurd rfl (S.nofree _ (PySem.mem_of_lookup hy))
 ·exact Nat.le_of_lt (x.above y c (PySem.mem_of_lookup h))
 ·have hi : i < vs.length:=by
   unfold start at h2
   by_cases hi : i < vs.length
   ·exact hi
   ·rw [List.getElem?_append_right (by simpa using hi)] at h2
    rw [List.getElem?_replicate] at h2
    split at h2 <;> cases h2
  have ha : vs[i]? = some v:=by
   unfold start at h2
   rw [List.getElem?_append_left (by simpa using hi),List.getElem?_map] at h2
   cases e : vs[i]? with
   | none => rw [e] at h2; cases h2
   | some a => rw [e] at h2; cases h2; rfl
  obtain ⟨u,hu,rv⟩:=r.get ha
  have hp : ps[i]? = some y:=by
   rw [<- S.pre,List.getElem?_take_of_lt (by omega)]; exact h1
  have ndP : ps.Nodup:=by rw [<- S.pre]; exact S.nd.sublist (List.take_sublist _ _)
  refine ⟨u,rv,?_⟩
  rcases S.par y (List.mem_of_getElem? hp) with k | k
  ·exact .inl ⟨k,lL ndP hp hu k⟩
  ·obtain ⟨c,e⟩:=nz (n:=s.heap.objs.size + 1) k
   refine .inr ⟨.inl k,c,e,?_⟩
   have q:=x.cell y c e
   rw [lJ ndP hp hu (by show scope.names.lookup y ≠ _; rw [k]; decide)] at q
   exact q
 ·exact e0.hok.fresh (Nat.le_of_lt (x.above y c (PySem.mem_of_lookup h)))
 ·unfold start
  show _ = N.length
  rw [List.length_append,List.length_map,List.length_replicate]
  omega
theorem rT {CX : CXT} {P : Program} {w : World} {K : PySem.W.Frag} {mg : Str -> Option Value} {base : Heap} {k : Nat} {f : Addr} {name qual : Str} {params : Arguments} {body : List Stmt} {scope : Scope} {dV kV doc pm cdv ct oc : Value} {an od : Option Addr}
  {osl : Array (Option Value)} {N ps : List Str} {sp : Sp} (lk : K.lookup f = some ⟨oc,od,.func (PySem.W.fnOf name qual params body scope dV kV doc pm an cdv ct),osl⟩) (hcd : PySem.W.codeIn K cdv qual = true) (S : FnScope N ps scope)
  (len : ∀ vs H Q E,sp vs H Q E -> vs.length = ps.length)
  (hbody : ∀ (A : Around) (outer : List Env) (s : Shared) (H : Hp) (vs : List V) (Q : VK) (E : XK),Room k (A.deeper (envOfC qual scope s.heap.objs.size f cdv)) -> sp vs H Q E ->
   ∃ t,PSs (nF CX P w K mg base N qual scope f cdv A outer s H E) body t /\ t { nx:=fun _ H' => Q .non H',rt:=Q } (start N vs) H) :
  FnOk P w K mg base CX (k + 1) f (PySem.W.fnOf name qual params body scope dV kV doc pm an cdv ct) ps sp:=by
 refine ⟨len,fun A outer s H args us vs Q E hr e0 hb r hsp => ?_⟩
 have hl:=len _ _ _ _ hsp
 have KX : K.In s.heap:=e0.mod.kin.keeps fun b o e => (e0.bs b o e).1
 have lim : s.heap.NoLimit:=e0.mod.nolimit.keeps fun b o e => (e0.bs b o e).1
 have hkind : ∀ y ∈ ps.zip us,scope.names.lookup y.1 = some .local \/ (scope.names.lookup y.1 = some .cell /\ ((cellsFrom (s.heap.objs.size + 1) scope.names []).lookup y.1).isSome = true):=fun ⟨n,v⟩ hy => by
  rcases S.par n (List.of_mem_zip hy).1 with q | q
  ·exact .inl q
  ·exact .inr ⟨q,PySem.W.cellsFrom_some _ _ _ (.inl q)⟩
 refine codeAny_call_function hr.depth (KX _ _ lk) rfl S.co S.gen rfl (PySem.W.codeRec_of KX hcd) (hb _ _ _ _ ?_)
 refine wpAny_newFunctionEnv_cells S.kind hkind fun env he s1 x => ?_
 subst he
 refine ⟨lim.keeps x.toInCall.keep,codeAny_func ?_⟩
 obtain ⟨t,ht,hq⟩:=hbody A outer s H vs Q E (hr.deeper _) hsp
 have I : Inv (nF CX P w K mg base N qual scope f cdv A outer s H E) [] (start N vs) H s1:=lP S hr.hd e0 hl r x
 refine wpAny_mono (ht [] s1 (start N vs) H _ I hq) (fun fl s' hs => ?_) fun e s' hs => hs
 have fin : ∀ {σ' : St} {H' : Hp} {v : V} {u : Value},Inv (nF CX P w K mg base N qual scope f cdv A outer s H E) [] σ' H' s' -> RelV v u -> Q v H' -> CE outer P w H s Q u s' :=
  fun {σ' H' v u} J rv q => ⟨v,H',J.os,J.bare,J.base,J.hok,rv,q⟩
 cases fl with
 | ret u =>
  obtain ⟨v,σ',H',J,rv,q⟩:=hs
  exact fin J rv q
 | next =>
  obtain ⟨σ',H',J,q⟩:=hs
  exact fin (v:=V.non) (u:=Value.none) J rfl q
 | brk =>
  obtain ⟨_,_,_,q⟩:=hs
  exact False.elim q
 | cont =>
  obtain ⟨_,_,_,q⟩:=hs
  exact False.elim q
end L2
namespace L2
open PySem PySem.Spec PyProof.Rows
section
variable {X : Cx} {x : Str} {p pos : Pos} {e : Expr} {es : List Expr} {t : TA} {id T : String} {r : List V -> Hp -> VK -> Prop}
def tCB (r : List V -> Hp -> VK -> Prop) (t : TA) : TE:=fun σ H Q => t σ H fun vs H1 => r vs H1 Q
theorem aE (hc : lH X (.builtin id) r) (hg : Gl X x) (hm : X.mg x = none) (hv : bootBuiltins x = some (.builtin id)) (ha : PA X (e :: es) t) (hn : x ≠ "__name__" := by decide) (hdb : (x == ("__debug__" : Str)) = false:=by decide)
  (he : starEach (e :: es) X.env = (false,eval e X.env) :: starEach es X.env:=by rfl) (hpl : (backTo pos (starEach es X.env)).any (·.1) = false:=by rfl) : PE X (.Call (.Name x p) (e :: es) [] pos) (tCB r t):=by
 intro pins s σ H Q I h
 refine wpAny_Call_Name_kw (kg I hg hm hv ?_ hn hdb)
 exact PyProof.Rows.callWith_builtin1 (thn (ha pos pins s σ H _ I h) fun us s1 ⟨vs,H1,I1,r1,q1⟩ => hc pins s1 σ H1 vs us Q I1 r1 q1) he hpl
theorem iY (hc : lH X (.type T) r) (hg : Gl X x) (hm : X.mg x = none) (hv : bootBuiltins x = some (.type T)) (ha : PA X (e :: es) t) (hn : x ≠ "__name__" := by decide) (hdb : (x == ("__debug__" : Str)) = false:=by decide)
  (he : starEach (e :: es) X.env = (false,eval e X.env) :: starEach es X.env:=by rfl) (hpl : (backTo pos (starEach es X.env)).any (·.1) = false:=by rfl) : PE X (.Call (.Name x p) (e :: es) [] pos) (tCB r t):=by
 intro pins s σ H Q I h
 refine wpAny_Call_Name_kw (kg I hg hm hv ?_ hn hdb)
 exact PyProof.Rows.callWith_type1 (thn (ha pos pins s σ H _ I h) fun us s1 ⟨vs,H1,I1,r1,q1⟩ => hc pins s1 σ H1 vs us Q I1 r1 q1) he hpl
end
end L2
namespace HT
open PySem PyProof.Rows
section
open PySem.SeqAt
open PySem.AutoSeq1 (wpAny_loadPart')
open PySem.MeetsSeq PySem.MeetsSeq2 PySem.MeetsSeq3
end
section
variable {prog : Program} {w : World} {A : Around} {E : Value -> Shared -> Prop} {s : Shared}
end
end HT
namespace L2
open PySem PySem.Spec PyProof.Rows
abbrev TO:=St -> Hp -> (Option Int -> Hp -> Prop) -> Prop
section
variable {X : Cx} {e : Expr} {te : TE} {lo hi : Option Expr} {tl th : TO} {pos p2 : Pos}
end
end L2
namespace L2
open PySem PySem.Spec PyProof.Rows
def ixN (n : Nat) (i : Int) : Option Nat:=if 0 <= i then (if i < n then some i.toNat else none) else if -(n : Int) <= i then some (i + n).toNat else none
def atI {α : Type} (xs : List α) (i : Int) : Option α:=(ixN xs.length i).bind fun j => xs[j]?
theorem qy {n : Nat} {i : Int} {j : Nat} (h : ixN n i = some j) : seqIndex? i n = some j /\ j < n /\ -(n : Int) <= i /\ i < n:=by
 unfold ixN at h
 by_cases h0 : 0 <= i
 ·rw [if_pos h0] at h
  by_cases h1 : i < n
  ·rw [if_pos h1] at h
   have e : i.toNat = j:=Option.some.inj h
   exact ⟨by rw [seqIndex_of h0 h1,e],by omega,by omega,h1⟩
  ·rw [if_neg h1] at h; cases h
 ·rw [if_neg h0] at h
  by_cases h1 : -(n : Int) <= i
  ·rw [if_pos h1] at h
   have e : (i + n).toNat = j:=Option.some.inj h
   exact ⟨by rw [seqIndex_neg (by omega) h1,e],by omega,h1,by omega⟩
  ·rw [if_neg h1] at h; cases h
theorem ow {α : Type} {xs : List α} {i : Int} {v : α} (h : atI xs i = some v) : ∃ j,seqIndex? i xs.length = some j /\ xs[j]? = some v /\ j < xs.length /\ -(xs.length : Int) <= i /\ i < xs.length:=by
 unfold atI at h
 cases e : ixN xs.length i with
 | none => rw [e] at h; cases h
 | some j =>
  rw [e] at h
  obtain ⟨h1,h2,h3,h4⟩:=qy e
  exact ⟨j,h1,h,h2,h3,h4⟩
theorem jY {α : Type} {xs : List α} {j : Nat} {v : α} (h : xs[j]? = some v) : atI xs (j : Int) = some v:=by
 have hj : j < xs.length:=(List.getElem?_eq_some_iff.mp h).1
 have e : ixN xs.length (j : Int) = some j:=by
  unfold ixN
  rw [if_pos (by omega),if_pos (by omega)]; simp
 unfold atI; rw [e]; exact h
def qp (b : Expr) : Prop := ∀ o i,subscripted b false o i = operate [o,i] (getItem o i)
def IxR (X : Cx) (r : R2) : Prop:=
 ∀ (value slice : Expr) (pins : List (Addr × Obj)) (s : Shared) (σ : St) (H : Hp) (x y : V) (v u : Value) (Q : VK),Inv X pins σ H s -> RelV x v -> RelV y u -> r x y H Q ->
  subscripted slice false v u = operate [v,u] (getItem v u) -> wpAny (model X.prog X.w) X.A (subscriptTail value slice v u) (EP X pins σ Q) X.xe s
def MtR (X : Cx) (id : String) (r : V -> List V -> Hp -> VK -> Prop) : Prop:=
 ∀ (pins : List (Addr × Obj)) (s : Shared) (σ : St) (H : Hp) (x : V) (xs : List V) (v : Value) (us : List Value) (Q : VK),Inv X pins σ H s -> RelV x v -> Vals xs us -> r x xs H Q ->
  wpAny (model X.prog X.w) X.A (call (.builtin id) (v :: us)) (EP X pins σ Q) X.xe s
section
variable {X : Cx} {a b : Expr} {ta tb : TE} {pos : Pos}
theorem ar {r : R2} (hr : IxR X r) (ha : PE X a ta) (hb : PE X b tb) (hs : qp b) : PE X (.Subscript a b pos) (tOp r ta tb):=by
 intro pins s σ H Q I h
 exact Subscript_ (qX ha hb I h fun v u s2 x y H2 I2 rx ry q => hr a b pins s2 σ H2 x y v u Q I2 rx ry q (hs _ _))
def sG (K : PySem.W.Frag) : R2:=fun x y H Q => ∃ p xs i v,x = .ref p /\ y = .int i /\ SqL K H p xs /\ atI xs i = some v /\ Q v H
def sH (K : PySem.W.Frag) : R2:=fun x y H Q => ∃ p xs i v,x = .ref p /\ y = .int i /\ SqT K H p xs /\ atI xs i = some v /\ Q v H
theorem j0 : IxR X (sG X.K):=by
 intro value slice pins s σ H x y v u Q I rx ry h hs
 obtain ⟨p,xs,i,z,rfl,rfl,hq,he,q⟩:=h
 cases rx
 obtain ⟨t,rfl⟩:=ry
 obtain ⟨its,r,pl,hz⟩:=I.list hq
 obtain ⟨j,h1,h2,h3,h4,h5⟩:=ow he
 obtain ⟨w,ew,rw'⟩:=r.get h2
 have hl:=r.length
 have hn:=n5
 have fin : EP X pins σ Q w s:=⟨z,H,I,rw',q⟩
 by_cases h0 : 0 <= i
 ·have hj : i.toNat = j:=by
   rw [seqIndex_of h0 h5] at h1
   exact Option.some.inj h1
  exact item_listR pl.isList h0 (by omega) (by rw [hj]; simpa using ew) fin hs
 ·have hj : (i + (its.toArray.size : Int)).toNat = j:=by
   rw [seqIndex_neg (by omega) h4] at h1
   rw [List.size_toArray,<- hl]
   exact Option.some.inj h1
  exact subscriptTail_builtinR (x:=w) pl.isList.typeIs slot_list_getitem.lookup
   (wpAny_getItem_list_neg (Q:=fun r s' => r = w /\ EP X pins σ Q r s') pl.isList (by omega) (by rw [List.size_toArray] <;> omega) (by omega) (by rw [hj]; simpa using ew) ⟨rfl,fin⟩) hs
theorem ak : IxR X (sH X.K):=by
 intro value slice pins s σ H x y v u Q I rx ry h hs
 obtain ⟨p,xs,i,z,rfl,rfl,hq,he,q⟩:=h
 cases rx
 obtain ⟨t,rfl⟩:=ry
 obtain ⟨its,r,pl,hz⟩:=I.tuple hq
 obtain ⟨j,h1,h2,h3,h4,h5⟩:=ow he
 obtain ⟨w,ew,rw'⟩:=r.get h2
 have hl:=r.length
 have hn:=n5
 have fin : EP X pins σ Q w s:=⟨z,H,I,rw',q⟩
 exact subscriptTail_builtinR (x:=w) pl.typeIs slot_tuple_getitem.lookup
  (getItem_tuple (j:=j) (Q:=fun r s' => r = w /\ EP X pins σ Q r s') pl (by omega) (by omega) (by rw [List.size_toArray,<- hl]; exact h1) (by simpa using ew) ⟨rfl,fin⟩) hs
theorem ax : lH X (.builtin "len") (fun xs H Q => ∃ p ys,xs = [.ref p] /\ (SqL X.K H p ys \/ SqT X.K H p ys) /\ Q (.int ys.length) H):=by
 intro pins s σ H xs us Q I r h
 obtain ⟨p,ys,rfl,hq,q⟩:=h
 obtain ⟨u,rfl,rx⟩:=vals1 r
 cases rx
 have hn:=n5
 rcases hq with hq | hq
 ·obtain ⟨its,r',pl,hz⟩:=I.list hq
  have hlen:=r'.length
  exact Calls.call_len_list pl.isList (by simp only [List.size_toArray] <;> omega) ⟨.int ys.length,H,I.tok _,⟨s.toks + 1,by rw [List.size_toArray,hlen]⟩,q⟩
 ·obtain ⟨its,r',pl,hz⟩:=I.tuple hq
  have hlen:=r'.length
  exact len_tuple pl (by simp only [List.size_toArray] <;> omega) ⟨.int ys.length,H,I.tok _,⟨s.toks + 1,by rw [List.size_toArray,hlen]⟩,q⟩
theorem eH : lH X (.type "tuple") (fun xs H Q => ∃ p ys,xs = [.ref p] /\ ((SqL X.K H p ys /\ ∀ l,H l = none -> Q (.ref l) (upd H l (.tup ys))) \/ (SqT X.K H p ys /\ Q (.ref p) H))):=by
 intro pins s σ H xs us Q I r h
 obtain ⟨p,ys,rfl,h⟩:=h
 obtain ⟨u,rfl,rx⟩:=vals1 r
 cases rx
 rcases h with ⟨hq,q⟩ | ⟨hq,q⟩
 ·obtain ⟨its,r',pl,hz⟩:=I.list hq
  have hlen:=r'.length
  refine call_tuple_list pl.isList (fun h' kp => ?_) (by simp only [List.size_toArray] <;> omega)
  have I1 : Inv X pins σ H { s with heap:=h' }:=I.kept (t' := s.toks) kp
  have I2 : Inv X pins σ (upd H h'.objs.size (.tup ys)) { s with heap:=h'.push { cls:=.type "tuple",data:=.seq its.toArray } }:=
   I1.laid (t' := s.toks) (fun b o e => Heap.get?_push_of_some _ e) (Nat.le_refl _) (show ObjOk X.prog X.w _ _ _ (.tup ys) from ⟨hz,its,r',IsTup.new _ _⟩)
  exact ⟨.ref h'.objs.size,_,I2,rfl,q _ (I1.hok.fresh (Nat.le_refl _))⟩
 ·obtain ⟨its,r',pl,hz⟩:=I.tuple hq
  exact call_tuple_same pl ⟨.ref p,H,I,rfl,q⟩
def tyV (K : PySem.W.Frag) (T : String) (x : V) (H : Hp) : Prop:=match x with
 | .str _ => T = "str"
 | .int _ => T = "int"
 | .ref p => (T = "list" /\ ∃ xs,SqL K H p xs) \/ (T = "tuple" /\ ∃ o,K.lookup p = some o /\ o.cls = .type "tuple" /\ o.dict = none) \/
   (T = "dict" /\ ((∃ kvs,H p = some (.dK kvs)) \/ ∃ kvs,H p = some (.dT kvs))) \/ (T = "set" /\ ∃ S n,H p = some (.set S n))
 | _ => False
theorem rN {pins : List (Addr × Obj)} {σ : St} {H : Hp} {s : Shared} {T : String} {x : V} {v : Value} (I : Inv X pins σ H s) (r : RelV x v) (ty : tyV X.K T x H) :
  s.TypeIs v T /\ ∀ a,v = .ref a -> ∃ ob,s.heap.get? a = some ob /\ ob.dict = none:=by
 cases x with
 | str z =>
  obtain ⟨t,rfl⟩:=r
  cases (show T = "str" from ty)
  exact ⟨typeIs_str s z t,fun _ e => nomatch e⟩
 | int i =>
  obtain ⟨t,rfl⟩:=r
  cases (show T = "int" from ty)
  exact ⟨typeIs_int s i t,fun _ e => nomatch e⟩
 | ref p =>
  cases r
  rcases ty with ⟨rfl,xs,hq⟩ | ⟨rfl,o,hk,hc,hd⟩ | ⟨rfl,hk⟩ | ⟨rfl,S,n,hk⟩
  ·obtain ⟨its,_,pl,_⟩:=I.list hq
   refine ⟨pl.isList.typeIs,fun a e => ?_⟩
   cases e
   obtain ⟨o,n,e,c,hd,_⟩:=pl
   exact ⟨o,e,hd⟩
  ·refine ⟨⟨o,I.kIn p o hk,hc⟩,fun a e => ?_⟩
   cases e
   exact ⟨o,I.kIn _ o hk,hd⟩
  ·have z : ∃ o,s.heap.get? p = some o /\ o.ExactDict:=by
    rcases hk with ⟨kvs,hk⟩ | ⟨kvs,hk⟩
    ·obtain ⟨_,_,_,_,o,_,_,e,ex,_⟩:=I.hok p _ hk
     exact ⟨o,e,ex⟩
    ·obtain ⟨_,_,_,_,o,_,_,e,ex,_⟩:=I.hok p _ hk
     exact ⟨o,e,ex⟩
   obtain ⟨o,e,ex⟩:=z
   refine ⟨⟨o,e,ex.1⟩,fun a e2 => ?_⟩
   cases e2
   exact ⟨o,e,ex.2.1⟩
  ·obtain ⟨o,_,_,_,e,ex,_⟩:=I.hok p _ hk
   refine ⟨⟨o,e,ex.1⟩,fun a e2 => ?_⟩
   cases e2
   exact ⟨o,e,ex.2.1⟩
 | _ => exact False.elim ty
def tBM (K : PySem.W.Frag) (T : String) (r : V -> List V -> Hp -> VK -> Prop) (to : TE) (t : TA) : TE:=fun σ H Q => to σ H fun x H1 => tyV K T x H1 /\ t σ H1 fun xs H2 => r x xs H2 Q
variable {o e : Expr} {es : List Expr} {to : TE} {t : TA} {name : Str} {apos cpos : Pos} {T id : String} {r : V -> List V -> Hp -> VK -> Prop}
theorem p6 (pa : PlainAttrs T) (slot : Slot T name id) (hty : typeOf (.builtin id) = pure (.type "method_descriptor")) (hm : MtR X id r) (ho : PE X o to) (ha : PA X (e :: es) t)
  (hbase : attributeBase o name X.env (eval o X.env) = eval o X.env:=by rfl)
  (hfew : ((backTo cpos (starEach (e :: es) X.env)).all (fun x => !x.1) && (backToKw cpos (keywordEach [] X.env)).all (fun x => x.1.isSome)
   && decide ((e :: es).length + ([] : List Keyword).length + (if ([] : List Keyword).isEmpty then 0 else 1) < 30)) = true:=by rfl)
  (hline : (apos.endLine == cpos.line) = true:=by rfl) (hs : starEach (e :: es) X.env = (false,eval e X.env) :: starEach es X.env:=by rfl) (hplain : (backTo cpos (starEach es X.env)).any (·.1) = false:=by rfl) :
  PE X (.Call (.Attribute o name apos) (e :: es) [] cpos) (tBM X.K T r to t):=by
 intro pins s σ H Q I h
 refine wpAny_Call_method_late hbase hfew hline rfl (thn (ho pins s σ H _ I h) fun v s1 ⟨x,H1,I1,r1,ty,q1⟩ => ?_)
 obtain ⟨h1,h2⟩:=rN I1 r1 ty
 refine ⟨T,id,pa,slot,hty,h1,h2,?_⟩
 have hA:=ha cpos pins s1 σ H1 _ I1 q1
 rw [hs] at hA ⊢
 refine Calls.callWith_builtin (by show (false || (backTo cpos (starEach es X.env)).any (·.1)) = false; rw [hplain] <;> rfl) (Calls.evalArgs_plain ?_)
 exact thn hA fun us s2 ⟨vs,H2,I2,r2,q2⟩ => hm pins s2 σ H2 x vs v us Q I2 r1 r2 q2
/- xs.append(e),list.index on a module's tuple .. are MtR facts of 06m -/
end
end L2
namespace L2
open PySem PySem.Spec PyProof.Rows
def MtM (X : Cx) (id : String) (r : V -> List V -> Hp -> VK -> Prop) : Prop:=
 ∀ (pins : List (Addr × Obj)) (s : Shared) (σ : St) (H : Hp) (x : V) (xs : List V) (v : Value) (us : List Value) (Q : VK),Inv X pins σ H s -> RelV x v -> Vals xs us -> r x xs H Q ->
  wpAny (model X.prog X.w) X.A (call (.builtin id) (v :: us)) (EP X pins σ Q) X.xe s
theorem Vals.one : ∀ {x : V} {us : List Value},Vals [x] us -> ∃ u,us = [u] /\ RelV x u
 | _,_,.cons r .nil => ⟨_,rfl,r⟩
theorem Vals.two : ∀ {x y : V} {us : List Value},Vals [x,y] us -> ∃ u v,us = [u,v] /\ RelV x u /\ RelV y v
 | _,_,_,.cons r (.cons q .nil) => ⟨_,_,rfl,r,q⟩
section
variable {X : Cx} {pins : List (Addr × Obj)} {σ : St} {H : Hp} {s : Shared} {l b : Addr} {xs ys zs : List V}
theorem Inv.lset {its its' : List Value} {n : Nat} {f : Array Value -> Array Value} {t' : Nat} (I : Inv X pins σ H s) (hH : H l = some (.lst xs))
  (e : s.heap.get? l = some { cls:=.type "list",data:=.seq its.toArray n }) (hf : f its.toArray = its'.toArray) (hv : Vals ys its') (hz : ys.length <= sizeLine) :
  Inv X pins σ (upd H l (.lst ys)) { s with heap:=s.heap.update l (Obj.mapSeq f),toks:=t' }:=by
 have q:=PySem.IsL.update e f
 rw [hf] at q
 refine I.write (x:=l) (e:=l) (by rw [hH]; exact trivial) (.inl rfl) (fun b' u hb hu => (Heap.get?_update_other s.heap (Obj.mapSeq f) (Ne.symm hb)).trans hu) ⟨_,q⟩ ?_
 exact ⟨hz,its',_,hv,q⟩
theorem Inv.lnew {its : List Value} {t' : Nat} (I : Inv X pins σ H s) (hv : Vals ys its) (hz : ys.length <= sizeLine) :
  Inv X pins σ (upd H s.heap.objs.size (.lst ys)) { s with heap:=s.heap.push { cls:=.type "list",data:=.seq its.toArray },toks:=t' }:=
 I.laid (fun _ _ q => Heap.get?_push_of_some _ q) (Nat.le_refl _) ⟨hz,its,0,hv,Heap.get?_push_size _ rfl⟩
theorem Inv.fresh (I : Inv X pins σ H s) : H s.heap.objs.size = none:=I.hok.fresh (Nat.le_refl _)
theorem Inv.lstM (I : Inv X pins σ H s) (hH : H l = some (.lst xs)) : xs.length <= sizeLine /\ ∃ (its : List Value) (n : Nat),Vals xs its /\ xs.length = its.length /\ s.heap.get? l = some { cls:=.type "list",data:=.seq its.toArray n }:=by
 obtain ⟨z,its,n,r,e⟩:=I.hok l _ hH
 exact ⟨z,its,n,r,r.length,e⟩
end
section
variable {X : Cx}
def qO : V -> List V -> Hp -> VK -> Prop:=fun x vs H Q => ∃ l xs y,x = .ref l /\ vs = [y] /\ H l = some (.lst xs) /\ xs.length < sizeLine /\ Q .non (upd H l (.lst (xs ++ [y])))
theorem gz : MtM X "list.append" qO:=by
 intro pins s σ H x vs v us Q I rx rv h
 obtain ⟨l,xs,y,rfl,rfl,hH,hz,q⟩:=h
 cases rx
 obtain ⟨u,rfl,ru⟩:=rv.one
 obtain ⟨z,its,n,r,hl,e⟩:=I.lstM hH
 refine call_meets F.slot_list_append ⟨_,e,rfl⟩ F.entry_list_append (F.args_list_append_2 _ _) (PySem.list_append l its.toArray n u (by rw [List.size_toArray]; omega)) ⟨e,?_⟩
 refine ⟨.non,_,I.lset (its' := its ++ [u]) hH e (by simp) (r.append (.cons ru .nil)) ?_,rfl,q⟩
 rw [List.length_append,List.length_singleton]
 omega
def sD : R2:=fun x y H Q => ∃ l b xs zs,x = .ref l /\ y = .ref b /\ H l = some (.lst xs) /\ H b = some (.lst zs) /\ xs.length + zs.length <= sizeLine /\ ∀ p,H p = none -> Q (.ref p) (upd H p (.lst (xs ++ zs)))
theorem rE : OpR X (binaryOp .Add) sD:=by
 intro pins s σ H x y v u Q I rx ry h
 obtain ⟨l,b,xs,zs,rfl,rfl,hH,hB,hz,q⟩:=h
 cases rx
 cases ry
 obtain ⟨z,its,n,r,hl,e⟩:=I.lstM hH
 obtain ⟨z2,its2,n2,r2,hl2,e2⟩:=I.lstM hB
 refine PySem.P.add_list e e2 ?_ (by rw [List.size_toArray,List.size_toArray]; omega)
 have ea : its.toArray ++ its2.toArray = (its ++ its2).toArray:=by simp
 rw [ea]
 exact ⟨.ref _,_,I.lnew (t' := s.toks) (r.append r2) (by rw [List.length_append]; omega),rfl,q _ I.fresh⟩
end
section
variable {prog : Program} {w : World} {A : Around} {E : Value -> Shared -> Prop} {s : Shared}
end
section
variable {X : Cx}
end
end L2
namespace Att
open PySem PySem.W PySem.Calls PyProof.Rows
theorem ju {P : Params} {h : Heap} : ∀ (ns : List Int) (vs : List Value),WellAll P h vs (ns.map WData.int) -> IntsAre vs ns:=by
 intro ns
 induction ns with
 | nil =>
  intro vs w
  rw [List.map_nil] at w
  cases w
  exact .nil
 | cons n ns ih =>
  intro vs w
  rw [List.map_cons] at w
  cases w with
  | cons a b =>
   cases a
   exact .cons _ _ (ih _ b)
theorem o7 {l : OpenLaw} {n : Nat} (hn : l.most = some n) {P : Params} {h : Heap} {args : List WData} {vals : List Value}
  (hpre : l.row.toRowW.claim.pre args = true) (hwl : WellAll P h vals args) :
  ∃ a vs ns,vals = [Value.ref a] /\ args = [WData.list (ns.map WData.int)] /\ h.get? a = some { cls:=.type "list",data:=.seq vs.toArray } /\ IntsAre vs ns /\ ns.length <= n:=by
 have hsh : WShape.hasAll [] args [.list .int] = true:=(pre_splitW hpre).1
 have hc : l.pre.holds [] { args:=args } = true:=(pre_splitW hpre).2
 obtain ⟨d,r,rfl,h1,h2⟩:=hasAllW_cons hsh
 obtain rfl:=hasAllW_nil h2
 obtain ⟨xs,rfl,h3⟩:=hasW_list h1
 obtain ⟨ns,rfl⟩:=items_int h3
 have hlen : ns.length <= n:=by
  unfold OpenLaw.pre at hc
  have h4 : (WTm.not (.lt (.lit (.int (n : Int))) (.len (.arg 0)))).holds [] { args:=[.list (ns.map .int)] } = true:=by
   have h4:=(holds_andW hc).1
   rw [hn] at h4
   exact h4
  have h5:=condW_of h4 (w_not (w_lt w_lit (w_len_list (w_arg rfl))))
  rw [List.length_map] at h5
  refine Nat.le_of_not_lt fun q => ?_
  have q' : (n : Int) < ((ns.length : Nat) : Int):=by omega
  first
   | (rw [decide_eq_true q'] at h5; exact absurd h5 (by decide))
   | (simp at h5; omega)
 cases hwl with
 | cons w1 w2 =>
  cases w2
  cases w1 with
  | list ho hall => exact ⟨_,_,ns,rfl,rfl,ho,ju ns _ hall,hlen⟩
theorem o6 (l : OpenLaw) (args : List WData) : l.row.toRowW.claim.post args (.bool true) args = true:=
 postW_of (r:=l.row.toRowW) (X:=(true == true))
  (show WShape.has [] (.bool true) .bool = true by first | rfl | decide | simp [WShape.has,WShape.arms,WShape.armsAll])
  (show (WTm.eq .res (.lit (.bool true))).value [] { args:=args,res:=some (.bool true),after:=args } = some (.bool (true == true)) from w_eq_bool (w_res rfl) w_lit) rfl
theorem attach_call {l : OpenLaw} {n : Nat} {q : Program} {loose : List Str} {XP : (Str -> Option Value) -> Heap -> Prop} {YP : World -> Heap -> Prop} {d : DefRec}
  (hn : l.most = some n) (hdf : d.params.defaults = [])
  (call : ∀ (w : World) (s₀ s₁ : Shared) (mg mb : Str -> Option Value) (fa : Addr) (o : Obj) (pm cd doc : Value) (a : Addr) (vs : List Value) (ns : List Int),
   Ground q loose [] XP w s₀ mg mb s₁.heap -> YP w s₁.heap ->
   s₁.heap.get? fa = some o -> o.data = .func (docDef d.name d.params d.body d.scope pm cd doc) -> s₁.heap.CodeRec cd d.name -> mg d.name = some (.ref fa) ->
   s₁.heap.get? a = some { cls:=.type "list",data:=.seq vs.toArray } -> IntsAre vs ns -> ns.length <= n -> s₁.gens = #[] ->
   codeAny (model l.prog w) callerA (.call (.ref fa) ⟨[.ref a],[]⟩) (fun r s' => r = .ok (.ret (.bool true)) /\ OldK s₁.heap s'.heap /\ s'.os = s₁.os /\ AllBare s'.gens) s₁) :
  WalkO q loose XP YP l.row.toRowW d [] (fun f vs => PySem.call f vs):=by
 intro w s₀ s₁ mg mb G Y fa o pm cd doc dV kV ho hd hcd hD hmg hg args vals as hpre hlay hrd hwl hlo
 obtain rfl : dV = .none:=Dflts.none hD hdf
 obtain rfl : kV = .none:=Dflts.noKw hD
 obtain ⟨a,vs,ns,rfl,rfl,hobj,hints,hlen⟩:=o7 hn hpre hwl
 refine enter_call (codeAny_mono (call w s₀ s₁ mg mb fa o pm cd doc a vs ns G Y ho (fd_plain hd) hcd hmg hobj hints hlen hg) fun r s' hq => ?_)
 obtain ⟨rfl,h2,h3,h4⟩:=hq
 exact ⟨.inl ⟨.bool true,.bool true,[],rfl,fun _ => rfl,.bool true,o6 l _,fun _ => ⟨List.Pairwise.nil,fun _ hm => (nomatch hm)⟩⟩,h2,h3,h4⟩
section
variable {prog : Program} {w : World} {A : Around} {E : Value -> Shared -> Prop} {s : Shared} {K : Frag}
def ledger (h : Heap) (L d : Addr) : List (Addr × Obj):=(List.range h.objs.size).filterMap fun a => if a = L \/ a = d then none else (h.get? a).map fun o => (a,o)
end
end Att
namespace L2
open PySem PySem.Spec PyProof.Rows
theorem lU : ∀ {vs : List Value} {ns : List Int},IntsAre vs ns -> Vals (ns.map V.int) vs
 | _,_,.nil => .nil
 | _,_,.cons n t h => .cons ⟨t,rfl⟩ (lU h)
end L2
namespace L2
open PySem PySem.Spec PyProof.Rows
end L2
namespace L2
open PySem PySem.Spec PyProof.Rows
def inClass (s : Stmt) (j : Nat) : Stmt:=match s with
 | .ClassDef _ _ _ body _ _ _ _ _ _ _ => body.getD j (.Pass ⟨0,0,0,0⟩)
 | _ => .Pass ⟨0,0,0,0⟩
def aH (s : Stmt) : Arguments:=match s with
 | .FunctionDef _ a _ _ _ _ _ _ _ _ => a
 | _ => { posonlyargs:=[],args:=[],vararg:=none,kwonlyargs:=[],kw_defaults:=[],kwarg:=none,defaults:=[] }
def ay (s : Stmt) : List Stmt:=match s with
 | .FunctionDef _ _ b _ _ _ _ _ _ _ => b
 | _ => []
def ae (s : Stmt) : Scope:=match s with
 | .FunctionDef _ _ _ _ _ _ sc _ _ _ => sc
 | _ => { kind:=.function,names:=[],isGenerator:=false,isCoroutine:=false }
abbrev CX0 : CXT:=fun _ _ _ _ _ _ => False
abbrev E0 : XK:=fun _ _ _ => False
theorem p5 {X : Cx} : Passes CX0 X E0:=fun _ _ _ _ _ _ _ h => h.elim
structure Fun (K : PySem.W.Frag) (x qual : Str) (st : Stmt) (f : Addr) (fd : FuncData) : Prop where
 ex : ∃ (oc : Value) (od : Option Addr) (kV doc pm : Value) (an : Option Addr) (cdv ct : Value) (osl : Array (Option Value)),
  fd = PySem.W.fnOf x qual (aH st) (ay st) (ae st) .none kV doc pm an cdv ct /\ K.lookup f = some ⟨oc,od,.func fd,osl⟩ /\ PySem.W.codeIn K cdv qual = true
 kp : PySem.W.keepIn K (.ref f) = true
section
variable {P : Program} {w : World} {K : PySem.W.Frag} {mg : Str -> Option Value} {base : Heap}
end
theorem dd {n : Nat} (h : n <= 1000) : n < sizeLine:=Nat.lt_of_le_of_lt h (by decide)
section
variable {X : Cx}
theorem pv (i : Nat) {x : Str} {pos : Pos} (hN : X.N[i]? = some x:=by rfl) (hv : Vis X.env.scope x:=by first | exact Or.inl rfl | exact Or.inr (Or.inl rfl) | exact Or.inr (Or.inr rfl)) (hd : (x == ("__debug__" : Str)) = false:=by decide)
  (hcd : (x == ("__classdict__" : Str)) = false:=by decide) : PE X (.Name x pos) (dM i):=kr hN hv hd hcd
end
theorem di {A B : Prop} (h : B) : if false = true then A else B:=by
 rw [if_neg Bool.false_ne_true]
 exact h
theorem kS {A B : Prop} (h : A) : if true = true then A else B:=by
 rw [if_pos rfl]
 exact h
theorem rX {c A B : Prop} [Decidable c] (h1 : c -> A) (h2 : ¬ c -> B) : if c then A else B:=by
 by_cases h : c
 ·rw [if_pos h]
  exact h1 h
 ·rw [if_neg h]
  exact h2 h
def Same (H H' : Hp) : Prop := ∀ b o,H b = some o -> H' b = some o
theorem Same.refl (H : Hp) : Same H H:=fun _ _ h => h
theorem Same.trans {H H1 H2 : Hp} (a : Same H H1) (b : Same H1 H2) : Same H H2:=fun c o h => b c o (a c o h)
theorem Same.free {H H' : Hp} (e : Same H H') {l : Addr} (h : H' l = Option.none) : H l = Option.none:=by
 cases q : H l with
 | none => rfl
 | some o =>
  rw [e l o q] at h
  cases h
theorem Same.seq {K : PySem.W.Frag} {H H' : Hp} {a : Addr} {xs : List V} (e : Same H H') (h : SqL K H a xs) : SqL K H' a xs:=by
 rcases h with (h | ⟨o,h⟩) | h
 ·exact .inl (.inl (e _ _ h))
 ·exact .inl (.inr ⟨o,e _ _ h⟩)
 ·exact .inr h
end L2
set_option Elab.async false
set_option linter.all false
set_option maxRecDepth 100000
namespace L2
open PySem PySem.Spec PyProof.Rows
def b9 (cells : List (Str × Addr)) : List (Str × NameKind) -> List (Str × Addr) -> List (Str × Addr)
 | [],cs => cs
 | (n,k) :: r,cs => b9 cells r (if k == .free then (n,(cells.lookup n).getD 0) :: cs else cs)
theorem hJ {scope : Scope} {env : Env} (h : ∀ y ∈ scope.names,y.2 = .free -> ∃ c,env.cells.lookup y.1 = some c) :
  closureFor scope env = pure (b9 env.cells scope.names []):=by
 have all : ∀ (ns : List (Str × NameKind)) (cs : List (Str × Addr)),(∀ y ∈ ns,y.2 = .free -> ∃ c,env.cells.lookup y.1 = some c) ->
   (forIn ns cs (fun (x : Str × NameKind) (r : List (Str × Addr)) => (match x with
    | (name,kind) => if (kind == NameKind.free) = true then (do let c <- cellOf env name; pure (ForInStep.yield ((name,c) :: r))) else pure (ForInStep.yield r) : Sem (ForInStep (List (Str × Addr))))) : Sem (List (Str × Addr)))
   = pure (b9 env.cells ns cs):=by
  intro ns
  induction ns with
  | nil => intro cs _; rfl
  | cons y r ih =>
   intro cs hy
   obtain ⟨n,k⟩:=y
   rw [List.forIn_cons]
   by_cases hk : k = .free
   ·subst hk
    obtain ⟨c,e⟩:=hy (n,.free) List.mem_cons_self rfl
    have e' : env.cells.lookup n = some c:=e
    have e1 : cellOf env n = pure c:=by unfold cellOf; rw [e']
    simp only [beq_self_eq_true,if_true,e1,pure_bind]
    rw [ih _ fun z hz => hy z (List.mem_cons_of_mem _ hz)]
    simp only [b9,beq_self_eq_true,if_true,e',Option.getD_some]
   ·have hb : (k == NameKind.free) = false:=by simpa using hk
    simp only [hb,Bool.false_eq_true,if_false,pure_bind]
    rw [ih _ fun z hz => hy z (List.mem_cons_of_mem _ hz)]
    simp only [b9,hb,Bool.false_eq_true,if_false]
 unfold closureFor
 have q:=all scope.names [] h
 simp only [bind_pure]
 exact q
theorem g9 (cells : List (Str × Addr)) {x : Str} {c : Addr} : ∀ (ns : List (Str × NameKind)) (cs : List (Str × Addr)),(b9 cells ns cs).lookup x = some c ->
  ((x,NameKind.free) ∈ ns /\ (cells.lookup x).getD 0 = c) \/ cs.lookup x = some c
 | [],_,h => .inr h
 | (n,k) :: r,cs,h => by
  rcases g9 cells r _ h with ⟨h1,h2⟩ | h1
  ·exact .inl ⟨List.mem_cons_of_mem _ h1,h2⟩
  ·by_cases hk : k = .free
   ·subst hk
    simp only [beq_self_eq_true,if_true] at h1
    by_cases hx : x = n
    ·subst hx
     simp only [List.lookup_cons,beq_self_eq_true] at h1
     exact .inl ⟨List.mem_cons_self,Option.some.inj h1⟩
    ·have hb : (x == n) = false:=by simpa using hx
     simp only [List.lookup_cons,hb] at h1
     exact .inr h1
   ·have hb : (k == NameKind.free) = false:=by simpa using hk
    simp only [hb,Bool.false_eq_true,if_false] at h1
    exact .inr h1
theorem fw (cells : List (Str × Addr)) {x : Str} {c : Addr} (e : cells.lookup x = some c) : ∀ (ns : List (Str × NameKind)) (cs : List (Str × Addr)),((x,NameKind.free) ∈ ns \/ cs.lookup x = some c) ->
  (b9 cells ns cs).lookup x = some c
 | [],_,h => by
  rcases h with h | h
  ·cases h
  ·exact h
 | (n,k) :: r,cs,h => by
  refine fw cells e r _ ?_
  rcases h with h | h
  ·rcases List.mem_cons.mp h with z | z
   ·cases z
    right
    simp only [beq_self_eq_true,if_true,List.lookup_cons,e,Option.getD_some]
   ·exact .inl z
  ·right
   by_cases hk : (k == NameKind.free) = true
   ·rw [if_pos hk]
    by_cases hx : x = n
    ·subst hx
     simp only [List.lookup_cons,beq_self_eq_true,e,Option.getD_some]
    ·have hb : (x == n) = false:=by simpa using hx
     simp only [List.lookup_cons,hb]
     exact h
   ·rw [if_neg hk]
    exact h
theorem iy {env : Env} : ∀ {names : List (Str × NameKind)} {x : Str},names.lookup x = some .free ->
  (names.map fun (n,k) => if (k == NameKind.free && env.scope.kind == .function && env.kindOf n == some .cell) then (n,NameKind.cell) else (n,k)).lookup x = some .cell \/
  (names.map fun (n,k) => if (k == NameKind.free && env.scope.kind == .function && env.kindOf n == some .cell) then (n,NameKind.cell) else (n,k)).lookup x = some .free
 | [],_,h => by simp at h
 | (n,k) :: r,x,h => by
  have ih:=@iy env r x
  show List.lookup x ((if (k == NameKind.free && env.scope.kind == .function && env.kindOf n == some .cell) = true then (n,NameKind.cell) else (n,k)) :: _) = _ \/
   List.lookup x ((if (k == NameKind.free && env.scope.kind == .function && env.kindOf n == some .cell) = true then (n,NameKind.cell) else (n,k)) :: _) = _
  cases hx : x == n with
  | true =>
   simp only [List.lookup_cons,hx] at h
   cases h
   by_cases hc : (NameKind.free == NameKind.free && env.scope.kind == .function && env.kindOf n == some .cell) = true
   ·rw [if_pos hc]; simp only [List.lookup_cons,hx]; first | exact .inl trivial | exact .inl rfl
   ·rw [if_neg hc]; simp only [List.lookup_cons,hx]; first | exact .inr trivial | exact .inr rfl
  | false =>
   simp only [List.lookup_cons,hx] at h
   by_cases hc : (k == NameKind.free && env.scope.kind == .function && env.kindOf n == some .cell) = true
   ·rw [if_pos hc]; simp only [List.lookup_cons,hx]; exact ih h
   ·rw [if_neg hc]; simp only [List.lookup_cons,hx]; exact ih h
theorem fP {env : Env} : ∀ {names : List (Str × NameKind)} {x : Str} {k' : NameKind},k' = .cell \/ k' = .free -> (∀ y ∈ names,y.2 ≠ .cell) ->
  (names.map fun (n,k) => if (k == NameKind.free && env.scope.kind == .function && env.kindOf n == some .cell) then (n,NameKind.cell) else (n,k)).lookup x = some k' -> (x,NameKind.free) ∈ names
 | [],_,_,_,_,h => by simp at h
 | (n,k) :: r,x,k',hk',hn,h => by
  have ih:=@fP env r x k' hk' (fun y hy => hn y (List.mem_cons_of_mem _ hy))
  have h' : List.lookup x ((if (k == NameKind.free && env.scope.kind == .function && env.kindOf n == some .cell) = true then (n,NameKind.cell) else (n,k)) :: (r.map fun (n,k) => if (k == NameKind.free && env.scope.kind == .function && env.kindOf n == some .cell) then (n,NameKind.cell) else (n,k))) = some k' := h
  have hkc : k ≠ .cell:=hn (n,k) List.mem_cons_self
  cases hx : x == n with
  | true =>
   have hxn : x = n:=by simpa using hx
   subst hxn
   by_cases hc : (k == NameKind.free && env.scope.kind == .function && env.kindOf x == some .cell) = true
   ·have hk : k = .free:=by
     simp only [Bool.and_eq_true,beq_iff_eq] at hc
     exact hc.1.1
    subst hk
    exact List.mem_cons_self
   ·rw [if_neg hc] at h'
    simp only [List.lookup_cons,beq_self_eq_true] at h'
    have hk : k = k' := Option.some.inj h'
    rcases hk' with z | z
    ·exact absurd (hk.trans z) hkc
    ·rw [hk,z]; exact List.mem_cons_self
  | false =>
   refine List.mem_cons_of_mem _ (ih ?_)
   by_cases hc : (k == NameKind.free && env.scope.kind == .function && env.kindOf n == some .cell) = true
   ·rw [if_pos hc] at h'
    simpa only [List.lookup_cons,hx] using h'
   ·rw [if_neg hc] at h'
    simpa only [List.lookup_cons,hx] using h'
def aU (ix : List (Option Nat)) (σ : St) : St:=ix.map fun o => match o with
 | none => none
 | some i => (σ[i]?).join
structure BlkScope (NX : List Str) (scX : Scope) (N : List Str) (ix : List (Option Nat)) (sc : Scope) : Prop where
 kind : sc.kind = .function
 nd : N.Nodup
 nocell : ∀ y ∈ sc.names,y.2 ≠ .cell
 locs : ∀ y ∈ sc.names,y.2 = .local -> sc.names.lookup y.1 = some .local
 free : ∀ y ∈ sc.names,y.2 = .free -> scX.names.lookup y.1 = some .cell \/ scX.names.lookup y.1 = some .free
 len : ix.length = N.length
 at_ : ∀ p ∈ N.zip ix,∀ i,p.2 = some i -> NX[i]? = some p.1 /\ sc.names.lookup p.1 = some .free
def c8 (X : Cx) (N : List Str) (scope : Scope) (fp : List Addr) (s : Shared) (H : Hp) (C : Addr) : Cx:=
 { prog:=X.prog,w:=X.w,K:=X.K,mg:=X.mg,base:=X.base,A:=X.A,N:=N,s₀:=s,H₀:=H,env:=compEnvC scope (b9 X.env.cells scope.names []) C X.env,outer:=X.stack,stack:=X.stack,ex:=fp,fn:=fun _ => false,calm:=X.calm,pn:=X.pn,xe:=fun _ _ => False }
theorem jB {names : List (Str × NameKind)} {x : Str} (h : names.lookup x = some .free) : (x,NameKind.free) ∈ names:=PySem.mem_of_lookup h
section
variable {X : Cx} {pins : List (Addr × Obj)} {σ : St} {H : Hp} {s : Shared} {N : List Str} {ix : List (Option Nat)} {scope : Scope} {fp : List Addr}
theorem BlkScope.clos (S : BlkScope X.N X.env.scope N ix scope) (ok : X.Ok) : ∀ y ∈ scope.names,y.2 = .free -> ∃ c,X.env.cells.lookup y.1 = some c:=fun y hy hf => ok.has y.1 (S.free y hy hf)
theorem oW {D C : Addr} {h' : Heap} {tk : Nat} {m : Str -> Option Value} (I : Inv X pins σ H s) (S : BlkScope X.N X.env.scope N ix scope) (hf : ∀ b ∈ fp,jd X pins H b)
  (hfo : ∀ b ∈ fp,∃ o,s.heap.get? b = some o /\ ∀ v,o.data ≠ .cell v)
  (hD : s.heap.objs.size <= D) (hC : s.heap.objs.size <= C) (hDC : D ≠ C) (hk : ∀ b o,s.heap.get? b = some o -> h'.get? b = some o) (hns : h'.Ns C m)
  (hl : ∃ n,h'.get? D = some { cls:=.type "list",data:=.seq ([] : List Value).toArray n }) :
  Inv (c8 X N scope fp s H C) pins (aU ix σ) (upd H D (.lst [])) { s with heap:=h',toks:=tk }:=by
 have fresh : ∀ {a : Addr},s.heap.objs.size <= a -> H a = none:=fun h => I.hok.fresh h
 have cl_of : ∀ x c,(b9 X.env.cells scope.names []).lookup x = some c -> X.env.cells.lookup x = some c:=fun x c e => by
  rcases g9 _ _ _ e with ⟨h1,h2⟩ | h1
  ·obtain ⟨c',e'⟩:=S.clos I.ok _ h1 rfl
   have e'' : X.env.cells.lookup x = some c' := e'
   rw [e''] at h2
   rw [e'']
   exact congrArg some h2
  ·simp at h1
 have ltO : ∀ {b : Addr} {o : Obj},s.heap.get? b = some o -> b < s.heap.objs.size:=fun e => Heap.lt_size e
 have neC : ∀ {b : Addr} {o : Obj},s.heap.get? b = some o -> b ≠ C:=fun e => Nat.ne_of_lt (Nat.lt_of_lt_of_le (ltO e) hC)
 have neD : ∀ {b : Addr} {o : Obj},s.heap.get? b = some o -> b ≠ D:=fun e => Nat.ne_of_lt (Nat.lt_of_lt_of_le (ltO e) hD)
 have cellG : ∀ x c,X.env.cells.lookup x = some c -> ∃ o,s.heap.get? c = some o:=fun x c e => by
  obtain ⟨v,o,ho,_⟩:=I.cell x c e
  exact ⟨o,ho⟩
 refine ⟨⟨I.ok.mod,?_,I.ok.glob,I.ok.blt,hC,fun x y c e1 e2 => I.ok.inj x y c (cl_of x c e1) (cl_of y c e2),fun x hx => ?_,fun x c h _ => ?_,I.ok.hd,I.ok.frames,.inl rfl,fun b hb => ?_,I.bs,Nat.le_trans I.ok.bsz I.sz,fun b o e hb => ?_,fun b hb hb2 => ?_,I.stack,I.stkFree⟩,
  rfl,I.bare,Un.laid hk hD (fresh hD),⟨m,hns,fun j x v e1 e2 e3 => ?_⟩,fun x c e => ?_,?_,fun x c e => ?_,fun p hp => ?_,I.hok.laid hk hD ?_,?_⟩
 ·exact S.kind
 ·have hx' : (x,NameKind.free) ∈ scope.names:=by
   rcases hx with hx | hx
   ·exact fP (.inl rfl) S.nocell hx
   ·exact fP (.inr rfl) S.nocell hx
  obtain ⟨c,e⟩:=S.clos I.ok _ hx' rfl
  exact ⟨c,fw _ e _ _ (.inl hx')⟩
 ·exact absurd (show false = true from h) Bool.false_ne_true
 ·obtain ⟨f0,f1,f2,f3,f4,f5⟩:=hf b hb
  obtain ⟨o,e,_⟩:=hfo b hb
  exact ⟨neC e,fun x c ec => f4 x c (cl_of x c ec)⟩
 ·obtain ⟨f0,f1,f2,f3,f4,f5⟩:=hf b hb
  rcases f3 with z | z
  ·exact I.ok.noex b o e z
  ·exact absurd (Nat.lt_of_lt_of_le (Heap.lt_size (I.ok.bs b o e).1) z) (Nat.lt_irrefl _)
 ·obtain ⟨f0,f1,f2,f3,f4,f5⟩:=hf b hb
  rcases List.mem_cons.mp (I.stkSub b hb2) with z | z
  ·exact f1 z
  ·exact f2 z
 ·-- a name's value
  obtain ⟨mX,hnX,hlX⟩:=id I.loc
  have hj : (aU ix σ)[j]? = some (some v):=e2
  unfold aU at hj
  rw [List.getElem?_map] at hj
  cases ej : ix[j]? with
  | none => rw [ej] at hj; cases hj
  | some o =>
   rw [ej] at hj
   cases o with
   | none => cases hj
   | some i =>
    have hj' : (σ[i]?).join = some v:=Option.some.inj hj
    have hz : (x,some i) ∈ N.zip ix:=List.mem_iff_getElem?.mpr ⟨j,by rw [List.getElem?_zip_eq_some]; exact ⟨e1,ej⟩⟩
    obtain ⟨hNi,hfr⟩:=S.at_ _ hz i rfl
    have hmem:=jB hfr
    have hσ : σ[i]? = some (some v):=by
     cases q : σ[i]? with
     | none => rw [q] at hj'; cases hj'
     | some w' =>
      rw [q] at hj'
      have q' : w' = some v:=hj'
      rw [q']
    have hvx : X.env.scope.names.lookup x = some .cell \/ X.env.scope.names.lookup x = some .free:=S.free _ hmem rfl
    obtain ⟨u,r,lk⟩:=hlX i x v hNi hσ (.inr hvx)
    refine ⟨u,r,.inr ⟨?_,?_⟩⟩
    ·exact iy hfr
    ·rcases lk with ⟨k,_⟩ | ⟨k,c,ec,ci⟩
     ·have k' : X.env.scope.names.lookup x = some .local:=k
      rcases hvx with z | z
      ·rw [z] at k'; cases k'
      ·rw [z] at k'; cases k'
     ·obtain ⟨oc,hoc,hocd⟩:=ci
      exact ⟨c,fw _ ec _ _ (.inl hmem),oc,hk c oc hoc,hocd⟩
 ·obtain ⟨v,o,ho,hd⟩:=I.cell x c (cl_of x c e)
  exact ⟨v,o,hk c o ho,hd⟩
 ·show upd H D (.lst []) C = none
  rw [aw (Ne.symm hDC)]
  exact fresh hC
 ·obtain ⟨o,ho⟩:=cellG x c (cl_of x c e)
  rw [aw (neD ho)]
  exact I.freeC x c (cl_of x c e)
 ·obtain ⟨e,n,ne,nf,d⟩:=I.pin p hp
  refine ⟨hk _ _ e,by rw [aw (neD e)]; exact n,neC e,fun z => ?_,d⟩
  rcases List.mem_cons.mp (I.stkSub p.1 z) with q | q
  ·exact ne q
  ·exact nf q
 ·obtain ⟨n,hl⟩:=hl
  exact ⟨Nat.zero_le _,[],n,.nil,hl⟩
 ·show (aU ix σ).length = N.length
  unfold aU
  rw [List.length_map]
  exact S.len
end
end L2
set_option Elab.async false
set_option linter.all false
set_option maxRecDepth 100000
namespace L2
open PySem PySem.Spec PyProof.Rows
theorem nA {prog : Program} {w : World} {A : Around} {R : Result -> Shared -> Prop} {s : Shared} {elt target iter : Expr} {scope : Scope} {pos : Pos} {it acc : Value} {env : Env} (I : Nat -> Shared -> Prop)
  (turn : ∀ n s,I n s -> wpAny (model prog w) A (pyNext it) (fun r s₁ => match r with
   | none => R (.ok .next) s₁
   | some v => wpAny (model prog w) A (letOwnedTupleGo target it v) (fun _ s₁' => wpAny (model prog w) A (assign target env v) (fun _ s₂ => wpAny (model prog w) A (eval elt env) (fun x s₃ =>
     wpAny (model prog w) A (call (.builtin "list.append") [acc,x]) (fun _ s₄ => ∃ m,m < n /\ I m s₄) (fun _ _ => False) s₃)
     (fun _ _ => False) s₂) (fun _ _ => False) s₁') (fun _ _ => False) s₁) (fun _ _ => False) s)
  (n : Nat) (h : I n s) :
  codeAny (model prog w) A (.compLoop (.ListComp elt [⟨target,iter,[],0⟩] scope pos) 0 it acc env) R s:=by
 refine codeAny_loop rfl I (fun n s hI => ?_) n h
 show wpAny _ _ ((compTurn (.ListComp elt [⟨target,iter,[],0⟩] scope pos) 0 it acc env).onRaise (fun x => do noteFrame x env; theTreesLotGoes x)) _ _ s
 refine wpAny_noted ?_
 rw [compTurn_list1]
 refine wpAny_bind (wpAny_standAt (wpAny_bind (wpAny_mono (turn n s hI) (fun r s₁ h₁ => ?_) fun _ _ h' => h'.elim)))
 cases r with
 | none => exact wpAny_pure h₁
 | some v =>
  refine wpAny_bind (wpAny_mono h₁ (fun _ s₁' h₁' => ?_) fun _ _ h' => h'.elim)
  exact wpAny_bind (wpAny_mono h₁' (fun _ s₂ h₂ => wpAny_bind (wpAny_bind (wpAny_mono h₂ (fun x s₃ h₃ => wpAny_bind (wpAny_mono h₃
   (fun _ s₄ h₄ => wpAny_pure (wpAny_pure ⟨rfl,h₄⟩)) fun _ _ h' => h'.elim)) fun _ _ h' => h'.elim))) fun _ _ h' => h'.elim)
def i9 (J : It) (ix : List (Option Nat)) (g : TG) (te : TE) (σ : St) (H : Hp) (Qd : Addr -> Hp -> Prop) : Prop:=
 ∀ D,H D = none -> ∃ W : Nat -> Nat -> St -> Hp -> Prop,(∃ m,W 0 m (aU ix σ) (upd H D (.lst []))) /\ ∀ i m σ' H',W i m σ' H' ->
  (J.stop i H' /\ Qd D H') \/ (J.go i H' /\ ∀ x H2,J.yld i H' x H2 -> g x σ' H2 fun σ3 H3 => te σ3 H3 fun y H4 => ∃ ys,H4 D = some (.lst ys) /\ ys.length < sizeLine /\ ∃ m',m' < m /\ W (i + 1) m' σ3 (upd H4 D (.lst (ys ++ [y]))))
section
variable {X : Cx} {pins : List (Addr × Obj)} {σ : St} {H : Hp} {s : Shared} {N : List Str} {ix : List (Option Nat)} {scope : Scope} {fp : List Addr} {tg elt iter : Expr} {pos spos : Pos} {J : It} {it : Addr} {tn : Nat -> Heap -> Prop} {g : TG} {te : TE} {wi : TI}
theorem nC {Qd : Addr -> Hp -> Prop} {RR : Value -> Addr -> Result -> Shared -> Prop} {E : Value -> Shared -> Prop} (I : Inv X pins σ H s) (hc : X.calm = true) (S : BlkScope X.N X.env.scope N ix scope) (T : Turn X.prog X.w X.K tg J fp it tn) (st : tn 0 s.heap) (f2 : ∀ b ∈ fp,jd X pins H b)
  (hg : ∀ C,PG (c8 X N scope fp s H C) tg g) (he : ∀ C,PE (c8 X N scope fp s H C) elt te) (hW : i9 J ix g te σ H Qd)
  (hR : ∀ D C s' H' m,Inv X pins σ H' s' -> s'.heap.Ns C m -> jd X pins H' C -> Qd D H' -> RR (.ref D) C (.ok .next) s') :
  wpAny (model X.prog X.w) X.A (newList []) (fun acc s₃ => wpAny (model X.prog X.w) X.A (newFunctionEnv scope X.env.globals (b9 X.env.cells scope.names []) [] X.env.qual none .none (some X.env)) (fun cenv s₄ =>
   codeAny (model X.prog X.w) X.A (.compStart (.ListComp elt [⟨tg,iter,[],0⟩] scope pos) 0 (.ref it) acc { cenv with scope:=relabel scope X.env }) (RR acc cenv.locals) s₄) E s₃) E s:=by
 refine wpAny_newObj_type (wpAny_newFunctionEnv S.nocell (by intro y hy; simp at hy) (fun h₁ hns₁ hsb₁ => ?_) S.kind)
 dsimp only at hns₁ hsb₁ ⊢
 generalize hH2 : s.heap.push { cls:=.type "list",dict:=none,data:=.seq ([] : List Value).toArray } = H2 at hns₁ hsb₁ ⊢
 have hC : H2.objs.size = s.heap.objs.size + 1:=by rw [<- hH2,Heap.size_push]
 have hDC : s.heap.objs.size ≠ H2.objs.size:=by rw [hC]; exact Nat.ne_of_lt (Nat.lt_succ_self _)
 have hCle : s.heap.objs.size <= H2.objs.size:=by rw [hC]; exact Nat.le_succ _
 have below : ∀ b,b < s.heap.objs.size -> b ≠ H2.objs.size:=fun b hb => by rw [hC]; exact Nat.ne_of_lt (Nat.lt_succ_of_lt hb)
 have old : ∀ b o,s.heap.get? b = some o -> h₁.get? b = some o:=fun b o e => hsb₁.extBut b o (below b (Heap.lt_size e)) (Heap.get?_push_of_some _ (hH2 ▸ Heap.get?_push_of_some _ e))
 have hacc : ∃ n,h₁.get? s.heap.objs.size = some { cls:=.type "list",data:=.seq ([] : List Value).toArray n }:=⟨_,hsb₁.extBut _ _ hDC (Heap.get?_push_of_some _ (hH2 ▸ Heap.get?_push_size _ rfl))⟩
 have st1 : tn 0 h₁:=T.keep _ _ _ st fun b _ o e => old b o e
 have fo : ∀ b ∈ fp,∃ o,s.heap.get? b = some o /\ ∀ v,o.data ≠ .cell v:=T.obj _ _ st
 have I0 : Inv (c8 X N scope fp s H H2.objs.size) pins (aU ix σ) (upd H s.heap.objs.size (.lst [])) { s with heap:=h₁,toks:=s.toks + ([] : List (Str × Value)).length }:=
  oW I S f2 fo (Nat.le_refl _) hCle hDC old hns₁ hacc
 have freshD : H s.heap.objs.size = none:=I.hok.fresh (Nat.le_refl _)
 obtain ⟨W,⟨m0,w0⟩,turn⟩:=hW s.heap.objs.size freshD
 have cl_ne : ∀ b ∈ fp,b ≠ H2.objs.size:=fun b hb => by
  obtain ⟨o,e,_⟩:=fo b hb
  exact below b (Heap.lt_size e)
 have stat : ∀ {H' : Hp},(∀ b ∈ fp,H' b = none) -> ∀ b ∈ fp,jd (c8 X N scope fp s H H2.objs.size) pins H' b:=fun hn b hb => by
  obtain ⟨f0,f1,f3,f4,f5,f6⟩:=f2 b hb
  exact ⟨hn b hb,cl_ne b hb,I0.ok.exfs b hb,.inl hb,(I0.ok.exf b hb).2,f6⟩
 have fr0 : ∀ b ∈ fp,(upd H s.heap.objs.size (.lst [])) b = none:=fun b hb => by
  obtain ⟨o,e,_⟩:=fo b hb
  rw [aw (Nat.ne_of_lt (Heap.lt_size e))]
  exact (f2 b hb).1
 have loop : codeAny (model X.prog X.w) X.A (.compLoop (.ListComp elt [⟨tg,iter,[],0⟩] scope pos) 0 (.ref it) (.ref s.heap.objs.size) (compEnvC scope (b9 X.env.cells scope.names []) H2.objs.size X.env))
   (RR (.ref s.heap.objs.size) H2.objs.size) { s with heap:=h₁,toks:=s.toks + ([] : List (Str × Value)).length }:=by
  refine nA (fun n s' => ∃ i σ' H',Inv (c8 X N scope fp s H H2.objs.size) pins σ' H' s' /\ tn i s'.heap /\ (∀ b ∈ fp,H' b = none) /\ W i n σ' H') ?_ m0 ⟨0,_,_,I0,st1,fr0,w0⟩
  rintro n s3 ⟨i,σ3,H3,I3,st3,fr3,w3⟩
  rcases turn i n σ3 H3 w3 with ⟨stop,qn⟩ | ⟨go,step⟩
  ·refine thn (T.done (c8 X N scope fp s H H2.objs.size) rfl rfl rfl hc i pins s3 σ3 H3 _ I3 (stat fr3) st3 stop) fun r s4 ⟨hr,I4⟩ => ?_
   subst hr
   obtain ⟨m4,hn4,_⟩:=id I4.loc
   refine hR _ _ s4 H3 m4 ?_ hn4 (I.fpOk hCle I4.free) qn
   exact I.call' (ch:=fp) I4.os I4.base I4.hok I4.bare fun b hb => by
    obtain ⟨f0,f1,f3,f4,f5,f6⟩:=f2 b hb
    exact ⟨f4,f1,f5,f6⟩
  ·refine thn (T.item (c8 X N scope fp s H H2.objs.size) rfl rfl rfl hc i pins s3 σ3 H3 _ I3 (stat fr3) st3 go) fun r s4 ⟨u,hr,h4⟩ => ?_
   subst hr
   refine thn h4 fun _ s5 ⟨x,H5,I5,r5,y5,st5,fr5⟩ => ?_
   have I5' := I5.pinned (stat fr5) (T.obj _ _ st5)
   refine thn (hg _ _ s5 σ3 H5 x u _ I5' r5 (step x H5 y5)) fun _ s6 ⟨σ6,H6,I6,q6⟩ => ?_
   refine thn (he _ _ s6 σ6 H6 _ I6 q6) fun yv s7 ⟨y,H7,I7,r7,ys,hD7,hz7,m',hm,w7⟩ => ?_
   refine thn (gz (X:=c8 X N scope fp s H H2.objs.size) _ s7 σ6 H7 (.ref s.heap.objs.size) [y] (.ref s.heap.objs.size) [yv] (fun _ H8 => W (i + 1) m' σ6 H8) I7 rfl (.cons r7 .nil) ⟨_,ys,y,rfl,rfl,hD7,hz7,w7⟩) fun _ s8 ⟨_,H8,I8,_,w8⟩ => ?_
   refine ⟨m',hm,i + 1,σ6,H8,I8.unpinned,T.keep _ _ _ st5 fun b hb o e => (I8.pin (b,o) (List.mem_append_right _ (List.mem_append_right _ (fN hb e)))).1,fun b hb => ?_,w8⟩
   obtain ⟨o,e,d⟩:=T.obj _ _ st5 b hb
   exact (I8.pin (b,o) (List.mem_append_right _ (List.mem_append_right _ (fN hb e)))).2.1
 exact codeAny_compStart_list loop (T.self _ _ _ _ _ st1 loop)
def qU (ix : List (Option Nat)) (wi : TI) (g : TG) (te : TE) : TE:=fun σ H Q => wi σ H fun J H1 => i9 J ix g te σ H1 fun D H' => Q (.ref D) H'
theorem j2 (hc : X.calm = true) (S : BlkScope X.N X.env.scope N ix scope) (hi : PI X tg iter wi) (hg : ∀ fp s H C,PG (c8 X N scope fp s H C) tg g) (he : ∀ fp s H C,PE (c8 X N scope fp s H C) elt te)
  (hs : ∀ x,foldedSetIterable iter X.env x = pure x:=by intro _; rfl) : PE X (.ListComp elt [⟨tg,iter,[],0⟩] scope pos) (qU ix wi g te):=by
 intro pins s σ H Q I h
 rw [eval_ListComp]
 refine wpAny_comprehension_free (use:=none) rfl hs (hJ (S.clos I.ok)) S.kind S.locs (thn (hi pins s σ H _ I h) fun v s1 h1 => thn h1 fun itv s2 h2 => ?_)
 obtain ⟨it,fp,tn,J,H2,e,I2,T,st2,f2,hW⟩:=h2
 subst e
 refine nC (RR:=fun acc C => compPost (model X.prog X.w) X.A X.xe none (EP X pins σ Q) acc C) I2 hc S T st2 f2 (hg _ _ _) (he _ _ _) hW ?_
 intro D C s' H' m I' hn fC q
 exact ⟨m,hn,fun h' sb => ⟨.ref D,H',I'.turned (t' := s'.toks) (fun b o hb e => (sb.2 b hb).trans e) fC.1 fC.2.1 fC.2.2.2.1 fC.2.2.2.2.1 fC.2.2.2.2.2,rfl,q⟩⟩
theorem dc {i : Nat} {y : Str} {py : Pos} (hc : X.calm = true) (hN : X.N.Nodup) (hyi : X.N[i]? = some y) (hy : Loc X.env.scope y) (S : BlkScope X.N X.env.scope N ix scope) (hi : PI X tg iter wi) (hg : ∀ fp s H C,PG (c8 X N scope fp s H C) tg g) (he : ∀ fp s H C,PE (c8 X N scope fp s H C) elt te)
  (hsw : swapsWith (.ListComp elt [⟨tg,iter,[],0⟩] scope pos) (some (.Name y py)) spos.line X.env = pure true:=by rfl)
  (hf : X.fn y = true \/ X.env.scope.names.lookup y = some .local:=by first | exact .inl rfl | exact .inr rfl | assumption)
  (hs : ∀ x,foldedSetIterable iter X.env x = pure x:=by intro _; rfl) : PS X (.Assign [.Name y py] (.ListComp elt [⟨tg,iter,[],0⟩] scope pos) spos) (qe (qU ix wi g te) (aV i)):=by
 intro pins s σ H D I h
 rw [exec_Assign_Name_used _ _ _ _ hsw]
 refine wpAny_bind (wpAny_standAt (wpAny_bind ?_))
 show wpAny _ X.A (do let _ <- comprehension (.ListComp elt [⟨tg,iter,[],0⟩] scope pos) scope X.env _ (newList []) false (eval iter X.env) (some (assign (.Name y py) X.env))) _ _ s
 refine wpAny_bind (wpAny_mono (wpAny_comprehension_free (use:=some (assign (.Name y py) X.env)) (Q:=fun _ s' => SP X pins D .next s') rfl hs (hJ (S.clos I.ok)) S.kind S.locs
  (thn (hi pins s σ H _ I h) fun v s1 h1 => thn h1 fun itv s2 h2 => ?_)) (fun _ s' hq => wpAny_pure (wpAny_pure hq)) fun _ _ e => e)
 obtain ⟨it,fp,tn,J,H2,e,I2,T,st2,f2,hW⟩:=h2
 subst e
 refine nC (RR:=fun acc C => compPost (model X.prog X.w) X.A X.xe (some (assign (.Name y py) X.env)) (fun _ s' => SP X pins D .next s') acc C) I2 hc S T st2 f2 (hg _ _ _) (he _ _ _) hW ?_
 intro Dl C s' H' m I' hn fC q
 show wpAny _ X.A (assign (.Name y py) X.env (.ref Dl)) _ _ s'
 refine wpAny_assign_Name (lS I' hN hyi hy (v:=.ref Dl) rfl (fun s2 I2' hsb => ?_) hf)
 obtain ⟨a,sb,ha⟩:=hsb
 refine ⟨m,hn.sameBut sb ?_,fun h3 sb3 => ⟨_,H',I2'.turned (t' := s2.toks) (fun b o hb e => (sb3.2 b hb).trans e) fC.1 fC.2.1 fC.2.2.2.1 fC.2.2.2.2.1 fC.2.2.2.2.2,q⟩⟩
 rcases ha with z | z
 ·rw [z]; exact fC.2.1
 ·exact Ne.symm (fC.2.2.2.2.1 _ _ z)
end
theorem j8 {lo : Int} {n : Nat} {ix : List (Option Nat)} {te : TE} {σ : St} {H : Hp} {Qd : Addr -> Hp -> Prop} (Pv : Addr -> Nat -> List V -> Hp -> Prop)
  (h0 : ∀ D,H D = none -> Pv D 0 [] (upd H D (.lst [])))
  (hs : ∀ D i ys H' (Q' : VK),H D = none -> i < n -> H' D = some (.lst ys) -> Pv D i ys H' -> (∀ y H4,H4 D = some (.lst ys) -> ys.length < sizeLine -> Pv D (i + 1) (ys ++ [y]) (upd H4 D (.lst (ys ++ [y]))) -> Q' y H4) ->
   te ((aU ix σ).set 0 (some (.int (lo + i)))) H' Q')
  (hd : ∀ D ys H',H D = none -> H' D = some (.lst ys) -> Pv D n ys H' -> Qd D H') : i9 (Itr lo n) ix (aV 0) te σ H Qd:=by
 intro D hD
 refine ⟨fun i m σ' H' => m = n - i /\ i <= n /\ (σ' = aU ix σ \/ ∃ t,σ' = (aU ix σ).set 0 t) /\ ∃ ys,H' D = some (.lst ys) /\ Pv D i ys H',⟨n,by simp,Nat.zero_le _,.inl rfl,[],aj,h0 D hD⟩,?_⟩
 rintro i m σ' H' ⟨rfl,hi,hσ,ys,hy,p⟩
 by_cases hlt : i < n
 ·refine .inr ⟨hlt,fun x H2 y => ?_⟩
  obtain ⟨e1,e2⟩:=y
  subst e1
  subst e2
  have es : σ'.set 0 (some (V.int (lo + i))) = (aU ix σ).set 0 (some (V.int (lo + i))):=by
   rcases hσ with z | ⟨t,z⟩
   ·rw [z]
   ·rw [z,List.set_set]
  show te (σ'.set 0 (some (V.int (lo + i)))) _ _
  rw [es]
  refine hs D i ys _ _ hD hlt hy p fun y H4 h4 hz p4 => ⟨ys,h4,hz,n - (i + 1),by omega,rfl,hlt,.inr ⟨_,rfl⟩,ys ++ [y],aj,p4⟩
 ·have e : i = n:=by omega
  subst e
  exact .inl ⟨Nat.le_refl _,hd D ys H' hD hy p⟩
theorem oQ {K : PySem.W.Frag} {a : Addr} {xs : List V} {ix : List (Option Nat)} {te : TE} {σ : St} {H : Hp} {Qd : Addr -> Hp -> Prop} (Pv : Addr -> Nat -> List V -> Hp -> Prop)
  (h0 : ∀ D,H D = none -> Pv D 0 [] (upd H D (.lst [])))
  (hl : ∀ D i ys H',i <= xs.length -> Pv D i ys H' -> SqL K H' a xs)
  (hs : ∀ D i x ys H' (Q' : VK),H D = none -> xs[i]? = some x -> H' D = some (.lst ys) -> Pv D i ys H' -> (∀ y H4,H4 D = some (.lst ys) -> ys.length < sizeLine -> Pv D (i + 1) (ys ++ [y]) (upd H4 D (.lst (ys ++ [y]))) -> Q' y H4) ->
   te ((aU ix σ).set 0 (some x)) H' Q')
  (hd : ∀ D ys H',H D = none -> H' D = some (.lst ys) -> Pv D xs.length ys H' -> Qd D H') : i9 (Itl K a) ix (aV 0) te σ H Qd:=by
 intro D hD
 refine ⟨fun i m σ' H' => m = xs.length - i /\ i <= xs.length /\ (σ' = aU ix σ \/ ∃ t,σ' = (aU ix σ).set 0 t) /\ ∃ ys,H' D = some (.lst ys) /\ Pv D i ys H',⟨xs.length,by simp,Nat.zero_le _,.inl rfl,[],aj,h0 D hD⟩,?_⟩
 rintro i m σ' H' ⟨rfl,hi,hσ,ys,hy,p⟩
 have q:=hl D i ys H' hi p
 by_cases hlt : i < xs.length
 ·refine .inr ⟨⟨xs,xs[i],q,by simp [hlt]⟩,fun x H2 y => ?_⟩
  obtain ⟨e1,e2⟩:=y
  subst e1
  have ex:=e2 xs q
  have es : σ'.set 0 (some x) = (aU ix σ).set 0 (some x):=by
   rcases hσ with z | ⟨t,z⟩
   ·rw [z]
   ·rw [z,List.set_set]
  show te (σ'.set 0 (some x)) _ _
  rw [es]
  refine hs D i x ys _ _ hD ex hy p fun y H4 h4 hz p4 => ⟨ys,h4,hz,xs.length - (i + 1),by omega,rfl,hlt,.inr ⟨_,rfl⟩,ys ++ [y],aj,p4⟩
 ·have e : i = xs.length:=by omega
  subst e
  exact .inl ⟨⟨xs,q,Nat.le_refl _⟩,hd D ys H' hD hy p⟩
section
variable {X : Cx}
def sF (K : PySem.W.Frag) : List V -> Hp -> VK -> Prop:=fun xs H Q => ∃ x n t b,xs = [x,.ty n] /\ TyOf K H x t /\ PySem.W.kitOne K t (.type n) = some b /\ Q (.bl b) H
theorem dh : lH X (.builtin "isinstance") (sF X.K):=by
 intro pins s σ H xs us Q I r h
 obtain ⟨x,n,t,b,rfl,ty,e,q⟩:=h
 obtain ⟨u,v,rfl,ru,rv⟩:=r.two
 cases (show v = Value.type n from rv)
 exact lQ I ru ty e fun tk => ⟨.bl b,H,I.tok tk,rfl,q⟩
end
section
variable {prog : Program} {w : World} {A : Around} {E : Value -> Shared -> Prop} {s : Shared}
end
section
variable {X : Cx} {pos : Pos}
end
end L2
set_option Elab.async false
set_option linter.all false
set_option maxRecDepth 100000
namespace HT
open PySem PySem.Spec PyProof.Rows
section
variable {prog : Program} {w : World} {A : Around} {E : Value -> Shared -> Prop} {s : Shared}
end
end HT
namespace L2
open PySem PySem.Spec PyProof.Rows
section
variable {X : Cx}
end
structure FunD (K : PySem.W.Frag) (x qual : Str) (st : Stmt) (dV : Value) (f : Addr) (fd : FuncData) : Prop where
 ex : ∃ (oc : Value) (od : Option Addr) (kV doc pm : Value) (an : Option Addr) (cdv ct : Value) (osl : Array (Option Value)),
  fd = PySem.W.fnOf x qual (aH st) (ay st) (ae st) dV kV doc pm an cdv ct /\ K.lookup f = some ⟨oc,od,.func fd,osl⟩ /\ PySem.W.codeIn K cdv qual = true
 kp : PySem.W.keepIn K (.ref f) = true
section
variable {P : Program} {w : World} {K : PySem.W.Frag} {mg : Str -> Option Value} {base : Heap}
theorem FunD.ok {x qual : Str} {st : Stmt} {dV : Value} {f : Addr} {fd : FuncData} {N ps : List Str} {k : Nat} {sp : Sp} (F : FunD K x qual st dV f fd) (S : FnScope N ps (ae st)) (len : ∀ vs H Q E,sp vs H Q E -> vs.length = ps.length)
  (hbody : ∀ (cdv : Value) (A : Around) (outer : List Env) (s : Shared) (H : Hp) (vs : List V) (Q : VK) (E : XK),Room k (A.deeper (envOfC qual (ae st) s.heap.objs.size f cdv)) -> sp vs H Q E ->
   ∃ t,PSs (nF CX0 P w K mg base N qual (ae st) f cdv A outer s H E).nox (ay st) t /\ t { nx:=fun _ H' => Q .non H',rt:=Q } (start N vs) H) : FnOk P w K mg base CX0 (k + 1) f fd ps sp:=by
 obtain ⟨oc,od,kV,doc,pm,an,cdv,ct,osl,rfl,lk,hcd⟩:=F.ex
 refine rT lk hcd S len fun A outer s H vs Q E hr hsp => ?_
 obtain ⟨t,h,q⟩:=hbody cdv A outer s H vs Q E hr hsp
 exact ⟨t,h.nox,q⟩
theorem FunD.binds {x qual : Str} {st : Stmt} {f : Addr} {fd : FuncData} {ps : List Str} (F : FunD K x qual st .none f fd)
  (h : ∀ (kV doc pm : Value) (an : Option Addr) (cdv ct : Value) (us : List Value),us.length = ps.length -> bindArgs (PySem.W.fnOf x qual (aH st) (ay st) (ae st) .none kV doc pm an cdv ct) ⟨us,[]⟩ = pure (ps.zip us)) : Binds K fd ps []:=by
 obtain ⟨oc,od,kV,doc,pm,an,cdv,ct,osl,rfl,lk,hcd⟩:=F.ex
 exact .all (h kV doc pm an cdv ct)
theorem aQ {x qual : Str} {st : Stmt} {f : Addr} {oc : Value} {od an : Option Addr} {osl : Array (Option Value)} {dV kV doc pm cdv ct : Value} (l : K.lookup f = some ⟨oc,od,.func (PySem.W.fnOf x qual (aH st) (ay st) (ae st) dV kV doc pm an cdv ct),osl⟩)
  (c : PySem.W.codeIn K cdv qual = true) (k : PySem.W.keepIn K (.ref f) = true) : FunD K x qual st dV f (PySem.W.fnOf x qual (aH st) (ay st) (ae st) dV kV doc pm an cdv ct):=⟨⟨oc,od,kV,doc,pm,an,cdv,ct,osl,rfl,l,c⟩,k⟩
structure DefOk (P : Program) (w : World) (K : PySem.W.Frag) (mg : Str -> Option Value) (base : Heap) (x : Str) (k : Nat) (ps : List Str) (dvs : List V) (sp : Sp) : Prop where
 ex : ∃ (f : Addr) (fd : FuncData) (ds : List Value),mg x = some (.ref f) /\ PySem.W.keepIn K (.ref f) = true /\ Vals dvs ds /\ Binds K fd ps ds /\ FnOk P w K mg base CX0 k f fd ps sp
end
section
variable {X : Cx} {x : Str} {j k : Nat} {ps : List Str} {dvs : List V} {sp : Sp} {p pos : Pos} {e : Expr} {es : List Expr} {t : TA}
theorem aN (G : DefOk X.prog X.w X.K X.mg X.base x k ps dvs sp) (hr : Room j X.A) (ha : PA X (e :: es) t) (hx : ∀ e s,X.xe e s = False:=by intro _ _; rfl) (hkj : k <= j:=by decide) (hg : Gl X x:=by rfl) (hdb : (x == ("__debug__" : Str)) = false:=by decide)
  (he : starEach (e :: es) X.env = (false,eval e X.env) :: starEach es X.env:=by rfl) (hpl : (backTo pos (starEach es X.env)).any (·.1) = false:=by rfl) :
  PE X (.Call (.Name x p) (e :: es) [] pos) (qT sp dvs E0 t):=by
 obtain ⟨f,fd,ds,hm,hk,hd,hb,F⟩:=G.ex
 exact qK F (hr.mono hkj) hg hm hk hb hd (fun _ _ _ _ _ _ _ h => h.elim) ha hdb he hpl
end
theorem nK (K : PySem.W.Frag) : PySem.W.kitOne K (.type "int") (.type "int") = some true:=by with_unfolding_all rfl
theorem mr (K : PySem.W.Frag) : PySem.W.kitOne K (.type "int") (.type "bool") = some false:=by with_unfolding_all rfl
theorem av {H : Hp} {p : Addr} (h : H p = none) (o : HO) : Same H (upd H p o):=fun b u q => by rw [aw (aJ q h)]; exact q
theorem small {n : Nat} (h : n <= 1000) : n <= sizeLine:=Nat.le_of_lt (dd h)
theorem cq : bootBuiltins "len" = some (.builtin "len"):=by decide +kernel
theorem aZ : bootBuiltins "isinstance" = some (.builtin "isinstance"):=by decide +kernel
theorem qY : bootBuiltins "int" = some (.type "int"):=by decide +kernel
theorem qt : bootBuiltins "bool" = some (.type "bool"):=by decide +kernel
theorem cT : bootBuiltins "tuple" = some (.type "tuple"):=by decide +kernel
end L2
set_option Elab.async false
set_option linter.all false
set_option maxRecDepth 100000
namespace L2
open PySem PySem.Spec PyProof.Rows
section
variable {X : Cx}
end
section
variable {X : Cx} {tg : Expr}
end
end L2
set_option Elab.async false
set_option linter.all false
set_option maxRecDepth 100000
namespace L2
open PySem PySem.Spec PyProof.Rows
section
variable {X : Cx} {pins : List (Addr × Obj)} {σ : St} {H : Hp} {s : Shared}
end
section
variable {X : Cx} {tg : Expr}
end
section
variable {X : Cx}
end
end L2
set_option Elab.async false
set_option linter.all false
set_option maxRecDepth 100000
namespace PySem
section
variable {prog : Program} {w : World} {A : Around} {R : Result -> Shared -> Prop} {I : Addr} {fp wr : List Addr} {n : Nat} {P : Nat -> Value -> Prop} {St : Nat -> Heap -> Prop}
end
section
variable {prog : Program} {w : World} {A : Around} {E : Value -> Shared -> Prop} {s : Shared}
end
end PySem
namespace L2
open PySem PySem.Spec PyProof.Rows
section
variable {X : Cx}
variable {p pos kpos : Pos} {e d : Expr} {ta : TA} {td : TE}
end
section
variable {prog : Program} {w : World} {A : Around} {E : Value -> Shared -> Prop} {s : Shared}
end
section
variable {X : Cx} {e : Expr} {te : TE} {lo hi : Option Expr} {st : Expr} {tl th ts : TO} {pos p2 : Pos}
end
section
variable {X : Cx} {tg : Expr}
end
section
variable {X : Cx}
end
end L2
set_option Elab.async false
set_option linter.all false
set_option maxRecDepth 100000
namespace L2
open PySem PySem.Spec PyProof.Rows
section
variable {κ : Type} [DecidableEq κ]
end
section
variable {P : Program} {w : World} {H : Hp} {h : Heap} {a : Addr}
end
section
variable {X : Cx} {pins : List (Addr × Obj)} {σ : St} {H : Hp} {s : Shared} {a : Addr} {y v : V} {u r : Value} {o : Option V} {A : Around} {E : Value -> Shared -> Prop}
end
section
variable {X : Cx} {pins : List (Addr × Obj)} {σ : St} {H : Hp} {s : Shared} {a : Addr} {kvs : List (Key × V)} {k : Key} {u : Value} {A : Around} {E : Value -> Shared -> Prop}
end
section
variable {X : Cx} {o i e value : Expr} {pos pos' tpos : Pos} {td ty tv : TE}
end
section
variable {X : Cx} {pos : Pos}
end
structure M1 (X : Cx) (o : Expr) (m : Str) (apos : Pos) (e : Expr) (cpos : Pos) : Prop where
 base : attributeBase o m X.env (eval o X.env) = eval o X.env
 few : ((backTo cpos (starEach [e] X.env)).all (fun x => !x.1) && (backToKw cpos (keywordEach [] X.env)).all (fun x => x.1.isSome)
  && decide (([e] : List Expr).length + ([] : List Keyword).length + (if ([] : List Keyword).isEmpty then 0 else 1) < 30)) = true
 line : (apos.endLine == cpos.line) = true
 trees : backTo cpos (starEach [e] X.env) = [(false,eval e X.env)]
structure M2 (X : Cx) (o : Expr) (m : Str) (apos : Pos) (e f : Expr) (cpos : Pos) : Prop where
 base : attributeBase o m X.env (eval o X.env) = eval o X.env
 few : ((backTo cpos (starEach [e,f] X.env)).all (fun x => !x.1) && (backToKw cpos (keywordEach [] X.env)).all (fun x => x.1.isSome)
  && decide (([e,f] : List Expr).length + ([] : List Keyword).length + (if ([] : List Keyword).isEmpty then 0 else 1) < 30)) = true
 line : (apos.endLine == cpos.line) = true
 trees : backTo cpos (starEach [e,f] X.env) = [(false,eval e X.env),(false,eval f X.env)]
section
variable {X : Cx} {pins : List (Addr × Obj)} {σ : St} {H : Hp} {s : Shared} {a : Addr} {y d : V} {u r : Value} {o : Option V} {A : Around} {E : Value -> Shared -> Prop}
end
section
variable {X : Cx} {o e f : Expr} {apos cpos : Pos} {td ty tx : TE}
end
section
variable {X : Cx} {pins : List (Addr × Obj)} {σ : St} {H : Hp} {s : Shared} {a : Addr} {kvs : List (Key × V)} {A : Around} {E : Value -> Shared -> Prop}
end
section
variable {X : Cx} {pins : List (Addr × Obj)} {σ : St} {H : Hp} {s : Shared} {a : Addr} {y : V} {u : Value} {A : Around} {E : Value -> Shared -> Prop}
end
end L2
namespace L2
open PySem PySem.Spec PyProof.Rows
section
variable {κ : Type} [DecidableEq κ]
end
end L2
set_option Elab.async false
set_option linter.all false
set_option maxRecDepth 100000
namespace PySem
open Sem (wp)
open Builtin
end PySem
namespace L2
open PySem PySem.Spec PyProof.Rows
section
variable {X : Cx}
end
inductive Pl (H : Hp) : V -> Prop where
 | non : Pl H .non
 | bl (b : Bool) : Pl H (.bl b)
 | int (i : Int) : Pl H (.int i)
 | str (x : Str) : Pl H (.str x)
 | lst {a : Addr} {xs : List V} (e : H a = some (.lst xs)) : Pl H (.ref a)
 | tup {a : Addr} {xs : List V} (e : H a = some (.tup xs)) : Pl H (.ref a)
 | dK {a : Addr} {kvs : List (Key × V)} (e : H a = some (.dK kvs)) : Pl H (.ref a)
structure PEW (X : Cx) (e : Expr) (t : TE) : Prop where
 out : PE X e t
structure PAW (X : Cx) (es : List Expr) (t : TA) : Prop where
 out : PA X es t
structure PTW (X : Cx) (e : Expr) (t : TT) : Prop where
 out : PT X e t
structure PSW (X : Cx) (s : Stmt) (t : TS) : Prop where
 out : PS X s t
structure PSsW (X : Cx) (s : List Stmt) (t : TS) : Prop where
 out : PSs X s t
section
variable {X : Cx} {a b e : Expr} {es : List Expr} {ta tb te : TE} {t : TA} {pos : Pos}
theorem qi : PAW X [] gY:=⟨ab⟩
theorem cC (ha : PEW X e te) (hr : PAW X es t) (hs : starEach (e :: es) X.env = (false,eval e X.env) :: starEach es X.env:=by rfl) : PAW X (e :: es) (fX te t):=⟨aa ha.out hr.out hs⟩
theorem qV (h : PAW X es t) : PEW X (.List es pos) (si t):=⟨kq h.out⟩
variable {st : Stmt} {rest : List Stmt} {ts us : TS}
theorem aP (h1 : PSW X st ts) (h2 : PSsW X rest us) : PSsW X (st :: rest) (nU ts us):=⟨ao h1.out h2.out⟩
theorem nt (h1 : PSW X st ts) : PSsW X [st] ts:=⟨ai h1.out⟩
theorem sq (he : PEW X e te) : PSW X (.Return (some e) pos) (sm te):=⟨au he.out⟩
theorem sr {i : Nat} {x : Str} {pos' : Pos} (hN : X.N.Nodup) (hi : X.N[i]? = some x) (hx : Loc X.env.scope x) (he : PEW X e te) (hs : swapsWith e (some (.Name x pos')) pos.line X.env = pure false:=by rfl) (hf : X.fn x = true \/ X.env.scope.names.lookup x = some .local:=by first | exact .inl rfl | exact .inr rfl | assumption) :
  PSW X (.Assign [.Name x pos'] e pos) (qe te (aV i)):=⟨aW hN hi hx he.out hs hf⟩
theorem l0 {b : List Stmt} {R : TS -> Prop} (h : PSsW X b ts) (r : R ts) : ∃ t,PSs X b t /\ R t:=⟨ts,h.out,r⟩
end
end L2
set_option Elab.async false
set_option linter.all false
set_option maxRecDepth 100000
namespace L2
open PySem PySem.Spec PyProof.Rows
def CX1 (P : Program) (w : World) : CXT:=fun outer H s E e s' => ∃ (ea t C : Addr) (B : Heap) (H' : Hp),e = .ref ea /\ s'.os = s.os /\ AllBare s'.gens /\ Un (frs outer) [] H H' s.heap s'.heap /\ HOk P w H' B /\
 Heap.FlyingW B outer ea (.ref C) (.ref t) s'.heap /\ (∀ b o,s.heap.get? b = some o -> b ∉ frs outer -> ∃ o',B.get? b = some o') /\ H' ea = none /\ E (.ref C) none H'
section
variable {P : Program} {w : World} {K : PySem.W.Frag} {mg : Str -> Option Value} {base : Heap} {N : List Str} {qual : Str} {scope : Scope} {f : Addr} {cd : Value} {A : Around} {outer : List Env} {s : Shared} {H : Hp} {E : XK}
end
end L2
set_option Elab.async false
set_option linter.all false
set_option maxRecDepth 100000
namespace L2
open PySem PySem.Spec PyProof.Rows
section
variable {X : Cx} {x : Str} {j k : Nat} {ps : List Str} {dvs : List V} {sp : Sp} {p pos cpos : Pos} {e : Expr} {es : List Expr} {t : TA} {C : Addr} {E : XK}
end
structure DefX (P : Program) (w : World) (K : PySem.W.Frag) (mg : Str -> Option Value) (base : Heap) (x : Str) (k : Nat) (ps : List Str) (dvs : List V) (sp : Sp) : Prop where
 ex : ∃ (f : Addr) (fd : FuncData) (ds : List Value),mg x = some (.ref f) /\ PySem.W.keepIn K (.ref f) = true /\ Vals dvs ds /\ Binds K fd ps ds /\ FnOk P w K mg base (CX1 P w) k f fd ps sp
section
variable {X : Cx} {x : Str} {j k : Nat} {ps : List Str} {dvs : List V} {sp : Sp} {p pos : Pos} {e : Expr} {es : List Expr} {t : TA} {E : XK}
end
section
variable {P : Program} {w : World} {K : PySem.W.Frag} {mg : Str -> Option Value} {base : Heap}
end
section
variable {X : Cx} {e v1 v2 : Expr} {es rest : List Expr} {pos : Pos} {te : TE} {n : Nat}
end
end L2
set_option Elab.async false
set_option linter.all false
set_option maxRecDepth 100000
namespace L2
open PySem PySem.Spec PySem.W PySem.Builtin PySem.Builtin.Getset_descriptor
structure XCls (K : PySem.W.Frag) (C : Addr) : Prop where
 ga : findIn K (.ref C) "__getattribute__" = some (some (.builtin "BaseException.__getattribute__"))
 gt : findIn K (.ref C) "__getattr__" = some none
 cl : findIn K (.ref C) "__class__" = some (some (.builtin "object.__class__"))
 gg : specialIn K (.builtin "object.__class__") "__get__" = some (some (.builtin "getset_descriptor.__get__"))
 tk : takesIn K (.builtin "object.__class__") = some true
 ob : mroIn K C (.type "object") = some true
 be : mroIn K C (.type "BaseException") = some true
 ci : (clsIn K C).isSome = true
section
variable {prog : Program} {w : World} {A : Around} {E : Value -> Shared -> Prop} {s : Shared} {K : PySem.W.Frag} {ea C : Addr} {ob : Obj}
end
end L2
set_option Elab.async false
set_option linter.all false
set_option maxRecDepth 100000
namespace L2
open PySem PySem.Spec PyProof.Rows
section
variable {X : Cx} {pins : List (Addr × Obj)} {σ : St} {H : Hp} {s : Shared} {E : XK} {ea : Addr}
abbrev TX:=Ends -> XK -> St -> Hp -> Prop
end
section
variable {X : Cx} {x : Str} {j k : Nat} {ps : List Str} {dvs : List V} {sp : Sp} {p pos : Pos} {e : Expr} {es : List Expr} {t : TA} {E : XK}
end
section
variable {P : Program} {w : World} {fs : List Addr} {H H1 : Hp} {h h1 : Heap} {ea C : Addr} {o : HO}
end
section
variable {X : Cx} {pins : List (Addr × Obj)} {σ : St} {H : Hp} {s : Shared} {E : XK}
end
section
variable {X : Cx} {pins : List (Addr × Obj)} {σ : St} {H : Hp} {s s' : Shared} {E : XK} {C F : Addr} {i : Nat} {x n : Str} {np pos hpos : Pos} {body : List Stmt} {b₀ : Stmt} {suite : List Stmt} {tb : TX} {ts : TS}
end
end L2
set_option Elab.async false
set_option linter.all false
set_option maxRecDepth 100000
namespace L2
open PySem PySem.Spec PyProof.Rows
structure RoomH (k : Nat) (A : Around) : Prop where
 dp : A.depth + 3 * k + 5 < recursionLimit
 un : A.units + 16 * k + 200 < cLine
structure FnOkH (P : Program) (w : World) (K : PySem.W.Frag) (mg : Str -> Option Value) (base : Heap) (CX : CXT) (k : Nat) (f : Addr) (fd : FuncData) (ps : List Str) (sp : Sp) : Prop where
 len : ∀ vs H Q E,sp vs H Q E -> vs.length = ps.length
 run : ∀ (A : Around) (outer : List Env) (s : Shared) (H : Hp) (args : Args) (us : List Value) (vs : List V) (Q : VK) (E : XK),RoomH k A -> Env0 P w K mg base A outer s H -> BindsTo s fd args (ps.zip us) -> Vals vs us -> sp vs H Q E ->
  codeAny (model P w) A (.call (.ref f) args) (CR CX outer P w H s Q E) s
structure DefH (P : Program) (w : World) (K : PySem.W.Frag) (mg : Str -> Option Value) (base : Heap) (x : Str) (k : Nat) (ps : List Str) (dvs : List V) (sp : Sp) : Prop where
 ex : ∃ (f : Addr) (fd : FuncData) (ds : List Value),mg x = some (.ref f) /\ PySem.W.keepIn K (.ref f) = true /\ Vals dvs ds /\ Binds K fd ps ds /\ FnOkH P w K mg base CX0 k f fd ps sp
section
variable {P : Program} {w : World} {K : PySem.W.Frag} {mg : Str -> Option Value} {base : Heap}
end
section
variable {X : Cx} {x : Str} {j k : Nat} {ps : List Str} {dvs : List V} {sp : Sp} {p pos : Pos} {e : Expr} {es : List Expr} {t : TA}
end
section
variable {X : Cx}
end
end L2
set_option Elab.async false
set_option linter.all false
set_option maxRecDepth 100000
namespace L2
open PySem PySem.Spec PyProof.Rows
section
variable {X : Cx}
def rS : V -> Option Value
 | .ref a => some (.ref a)
 | .ty n => some (.type n)
 | _ => none
theorem pz {c : V} {cv u : Value} (e : rS c = some cv) (r : RelV c u) : u = cv:=by
 cases c <;> first | cases e
 ·exact r
 ·exact r
end
end L2
set_option Elab.async false
set_option linter.all false
set_option maxRecDepth 100000
namespace L2
open PySem PySem.Spec PyProof.Rows
section
variable {prog : Program} {w : World} {A : Around} {E : Value -> Shared -> Prop} {s : Shared} {it l S : Addr} {items : Array Value}
end
section
variable {X : Cx} {a : Expr} {ta : TA} {p p2 pos pos2 : Pos}
end
end L2
set_option Elab.async false
set_option linter.all false
set_option maxRecDepth 100000
namespace L2
open PySem PySem.Spec PyProof.Rows
section
variable {X : Cx}
end
end L2
set_option Elab.async false
set_option linter.all false
set_option maxRecDepth 100000
namespace L2
open PySem PySem.Spec PyProof.Rows
section
variable {X : Cx} {pins : List (Addr × Obj)} {σ : St} {H : Hp} {s : Shared} {N : List Str} {ix : List (Option Nat)} {scope : Scope} {fp : List Addr} {tg elt iter cond : Expr} {tc : TT} {pos spos : Pos} {J : It} {it : Addr} {tn : Nat -> Heap -> Prop} {g : TG} {te : TE} {wi : TI}
end
end L2
set_option Elab.async false
set_option linter.all false
set_option maxRecDepth 100000
set_option maxHeartbeats 4000000
namespace L2
open PySem PySem.Spec PyProof.Rows
open AutoSeq1 (wpAny_loadPart')
section
variable {prog : Program} {w : World} {A : Around} {E : Value -> Shared -> Prop} {s : Shared}
end
end L2
set_option Elab.async false
set_option linter.all false
set_option maxRecDepth 100000
set_option maxHeartbeats 4000000
namespace L2
open PySem PySem.Spec PyProof.Rows
section
variable {X : Cx} {pins : List (Addr × Obj)} {σ : St} {H : Hp} {s : Shared} {h' : Heap}
end
section
variable {X : Cx}
end
end L2
set_option Elab.async false
set_option linter.all false
set_option maxRecDepth 100000
set_option maxHeartbeats 4000000
namespace L2
open PySem PySem.Spec PyProof.Rows
section
variable {X : Cx} {a : Expr} {ta : TA} {p p2 pos pos2 : Pos}
end
structure DefMk (P : Program) (w : World) (K : PySem.W.Frag) (mg : Str -> Option Value) (base : Heap) (x : Str) (C : Addr) (k : Nat) (ps : List Str) (sp : Sp) : Prop where
 m : mg x = some (.ref C)
 cl : Cls K C
 ex : ∃ (f : Addr) (fd : FuncData),Mk K C f /\ Binds K fd ps [] /\ FnOk P w K mg base CX0 k f fd ps sp
theorem eR {X : Cx} {x : Str} {C : Addr} {j k : Nat} {ps : List Str} {sp : Sp} {p pos : Pos} {e : Expr} {es : List Expr} {t : TA} (G : DefMk X.prog X.w X.K X.mg X.base x C k ps sp) (hr : Room j X.A) (ha : PA X (e :: es) t) (hkj : k + 1 <= j:=by decide) (hg : Gl X x:=by rfl) (hdb : (x == ("__debug__" : Str)) = false:=by decide)
  (he : starEach (e :: es) X.env = (false,eval e X.env) :: starEach es X.env:=by rfl) (hpl : (backTo pos (starEach es X.env)).any (·.1) = false:=by rfl) : PE X (.Call (.Name x p) (e :: es) [] pos) (qg C sp [] E0 t):=by
 obtain ⟨f,fd,M,hb,F⟩:=G.ex
 exact qM M F (hr.mono hkj) hg G.m hb .nil p5 ha hdb he hpl
structure DefMe (P : Program) (w : World) (K : PySem.W.Frag) (mg : Str -> Option Value) (base : Heap) (C : Addr) (m : Str) (k : Nat) (ps : List Str) (sp : Sp) : Prop where
 cl : Cls K C
 ex : ∃ (f : Addr) (fd : FuncData),Meth K C m f /\ Binds K fd ps [] /\ FnOk P w K mg base CX0 k f fd ps sp
theorem aK {X : Cx} {m : Str} {C : Addr} {j k : Nat} {ps : List Str} {sp : Sp} {apos pos : Pos} {o e : Expr} {es : List Expr} {ta : TE} {t : TA} {pl : Sem Bool} (G : DefMe X.prog X.w X.K X.mg X.base C m k ps sp) (hr : Room j X.A) (ho : PE X o ta) (ha : PA X (e :: es) t) (hkj : k <= j:=by decide)
  (hst : starEach (e :: es) X.env = (false,eval e X.env) :: starEach es X.env:=by rfl) (hpl : (backTo pos (starEach es X.env)).any (·.1) = false:=by rfl)
  (ht : eval (.Call (.Attribute o m apos) (e :: es) [] pos) X.env = (do
   let ov <- eval o X.env
   standAt apos.atName
   let (f,first) <- holding [ov] (getMethod ov m pl)
   callWith pos f first (backTo pos (starEach (e :: es) X.env)) (backToKw pos (keywordEach [] X.env))):=by rfl) :
  PE X (.Call (.Attribute o m apos) (e :: es) [] pos) (bS C m sp [] E0 ta t):=by
 obtain ⟨f,fd,hm,hb,F⟩:=G.ex
 exact qN ho G.cl hm F (hr.mono hkj) hb .nil p5 ha hst hpl ht
end L2
set_option Elab.async false
set_option linter.all false
set_option maxRecDepth 100000
set_option maxHeartbeats 4000000
namespace L2
open PySem PySem.Spec PyProof.Rows
section
variable {prog : Program} {w : World} {A : Around} {E : Value -> Shared -> Prop} {s : Shared}
structure ZipFar (z TI TO i1 i2 : Addr) (fp1 fp2 : List Addr) : Prop where
 TIz : TI ≠ z
 TOz : TO ≠ z
 TITO : TI ≠ TO
 i1z : i1 ≠ z
 i2z : i2 ≠ z
 TIi1 : TI ≠ i1
 TIi2 : TI ≠ i2
 TOi1 : TO ≠ i1
 TOi2 : TO ≠ i2
 i12 : i1 ≠ i2
 z1 : z ∉ fp1
 TO1 : TO ∉ fp1
 i21 : i2 ∉ fp1
 z2 : z ∉ fp2
 TO2 : TO ∉ fp2
 i12' : i1 ∉ fp2
variable {z TI TO i1 i2 : Addr} {fp1 fp2 : List Addr} {n1 n2 k : Nat} {P1 P2 : Nat -> Value -> Prop} {St1 St2 : Nat -> Heap -> Prop} {a b : Value}
theorem pd {Q : Value -> Shared -> Prop} (D1 : Draws prog w A.in1 i1 fp1 n1 P1 St1) (D2 : Draws prog w A.in1 i2 fp2 n2 P2 St2) (F : ZipFar z TI TO i1 i2 fp1 fp2)
  (hz : IsZip s.heap z TI TO .none) (hTI : IsPair s.heap TI (.ref i1) (.ref i2)) (hTO : IsPair s.heap TO a b) (s1 : St1 k s.heap) (s2 : St2 k s.heap) (l1 : k < n1) (l2 : k < n2)
  (hQ : ∀ x y h' tk,P1 k x -> P2 k y -> IsZip h' z TI TO (rawInt s.heap.objs.size) -> IsPair h' TO x y -> St1 (k + 1) h' -> St2 (k + 1) h' -> IsPair h' s.heap.objs.size x y ->
   (∀ c o,c ≠ z -> c ≠ TO -> c ≠ i1 -> c ≠ i2 -> s.heap.get? c = some o -> h'.get? c = some o) -> Q (.ref s.heap.objs.size) { s with heap:=h',toks:=tk }) :
  wpAny (model prog w) A.in1 (Builtin.«zip.__next__» ⟨[.ref z],[]⟩) (fun fin s' => ∃ v,fin = .done (.ret v) /\ Q v s') E s:=by
 obtain ⟨hp,g,d,tk0,os⟩:=s
 show wpAny _ _ (field (.ref z) 2 >>= _) _ _ _
 refine wpAny_bind (wpAny_field hz rfl (x:=.bool false) rfl ?_)
 show wpAny _ _ (field (.ref z) 3 >>= _) _ _ _
 refine wpAny_bind (wpAny_field hz rfl (x:=.ref TI) rfl ?_)
 refine wpAny_bind (wpAny_seqItems hTI rfl ?_)
 show wpAny _ _ (Builtin.SmallTypes.ownedTupleIsFree (.ref z) >>= _) _ _ _
 refine wpAny_bind ?_
 unfold Builtin.SmallTypes.ownedTupleIsFree
 refine wpAny_bind (wpAny_field hz rfl (x:=.none) rfl (wpAny_pure ?_))
 simp only [if_true]
 refine wpAny_bind (wpAny_rule ?_)
 refine wpAny_bind (wpAny_field hz rfl (x:=.ref TO) rfl ?_)
 refine wpAny_bind (wpAny_setField_rec hz (by simp) fun h₁ hz₁ hs₁ => ?_)
 replace hz₁ : IsZip h₁ z TI TO .ellipsis:=hz₁
 replace hs₁ : Heap.SameBut z hp h₁:=hs₁
 refine wpAny_bind ?_
 simp only [List.zipIdx_cons,List.zipIdx_nil,List.forIn_cons,List.forIn_nil]
 refine wpAny_bind (wpAny_bind (wpAny_onRaise ?_))
 show wpAny _ _ (Builtin.SmallTypes.nextOf (.ref i1) >>= _) _ _ _
 have q1 : St1 k h₁:=D1.frame _ _ _ s1 fun c hc o e => hs₁.extBut c o (fun x => F.z1 (x ▸ hc)) e
 refine wpAny_bind (D1.item k _ _ _ l1 q1 fun x h₂ tk1 hx q2 hs₂ => wpAny_pure ?_)
 replace hs₂ : Heap.SameBut i1 h₁ h₂:=hs₂
 have hTO₂ : IsPair h₂ TO a b:=hs₂.extBut _ _ F.TOi1 (hs₁.extBut _ _ F.TOz hTO)
 refine wpAny_bind (wpAny_seqItems (s:=⟨h₂,g,d,tk1,os⟩) hTO₂ rfl ?_)
 refine wpAny_bind (wpAny_updateSeq_pair (s:=⟨h₂,g,d,tk1,os⟩) hTO₂ fun h₃ hTO₃ hs₃ => ?_)
 replace hTO₃ : IsPair h₃ TO x b:=hTO₃
 replace hs₃ : Heap.SameBut TO h₂ h₃:=hs₃
 refine wpAny_bind (wpAny_letGo (wpAny_pure ?_))
 refine wpAny_bind (wpAny_bind (wpAny_onRaise ?_))
 show wpAny _ _ (Builtin.SmallTypes.nextOf (.ref i2) >>= _) _ _ _
 have r3 : St2 k h₃:=D2.frame _ _ _ s2 fun c hc o e => hs₃.extBut c o (fun x => F.TO2 (x ▸ hc)) (hs₂.extBut c o (fun x => F.i12' (x ▸ hc)) (hs₁.extBut c o (fun x => F.z2 (x ▸ hc)) e))
 refine wpAny_bind (D2.item k _ _ _ l2 r3 fun y h₄ tk2 hy r4 hs₄ => wpAny_pure ?_)
 replace hs₄ : Heap.SameBut i2 h₃ h₄:=hs₄
 have hTO₄ : IsPair h₄ TO x b:=hs₄.extBut _ _ F.TOi2 hTO₃
 refine wpAny_bind (wpAny_seqItems (s:=⟨h₄,g,d,tk2,os⟩) hTO₄ rfl ?_)
 refine wpAny_bind (wpAny_updateSeq_pair (s:=⟨h₄,g,d,tk2,os⟩) hTO₄ fun h₅ hTO₅ hs₅ => ?_)
 replace hTO₅ : IsPair h₅ TO x y:=hTO₅
 replace hs₅ : Heap.SameBut TO h₄ h₅:=hs₅
 refine wpAny_bind (wpAny_letGo (wpAny_pure (wpAny_pure ?_)))
 refine wpAny_bind (wpAny_seqItems (s:=⟨h₅,g,d,tk2,os⟩) hTO₅ rfl ?_)
 refine wpAny_bind (wpAny_newTuple ?_)
 have hsz : h₅.objs.size = hp.objs.size:=by rw [hs₅.1,hs₄.1,hs₃.1,hs₂.1,hs₁.1]
 have hz₅ : IsZip h₅ z TI TO .ellipsis:=hs₅.extBut _ _ F.TOz.symm (hs₄.extBut _ _ F.i2z.symm (hs₃.extBut _ _ F.TOz.symm (hs₂.extBut _ _ F.i1z.symm hz₁)))
 have hk₅ : ∀ c o,c ≠ z -> c ≠ TO -> c ≠ i1 -> c ≠ i2 -> hp.get? c = some o -> h₅.get? c = some o:=fun c o c1 c2 c3 c4 e =>
  hs₅.extBut _ _ c2 (hs₄.extBut _ _ c4 (hs₃.extBut _ _ c2 (hs₂.extBut _ _ c3 (hs₁.extBut _ _ c1 e))))
 have q5 : St1 (k + 1) h₅:=D1.frame _ _ _ q2 fun c hc o e => hs₅.extBut c o (fun x => F.TO1 (x ▸ hc)) (hs₄.extBut c o (fun x => F.i21 (x ▸ hc)) (hs₃.extBut c o (fun x => F.TO1 (x ▸ hc)) e))
 have r5 : St2 (k + 1) h₅:=D2.frame _ _ _ r4 fun c hc o e => hs₅.extBut c o (fun x => F.TO2 (x ▸ hc)) e
 have hzlt : z < h₅.objs.size:=Heap.lt_size hz₅
 show wpAny _ _ (Builtin.SmallTypes.ownedTupleHandOut (.ref z) (.ref h₅.objs.size) >>= _) _ _ _
 refine wpAny_bind ?_
 unfold Builtin.SmallTypes.ownedTupleHandOut
 have hz₆ : IsZip (h₅.push { cls:=.type "tuple",data:=.seq #[x,y] }) z TI TO .ellipsis:=Heap.get?_push_of_some _ hz₅
 refine wpAny_bind (wpAny_setField_rec (s:=⟨h₅.push { cls:=.type "tuple",data:=.seq #[x,y] },g,d,tk2,os⟩) hz₆ (by simp) fun h₇ hz₇ hs₇ => ?_)
 replace hz₇ : IsZip h₇ z TI TO (rawInt h₅.objs.size):=hz₇
 replace hs₇ : Heap.SameBut z (h₅.push { cls:=.type "tuple",data:=.seq #[x,y] }) h₇:=hs₇
 refine wpAny_setField_rec (s:=⟨h₇,g,d,tk2,os⟩) hz₇ (by simp) fun h₈ hz₈ hs₈ => ?_
 replace hz₈ : IsZip h₈ z TI TO (rawInt h₅.objs.size):=hz₈
 replace hs₈ : Heap.SameBut z h₇ h₈:=hs₈
 have up : ∀ c o,c ≠ z -> h₅.get? c = some o -> h₈.get? c = some o:=fun c o c1 e => hs₈.extBut _ _ c1 (hs₇.extBut _ _ c1 (Heap.get?_push_of_some _ e))
 have hT₈ : IsPair h₈ h₅.objs.size x y:=hs₈.extBut _ _ (Nat.ne_of_gt hzlt) (hs₇.extBut _ _ (Nat.ne_of_gt hzlt) (Heap.get?_push_size _ rfl))
 rw [hsz] at hz₈ hT₈
 refine wpAny_pure ⟨_,rfl,?_⟩
 show Q (.ref h₅.objs.size) _
 rw [hsz]
 exact hQ x y h₈ tk2 hx hy hz₈ (up _ _ F.TOz hTO₅) (D1.frame _ _ _ q5 fun c hc o e => up c o (fun x => F.z1 (x ▸ hc)) e) (D2.frame _ _ _ r5 fun c hc o e => up c o (fun x => F.z2 (x ▸ hc)) e) hT₈ fun c o c1 c2 c3 c4 e => up c o c1 (hk₅ c o c1 c2 c3 c4 e)
theorem qo {Q : PySem.Fin -> Shared -> Prop} (D1 : Draws prog w A.in1 i1 fp1 n1 P1 St1) (F : ZipFar z TI TO i1 i2 fp1 fp2)
  (hz : IsZip s.heap z TI TO .none) (hTI : IsPair s.heap TI (.ref i1) (.ref i2)) (s1 : St1 n1 s.heap)
  (hE : ∀ h' e,(∀ c o,c ≠ z -> c ≠ TO -> c ≠ i1 -> c ≠ i2 -> s.heap.get? c = some o -> h'.get? c = some o) -> (∃ o,h'.get? e = some o /\ o.cls = .type "StopIteration") -> E (.ref e) { s with heap:=h' }) :
  wpAny (model prog w) A.in1 (Builtin.«zip.__next__» ⟨[.ref z],[]⟩) Q E s:=by
 obtain ⟨hp,g,d,tk0,os⟩:=s
 show wpAny _ _ (field (.ref z) 2 >>= _) _ _ _
 refine wpAny_bind (wpAny_field hz rfl (x:=.bool false) rfl ?_)
 show wpAny _ _ (field (.ref z) 3 >>= _) _ _ _
 refine wpAny_bind (wpAny_field hz rfl (x:=.ref TI) rfl ?_)
 refine wpAny_bind (wpAny_seqItems hTI rfl ?_)
 show wpAny _ _ (Builtin.SmallTypes.ownedTupleIsFree (.ref z) >>= _) _ _ _
 refine wpAny_bind ?_
 unfold Builtin.SmallTypes.ownedTupleIsFree
 refine wpAny_bind (wpAny_field hz rfl (x:=.none) rfl (wpAny_pure ?_))
 simp only [if_true]
 refine wpAny_bind (wpAny_rule ?_)
 refine wpAny_bind (wpAny_field hz rfl (x:=.ref TO) rfl ?_)
 refine wpAny_bind (wpAny_setField_rec hz (by simp) fun h₁ hz₁ hs₁ => ?_)
 replace hz₁ : IsZip h₁ z TI TO .ellipsis:=hz₁
 replace hs₁ : Heap.SameBut z hp h₁:=hs₁
 refine wpAny_bind ?_
 simp only [List.zipIdx_cons,List.zipIdx_nil,List.forIn_cons,List.forIn_nil]
 refine wpAny_bind (wpAny_bind (wpAny_onRaise ?_))
 show wpAny _ _ (Builtin.SmallTypes.nextOf (.ref i1) >>= _) _ _ _
 have q1 : St1 n1 h₁:=D1.frame _ _ _ s1 fun c hc o e => hs₁.extBut c o (fun x => F.z1 (x ▸ hc)) e
 refine wpAny_bind (D1.done _ _ _ q1 fun h₂ e hs₂ he => ?_)
 obtain ⟨oe,hoe,hce⟩:=he
 have hz₂ : IsZip h₂ z TI TO .ellipsis:=hs₂ _ _ F.i1z.symm hz₁
 have hez : e ≠ z:=fun x => by subst x; rw [hz₂] at hoe; cases hoe; simp at hce
 exact wpAny_setField_rec (s:=⟨h₂,g,d,tk0,os⟩) hz₂ (by simp) fun h₃ _ hs₃ => hE h₃ e (fun c o c1 _ c3 _ x => Heap.SameBut.extBut hs₃ _ _ c1 (hs₂ _ _ c3 (hs₁.extBut _ _ c1 x))) ⟨oe,Heap.SameBut.extBut hs₃ _ _ hez hoe,hce⟩
end
end L2
set_option Elab.async false
set_option linter.all false
set_option maxRecDepth 100000
set_option maxHeartbeats 4000000
namespace L2
open PySem PySem.Spec PyProof.Rows
section
variable {X : Cx} {pins : List (Addr × Obj)} {σ : St} {H : Hp} {s : Shared} {h' : Heap}
theorem Inv.turnedL {t' : Nat} {ch : List Addr} (I : Inv X pins σ H s) (k : ∀ b o,b ∉ ch -> s.heap.get? b = some o -> h'.get? b = some o) (fc : ∀ b ∈ ch,jd X pins H b) (hb' : ∀ b ∈ ch,∀ o,s.heap.get? b = some o -> True) : Inv X pins σ H { s with heap:=h',toks:=t' }:=by
 have nn : ∀ b u,H b = some u -> b ∉ ch:=fun b u q z => by
  have:=(fc b z).1
  rw [q] at this
  cases this
 refine I.step (g' := s.gens) (d' := s.drawn) (ch:=ch) (fun b hb => ?_) (fun b o _ _ hc q _ => k b o hc q) (fun b o _ _ hc q _ => ⟨o.slots,k b o hc q⟩) (fun _ _ _ _ n => n)
  (fun b o hc q => ⟨o,k b o hc q⟩) (fun _ _ q => q) (fun _ _ _ q => q) (fun b ps q => ⟨#[],by rw [q]; simp⟩) (fun m hm => ?_) (fun b u q => ?_) I.bare
 ·exact ⟨(fc b hb).2.2.2.1,(fc b hb).2.1,(fc b hb).2.2.2.2.1,(fc b hb).2.2.2.2.2⟩
 ·obtain ⟨o,es,ep,ho,r⟩:=hm
  exact ⟨o,es,ep,k _ o (fun z => (fc _ z).2.1 rfl) ho,r⟩
 ·refine (I.hok b u q).stay (fun c v hc z => k c v ?_ z) (fun _ z => z) fun _ _ z => z
  rcases hc with z | z
  ·rw [z]; exact nn b u q
  ·exact nn c _ z
end
theorem pF {z TI TO i1 i2 a b : Addr} (h1 : TI ≠ z) (h2 : TO ≠ z) (h3 : TI ≠ TO) (h4 : i1 ≠ z) (h5 : i2 ≠ z) (h6 : TI ≠ i1) (h7 : TI ≠ i2) (h8 : TO ≠ i1) (h9 : TO ≠ i2) (h10 : i1 ≠ i2) (ha : ∀ c ∈ [z,TO,i1,i2],a ≠ c) (hb : ∀ c ∈ [z,TO,i1,i2],b ≠ c) :
  ZipFar z TI TO i1 i2 [i1,a] [i2,b]:=by
 have a1:=ha z (by simp)
 have a2:=ha TO (by simp)
 have a3:=ha i2 (by simp)
 have b1:=hb z (by simp)
 have b2:=hb TO (by simp)
 have b3:=hb i1 (by simp)
 exact ⟨h1,h2,h3,h4,h5,h6,h7,h8,h9,h10,by simp [Ne.symm h4,Ne.symm a1],by simp [h8,Ne.symm a2],by simp [Ne.symm h10,Ne.symm a3],by simp [Ne.symm h5,Ne.symm b1],by simp [h9,Ne.symm b2],by simp [h10,Ne.symm b3]⟩
section
variable {X : Cx}
theorem qZ : bootBuiltins "zip" = some (.type "zip"):=by decide +kernel
end
end L2
set_option Elab.async false
set_option linter.all false
set_option maxRecDepth 100000
set_option maxHeartbeats 4000000
namespace L2
open PySem PySem.Spec PyProof.Rows
inductive EqN (K : PySem.W.Frag) (H : Hp) : V -> V -> Prop where
 | non : EqN K H .non .non
 | tup {a b : Addr} {ns : List Int} (ha : SqT K H a (ns.map V.int)) (hb : SqT K H b (ns.map V.int)) : EqN K H (.ref a) (.ref b)
section
variable {X : Cx} {pins : List (Addr × Obj)} {σ : St} {H : Hp} {s : Shared}
end
end L2
set_option Elab.async false
set_option linter.all false
set_option maxRecDepth 100000
set_option maxHeartbeats 4000000
namespace L2
open PySem PySem.Spec PyProof.Rows
section
variable {X : Cx}
end
end L2
set_option Elab.async false
set_option linter.all false
set_option maxRecDepth 100000
set_option maxHeartbeats 4000000
namespace L2
open PySem PySem.Spec PyProof.Rows
theorem qc {B : St} {t u a b : Option V} : ((((B.set 0 t).set 1 u).set 0 a).set 1 b) = (B.set 0 a).set 1 b:=by
 rw [List.set_comm u a (l:=B.set 0 t) (by decide : (1 : Nat) ≠ 0),List.set_set,List.set_set]
end L2
set_option Elab.async false
set_option linter.all false
set_option maxRecDepth 100000
namespace L2
open PySem PySem.Spec PyProof.Rows
section
variable {X : Cx} {pins : List (Addr × Obj)} {σ : St} {H H' : Hp} {s : Shared} {h' : Heap}
end
section
variable {X : Cx}
end
end L2
set_option Elab.async false
set_option linter.all false
set_option maxRecDepth 100000
namespace L2
open PySem PySem.Spec PyProof.Rows
section
variable {X : Cx}
end
end L2
set_option Elab.async false
set_option linter.all false
set_option maxRecDepth 100000
namespace L2
open PySem PySem.Spec PyProof.Rows
section
variable {X : Cx}
end
end L2
namespace PySem
open PyProof.Rows
namespace F
end F
section
variable {prog : Program} {w : World} {A : Around} {E : Value -> Shared -> Prop} {s : Shared}
end
end PySem
namespace L2
open PySem PySem.Spec PyProof.Rows
section
variable {X : Cx} {tg : Expr}
end
end L2
set_option Elab.async false
set_option linter.all false
set_option maxRecDepth 100000
set_option maxHeartbeats 4000000
namespace L2
open PySem PySem.Spec PyProof.Rows
def pe (K : PySem.W.Frag) (a b : Addr) : It:=
 ⟨fun i H => ∃ xs ys x y,SqL K H a xs /\ SqL K H b ys /\ xs[i]? = some x /\ ys[i]? = some y,
  fun i H v H' => ∃ T x y,v = .ref T /\ H T = none /\ H' = upd H T (.tup [x,y]) /\ (∀ xs,SqL K H a xs -> xs[i]? = some x) /\ ∀ ys,SqL K H b ys -> ys[i]? = some y,
  fun i H => ∃ xs,SqL K H a xs /\ xs.length = i⟩
theorem o9 {P : Program} {w : World} {K : PySem.W.Frag} {elts : List Expr} {x1 : _} {pos : Pos} (a b z TI TO i1 i2 : Addr) (h1 : TI ≠ z) (h2 : TO ≠ z) (h3 : TI ≠ TO) (h4 : i1 ≠ z) (h5 : i2 ≠ z) (h6 : TI ≠ i1) (h7 : TI ≠ i2) (h8 : TO ≠ i1) (h9 : TO ≠ i2) (h10 : i1 ≠ i2)
  (ha : ∀ c ∈ [z,TI,TO,i1,i2],a ≠ c) (hb : ∀ c ∈ [z,TI,TO,i1,i2],b ≠ c) :
  Turn P w K (.Tuple elts x1 pos) (pe K a b) [z,TI,TO,i1,i2] z (fun i h => IsZip h z TI TO .none /\ IsPair h TI (.ref i1) (.ref i2) /\ (∃ u v,IsPair h TO u v) /\ h.IsListIter i1 a i /\ h.IsListIter i2 b i) where
 mem:=by simp
 obj:=fun i h st c hc => by
  obtain ⟨hz,hTI,⟨u,v,hTO⟩,hi1,hi2⟩:=st
  simp only [List.mem_cons,List.not_mem_nil,or_false] at hc
  rcases hc with rfl | rfl | rfl | rfl | rfl
  ·exact ⟨_,hz,fun v z => by have z' : Data.fields _ = Data.cell v:=z; cases z'⟩
  ·exact ⟨_,hTI,fun v z => by have z' : Data.seq _ _ = Data.cell v:=z; cases z'⟩
  ·exact ⟨_,hTO,fun v z => by have z' : Data.seq _ _ = Data.cell v:=z; cases z'⟩
  ·obtain ⟨o,e,c,d⟩:=hi1
   exact ⟨o,e,fun v z => by rw [d] at z; cases z⟩
  ·obtain ⟨o,e,c,d⟩:=hi2
   exact ⟨o,e,fun v z => by rw [d] at z; cases z⟩
 keep:=fun i h h' st k => by
  obtain ⟨hz,hTI,⟨u,v,hTO⟩,hi1,hi2⟩:=st
  exact ⟨k z (by simp) _ hz,k TI (by simp) _ hTI,⟨u,v,k TO (by simp) _ hTO⟩,hi1.at fun o e => k i1 (by simp) o e,hi2.at fun o e => k i2 (by simp) o e⟩
 item:=by
  intro X hP hw hK hc i pins s σ H E I hf st hg
  subst hP hw hK
  obtain ⟨xs,ys,x,y,hq1,hq2,hx,hy⟩:=hg
  obtain ⟨its,rv,p1',_⟩:=I.list hq1
  have p1 : s.heap.IsList a its.toArray:=p1'.isList
  obtain ⟨jts,rw',p2',_⟩:=I.list hq2
  have p2 : s.heap.IsList b jts.toArray:=p2'.isList
  obtain ⟨u,hu,ru⟩:=rv.get hx
  obtain ⟨v,hv,rv2⟩:=rw'.get hy
  obtain ⟨hz,hTI,⟨o1,o2,hTO⟩,hi1,hi2⟩:=st
  have FF:=pF (a:=a) (b:=b) h1 h2 h3 h4 h5 h6 h7 h8 h9 h10 (fun c hc => ha c (by simp only [List.mem_cons,List.not_mem_nil,or_false] at hc ⊢; rcases hc with h | h | h | h <;> simp [h])) (fun c hc => hb c (by simp only [List.mem_cons,List.not_mem_nil,or_false] at hc ⊢; rcases hc with h | h | h | h <;> simp [h]))
  have l1 : i < its.toArray.size:=by have : i < its.length:=(List.getElem?_eq_some_iff.mp hu).1; simpa using this
  have l2 : i < jts.toArray.size:=by have : i < jts.length:=(List.getElem?_eq_some_iff.mp hv).1; simpa using this
  have hh : X.A.in1.handled = none:=I.ok.hd hc
  have D1:=Draws.list (prog:=X.prog) (w:=X.w) (A:=X.A.in1) hh i1 a (ha i1 (by simp)) its.toArray
  have D2:=Draws.list (prog:=X.prog) (w:=X.w) (A:=X.A.in1) hh i2 b (hb i2 (by simp)) jts.toArray
  have hT : s.TypeIs (.ref z) "zip" := ⟨_,hz,rfl⟩
  unfold pyNext
  refine wpAny_bind (wpAny_attempt (wpAny_callSpecial?_slot (name:=Str.ofString "__next__") hT F.slot_zip_next (wpAny_call_entry F.slot_zip_next hT F.entry_zip_next ?_ (F.args_zip_next_1 _))))
  refine pd D1 D2 FF hz hTI hTO ⟨hi1,p1⟩ ⟨hi2,p2⟩ l1 l2 fun x' y' h' tk hx' hy' a1 a2 a3 a4 a5 a7 => wpAny_pure ?_
  have ex : x' = u:=by
   have : its.toArray[i]? = some u:=by simpa using hu
   rw [this] at hx'
   exact (Option.some.inj hx').symm
  have ey : y' = v:=by
   have : jts.toArray[i]? = some v:=by simpa using hv
   rw [this] at hy'
   exact (Option.some.inj hy').symm
  subst ex ey
  refine ⟨_,rfl,wpAny_letOwnedTupleGo_zip (s:={ s with heap:=h',toks:=tk }) a1 fun h2' hz' hs' => ?_⟩
  have fr : H s.heap.objs.size = none:=I.hok.fresh (Nat.le_refl _)
  have I1 : Inv X pins σ (upd H s.heap.objs.size (.tup [x,y])) { s with heap:=s.heap.push { cls:=.type "tuple",data:=.seq #[x',y'] },toks:=tk }:=
   I.laid (o:=.tup [x,y]) (fun b ob q => Heap.get?_push_of_some _ q) (Nat.le_refl _) ⟨by show 2 <= sizeLine; decide,[x',y'],.cons ru (.cons rv2 .nil),⟨_,Heap.get?_push_size _ rfl,rfl,_,rfl⟩⟩
  have lt : ∀ c ∈ [z,TI,TO,i1,i2],c < s.heap.objs.size:=fun c hc => by
   simp only [List.mem_cons,List.not_mem_nil,or_false] at hc
   rcases hc with rfl | rfl | rfl | rfl | rfl
   ·exact Heap.lt_size hz
   ·exact Heap.lt_size hTI
   ·exact Heap.lt_size hTO
   ·obtain ⟨o,e1,_⟩:=hi1; exact Heap.lt_size e1
   ·obtain ⟨o,e1,_⟩:=hi2; exact Heap.lt_size e1
  have f2 : ∀ c ∈ [z,TI,TO,i1,i2],jd X pins (upd H s.heap.objs.size (.tup [x,y])) c:=fun c hc => by
   refine ⟨?_,(hf c hc).2⟩
   rw [aw (Nat.ne_of_lt (lt c hc))]
   exact (hf c hc).1
  have I2 : Inv X pins σ (upd H s.heap.objs.size (.tup [x,y])) { s with heap:=h2',toks:=tk }:=by
   refine Inv.turnedL (s:={ s with heap:=s.heap.push { cls:=.type "tuple",data:=.seq #[x',y'] },toks:=tk }) (t' := tk) (h' := h2') (ch:=[z,TI,TO,i1,i2]) I1 (fun c o hc q => ?_) f2 (fun _ _ _ _ => trivial)
   simp only [List.mem_cons,List.not_mem_nil,or_false,not_or] at hc
   refine (hs'.2 c hc.1).trans ?_
   rcases Heap.get?_push_cases (show (s.heap.push { cls:=.type "tuple",data:=.seq #[x',y'] }).get? c = some o from q) with ⟨rfl,rfl⟩ | q
   ·exact a5
   ·exact a7 c o hc.1 hc.2.2.1 hc.2.2.2.1 hc.2.2.2.2 q
  refine ⟨.ref s.heap.objs.size,_,I2,rfl,⟨s.heap.objs.size,x,y,rfl,fr,rfl,fun ys hy => by rw [I.list_inj hy hq1]; exact hx,fun ys hy' => by rw [I.list_inj hy' hq2]; exact hy⟩,⟨hz',?_,⟨x',y',?_⟩,?_,?_⟩,fun b hb => (f2 b hb).1⟩
  ·exact (hs'.2 TI h1).trans (a7 _ _ h1 h3 h6 h7 hTI)
  ·exact (hs'.2 TO h2).trans a2
  ·exact a3.1.at fun o e => (hs'.2 i1 h4).trans e
  ·exact a4.1.at fun o e => (hs'.2 i2 h5).trans e
 done:=by
  intro X hP hw hK hc i pins s σ H E I hf st hg
  subst hP hw hK
  obtain ⟨xs,hq,hx⟩:=hg
  obtain ⟨its,rv,p1',_⟩:=I.list hq
  have p1 : s.heap.IsList a its.toArray:=p1'.isList
  obtain ⟨hz,hTI,⟨o1,o2,hTO⟩,hi1,hi2⟩:=st
  have FF:=pF (a:=a) (b:=b) h1 h2 h3 h4 h5 h6 h7 h8 h9 h10 (fun c hc => ha c (by simp only [List.mem_cons,List.not_mem_nil,or_false] at hc ⊢; rcases hc with h | h | h | h <;> simp [h])) (fun c hc => hb c (by simp only [List.mem_cons,List.not_mem_nil,or_false] at hc ⊢; rcases hc with h | h | h | h <;> simp [h]))
  have hh : X.A.in1.handled = none:=I.ok.hd hc
  have D1:=Draws.list (prog:=X.prog) (w:=X.w) (A:=X.A.in1) hh i1 a (ha i1 (by simp)) its.toArray
  have hl:=rv.length
  have ei : i = its.toArray.size:=by simp; omega
  rw [ei] at hi1
  have hT : s.TypeIs (.ref z) "zip" := ⟨_,hz,rfl⟩
  unfold pyNext
  refine wpAny_bind (wpAny_attempt (wpAny_callSpecial?_slot (name:=Str.ofString "__next__") hT F.slot_zip_next (wpAny_call_entry F.slot_zip_next hT F.entry_zip_next ?_ (F.args_zip_next_1 _))))
  refine qo D1 FF hz hTI ⟨hi1,p1⟩ fun h' e hk he => ?_
  obtain ⟨o,ho,hcl⟩:=he
  refine wpAny_bind (wpAny_isInstance (T := "StopIteration") (b:=true) ⟨o,ho,hcl⟩ isSubtype_stop ?_)
  refine wpAny_pure ⟨rfl,I.turnedL (t' := s.toks) (ch:=[z,TI,TO,i1,i2]) (fun c o hc q => ?_) hf (fun _ _ _ _ => trivial)⟩
  simp only [List.mem_cons,List.not_mem_nil,or_false,not_or] at hc
  exact hk c o hc.1 hc.2.2.1 hc.2.2.2.1 hc.2.2.2.2 q
 self:=fun _ _ _ _ _ st h => wpAny_pyIter_zip st.1 h
section
variable {X : Cx}
def rW (K : PySem.W.Frag) (tl : TA) : TI:=fun σ H R => tl σ H fun vs H1 => ∃ a b,vs = [.ref a,.ref b] /\ (∃ xs,SqL K H1 a xs) /\ (∃ ys,SqL K H1 b ys) /\ R (pe K a b) H1
theorem gC {elts : List Expr} {x1 : _} {tpos : Pos} {l r : Expr} {tl : TA} {p pos : Pos} (hg : Gl X "zip") (hm : X.mg "zip" = none) (hl : PA X [l,r] tl) (hs : starEach [l,r] X.env = [(false,eval l X.env),(false,eval r X.env)]:=by rfl) (hs2 : starEach [r] X.env = [(false,eval r X.env)]:=by rfl) :
  PI X (.Tuple elts x1 tpos) (.Call (.Name "zip" p) [l,r] [] pos) (rW X.K tl):=by
 intro pins s σ H R I h
 refine Call_ (kg I hg hm qZ (PyProof.Rows.callWith_type1 (thn (hl pos pins s σ H _ I h) fun us s1 ⟨vs,H1,I1,r1,q1⟩ => ?_) (by rw [hs,hs2]) (by rw [hs2]; rfl)))
 obtain ⟨a,b,e,⟨xs,hq1⟩,⟨ys,hq2⟩,q⟩:=q1
 subst e
 cases r1 with
 | cons ra rr =>
  cases rr with
  | cons rb rr =>
   cases rr
   cases ra
   cases rb
   obtain ⟨its,rv,p1',_⟩:=I1.list hq1
   have p1 : s1.heap.IsList a its.toArray:=p1'.isList
   obtain ⟨jts,rv2,p2',_⟩:=I1.list hq2
   have p2 : s1.heap.IsList b jts.toArray:=p2'.isList
   have la : a < s1.heap.objs.size:=by obtain ⟨o,e,_⟩:=p1; exact Heap.lt_size e
   have lb : b < s1.heap.objs.size:=by obtain ⟨o,e,_⟩:=p2; exact Heap.lt_size e
   refine call_zip_2 p1 p2 fun h' g5 g3 g4 g1 g2 _ hk => ?_
   refine wpAny_pyIter_zip g5 ?_
   have le : ∀ c ∈ [s1.heap.objs.size + 4,s1.heap.objs.size + 2,s1.heap.objs.size + 3,s1.heap.objs.size,s1.heap.objs.size + 1],s1.heap.objs.size <= c:=fun c hc => by
    simp only [List.mem_cons,List.not_mem_nil,or_false] at hc
    rcases hc with rfl | rfl | rfl | rfl | rfl <;> first | exact Nat.le_refl _ | exact Nat.le_add_right _ _
   have ad : ∀ {i j : Nat},i ≠ j -> s1.heap.objs.size + i ≠ s1.heap.objs.size + j:=fun h z => h (Nat.add_left_cancel z)
   have a0 : ∀ {j : Nat},0 ≠ j -> s1.heap.objs.size ≠ s1.heap.objs.size + j:=fun h z => h (Nat.add_left_cancel (show s1.heap.objs.size + 0 = _ from z))
   refine ⟨s1.heap.objs.size + 4,[s1.heap.objs.size + 4,s1.heap.objs.size + 2,s1.heap.objs.size + 3,s1.heap.objs.size,s1.heap.objs.size + 1],_,_,H1,rfl,I1.kept (t' := s1.toks) hk,
    o9 a b (s1.heap.objs.size + 4) (s1.heap.objs.size + 2) (s1.heap.objs.size + 3) s1.heap.objs.size (s1.heap.objs.size + 1) (ad (by decide)) (ad (by decide)) (ad (by decide)) (a0 (by decide)) (ad (by decide)) (Ne.symm (a0 (by decide))) (ad (by decide)) (Ne.symm (a0 (by decide))) (ad (by decide)) (a0 (by decide))
     (fun c hc => Nat.ne_of_lt (Nat.lt_of_lt_of_le la (le c hc))) (fun c hc => Nat.ne_of_lt (Nat.lt_of_lt_of_le lb (le c hc))),⟨g5,g3,⟨_,_,g4⟩,g1,g2⟩,fun c hc => I1.fpOk (le c hc) (I1.hok.fresh (le c hc)),q⟩
end
theorem lN {K : PySem.W.Frag} {a b : Addr} {xs zs : List V} {ix : List (Option Nat)} {g : TG} {te : TE} {σ : St} {H : Hp} {Qd : Addr -> Hp -> Prop} (hlen : xs.length = zs.length) (Pv : Addr -> Nat -> List V -> Hp -> Prop)
  (hg : ∀ (T : Addr) (σ : St) (H : Hp) (Q : St -> Hp -> Prop) (x y : V),H T = some (.tup [x,y]) -> Q ((σ.set 0 (some x)).set 1 (some y)) H -> g (.ref T) σ H Q)
  (h0 : ∀ D,H D = none -> Pv D 0 [] (upd H D (.lst [])))
  (hl : ∀ D i ys H',H D = none -> i <= xs.length -> H' D = some (.lst ys) -> Pv D i ys H' -> SqL K H' a xs /\ SqL K H' b zs)
  (hs : ∀ D i ys H' T x z (Q' : VK),H D = none -> xs[i]? = some x -> zs[i]? = some z -> H' D = some (.lst ys) -> Pv D i ys H' -> H' T = none -> (∀ y H4,H4 D = some (.lst ys) -> ys.length < sizeLine -> Pv D (i + 1) (ys ++ [y]) (upd H4 D (.lst (ys ++ [y]))) -> Q' y H4) ->
   te (((aU ix σ).set 0 (some x)).set 1 (some z)) (upd H' T (.tup [x,z])) Q')
  (hd : ∀ D ys H',H D = none -> H' D = some (.lst ys) -> Pv D xs.length ys H' -> Qd D H') : i9 (pe K a b) ix g te σ H Qd:=by
 intro D hD
 refine ⟨fun i m σ' H' => m = xs.length - i /\ i <= xs.length /\ (σ' = aU ix σ \/ ∃ t u,σ' = ((aU ix σ).set 0 t).set 1 u) /\ ∃ ys,H' D = some (.lst ys) /\ Pv D i ys H',⟨xs.length,by simp,Nat.zero_le _,.inl rfl,[],aj,h0 D hD⟩,?_⟩
 rintro i m σ' H' ⟨rfl,hi,hσ,ys,hy,p⟩
 have q:=hl D i ys H' hD hi hy p
 by_cases hlt : i < xs.length
 ·refine .inr ⟨⟨xs,zs,xs[i],zs[i]'(by omega),q.1,q.2,by simp [hlt],by rw [List.getElem?_eq_getElem (by omega)]⟩,fun x H2 y => ?_⟩
  obtain ⟨T,x0,y0,rfl,hT,rfl,y1,y2⟩:=y
  have e1:=y1 xs q.1
  have e2:=y2 zs q.2
  refine hg T σ' _ _ x0 y0 aj ?_
  have es : ((σ'.set 0 (some x0)).set 1 (some y0)) = ((aU ix σ).set 0 (some x0)).set 1 (some y0):=by
   rcases hσ with z | ⟨t,u,z⟩
   ·rw [z]
   ·rw [z,qc]
  show te ((σ'.set 0 (some x0)).set 1 (some y0)) _ _
  rw [es]
  refine hs D i ys _ T x0 y0 _ hD e1 e2 hy p hT fun y H4 h4 hz p4 => ⟨ys,h4,hz,xs.length - (i + 1),by omega,rfl,hlt,.inr ⟨_,_,rfl⟩,ys ++ [y],aj,p4⟩
 ·have e : i = xs.length:=by omega
  subst e
  exact .inl ⟨⟨xs,q.1,rfl⟩,hd D ys H' hD hy p⟩
section
variable {X : Cx}
theorem az {e : Expr} {t u : TE} (h1 : PE X e t) (h2 : PE X e u) : PE X e (fun σ H Q => t σ H Q \/ u σ H Q):=by
 intro pins s σ H Q I h
 rcases h with h | h
 ·exact h1 pins s σ H Q I h
 ·exact h2 pins s σ H Q I h
theorem gA (K : PySem.W.Frag) {es : List Expr} {k : Nat} {pos : Pos} {t : TGs} {n : Nat} (hc : X.calm = true) (h : PGs X es t) (hK : X.K = K:=by rfl)
  (hn : (assignEach es X.env).length = n:=by rfl) (hst : (assignEach es X.env).findIdx? (·.1) = none:=by rfl) : PG X (.Tuple es k pos) (qw K n t):=by
 subst hK
 exact rJ hc h hn hst
theorem bW {m : Str} {C : Addr} {j k : Nat} {ps : List Str} {sp : Sp} {apos pos : Pos} {o : Expr} {ta : TE} {pl : Sem Bool} (G : DefMe X.prog X.w X.K X.mg X.base C m k ps sp) (hr : Room j X.A) (ho : PE X o ta) (hkj : k <= j:=by decide)
  (ht : eval (.Call (.Attribute o m apos) [] [] pos) X.env = (do
   let ov <- eval o X.env
   standAt apos.atName
   let (f,first) <- holding [ov] (getMethod ov m pl)
   callWith pos f first (backTo pos (starEach [] X.env)) (backToKw pos (keywordEach [] X.env))):=by rfl) :
  PE X (.Call (.Attribute o m apos) [] [] pos) (bS C m sp [] E0 ta gY):=by
 obtain ⟨f,fd,hm,hb,F⟩:=G.ex
 exact p7 ho G.cl hm F (hr.mono hkj) hb .nil p5 ht
def sE (K : PySem.W.Frag) : List V -> Hp -> VK -> Prop:=fun xs H Q => ∃ (x c : V) (t cv : Value) (b : Bool),xs = [x,c] /\ TyOf K H x t /\ rS c = some cv /\ PySem.W.kitOne K t cv = some b /\ Q (.bl b) H
theorem pq : lH X (.builtin "isinstance") (sE X.K):=by
 intro pins s σ H xs us Q I r h
 obtain ⟨x,c,t,cv,b,rfl,ty,hc,e,q⟩:=h
 obtain ⟨u,v,rfl,ru,rv⟩:=r.two
 cases pz hc rv
 exact lQ I ru ty e fun tk => ⟨.bl b,H,I.tok tk,rfl,q⟩
end
end L2
set_option Elab.async false
set_option linter.all false
set_option maxRecDepth 100000
set_option maxHeartbeats 4000000
namespace L2
open PySem PySem.Spec PyProof.Rows
section
variable {prog : Program} {w : World} {A : Around} {E : Value -> Shared -> Prop} {s : Shared}
structure ZipFar3 (z TI TO i1 i2 i3 : Addr) (fp1 fp2 fp3 : List Addr) : Prop where
 TIz : TI ≠ z
 TOz : TO ≠ z
 TITO : TI ≠ TO
 i1z : i1 ≠ z
 i2z : i2 ≠ z
 i3z : i3 ≠ z
 TIi1 : TI ≠ i1
 TIi2 : TI ≠ i2
 TIi3 : TI ≠ i3
 TOi1 : TO ≠ i1
 TOi2 : TO ≠ i2
 TOi3 : TO ≠ i3
 z1 : z ∉ fp1
 TO1 : TO ∉ fp1
 i21 : i2 ∉ fp1
 i31 : i3 ∉ fp1
 z2 : z ∉ fp2
 TO2 : TO ∉ fp2
 i12 : i1 ∉ fp2
 i32 : i3 ∉ fp2
 z3 : z ∉ fp3
 TO3 : TO ∉ fp3
 i13 : i1 ∉ fp3
 i23 : i2 ∉ fp3
variable {z TI TO i1 i2 i3 : Addr} {fp1 fp2 fp3 : List Addr} {n1 n2 n3 k : Nat} {P1 P2 P3 : Nat -> Value -> Prop} {St1 St2 St3 : Nat -> Heap -> Prop} {a b c : Value}
end
section
variable {X : Cx}
end
section
variable {X : Cx}
end
theorem lO {t u : TS} {D : Ends} {σ : St} {H : Hp} (R : St -> Hp -> Prop) (h1 : ∀ σ' H',R σ' H' -> u D σ' H') (h2 : ∀ D' : Ends,(∀ σ' H',R σ' H' -> D'.nx σ' H') -> t D' σ H) : nU t u D σ H:=
 h2 { D with nx:=u D } h1
end L2
set_option Elab.async false
set_option linter.all false
set_option maxRecDepth 100000
set_option maxHeartbeats 4000000
namespace L2
open PySem PySem.Spec PyProof.Rows
structure BlkScope1 (NX : List Str) (scX : Scope) (N : List Str) (ix : List (Option Nat)) (sc : Scope) (x : Str) : Prop where
 kind : sc.kind = .function
 nd : N.Nodup
 cell : sc.names.lookup x = some .cell
 only : ∀ y ∈ sc.names,y.2 = .cell -> y.1 = x
 lay : ∀ n cl,cellsFrom n sc.names cl = (x,n) :: cl
 lays : ∀ h,pushCells h sc.names = h.push { cls:=.type "cell",data:=.cell none }
 locs : ∀ y ∈ sc.names,y.2 = .local -> sc.names.lookup y.1 = some .local
 free : ∀ y ∈ sc.names,y.2 = .free -> scX.names.lookup y.1 = some .cell \/ scX.names.lookup y.1 = some .free
 nofree : ∀ y ∈ sc.names,y.2 = .free -> y.1 ≠ x
 len : ix.length = N.length
 at_ : ∀ p ∈ N.zip ix,∀ i,p.2 = some i -> NX[i]? = some p.1 /\ sc.names.lookup p.1 = some .free
section
variable {X : Cx} {pins : List (Addr × Obj)} {σ : St} {H : Hp} {s : Shared} {N : List Str} {ix : List (Option Nat)} {scope : Scope} {fp : List Addr} {x : Str}
variable {tg elt iter : Expr} {pos spos : Pos} {J : It} {it : Addr} {tn : Nat -> Heap -> Prop} {g : TG} {te : TE} {wi : TI}
end
end L2
set_option Elab.async false
set_option linter.all false
set_option maxRecDepth 100000
namespace L2
open PySem PySem.Spec PyProof.Rows
abbrev sv (xs : Array Nat) : Prop:=xs.toList.Pairwise (· < ·)
structure TabOk (t : SetTable) (led : Bool) : Prop where
 rise : sv t.place
 nod : t.dummies = #[]
 led : t.led = led
abbrev byT (w : World) : Bool:=w.params.followText "set-order"
section
variable {P : Program} {w : World} {A : Around} {E : Value -> Shared -> Prop} {s : Shared}
end
end L2
set_option Elab.async false
set_option linter.all false
set_option maxRecDepth 100000
namespace L2
open PySem PySem.Spec PyProof.Rows
section
variable {P : Program} {w : World} {A : Around} {E : Value -> Shared -> Prop} {R : Result -> Shared -> Prop} {I : Addr} {fp wr : List Addr} {G : Array GenState -> Array GenState -> Prop} {n : Nat} {Pz : Nat -> Value -> Prop} {St : Nat -> Shared -> Prop}
end
section
variable {P : Program} {w : World} {A : Around} {E : Value -> Shared -> Prop} {s : Shared}
end
end L2
set_option Elab.async false
set_option linter.all false
set_option maxRecDepth 100000
namespace L2
open PySem PySem.Spec PyProof.Rows
namespace SF
end SF
def oN (h : Heap) (I S : Addr) (first : Value) (i n ep : Nat) : Prop := ∃ o,h.get? I = some o /\ o.cls = .type "set_iterator" /\ o.data = .fields #[first,.int i 0,.ref S,.int n 0,.int ep 0]
def qW (w : World) (es : Array (Int × Value)) (ep : Nat) (t : SetTable) (S T : Addr) (L : List Value) (h : Heap) (i : Nat) (first : Value) : Prop:=
 (byT w = true /\ (∃ z : Nat,first = .int z 0) /\ L = (pickOrder (w.params.setOrder S ep) es).toList.map (·.2)) \/
 (byT w = false /\ (t.plain = true \/ es.size <= 1) /\ (∃ z : Nat,first = .int z 0 /\ SetTable.below t.place z = i) /\ L = es.toList.map (·.2)) \/
 (byT w = false /\ first = .ref T /\ ∃ pl : List Nat,pl.Perm (List.range es.size) /\ (∃ o e,h.get? T = some o /\ o.data = .seq (pl.map fun p : Nat => Value.int (p : Int) 0).toArray e) /\ L = pl.map fun p => (es.getD p (0,.none)).2)
structure SetSt (w : World) (es : Array (Int × Value)) (ep : Nat) (t : SetTable) (S T I : Addr) (L : List Value) (i : Nat) (h : Heap) : Prop where
 set : ∃ o,h.get? S = some o /\ o.data = .set es ep t
 it : ∃ first,oN h I S first i es.size ep /\ qW w es ep t S T L h i first
section
variable {P : Program} {w : World} {A : Around} {E : Value -> Shared -> Prop} {s : Shared} {es : Array (Int × Value)} {ep : Nat} {t : SetTable} {S T I : Addr} {L : List Value} {i : Nat}
end
end L2
set_option Elab.async false
set_option linter.all false
set_option maxRecDepth 100000
namespace L2
open PySem PySem.Spec PyProof.Rows
namespace SF
end SF
section
variable {P : Program} {w : World} {A : Around} {E : Value -> Shared -> Prop} {s : Shared} {es : Array (Int × Value)} {ep : Nat} {t : SetTable} {S T I : Addr} {L : List Value}
end
end L2
set_option Elab.async false
set_option linter.all false
set_option maxRecDepth 100000
namespace L2
open PySem PySem.Spec PyProof.Rows
section
variable {P : Program} {w : World} {A : Around} {E : Value -> Shared -> Prop} {s : Shared} {S : Addr} {ns : List Int}
end
end L2
set_option Elab.async false
set_option linter.all false
set_option maxRecDepth 100000
namespace L2
open PySem PySem.Spec PyProof.Rows
section
variable {X : Cx}
end
end L2
set_option Elab.async false
set_option linter.all false
set_option maxRecDepth 100000
namespace PySem
open PyProof.Rows
section
variable {prog : Program} {w : World} {K : Type} [DecidableEq K] {knd : KeyKind prog w K} {A : Around} {E : Value -> Shared -> Prop} {s : Shared} {R : Result -> Shared -> Prop}
end
end PySem
namespace L2
open PySem PySem.Spec PyProof.Rows
section
variable {X : Cx}
end
section
variable {X : Cx} {pins : List (Addr × Obj)} {σ : St} {H : Hp} {s : Shared} {a : Addr} {z : V} {u r : Value} {A : Around} {E : Value -> Shared -> Prop} {kvs : List (Key × V)} {k : Key}
end
section
variable {X : Cx} {o e f : Expr} {apos cpos : Pos} {td ty tx : TE}
end
end L2
set_option Elab.async false
set_option linter.all false
set_option maxRecDepth 100000
namespace L2
open PySem PySem.Spec PyProof.Rows
section
variable {X : Cx} {pins : List (Addr × Obj)} {σ : St} {H : Hp} {s : Shared} {a : Addr} {o : Obj} {kvs : List (Key × V)}
end
section
variable {X : Cx} {tg : Expr}
end
section
variable {X : Cx}
end
end L2
set_option Elab.async false
set_option linter.all false
set_option maxRecDepth 100000
namespace L2
open PySem PySem.Spec PyProof.Rows
section
variable {P : Program} {w : World} {A : Around} {E : Value -> Shared -> Prop} {s : Shared}
end
end L2
set_option Elab.async false
set_option linter.all false
set_option maxRecDepth 100000
namespace L2
open PySem PySem.Spec PyProof.Rows
section
variable {X : Cx}
end
end L2
set_option Elab.async false
set_option linter.all false
set_option maxRecDepth 100000
namespace PySem
open PyProof.Rows
section
variable {prog : Program} {w : World} {A : Around} {E : Value -> Shared -> Prop} {s : Shared}
end
end PySem
namespace L2
open PySem PySem.Spec PyProof.Rows
section
variable {X : Cx} {a : Expr} {ta : TA} {p p2 pos pos2 : Pos}
end
end L2
namespace L2
open PySem PySem.Spec PyProof.Rows
section
variable {X : Cx} {N : List Str} {scope : Scope} {ix : List (Option Nat)} {elt iter cond tg : Expr} {pos spos : Pos} {te : TE} {g : TG} {wi : TI} {tc : TT}
end
end L2
set_option Elab.async false
set_option linter.all false
set_option maxRecDepth 100000
namespace L2
open PySem PySem.Spec PyProof.Rows
section
variable {X : Cx} {tg : Expr}
end
section
variable {X : Cx} {a b c : Expr} {ta : TA} {p p2 pos pos2 : Pos}
end
end L2
set_option Elab.async false
set_option linter.all false
set_option maxRecDepth 100000
set_option maxHeartbeats 4000000
namespace L2
open PySem PySem.Spec PyProof.Rows
end L2
set_option Elab.async false
set_option linter.all false
set_option maxRecDepth 100000
set_option maxHeartbeats 4000000
namespace L2
open PySem PySem.Spec PyProof.Rows
section
variable {X : Cx}
end
end L2
set_option Elab.async false
set_option linter.all false
set_option maxRecDepth 100000
set_option maxHeartbeats 4000000
namespace L2
open PySem PySem.Spec PyProof.Rows
end L2
set_option Elab.async false
set_option linter.all false
set_option maxRecDepth 100000
set_option maxHeartbeats 4000000
namespace PySem
open PyProof.Rows
section
variable {prog : Program} {w : World} {K : Type} [DecidableEq K] {knd : KeyKind prog w K} {A : Around} {E : Value -> Shared -> Prop} {s : Shared} {R : Result -> Shared -> Prop}
end
end PySem
namespace L2
open PySem PySem.Spec PyProof.Rows
section
variable {X : Cx}
end
end L2
set_option Elab.async false
set_option linter.all false
set_option maxRecDepth 100000
set_option maxHeartbeats 4000000
namespace PySem
section
variable {prog : Program} {w : World} {A : Around} {E : Value -> Shared -> Prop} {s : Shared}
end
end PySem
namespace L2
open PySem PySem.Spec PyProof.Rows
section
variable {X : Cx}
end
end L2
set_option Elab.async false
set_option linter.all false
set_option maxRecDepth 100000
set_option maxHeartbeats 4000000
namespace L2
open PySem PySem.Spec PyProof.Rows
end L2
set_option Elab.async false
set_option linter.all false
set_option maxRecDepth 100000
set_option maxHeartbeats 4000000
namespace L2
open PySem PySem.Spec PyProof.Rows
section
variable {X : Cx} {pins : List (Addr × Obj)} {σ : St} {H : Hp} {s : Shared}
end
end L2
set_option Elab.async false
set_option linter.all false
set_option maxRecDepth 100000
set_option maxHeartbeats 4000000
namespace L2
open PySem PySem.Spec PyProof.Rows
section
variable {X : Cx} {pins : List (Addr × Obj)} {σ : St} {H : Hp} {s : Shared}
open Classical in
noncomputable def isR (H : Hp) (ns : List Int) (u : Value) : Bool:=decide (∃ b,u = Value.ref b /\ H b = some (.tup (ns.map V.int)))
end
end L2
set_option Elab.async false
set_option linter.all false
set_option maxRecDepth 100000
set_option maxHeartbeats 4000000
namespace L2
open PySem PySem.Spec PyProof.Rows
section
variable {X : Cx}
end
end L2
set_option Elab.async false
set_option linter.all false
set_option maxRecDepth 100000
set_option maxHeartbeats 4000000
namespace L2
open PySem PySem.Spec PyProof.Rows
section
variable {X : Cx} {pins : List (Addr × Obj)} {σ : St} {H : Hp} {s : Shared} {a : Addr} {o : Obj} {kvs : List (List Key × V)}
end
section
variable {X : Cx} {tg : Expr}
end
end L2
set_option Elab.async false
set_option linter.all false
set_option maxRecDepth 100000
set_option maxHeartbeats 4000000
namespace L2
open PySem PySem.Spec PyProof.Rows
end L2
set_option Elab.async false
set_option linter.all false
set_option maxRecDepth 100000
namespace PySem
end PySem
namespace L2
open PySem PySem.Spec PyProof.Rows
end L2
set_option Elab.async false
set_option linter.all false
set_option maxRecDepth 100000
set_option maxHeartbeats 4000000
namespace L2
open PySem PySem.Spec PyProof.Rows
section
variable {X : Cx}
end
end L2
set_option Elab.async false
set_option linter.all false
set_option maxRecDepth 100000
set_option maxHeartbeats 4000000
namespace PySem
section
variable {prog : Program} {w : World} {A : Around} {E : Value -> Shared -> Prop} {s : Shared}
end
end PySem
namespace L2
open PySem PySem.Spec PyProof.Rows
end L2
set_option Elab.async false
set_option linter.all false
set_option maxRecDepth 100000
set_option maxHeartbeats 4000000
namespace L2
open PySem PySem.Spec PyProof.Rows
abbrev NK:=Int × List Int
section
variable {X : Cx} {pins : List (Addr × Obj)} {σ : St} {H : Hp} {s : Shared} {d : Addr} {ks : List (NK × Addr)}
end
section
variable {X : Cx} {pos pos' : Pos} {o i value : Expr} {td ty tv : TE}
end
end L2
set_option Elab.async false
set_option linter.all false
set_option maxRecDepth 100000
set_option maxHeartbeats 4000000
namespace L2
open PySem PySem.Spec PyProof.Rows
def pf (Pt : Addr) (H : Hp) : Prop:=H Pt = some (.tbl #[]) /\ ∀ b,b ≠ Pt -> H b = none \/ ∃ o xs,H b = some (.frz o (.lst xs))
theorem l4 {h : Heap} {c Pt : Addr} (x : PySem.W.CodeHd h c Pt) : isCodeTable h Pt:=by
 obtain ⟨o,vs,_,_,_,_,_,_,_,h1,h2,h3,h4,_⟩:=x
 exact ⟨c,o,vs,h1,h2,h3,h4⟩
def ny (h : Heap) (mg : Str -> Option Value) : Prop := ∃ bm o,mg "__builtins__" = some (.ref bm) /\ bm ≠ builtinsNs /\ bm ≠ mainGlobals /\ h.get? bm = some o /\ o.cls = .type "module" /\ o.dict = some builtinsNs /\ o.data = .plain
theorem oX {P : Program} {w : World} {K : PySem.W.Frag} {mg mb : Str -> Option Value} {CX : CXT} {k : Nat} {fa a c Pt : Addr} {fd : FuncData} {x : Str} {sp : Sp} {s₁ : Shared} {vs : List Value} {ns : List Int}
  (KX : K.In s₁.heap) (hns : s₁.heap.Ns mainGlobals mg) (hb : s₁.heap.Ns builtinsNs mb) (hbb : ∀ x : Str,x ≠ "__name__" -> mb x = bootBuiltins x) (hlim : s₁.heap.NoLimit) (hg : s₁.gens = #[])
  (ha : s₁.heap.get? a = some { cls:=.type "list",data:=.seq vs.toArray }) (hi : IntsAre vs ns) (hl : ns.length <= sizeLine) (hr : Room k callerA)
  (ct : PySem.W.CodeHd s₁.heap c Pt) (hP : s₁.heap.get? Pt = some (PySem.W.tabObj #[])) (nP : K.lookup Pt = none)
  (hbm : ny s₁.heap mg) (F : ∀ base : Heap,K.In base -> base.Ns mainGlobals mg -> ny base mg -> FnOk P w K mg base CX k fa fd [x] sp) (hbind : ∀ (s : Shared) (u : Value),BindsTo s fd ⟨[u],[]⟩ [(x,u)])
  (hsp : ∀ H : Hp,pf Pt H -> SqL K H a (ns.map V.int) -> sp [.ref a] H (fun v _ => v = .bl true) fun _ _ _ => False)
  (hCX : ∀ H e s',CX [] H s₁ (fun _ _ _ => False) e s' -> False) :
  codeAny (model P w) callerA (.call (.ref fa) ⟨[.ref a],[]⟩) (fun r s' => r = .ok (.ret (.bool true)) /\ OldK s₁.heap s'.heap /\ s'.os = s₁.os /\ AllBare s'.gens) s₁:=by
 have rv:=lU hi
 have lenV:=hi.length
 have core : ∀ H : Hp,pf Pt H -> SqL K H a (ns.map V.int) -> HOk P w H s₁.heap -> (∀ b,H b ≠ none -> b = a \/ b = Pt) -> (H a ≠ none -> K.lookup a = none) ->
   codeAny (model P w) callerA (.call (.ref fa) ⟨[.ref a],[]⟩) (fun r s' => r = .ok (.ret (.bool true)) /\ OldK s₁.heap s'.heap /\ s'.os = s₁.os /\ AllBare s'.gens) s₁:=by
  intro H hO hS hok hA hK
  have base_of : ∀ {b : Addr} {o : Obj},s₁.heap.get? b = some o -> H b = none -> (kR s₁.heap H).get? b = some o:=fun e n => pH e n
  have noA : ∀ {b : Addr} {o : Obj} {es : Array DictEntry} {ep : Nat},s₁.heap.get? b = some o -> o.data = .dict es ep -> H b = none:=fun {b o es ep} e d => by
   cases q : H b with
   | none => rfl
   | some u =>
    rcases hA b (by rw [q]; simp) with e' | e'
    ·subst e'
     rw [ha] at e; cases e
     have d' : Data.seq vs.toArray _ = Data.dict es ep:=d
     cases d'
    ·subst e'
     rw [hP] at e; cases e
     have d' : Data.fields #[] = Data.dict es ep:=d
     cases d'
  have nsK : ∀ {b : Addr} {m : Str -> Option Value},s₁.heap.Ns b m -> (kR s₁.heap H).Ns b m:=fun {b m} ⟨o,es,ep,e,d,r⟩ => ⟨o,es,ep,base_of e (noA e d),d,r⟩
  have hKb : K.In (kR s₁.heap H):=fun b o e => base_of (KX b o e) (by
   cases q : H b with
   | none => rfl
   | some u =>
    rcases hA b (by rw [q]; simp) with e' | e'
    ·subst e'
     rw [hK (by rw [q]; simp)] at e; cases e
    ·subst e'
     rw [nP] at e; cases e)
  have hB : ny (kR s₁.heap H) mg:=by
   obtain ⟨bm,o,b1,b2,b3,b4,b5,b6,b7⟩:=hbm
   refine ⟨bm,o,b1,b2,b3,base_of b4 ?_,b5,b6,b7⟩
   cases q : H bm with
   | none => rfl
   | some u =>
    rcases hA bm (by rw [q]; simp) with e' | e'
    ·subst e'
     rw [ha] at b4
     cases b4
     cases b7
    ·subst e'
     rw [hP] at b4
     cases b4
     cases b5
  have hM : Mod K mg (kR s₁.heap H):=⟨hKb,nsK hns,⟨mb,nsK hb,hbb⟩,let ⟨mc,h1,h2⟩:=hlim; ⟨mc,nsK h1,h2⟩⟩
  have e0 : Env0 P w K mg (kR s₁.heap H) callerA [] s₁ H:=⟨rfl,hM,fun b o e => qB e,Nat.le_of_eq (oV _ _),trivial,fun b hb => absurd (show b ∈ ([] : List Addr) from hb) (by simp),hok,.of_eq hg⟩
  refine codeAny_mono ((F _ hKb (nsK hns) hB).run callerA [] s₁ H ⟨[.ref a],[]⟩ [.ref a] [.ref a] _ _ hr e0 (hbind s₁ (.ref a)) (.cons rfl .nil) (hsp H hO hS)) fun r s' h => ?_
  cases r with
  | error e => exact (hCX H e s' h).elim
  | ok fl =>
   cases fl with
   | next => exact False.elim h
   | brk => exact False.elim h
   | cont => exact False.elim h
   | ret u =>
    obtain ⟨v,H',os,bare,un,hok',r',q⟩:=h
    have q' : v = .bl true:=q
    subst q'
    obtain rfl : u = Value.bool true:=r'
    have was : ∀ b o,s₁.heap.get? b = some o -> asItWas s₁.heap s'.heap b o:=fun b o e => by
     by_cases hb : b = Pt
     ·subst hb
      rw [hP] at e
      cases e
      obtain ⟨more,z⟩:=un.tbls b _ hO.1
      have z2 : s'.heap.get? b = some { cls:=.none,data:=.fields (#[] ++ more) }:=hok' b _ z
      exact .inr (.inl ⟨l4 ct,rfl,#[],more,rfl,z2⟩)
     ·refine .inl ?_
      cases q : H b with
      | none => exact un.keep b o e q (by intro z; exact absurd (show b ∈ ([] : List Addr) from z) (by simp)) (by simp)
      | some u =>
       rcases hO.2 b hb with z | ⟨ob,xs,z⟩
       ·rw [q] at z; cases z
       ·have z2:=un.frzs b ob _ z
        obtain ⟨e1,_⟩:=hok b _ z
        obtain ⟨e2,_⟩:=hok' b _ z2
        rw [e] at e1; cases e1
        exact e2
    exact ⟨rfl,⟨was,fun b o e => un.there b o e (by simp)⟩,os,bare⟩
 have naP : a ≠ Pt:=fun z => by
  subst z
  rw [ha] at hP
  cases hP
 cases hk : K.lookup a with
 | some o =>
  have e:=KX a o hk
  rw [ha] at e
  cases e
  refine core (fun b => if b = Pt then some (.tbl #[]) else none) ⟨if_pos rfl,fun b hb => .inl (if_neg hb)⟩ (.inr ⟨_,vs.toArray,_,hk,rfl,rfl,rfl,by rw [List.size_toArray,lenV]; exact hl,by simpa using rv⟩) (fun b u z => ?_) (fun b z => ?_) fun z => absurd (if_neg naP) z
  ·by_cases hb : b = Pt
   ·have z' := (if_pos hb).symm.trans z
    cases z'
    subst hb
    exact hP
   ·have z' := (if_neg hb).symm.trans z
    cases z'
  ·by_cases hb : b = Pt
   ·exact .inr hb
   ·exact absurd (if_neg hb) z
 | none =>
  have at1 : ∀ {b : Addr},b = Pt -> (fun b => if b = Pt then some (HO.tbl #[]) else if b = a then some (.frz { cls:=.type "list",data:=.seq vs.toArray } (.lst (ns.map V.int))) else none) b = some (HO.tbl #[]):=fun h => if_pos h
  have at2 : ∀ {b : Addr},b ≠ Pt -> b = a -> (fun b => if b = Pt then some (HO.tbl #[]) else if b = a then some (.frz { cls:=.type "list",data:=.seq vs.toArray } (.lst (ns.map V.int))) else none) b = some (.frz { cls:=.type "list",data:=.seq vs.toArray } (.lst (ns.map V.int))):=fun h h' => (if_neg h).trans (if_pos h')
  have at3 : ∀ {b : Addr},b ≠ Pt -> b ≠ a -> (fun b => if b = Pt then some (HO.tbl #[]) else if b = a then some (.frz { cls:=.type "list",data:=.seq vs.toArray } (.lst (ns.map V.int))) else none) b = none:=fun h h' => (if_neg h).trans (if_neg h')
  refine core (fun b => if b = Pt then some (HO.tbl #[]) else if b = a then some (.frz { cls:=.type "list",data:=.seq vs.toArray } (.lst (ns.map V.int))) else none) ⟨at1 rfl,fun b hb => ?_⟩ (.inl (.inr ⟨{ cls:=.type "list",data:=.seq vs.toArray },at2 naP rfl⟩)) (fun b u z => ?_) (fun b z => ?_) fun _ => hk
  ·by_cases h : b = a
   ·exact .inr ⟨_,_,at2 hb h⟩
   ·exact .inl (at3 hb h)
  ·by_cases hb : b = Pt
   ·have z' := (at1 hb).symm.trans z
    cases z'
    subst hb
    exact hP
   ·by_cases h : b = a
    ·have z' := (at2 hb h).symm.trans z
     cases z'
     subst h
     exact ⟨ha,by rw [List.length_map]; exact hl,vs,_,rv,ha⟩
    ·have z' := (at3 hb h).symm.trans z
     cases z'
  ·by_cases hb : b = Pt
   ·exact .inr hb
   ·by_cases h : b = a
    ·exact .inl h
    ·exact absurd (at3 hb h) z
theorem walk_ofT {l : PySem.W.OpenLaw} {n k : Nat} {q : Program} {loose : List Str} {XP : (Str -> Option Value) -> Heap -> Prop} {YP : World -> Heap -> Prop} {d : DefRec} {K : Params -> PySem.W.Frag} {ts : List Addr} {CX : World -> CXT} {sp : World -> Addr -> Addr -> Sp} {x : Str}
  (hn : l.most = some n) (hn2 : n <= sizeLine) (hdf : d.params.defaults = []) (hr : Room k callerA)
  (hY : ∀ (w : World) (h : Heap),YP w h -> (K w.params).In h) (hT : ∀ (w : World) (h : Heap),YP w h -> ∀ P,P ∈ ts -> h.get? P = some (PySem.W.tabObj #[]))
  (F : ∀ (w : World) (mg : Str -> Option Value) (fa : Addr) (h : Heap),(K w.params).In h -> h.Ns mainGlobals mg -> mg d.name = some (.ref fa) ->
   ∃ (fd : FuncData) (c Pt : Addr),PySem.W.codeHdIn (K w.params) c Pt = true /\ Pt ∈ ts /\ (K w.params).lookup Pt = none /\ (∀ (s : Shared) (u : Value),BindsTo s fd ⟨[u],[]⟩ [(x,u)]) /\
    ∀ base : Heap,(K w.params).In base -> base.Ns mainGlobals mg -> ny base mg -> FnOk l.prog w (K w.params) mg base (CX w) k fa fd [x] (sp w c Pt))
  (hsp : ∀ (w : World) (c Pt : Addr) (H : Hp) (a : Addr) (ns : List Int),ns.length <= n -> pf Pt H -> SqL (K w.params) H a (ns.map V.int) -> sp w c Pt [.ref a] H (fun v _ => v = .bl true) fun _ _ _ => False)
  (hCX : ∀ (w : World) (H : Hp) (s : Shared) (e : Value) (s' : Shared),CX w [] H s (fun _ _ _ => False) e s' -> False) :
  PySem.W.WalkO q loose XP YP l.row.toRowW d [] (fun f vs => PySem.call f vs):=by
 refine Att.attach_call hn hdf fun w s₀ s₁ mg mb fa o pm cd doc a vs ns G Y ho hd hcd hmg hobj hints hlen hg => ?_
 have KX:=hY w _ Y
 obtain ⟨fd,c,Pt,hh,hm,nP,hb,hF⟩:=F w mg fa _ KX G.T.g hmg
 have ct:=PySem.W.codeHd_of_K KX hh
 have hP:=hT w _ Y Pt hm
 have hbm : ny s₁.heap mg:=by
  obtain ⟨bm,ob,b1,b2,b3,b4,b5,b6⟩:=G.T.bmain
  refine ⟨bm,ob,b1,b2,fun z => ?_,b3,b4,b5,b6⟩
  obtain ⟨og,es,ep,e1,e2,_⟩:=G.T.g
  rw [z,e1] at b3
  cases b3
  rw [e2] at b6
  cases b6
 exact oX KX G.T.g G.T.b G.T.builtins G.T.nolimit hg hobj hints (Nat.le_trans hlen hn2) hr ct hP nP hbm hF hb (fun H hO hS => hsp w c Pt H a ns hlen hO hS) fun H e s' => hCX w H s₁ e s'
end L2
set_option Elab.async false
set_option linter.all false
set_option maxRecDepth 100000
set_option maxHeartbeats 4000000
namespace L2
open PySem PySem.Spec PyProof.Rows
def CodeAt (c : Addr) (qual : Str) (h : Heap) : Prop := ∃ o vs t,h.get? c = some o /\ o.data = .fields vs /\ vs[1]? = some (.str qual t)
def LamAt (f : Addr) (qual : Str) (params : Arguments) (body : Expr) (scope : Scope) (clos : List (Str × Addr)) (c' : Addr) (h : Heap) : Prop := ∃ pm ctv,h.get? f = some (PySem.W.kla_obj "<lambda>" qual params body scope clos pm c' ctv)
def TabSt (H : Hp) (Pt : Addr) (qual : Str) (pos : Pos) : Prop:=H Pt = some (.tbl #[]) \/ ∃ c',H Pt = some (.tbl #[rawInt pos.line,rawInt pos.col,.ref c']) /\ H c' = some (.ext (CodeAt c' qual))
theorem CodeAt.ok {P : Program} {w : World} {H : Hp} {h : Heap} {c : Addr} {qual : Str} (x : CodeAt c qual h) : ObjOk P w H h c (.ext (CodeAt c qual)):=
 ⟨x,let ⟨o,_,_,e,_⟩:=x; ⟨o,e⟩,fun h1 h2 ⟨o,vs,t,e,r⟩ k => ⟨o,vs,t,k o e,r⟩⟩
theorem LamAt.ok {P : Program} {w : World} {H : Hp} {h : Heap} {f c' : Addr} {qual : Str} {params : Arguments} {body : Expr} {scope : Scope} {clos : List (Str × Addr)} (x : LamAt f qual params body scope clos c' h) : ObjOk P w H h f (.ext (LamAt f qual params body scope clos c')):=
 ⟨x,let ⟨_,_,e⟩:=x; ⟨_,e⟩,fun h1 h2 ⟨pm,ctv,e⟩ k => ⟨pm,ctv,k _ e⟩⟩
structure LamK (K : PySem.W.Frag) (mg : Str -> Option Value) (base : Heap) (c Pt : Addr) : Prop where
 hd : PySem.W.codeHdIn K c Pt = true
 bm : ny base mg
def sM (qual : Str) (params : Arguments) (body : Expr) (scope : Scope) (clos : List (Str × Addr)) (pos : Pos) (Pt : Addr) : TE:=fun σ H Q => TabSt H Pt qual pos /\
 ∀ (f c' : Addr) (H' : Hp),H f = none -> H' f = some (.ext (LamAt f qual params body scope clos c')) -> H' Pt = some (.tbl #[rawInt pos.line,rawInt pos.col,.ref c']) -> H' c' = some (.ext (CodeAt c' qual)) -> (∀ b u,b ≠ Pt -> H b = some u -> H' b = some u) -> Q (.ref f) H'
theorem Inv.table {X : Cx} {pins : List (Addr × Obj)} {σ : St} {H H' : Hp} {s : Shared} {h' : Heap} {tk : Nat} {Pt : Addr} {ps more : Array Value} (I : Inv X pins σ H s) (hP : H Pt = some (.tbl ps)) (k : ∀ b o,b ≠ Pt -> s.heap.get? b = some o -> h'.get? b = some o)
  (hP' : h'.get? Pt = some { cls:=.none,data:=.fields (ps ++ more) }) (ht : H' Pt = some (.tbl (ps ++ more))) (hH : ∀ b,b ≠ Pt -> b < s.heap.objs.size -> H' b = H b) (new : ∀ b u,s.heap.objs.size <= b -> H' b = some u -> ObjOk X.prog X.w H' h' b u) : Inv X pins σ H' { s with heap:=h',toks:=tk }:=by
 have keep : ∀ b u,b ≠ Pt -> H b = some u -> H' b = some u:=fun b u nb e => by rw [hH b nb (I.hok.lt e)]; exact e
 have nP : ∀ b,H b = none -> b ≠ Pt:=fun b n z => by rw [z,hP] at n; cases n
 refine I.un ⟨fun b o e n _ _ => k b o (nP b n) e,fun b o e n _ _ => ⟨o.slots,k b o (nP b n) e⟩,fun b o e n _ => by rw [hH b (nP b n) (Heap.lt_size e)]; exact n,fun b o e _ => ?_,fun b xs e => keep b _ (fun z => by rw [z,hP] at e; cases e) e,fun b o u e => keep b _ (fun z => by rw [z,hP] at e; cases e) e,fun b qs e => ?_⟩ fun b u e => ?_
 ·by_cases hb : b = Pt
  ·exact ⟨_,by rw [hb]; exact hP'⟩
  ·exact ⟨o,k b o hb e⟩
 ·by_cases hb : b = Pt
  ·subst hb
   rw [hP] at e
   cases e
   exact ⟨more,ht⟩
  ·exact ⟨#[],by rw [keep b _ hb e]; simp⟩
 ·by_cases hb : b = Pt
  ·subst hb
   rw [ht] at e
   cases e
   exact hP'
  ·by_cases hl : b < s.heap.objs.size
   ·have e' := e
    rw [hH b hb hl] at e'
    refine (I.hok b u e').stay (fun c v hc q => k c v ?_ q) (fun c q => keep c _ (fun z => by rw [z,hP] at q; cases q) q) fun c xs q => keep c _ (fun z => by rw [z,hP] at q; cases q) q
    rcases hc with rfl | hc
    ·exact hb
    ·intro z
     rw [z,hP] at hc
     cases hc
   ·exact new b u (Nat.le_of_not_lt hl) e
theorem oO {pos : Pos} {v : Value} : codeAmong pos [rawInt pos.line,rawInt pos.col,v] = some v:=by
 show (if ((pos.line : Int) == (pos.line : Int) && (pos.col : Int) == (pos.col : Int)) = true then some v else _) = some v
 rw [if_pos (by simp)]
section
variable {X : Cx} {params : Arguments} {body : Expr} {scope : Scope} {pos : Pos} {clos : List (Str × Addr)} {c Pt : Addr}
theorem rG (k : LamK X.K X.mg X.base c Pt) (hc : X.env.code = .ref c) (hcl : closureFor scope X.env = pure clos) (hdf : defaultsOf params X.env = ([],[]):=by rfl) : PE X (.Lambda params body scope pos) (sM (X.env.qual ++ "<lambda>") params body scope clos pos Pt):=by
 intro pins s σ H Q I h
 obtain ⟨st,h⟩:=h
 refine PySem.W.kla_eval hdf ?_
 have hPt : ∃ ps,H Pt = some (.tbl ps):=by rcases st with z | ⟨c',z,_⟩ <;> exact ⟨_,z⟩
 obtain ⟨ps0,hP0⟩:=hPt
 have ns : s.heap.Ns mainGlobals X.mg:=I.mod.glob.keeps I.bk
 have nG : mainGlobals ≠ Pt:=fun z => by
  obtain ⟨o,es,ep,e,_⟩:=I.mod.glob
  have:=(I.bs _ _ e).2
  rw [z,hP0] at this
  cases this
 have blt : s.heap.BuiltinsAt X.mg Pt:=by
  obtain ⟨bm,o,b1,b2,b3,b4,b5,b6,b7⟩:=k.bm
  refine ⟨bm,o,b1,b2,b3,fun z => ?_,I.bk _ _ b4,b5,b6,b7⟩
  have z2:=(I.bs _ _ b4).2
  rw [z,hP0] at z2
  cases z2
 have chd:=PySem.W.codeHd_of_K I.kIn k.hd
 rcases st with hP | ⟨c',hP,hc'⟩
 ·have eP : s.heap.get? Pt = some (PySem.W.tabObj #[]):=I.hok Pt _ hP
  refine PySem.W.kla_makeFunction hcl I.ok.glob ns hc chd eP trivial rfl nG blt fun c' ctv h' tk ex h1 h2 cr hP' => ?_
  have nP : Pt < s.heap.objs.size:=Heap.lt_size eP
  have hf1 : s.heap.objs.size <= h'.objs.size:=Nat.le_of_lt (Nat.lt_of_le_of_lt h1 h2)
  obtain ⟨c₂,oc,vs,t,e2,hoc,hd,hv⟩:=cr
  cases e2
  let H2 : Hp:=upd (upd (upd H Pt (.tbl (#[] ++ #[rawInt pos.line,rawInt pos.col,.ref c']))) c' (.ext (CodeAt c' (X.env.qual ++ "<lambda>")))) h'.objs.size (.ext (LamAt h'.objs.size (X.env.qual ++ "<lambda>") params body scope clos c'))
  have nfc : c' ≠ h'.objs.size:=Nat.ne_of_lt h2
  have nfP : Pt ≠ h'.objs.size:=Nat.ne_of_lt (Nat.lt_of_lt_of_le nP hf1)
  have ncP : Pt ≠ c' := Nat.ne_of_lt (Nat.lt_of_lt_of_le nP h1)
  have gP : H2 Pt = some (.tbl (#[] ++ #[rawInt pos.line,rawInt pos.col,.ref c'])):=(aw nfP).trans ((aw ncP).trans aj)
  have gc : H2 c' = some (.ext (CodeAt c' (X.env.qual ++ "<lambda>"))):=(aw nfc).trans aj
  have gf : H2 h'.objs.size = some (.ext (LamAt h'.objs.size (X.env.qual ++ "<lambda>") params body scope clos c')):=aj
  have go : ∀ b,b ≠ Pt -> b ≠ c' -> b ≠ h'.objs.size -> H2 b = H b:=fun b n1 n2 n3 => (aw n3).trans ((aw n2).trans (aw n1))
  have I2:=Inv.table (H' := H2) (tk:=tk) I hP (fun b o nb e => Heap.get?_push_of_some (PySem.W.kla_obj "<lambda>" (X.env.qual ++ "<lambda>") params body scope clos ((X.mg "__name__").getD .none) c' ctv) (ex b o nb e)) (Heap.get?_push_of_some _ hP') gP
   (fun b n1 hl => go b n1 (Nat.ne_of_lt (Nat.lt_of_lt_of_le hl h1)) (Nat.ne_of_lt (Nat.lt_of_lt_of_le hl hf1))) fun b u hl e => by
    by_cases b1 : b = h'.objs.size
    ·rw [b1,gf] at e
     cases e
     rw [b1]
     exact LamAt.ok ⟨_,_,Heap.get?_push_size _ rfl⟩
    ·by_cases b2 : b = c'
     ·rw [b2,gc] at e
      cases e
      rw [b2]
      exact CodeAt.ok ⟨oc,vs,t,Heap.get?_push_of_some _ hoc,hd,hv⟩
     ·rw [go b (fun z => absurd hl (by rw [z]; exact Nat.not_le_of_lt nP)) b2 b1,I.hok.fresh hl] at e
      cases e
  have nf : H h'.objs.size = none:=I.hok.fresh hf1
  have ncn : H c' = none:=I.hok.fresh h1
  exact ⟨.ref h'.objs.size,H2,I2,rfl,h h'.objs.size c' H2 nf gf (by rw [gP]; rfl) gc fun b u nb e => by rw [go b nb (aJ e ncn) (aJ e nf)]; exact e⟩
 ·have eP : s.heap.get? Pt = some (PySem.W.tabObj #[rawInt pos.line,rawInt pos.col,.ref c']):=I.hok Pt _ hP
  refine PySem.W.kla_makeFunctionHit (cv:=.ref c') hcl I.ok.glob ns hc chd eP ?_ ?_ blt fun ctv h' tk kp h1 => ?_
  ·exact trivial
  ·exact oO
  ·have nf : H h'.objs.size = none:=I.hok.fresh h1
   have new:=LamAt.ok (P:=X.prog) (w:=X.w) (H:=upd H h'.objs.size (.ext (LamAt h'.objs.size (X.env.qual ++ "<lambda>") params body scope clos c'))) (h:=h'.push (PySem.W.kla_obj "<lambda>" (X.env.qual ++ "<lambda>") params body scope clos ((X.mg "__name__").getD .none) c' ctv)) ⟨_,_,Heap.get?_push_size _ rfl⟩
   have kp' : ∀ b o,s.heap.get? b = some o -> (h'.push (PySem.W.kla_obj "<lambda>" (X.env.qual ++ "<lambda>") params body scope clos ((X.mg "__name__").getD .none) c' ctv)).get? b = some o:=fun b o e => Heap.get?_push_of_some _ (kp b o e)
   have I2:=I.un (t' := tk) (Un.laid kp' h1 nf) (HOk.laid I.hok kp' h1 new)
   exact ⟨.ref h'.objs.size,_,I2,rfl,h h'.objs.size c' _ nf aj (by rw [aw (aJ hP nf)]; exact hP) (by rw [aw (aJ hc' nf)]; exact hc') fun b u _ e => by rw [aw (aJ e nf)]; exact e⟩
end
end L2
set_option Elab.async false
set_option linter.all false
set_option maxRecDepth 100000
set_option maxHeartbeats 4000000
namespace L2
open PySem PySem.Spec PyProof.Rows
def CellAt (c : Addr) (o : Obj) (h : Heap) : Prop:=h.get? c = some o
theorem CellAt.ok {P : Program} {w : World} {H : Hp} {h : Heap} {c : Addr} {o : Obj} (x : CellAt c o h) : ObjOk P w H h c (.ext (CellAt c o)):=
 ⟨x,⟨o,x⟩,fun _ _ e k => k _ e⟩
def rR (H : Hp) (c : Addr) (v : V) : Prop := ∃ o u,H c = some (.ext (CellAt c o)) /\ o.data = .cell (some u) /\ RelV v u
structure LamHas (H : Hp) (f c' : Addr) (qual : Str) (params : Arguments) (body : Expr) (scope : Scope) (clos : List (Str × Addr)) (cvs : List V) : Prop where
 fn : H f = some (.ext (LamAt f qual params body scope clos c'))
 cd : H c' = some (.ext (CodeAt c' qual))
 cl : Paired (fun (p : Str × Addr) v => rR H p.2 v) clos cvs
 nd : (clos.map (·.2)).Nodup
theorem Paired.lookup {α β : Type} {F : (Str × α) -> β -> Prop} : ∀ {l₁ : List (Str × α)} {l₂ : List β},Paired F l₁ l₂ -> ∀ {x : Str} {c : α},l₁.lookup x = some c -> ∃ v,F (x,c) v
 | _,_,.nil,_,_,e => by simp at e
 | _,_,.cons (a:=(y,d)) r t,x,c,e => by
  rw [List.lookup_cons] at e
  by_cases h : x = y
  ·subst h
   simp at e
   subst e
   exact ⟨_,r⟩
  ·rw [show (x == y) = false from beq_false_of_ne h] at e
   exact Paired.lookup t e
def less (H : Hp) (cs : List Addr) : Hp:=fun b => if b ∈ cs then none else H b
def back (H : Hp) (cs : List Addr) (H' : Hp) : Hp:=fun b => if b ∈ cs then H b else H' b
theorem fK {H : Hp} {cs : List Addr} {b : Addr} (h : b ∈ cs) : less H cs b = none:=if_pos h
theorem bP {H : Hp} {cs : List Addr} {b : Addr} (h : b ∉ cs) : less H cs b = H b:=if_neg h
theorem ox {H H' : Hp} {cs : List Addr} {b : Addr} (h : b ∈ cs) : back H cs H' b = H b:=if_pos h
theorem dS {H H' : Hp} {cs : List Addr} {b : Addr} (h : b ∉ cs) : back H cs H' b = H' b:=if_neg h
theorem oP {H : Hp} {cs : List Addr} : back H cs (less H cs) = H:=by
 funext b
 by_cases h : b ∈ cs
 ·exact ox h
 ·rw [dS h,bP h]
def Cells (H : Hp) (cs : List Addr) : Prop := ∀ c ∈ cs,∃ o,H c = some (.ext (CellAt c o))
section
variable {P : Program} {w : World} {H H' : Hp} {h h' : Heap} {cs : List Addr} {fs : List Addr}
theorem HOk.lessC (x : HOk P w H h) (k : Cells H cs) : HOk P w (L2.less H cs) h:=fun b u e => by
 have hb : b ∉ cs:=fun z => by rw [fK z] at e; cases e
 rw [bP hb] at e
 refine (x b u e).stay (fun _ _ _ q => q) (fun c q => ?_) fun c xs q => ?_ <;> rw [bP] <;> first | exact q | (intro z; obtain ⟨o,r⟩:=k _ z; rw [r] at q; cases q)
theorem Un.back (u : Un fs [] (less H cs) H' h h') (k : Cells H cs) (x : HOk P w H h) (x' : HOk P w H' h') (nf : ∀ c ∈ cs,c ∉ fs) : Un fs [] H (back H cs H') h h' /\ HOk P w (back H cs H') h' := by
 have nb : ∀ b,H b = none -> b ∉ cs:=fun b n z => by obtain ⟨o,r⟩:=k _ z; rw [n] at r; cases r
 have cell : ∀ c ∈ cs,∀ o,H c = some (.ext (CellAt c o)) -> h'.get? c = some o:=fun c z o e => u.keep c o (show CellAt c o h from (x c _ e).1) (fK z) (nf c z) (by simp)
 have gone : ∀ c ∈ cs,H' c = none:=fun c z => by
  obtain ⟨o,e⟩:=k c z
  exact u.free c o (show CellAt c o h from (x c _ e).1) (fK z) (by simp)
 refine ⟨⟨fun b o e n hb _ => u.keep b o e (by rw [bP (nb b n)]; exact n) hb (by simp),fun b o e n hb _ => u.slot b o e (by rw [bP (nb b n)]; exact n) hb (by simp),fun b o e n _ => by rw [dS (nb b n)]; exact u.free b o e (by rw [bP (nb b n)]; exact n) (by simp),
  fun b o e _ => u.there b o e (by simp),fun b xs e => ?_,fun b o v e => ?_,fun b ps e => ?_⟩,fun b v e => ?_⟩
 ·have hb : b ∉ cs:=fun z => by obtain ⟨o,r⟩:=k _ z; rw [e] at r; cases r
  rw [dS hb]
  exact u.tups b xs (by rw [bP hb]; exact e)
 ·have hb : b ∉ cs:=fun z => by obtain ⟨o,r⟩:=k _ z; rw [e] at r; cases r
  rw [dS hb]
  exact u.frzs b o v (by rw [bP hb]; exact e)
 ·have hb : b ∉ cs:=fun z => by obtain ⟨o,r⟩:=k _ z; rw [e] at r; cases r
  rw [dS hb]
  exact u.tbls b ps (by rw [bP hb]; exact e)
 ·by_cases hb : b ∈ cs
  ·rw [ox hb] at e
   obtain ⟨o,r⟩:=k b hb
   rw [r] at e
   cases e
   exact CellAt.ok (cell b hb o r)
  ·rw [dS hb] at e
   refine (x' b v e).stay (fun _ _ _ q => q) (fun c q => ?_) fun c xs q => ?_ <;> rw [dS] <;> first | exact q | (intro z; rw [gone _ z] at q; cases q)
end
def pB (P : Program) (w : World) (K : PySem.W.Frag) (mg : Str -> Option Value) (base : Heap) (N : List Str) (qual : Str) (scope : Scope) (f : Addr) (cd : Value) (clos : List (Str × Addr)) (A : Around) (outer : List Env) (s : Shared) (H : Hp) : Cx where
 prog:=P
 w:=w
 K:=K
 mg:=mg
 base:=base
 A:=A.deeper (PySem.W.envX qual scope s.heap.objs.size f cd clos)
 N:=N
 s₀:=s
 H₀:=H
 env:=PySem.W.envX qual scope s.heap.objs.size f cd clos
 outer:=outer
 stack:=PySem.W.envX qual scope s.heap.objs.size f cd clos :: outer
 ex:=[]
 calm:=true
 fn:=fun _ => false
 pn:=[]
 xe:=fun _ _ => False
structure LamScope (ps fr : List Str) (sc : Scope) : Prop where
 kind : sc.kind = .function
 co : sc.isCoroutine = false
 gen : sc.isGenerator = false
 nd : (ps ++ fr).Nodup
 par : ∀ x ∈ ps,sc.names.lookup x = some .local
 fre : ∀ x ∈ fr,sc.names.lookup x = some .free
 nocell : ∀ y ∈ sc.names,y.2 ≠ .cell
 all : ∀ y ∈ sc.names,y.2 = .free -> y.1 ∈ fr
theorem lookup_mem {α : Type} : ∀ {l : List (Str × α)} {x : Str},x ∈ l.map (·.1) -> ∃ c,l.lookup x = some c
 | [],x,h => by simp at h
 | (y,d) :: r,x,h => by
  rw [List.lookup_cons]
  by_cases e : x = y
  ·subst e; simp
  ·rw [show (x == y) = false from beq_false_of_ne e]
   exact lookup_mem (by simpa [e] using h)
theorem n6 {l : List (Str × Addr)} {x y : Str} {c : Addr} (nd : (l.map (·.2)).Nodup) (h1 : l.lookup x = some c) (h2 : l.lookup y = some c) : x = y:=by
 have m1:=PySem.mem_of_lookup h1
 have m2:=PySem.mem_of_lookup h2
 have key : ∀ {l : List (Str × Addr)},(l.map (·.2)).Nodup -> (x,c) ∈ l -> (y,c) ∈ l -> x = y:=by
  intro l
  induction l with
  | nil => intro _ h; simp at h
  | cons p r ih =>
   intro nd m1 m2
   obtain ⟨nn,nr⟩:=List.nodup_cons.mp (show (p.2 :: r.map (·.2)).Nodup from nd)
   rcases List.mem_cons.mp m1 with e1 | m1
   ·rcases List.mem_cons.mp m2 with e2 | m2
    ·rw [<- e1] at e2
     cases e2
     rfl
    ·exact absurd (List.mem_map.mpr ⟨(y,c),m2,by rw [<- e1]⟩) nn
   ·rcases List.mem_cons.mp m2 with e2 | m2
    ·exact absurd (List.mem_map.mpr ⟨(x,c),m1,by rw [<- e2]⟩) nn
    ·exact ih nr m1 m2
 exact key nd m1 m2
theorem Paired.at {α β : Type} {F : α -> β -> Prop} : ∀ {l₁ : List α} {l₂ : List β},Paired F l₁ l₂ -> ∀ {i : Nat} {b : β},l₂[i]? = some b -> ∃ a,l₁[i]? = some a /\ F a b
 | _,_,.nil,i,b,e => by simp at e
 | _,_,.cons r t,0,b,e => by
  simp at e
  subst e
  exact ⟨_,rfl,r⟩
 | _,_,.cons r t,i + 1,b,e => by
  obtain ⟨a,h1,h2⟩:=Paired.at t (i:=i) (by simpa using e)
  exact ⟨a,by simpa using h1,h2⟩
theorem fL {α : Type} : ∀ {l : List (Str × α)} {x : Str} {c : α},(l.map (·.1)).Nodup -> (x,c) ∈ l -> l.lookup x = some c
 | [],_,_,_,h => by simp at h
 | (y,d) :: r,x,c,nd,h => by
  obtain ⟨nn,nr⟩:=List.nodup_cons.mp (show (y :: r.map (·.1)).Nodup from nd)
  rw [List.lookup_cons]
  rcases List.mem_cons.mp h with e | h
  ·cases e
   simp
  ·have ne : x ≠ y:=fun e => nn (by rw [<- e]; exact List.mem_map.mpr ⟨(x,c),h,rfl⟩)
   rw [show (x == y) = false from beq_false_of_ne ne]
   exact fL nr h
theorem zip_sub : ∀ {ps : List Str} {us : List Value},((ps.zip us).map (·.1)).Sublist ps
 | [],_ => by simp
 | _ :: _,[] => by simp
 | p :: ps,u :: us => by
  show (p :: (ps.zip us).map (·.1)).Sublist (p :: ps)
  exact zip_sub.cons₂ p
theorem kh {ps : List Str} {us : List Value} {i : Nat} {x : Str} {u : Value} (nd : ps.Nodup) (h1 : ps[i]? = some x) (h2 : us[i]? = some u) : (ps.zip us).reverse.lookup x = some u:=by
 refine fL ?_ (List.mem_reverse.mpr (List.mem_of_getElem? (i:=i) ?_))
 ·rw [List.map_reverse]
  refine List.pairwise_reverse.mpr (List.Pairwise.imp (fun h => Ne.symm h) (List.Nodup.sublist ?_ nd))
  exact zip_sub
 ·rw [List.getElem?_zip_eq_some]
  exact ⟨h1,h2⟩
section
variable {P : Program} {w : World} {K : PySem.W.Frag} {mg : Str -> Option Value} {base : Heap} {k : Nat} {f c' : Addr} {qual : Str} {params : Arguments} {body : Expr} {scope : Scope} {clos : List (Str × Addr)} {cvs : List V} {ps : List Str} {A : Around} {outer : List Env} {s : Shared} {H : Hp} {us : List Value} {vs : List V} {Q : VK} {t : TE}
theorem qz (S : LamScope ps (clos.map (·.1)) scope) (L : LamHas H f c' qual params body scope clos cvs) (hr : Room (k + 1) A) (e0 : Env0 P w K mg base A outer s H) (r : Vals vs us) (hl : vs.length = ps.length)
  (hbind : ∀ pm ctv,bindArgs (PySem.W.kla_fn "<lambda>" qual params body scope clos pm (.ref c') ctv) ⟨us,[]⟩ = pure (ps.zip us))
  (hb : PE (pB P w K mg base (ps ++ clos.map (·.1)) qual scope f (.ref c') clos A outer s (less H (clos.map (·.2)))) body t)
  (ht : t ((vs ++ cvs).map some) (less H (clos.map (·.2))) fun v H' => Q v (back H (clos.map (·.2)) H')) :
  codeAny (model P w) A (.call (.ref f) ⟨us,[]⟩) (fun r s' => ∃ u,r = .ok (.ret u) /\ CE outer P w H s Q u s') s:=by
 obtain ⟨pm,ctv,ef⟩ : LamAt f qual params body scope clos c' s.heap:=(e0.hok f _ L.fn).1
 obtain ⟨oc,cv,tc,e1,e2,e3⟩ : CodeAt c' qual s.heap:=(e0.hok c' _ L.cd).1
 have cells : Cells H (clos.map (·.2)):=fun c hc => by
  obtain ⟨⟨y,c2⟩,hm,rfl⟩:=List.mem_map.mp hc
  obtain ⟨i,hi⟩:=List.getElem?_of_mem hm
  have hl2 : i < cvs.length:=by rw [<- L.cl.length]; exact (List.getElem?_eq_some_iff.mp hi).1
  obtain ⟨a,h1,o,u,h2,_⟩:=Paired.at L.cl (List.getElem?_eq_getElem hl2)
  rw [hi] at h1
  cases h1
  exact ⟨o,h2⟩
 have lim : s.heap.NoLimit:=e0.mod.nolimit.keeps fun b o e => (e0.bs b o e).1
 have nfr : ∀ c ∈ clos.map (·.2),c ∉ frs outer:=fun c hc z => by
  obtain ⟨o,e⟩:=cells c hc
  rw [e0.frf c z] at e
  cases e
 refine PySem.W.kla_callFunE hr.depth ef rfl S.co S.gen rfl ⟨c',oc,cv,tc,rfl,e1,e2,e3⟩ ?_
 rw [hbind]
 refine wpAny_pure (wpAny_newFunctionEnv S.nocell (fun y hy => S.par y.1 (List.of_mem_zip (show (y.1,y.2) ∈ ps.zip us from hy)).1) (fun h₁ hns hsb => ⟨lim.fresh _ hsb,?_⟩) S.kind)
 have hk : ∀ b o,s.heap.get? b = some o -> h₁.get? b = some o:=fun b o e => hsb.extBut b o (Nat.ne_of_lt (Heap.lt_size e)) (Heap.get?_push_of_some _ e)
 have noA : ∀ b : Addr,b ∉ ([] : List Addr):=fun b z => absurd z (by simp)
 have I : Inv (pB P w K mg base (ps ++ clos.map (·.1)) qual scope f (.ref c') clos A outer s (less H (clos.map (·.2)))) [] ((vs ++ cvs).map some) (less H (clos.map (·.2))) { s with heap:=h₁,toks:=s.toks + (ps.zip us).length }:=by
  refine ⟨⟨e0.mod,S.kind,rfl,rfl,Nat.le_refl _,fun y z c h1 h2 => n6 L.nd h1 h2,fun y hy => ?_,fun y c h => (nomatch h),fun _ => hr.hd,Around.frames_deeper e0.frames,.inr ⟨rfl,rfl⟩,fun b z => absurd z (noA b),fun b o e => ⟨(e0.bs b o e).1,?_⟩,e0.bsz,fun b _ _ => noA b,fun b z => absurd z (noA b),e0.funs,fun b hb => ?_⟩,
   rfl,e0.bare,Un.kept hk,⟨_,hns,fun i y v h1 h2 h3 => ?_⟩,fun y c h => ?_,?_,fun y c h => fK (List.mem_map.mpr ⟨(y,c),PySem.mem_of_lookup h,rfl⟩),fun p hp => absurd (show p ∈ ([] : List (Addr × Obj)) from hp) (by simp),(e0.hok.lessC cells).kept hk,?_⟩
  ·have hy : scope.names.lookup y = some .cell \/ scope.names.lookup y = some .free:=hy
   rcases hy with hy | hy
   ·exact absurd rfl (S.nocell _ (PySem.mem_of_lookup hy))
   ·exact lookup_mem (S.all _ (PySem.mem_of_lookup hy) rfl)
  ·show less H (clos.map (·.2)) b = none
   by_cases z : b ∈ clos.map (·.2)
   ·exact fK z
   ·rw [bP z]; exact (e0.bs b o e).2
  ·show less H (clos.map (·.2)) b = none
   by_cases z : b ∈ clos.map (·.2)
   ·exact fK z
   ·rw [bP z]; exact e0.frf b hb
  ·have h1 : (ps ++ clos.map (·.1))[i]? = some y:=h1
   rw [List.getElem?_map] at h2
   by_cases hi : i < vs.length
   ·rw [List.getElem?_append_left hi] at h2
    have ha : vs[i]? = some v:=by
     cases e : vs[i]? with
     | none => rw [e] at h2; cases h2
     | some a => rw [e] at h2; cases h2; rfl
    rw [List.getElem?_append_left (by rw [<- hl]; exact hi)] at h1
    obtain ⟨u,hu,rv⟩:=r.get ha
    have ndP : ps.Nodup:=(List.nodup_append.mp S.nd).1
    refine ⟨u,rv,.inl ⟨S.par y (List.mem_of_getElem? h1),?_⟩⟩
    show (ps.zip us).reverse.lookup y = some u
    exact kh ndP h1 hu
   ·rw [List.getElem?_append_right (Nat.le_of_not_lt hi)] at h2
    rw [List.getElem?_append_right (by rw [<- hl]; exact Nat.le_of_not_lt hi),<- hl] at h1
    have ha : cvs[i - vs.length]? = some v:=by
     cases e : cvs[i - vs.length]? with
     | none => rw [e] at h2; cases h2
     | some a => rw [e] at h2; cases h2; rfl
    obtain ⟨⟨y2,c2⟩,g1,o,u,g2,g3,g4⟩:=Paired.at L.cl ha
    rw [List.getElem?_map,g1] at h1
    cases h1
    refine ⟨u,g4,.inr ⟨.inr (S.fre y2 (List.mem_map.mpr ⟨(y2,c2),List.mem_of_getElem? g1,rfl⟩)),c2,?_,o,hk _ _ (show CellAt c2 o s.heap from (e0.hok c2 _ g2).1),g3⟩⟩
    exact fL (List.nodup_append.mp S.nd).2.1 (List.mem_of_getElem? g1)
  ·obtain ⟨v,o,u,g2,g3,g4⟩:=Paired.lookup L.cl h
   exact ⟨some u,o,hk _ _ (show CellAt c o s.heap from (e0.hok c _ g2).1),g3⟩
  ·show less H (clos.map (·.2)) s.heap.objs.size = none
   by_cases z : s.heap.objs.size ∈ clos.map (·.2)
   ·exact fK z
   ·rw [bP z]; exact e0.hok.fresh (Nat.le_refl _)
  ·show ((vs ++ cvs).map some).length = (ps ++ clos.map (·.1)).length
   rw [List.length_map,List.length_append,List.length_append,List.length_map,hl,L.cl.length]
 refine PySem.W.kla_codeExpr (wpAny_mono (hb [] _ _ _ _ I ht) (fun u s' ⟨v,H',J,rv,q⟩ => ?_) fun e s' z => False.elim z)
 obtain ⟨un,hok⟩:=Un.back J.base cells e0.hok J.hok nfr
 exact ⟨u,rfl,v,_,J.os,J.bare,un,hok,rv,q⟩
end
end L2
set_option Elab.async false
set_option linter.all false
set_option maxRecDepth 100000
set_option maxHeartbeats 4000000
namespace L2
open PySem PySem.Spec PyProof.Rows
def FnV (v : V) (H : Hp) : Prop := ∃ f qual params body scope clos c',v = .ref f /\ H f = some (.ext (LamAt f qual params body scope clos c'))
def LR (X : Cx) (R : V -> List V -> Hp -> VK -> Prop) : Prop := ∀ (pins : List (Addr × Obj)) (s : Shared) (σ : St) (H : Hp) (f : Addr) (vs : List V) (us : List Value) (Q : VK),Inv X pins σ H s -> Vals vs us -> R (.ref f) vs H Q -> wpAny (model X.prog X.w) X.A (call (.ref f) us) (EP X pins σ Q) X.xe s
def rL (R : V -> List V -> Hp -> VK -> Prop) (tf : TE) (t : TA) : TE:=fun σ H Q => tf σ H fun v H1 => FnV v H1 /\ t σ H1 fun vs H2 => FnV v H2 /\ R v vs H2 Q
section
variable {X : Cx} {x : Str} {p pos : Pos} {e : Expr} {es : List Expr} {t : TA} {tf : TE} {R : V -> List V -> Hp -> VK -> Prop}
theorem FnV.at {v : V} {H : Hp} {h : Heap} {P : Program} {w : World} {u : Value} (F : FnV v H) (hok : HOk P w H h) (r : RelV v u) : ∃ f,v = .ref f /\ u = .ref f /\ PySem.W.FnAt f h:=by
 obtain ⟨f,qual,params,body,scope,clos,c',rfl,e⟩:=F
 obtain rfl : u = Value.ref f:=r
 obtain ⟨pm,ctv,z⟩ : LamAt f qual params body scope clos c' h:=(hok f _ e).1
 exact ⟨f,rfl,rfl,_,_,_,_,z⟩
theorem d9 (hf : PE X (.Name x p) tf) (ha : PA X (e :: es) t) (hc : LR X R) (he : starEach (e :: es) X.env = (false,eval e X.env) :: starEach es X.env:=by rfl) (hpl : (backTo pos (starEach es X.env)).any (·.1) = false:=by rfl) : PE X (.Call (.Name x p) (e :: es) [] pos) (rL R tf t):=by
 intro pins s σ H Q I h
 refine wpAny_Call_Name_kw (thn (hf pins s σ H _ I h) fun u s1 ⟨v,H1,I1,r,F,q⟩ => ?_)
 obtain ⟨f,rfl,rfl,fa⟩:=F.at I1.hok r
 refine PySem.W.callWith_F fa (thn (ha pos pins s1 σ H1 _ I1 q) fun us s2 ⟨vs,H2,I2,r2,F2,q2⟩ => ?_) he hpl
 obtain ⟨f',e1,e2,fa2⟩:=F2.at I2.hok (show RelV (V.ref f) (Value.ref f) from rfl)
 cases e1
 exact ⟨fa2,hc pins s2 σ H2 f vs us Q I2 r2 q2⟩
end
theorem rn {X : Cx} {k : Nat} {ps fr : List Str} {params : Arguments} {body : Expr} {scope : Scope} {te : TE} (hr : Room (k + 1) X.A) (S : LamScope ps fr scope)
  (hbind : ∀ (us : List Value),us.length = ps.length -> ∀ qual clos c' pm ctv,bindArgs (PySem.W.kla_fn "<lambda>" qual params body scope clos pm (.ref c') ctv) ⟨us,[]⟩ = pure (ps.zip us))
  (hb : ∀ (qual : Str) (f c' : Addr) (clos : List (Str × Addr)) (s : Shared) (H : Hp),clos.map (·.1) = fr -> Room k (X.A.deeper (PySem.W.envX qual scope s.heap.objs.size f (.ref c') clos)) ->
   PE (pB X.prog X.w X.K X.mg X.base (ps ++ fr) qual scope f (.ref c') clos X.A X.stack s H) body te) :
  LR X fun v vs H Q => vs.length = ps.length /\ ∃ f c' qual clos cvs,v = .ref f /\ clos.map (·.1) = fr /\ LamHas H f c' qual params body scope clos cvs /\ te ((vs ++ cvs).map some) (less H (clos.map (·.2))) fun v H' => Q v (back H (clos.map (·.2)) H'):=by
 intro pins s σ H f0 vs us Q I r ⟨hl,f,c',qual,clos,cvs,ev,hfr,L,ht⟩
 cases ev
 subst hfr
 refine wpAny_call (codeAny_mono (qz (k:=k) S L hr I.env0 r hl (fun pm ctv => hbind us (by rw [<- r.length]; exact hl) qual clos c' pm ctv) (hb qual f0 c' clos s _ rfl (hr.deeper _)) ht) fun r s' ⟨u,e,ce⟩ => ?_)
 subst e
 exact I.after ce
section
variable {X : Cx} {x y : Str} {i j k : Nat} {c : Addr} {ps : List Str} {dvs : List V} {sp : Sp} {p pos : Pos} {e : Expr} {es : List Expr} {t : TA} {CX : CXT} {f : Addr} {fd : FuncData} {ds : List Value}
end
theorem qu {K : PySem.W.Frag} {x : Str} {f c Pt : Addr} {oc : Value} {od : Option Addr} {fd : FuncData} {sl : Array (Option Value)} (a : PySem.W.nsIn K mainGlobals x = some (some (.ref f))) (l : K.lookup f = some ⟨oc,od,.func fd,sl⟩) (t : PySem.W.tabIn K x = some (c,Pt)) : fd.code = .ref c:=by
 unfold PySem.W.tabIn at t
 rw [a] at t
 simp only [l] at t
 split at t
 ·rename_i c2 e
  split at t
  ·split at t
   ·cases t; exact e
   ·cases t
  ·cases t
 ·cases t
end L2
set_option Elab.async false
set_option linter.all false
set_option maxRecDepth 100000
set_option maxHeartbeats 4000000
namespace L2
open PySem PySem.Spec PyProof.Rows
open Classical in
noncomputable def oC (cells : List (Str × Addr)) (h : Heap) (H : Hp) : Hp:=fun b => if ∃ y,cells.lookup y = some b then (h.get? b).map fun o => .ext (CellAt b o) else H b
theorem nJ {cells : List (Str × Addr)} {h : Heap} {H : Hp} {y : Str} {b : Addr} {o : Obj} (hy : cells.lookup y = some b) (e : h.get? b = some o) : oC cells h H b = some (.ext (CellAt b o)):=by
 unfold oC
 rw [if_pos ⟨y,hy⟩,e]
 rfl
theorem cO {cells : List (Str × Addr)} {h : Heap} {H : Hp} {b : Addr} (n : ∀ y,cells.lookup y ≠ some b) : oC cells h H b = H b:=if_neg fun ⟨y,e⟩ => n y e
theorem FunD.okR {P : Program} {w : World} {K : PySem.W.Frag} {mg : Str -> Option Value} {base : Heap} {x qual : Str} {st : Stmt} {dV : Value} {f c : Addr} {fd : FuncData} {N ps : List Str} {k : Nat} {sp : Sp} {e : Expr} {pos : Pos} (F : FunD K x qual st dV f fd) (hc : fd.code = .ref c) (S : FnScope N ps (ae st)) (len : ∀ vs H Q E,sp vs H Q E -> vs.length = ps.length)
  (hst : ay st = [.Return (some e) pos])
  (hbody : ∀ (A : Around) (outer : List Env) (s : Shared) (H : Hp) (vs : List V) (Q : VK) (E : XK),Room k (A.deeper (envOfC qual (ae st) s.heap.objs.size f (.ref c))) -> sp vs H Q E ->
   ∃ te,PE (nF CX0 P w K mg base N qual (ae st) f (.ref c) A outer s H E) e te /\ te (start N vs) H fun v H' => ∀ H'' : Hp,(∀ b,(∀ y,(envOfC qual (ae st) s.heap.objs.size f (.ref c)).cells.lookup y ≠ some b) -> H'' b = H' b) ->
    (∀ (i : Nat) (y : Str) (z : V) (d : Addr),N[i]? = some y -> (start N vs)[i]? = some (some z) -> (ae st).names.lookup y = some .cell -> (envOfC qual (ae st) s.heap.objs.size f (.ref c)).cells.lookup y = some d -> H' d = none /\ rR H'' d z) -> Q v H'') : FnOk P w K mg base CX0 (k + 1) f fd ps sp:=by
 obtain ⟨oc,od,kV,doc,pm,an,cdv,ct,osl,rfl,lk,hcd⟩:=F.ex
 obtain rfl : cdv = .ref c:=hc
 refine ⟨len,fun A outer s H args us vs Q E hr e0 hb r hsp => ?_⟩
 have hl:=len _ _ _ _ hsp
 have KX : K.In s.heap:=e0.mod.kin.keeps fun b o e => (e0.bs b o e).1
 have lim : s.heap.NoLimit:=e0.mod.nolimit.keeps fun b o e => (e0.bs b o e).1
 have hkind : ∀ y ∈ ps.zip us,(ae st).names.lookup y.1 = some .local \/ ((ae st).names.lookup y.1 = some .cell /\ ((cellsFrom (s.heap.objs.size + 1) (ae st).names []).lookup y.1).isSome = true):=fun ⟨n,v⟩ hy => by
  rcases S.par n (List.of_mem_zip hy).1 with q | q
  ·exact .inl q
  ·exact .inr ⟨q,PySem.W.cellsFrom_some _ _ _ (.inl q)⟩
 refine codeAny_call_function hr.depth (KX _ _ lk) rfl S.co S.gen rfl (PySem.W.codeRec_of KX hcd) (hb _ _ _ _ ?_)
 refine wpAny_newFunctionEnv_cells S.kind hkind fun env he s1 x => ?_
 subst he
 refine ⟨lim.keeps x.toInCall.keep,codeAny_func ?_⟩
 obtain ⟨t,ht,hq⟩:=hbody A outer s H vs Q E (hr.deeper _) hsp
 have I : Inv (nF CX0 P w K mg base N qual (ae st) f (.ref c) A outer s H E) [] (start N vs) H s1:=lP S hr.hd e0 hl r x
 rw [hst]
 refine wpAny_execs_cons (wpAny_Return_some (wpAny_mono (ht [] s1 (start N vs) H _ I hq) (fun u s' hs => ?_) fun e s' hs => hs))
 show CE outer P w H s Q u s'
 obtain ⟨v,H',J,rv,q⟩:=hs
 have fr : ∀ y d,(envOfC qual (ae st) s.heap.objs.size f (.ref c)).cells.lookup y = some d -> H' d = none:=fun y d e => J.freeC y d e
 have ge : ∀ y d,(envOfC qual (ae st) s.heap.objs.size f (.ref c)).cells.lookup y = some d -> s.heap.objs.size <= d:=fun y d e => J.ok.cab y d rfl e
 have no : ∀ b z,H' b = some z -> ∀ y,(envOfC qual (ae st) s.heap.objs.size f (.ref c)).cells.lookup y ≠ some b:=fun b z e y hy => by rw [fr y b hy] at e; cases e
 have nold : ∀ b o,s.heap.get? b = some o -> ∀ y,(envOfC qual (ae st) s.heap.objs.size f (.ref c)).cells.lookup y ≠ some b:=fun b o e y hy => Nat.lt_irrefl _ (Nat.lt_of_lt_of_le (Heap.lt_size e) (ge y b hy))
 refine ⟨v,oC (envOfC qual (ae st) s.heap.objs.size f (.ref c)).cells s'.heap H',J.os,J.bare,⟨J.base.keep,J.base.slot,fun b o e n hx => ?_,J.base.there,fun b xs e => ?_,fun b o z e => ?_,fun b qs e => ?_⟩,fun b z e => ?_,rv,q _ (fun b n => cO n) fun i y z d h1 h2 h3 h4 => ⟨fr y d h4,?_⟩⟩
 ·rw [cO (nold b o e)]
  exact J.base.free b o e n hx
 ·have e' := J.base.tups b xs e
  rw [cO (no b _ e')]
  exact e'
 ·have e' := J.base.frzs b o z e
  rw [cO (no b _ e')]
  exact e'
 ·obtain ⟨more,e'⟩:=J.base.tbls b qs e
  exact ⟨more,by rw [cO (no b _ e')]; exact e'⟩
 ·by_cases hb : ∃ y,(envOfC qual (ae st) s.heap.objs.size f (.ref c)).cells.lookup y = some b
  ·obtain ⟨y,hy⟩:=hb
   obtain ⟨cv,o,ho,_⟩:=J.cell y b hy
   rw [nJ hy ho] at e
   cases e
   exact CellAt.ok ho
  ·have hn : ∀ y,(envOfC qual (ae st) s.heap.objs.size f (.ref c)).cells.lookup y ≠ some b:=fun y hy => hb ⟨y,hy⟩
   rw [cO hn] at e
   exact (J.hok b z e).stay (fun _ _ _ q => q) (fun d q => by rw [cO (no d _ q)]; exact q) fun d xs q => by rw [cO (no d _ q)]; exact q
 ·obtain ⟨m,_,hl⟩:=J.loc
  obtain ⟨u',ru,hlk⟩:=hl i y z h1 h2 (.inr (.inl h3))
  rcases hlk with ⟨hk,_⟩ | ⟨_,c2,hc2,o,ho,hdat⟩
  ·have hk' : (ae st).names.lookup y = some .local:=hk
   rw [h3] at hk'
   cases hk'
  have hc2' : (envOfC qual (ae st) s.heap.objs.size f (.ref c)).cells.lookup y = some c2:=hc2
  rw [h4] at hc2'
  cases hc2'
  exact ⟨o,u',nJ h4 ho,hdat,ru⟩
structure Mk0 (K : PySem.W.Frag) (C : Addr) : Prop where
 makes : PySem.W.makesIn K C = true
 init : PySem.W.findIn K (.ref C) "__init__" = some (some (.builtin "object.__init__"))
 kp : PySem.W.keepIn K (.ref C) = true
def sj (C : Addr) : TE:=fun _ H Q => ∀ x dx,H x = none -> H dx = none -> dx ≠ x -> Q (.ref x) (upd (upd H dx (.own x)) x (.ins C dx []))
theorem p8 {X : Cx} {x : Str} {C : Addr} {p pos : Pos} (hm : X.mg x = some (.ref C)) (M : Mk0 X.K C) (hg : Gl X x:=by rfl) (hdb : (x == ("__debug__" : Str)) = false:=by decide) : PE X (.Call (.Name x p) [] [] pos) (sj C):=by
 intro pins s σ H Q I h
 refine wpAny_Call_Name_kw (j1 I hg hm ?_ hdb)
 refine PySem.W.callWith_K0 I.kIn M.kp (wpAny_call ?_)
 have I2:=Inv.made (C:=C) I
 have hq:=h (s.heap.objs.size + 1) s.heap.objs.size (I.hok.fresh (Nat.le_succ _)) (I.hok.fresh (Nat.le_refl _)) (Nat.ne_of_lt (Nat.lt_succ_self _))
 have KX:=I.kIn
 obtain ⟨hh,g,d,tk,os⟩:=s
 have Y:=PySem.W.makes_of (M:=model X.prog X.w) KX M.makes
 refine o3 KX M.makes M.init (fun self => PySem.W.Looks.of_pure (PySem.W.oi_bind self)) ?_
 have hx : ((hh.push PySem.W.emptyDict).push (PySem.W.instObj C hh.objs.size)).get? (hh.objs.size + 1) = some (PySem.W.instObj C hh.objs.size):=by
  have:=Heap.get?_push_size (o:=PySem.W.instObj C hh.objs.size) (hh.push PySem.W.emptyDict) rfl
  rw [Heap.size_push] at this
  exact this
 have t1 : PySem.W.Looks (model X.prog X.w) ((hh.push PySem.W.emptyDict).push (PySem.W.instObj C hh.objs.size)) (typeOf (.ref (hh.objs.size + 1))) (.ref C):=(PySem.W.Looks.ld hx).andThen .now
 have t2 : PySem.W.Looks (model X.prog X.w) ((hh.push PySem.W.emptyDict).push (PySem.W.instObj C hh.objs.size)) (isInstance (.ref (hh.objs.size + 1)) (.type "object")) true:=t1.andThen (Y.top.keeps fun b o e => Heap.get?_push_of_some _ (Heap.get?_push_of_some _ e))
 refine codeAny_call_builtin PySem.W.oi_plain PySem.W.entry_oi (@PySem.W.check_slot (model X.prog X.w) _ _ _ "object.__init__" "object" "__init__" (.ref (hh.objs.size + 1)) [] [] _ PySem.W.oi_kind PySem.W.oi_split t2 (PySem.W.oi_args (.ref (hh.objs.size + 1))) ?_)
 rw [PySem.W.oi_run]
 exact wpAny_pure (And.intro rfl ⟨.ref _,_,I2,rfl,hq⟩)
end L2
set_option Elab.async false
set_option linter.all false
set_option maxRecDepth 100000
set_option maxHeartbeats 8000000
namespace My
open PySem L2
abbrev LL:=List (List Int)
abbrev LI:=List Int
abbrev OV:=Option V
theorem gi_ {α : Type} {l : List α} {i : Nat} {a : α} (h : l[i]? = some a) : ∃ h : i < l.length,l[i] = a:=List.getElem?_eq_some_iff.mp h
theorem mq_ {α : Type} {l : List α} {i : Nat} {a : α} (h : l[i]? = some a) : a ∈ l:=List.mem_of_getElem? h
theorem ma_ {α : Type} {a : α} {s t : List α} : a ∈ s ++ t ↔ a ∈ s \/ a ∈ t:=List.mem_append
theorem lm_ {α β : Type} {f : α -> β} {l : List α} : (l.map f).length = l.length:=List.length_map f
theorem qT_ {K : PySem.W.Frag} {H : Hp} {a : Addr} {xs : List V} (h : H a = some (.tup xs)) : SqT K H a xs:=SqT.of h
theorem qL_ {K : PySem.W.Frag} {H : Hp} {a : Addr} {xs : List V} (h : H a = some (.lst xs)) : SqL K H a xs:=SqL.of h
def top (i : Nat) : Stmt:=PySem.Challenge.pw_figuretell_k21_reading_and_pairing.main.body.getD i (.Pass ⟨0,0,0,0⟩)
abbrev bT : Stmt:=top 5
abbrev cn : Stmt:=top 6
abbrev bK : Stmt:=top 7
abbrev cR : Stmt:=top 8
abbrev ba : Stmt:=top 9
abbrev cg : Stmt:=top 10
abbrev cm : Stmt:=top 11
abbrev bU : Stmt:=top 12
abbrev ck : Stmt:=top 13
abbrev bt : Stmt:=top 14
abbrev bf : Stmt:=top 15
abbrev eB : Stmt:=top 16
abbrev cj : Stmt:=inClass (top 1) 0
abbrev cQ : Stmt:=inClass (top 1) 1
abbrev cP : Stmt:=inClass (top 1) 2
abbrev aY : Stmt:=inClass (top 2) 0
abbrev br : Stmt:=inClass (top 2) 1
abbrev bJ : Stmt:=inClass (top 2) 2
abbrev bI : Stmt:=inClass (top 2) 3
abbrev aX : Stmt:=inClass (top 3) 0
abbrev bb : Stmt:=inClass (top 3) 1
abbrev bo : Stmt:=inClass (top 3) 2
abbrev bj : Stmt:=inClass (top 3) 3
theorem q8 {c A B : Prop} [Decidable c] (h1 : c -> A) (h2 : ¬ c -> B) : if decide c = true then A else B:=rX (fun h => h1 (of_decide_eq_true h)) fun h => h2 fun z => h (decide_eq_true z)
theorem pI {c A B : Prop} [Decidable c] (h1 : ¬ c -> A) (h2 : c -> B) : if (!decide c) = true then A else B:=rX (fun h => h1 fun z => by rw [decide_eq_true z] at h; cases h) fun h => h2 (Decidable.byContradiction fun z => h (by rw [decide_eq_false z]; rfl))
theorem q9 {a b : Int} {A B : Prop} (h1 : a = b -> A) (h2 : a ≠ b -> B) : if decide (V.int a = V.int b) = true then A else B:=q8 (fun h => h1 (V.int.inj h)) fun h => h2 fun z => h (congrArg V.int z)
theorem ro {a b m n : Int} (a0 : 0 <= a) (a1 : a <= m) (b0 : 0 <= b) (b1 : b <= n) : 0 <= a * b /\ a * b <= m * n:=⟨Int.mul_nonneg a0 b0,Int.mul_le_mul a1 b1 b0 (Int.le_trans a0 a1)⟩
theorem dA {a b : Int} (h : 0 < b) : 0 <= a % b /\ a % b < b:=⟨Int.emod_nonneg a (by omega),Int.emod_lt_of_pos a h⟩
theorem qv {t u : TS} {D : Ends} {σ : St} {H : Hp} (R : St -> Hp -> Prop) (h2 : ∀ σ' H',R σ' H' -> u D σ' H') (h1 : (∀ σ' H',R σ' H' -> u D σ' H') -> nU t u D σ H) : nU t u D σ H:=h1 h2
theorem lO {t u : TS} {D : Ends} {σ : St} {H : Hp} (R : St -> Hp -> Prop) (h1 : ∀ σ' H',R σ' H' -> u D σ' H') (h2 : ∀ D' : Ends,(∀ σ' H',R σ' H' -> D'.nx σ' H') -> t D' σ H) : nU t u D σ H:=h2 { D with nx:=u D } h1
theorem bR {H H' : Hp} {p : Addr} {o : HO} (h : Same H H') (hp : H p = none) : Same H (upd H' p o):=fun b u e => by rw [aw (aJ e hp)]; exact h b u e
theorem oi {x : Int} (h : 0 <= x) : ∃ n : Nat,x = (n : Int):=⟨x.toNat,by omega⟩
theorem getD_at {α : Type} {xs : List α} {i : Nat} {d : α} (h : i < xs.length) : xs.getD i d = xs[i]:=by simp [h]
theorem cw {ns : LI} {k : Int} (h0 : 0 <= k) (h : k < (ns.length : Int)) : atI (ns.map V.int) k = some (.int (ns.getD k.toNat 0)):=by
 have hk : k.toNat < ns.length:=by omega
 have ek : k = ((k.toNat : Nat) : Int):=by omega
 have q : atI (ns.map V.int) ((k.toNat : Nat) : Int) = some (.int ns[k.toNat]):=jY (by rw [List.getElem?_map,List.getElem?_eq_getElem hk] <;> rfl)
 rw [<- ek] at q
 rw [q,getD_at hk]
theorem pj {ras : List Addr} {k : Int} {ra : Addr} (h0 : 0 <= k) (h : ras[k.toNat]? = some ra) : atI (ras.map V.ref) k = some (.ref ra):=by
 have ek : k = ((k.toNat : Nat) : Int):=by omega
 have q : atI (ras.map V.ref) ((k.toNat : Nat) : Int) = some (.ref ra):=jY (by rw [List.getElem?_map,h] <;> rfl)
 rw [<- ek] at q
 exact q
theorem qx {ns : LI} {i : Nat} {y : V} (h : (ns.map V.int)[i]? = some y) : ∃ z,y = V.int z /\ ns[i]? = some z:=by
 rw [List.getElem?_map] at h
 cases e : ns[i]? with
 | none => rw [e] at h; cases h
 | some z => rw [e] at h; exact ⟨z,(Option.some.inj h).symm,rfl⟩
theorem bq (K : PySem.W.Frag) : PySem.W.kitOne K (.type "tuple") (.type "tuple") = some true:=by with_unfolding_all rfl
def stepI (rows : LL) (h f : Int) : Int:=(rows.getD h.toNat []).getD f.toNat 0
structure RowsOk (many wide : Nat) (rows : LL) : Prop where
 len : rows.length = many
 row : ∀ r ∈ rows,r.length = wide
 val : ∀ r ∈ rows,∀ v ∈ r,0 <= v /\ v < (many : Int)
theorem nQ {many wide : Nat} {rows : LL} {h f : Int} (R : RowsOk many wide rows) (h0 : 0 <= h) (h1 : h < many) (f0 : 0 <= f) (f1 : f < wide) : 0 <= stepI rows h f /\ stepI rows h f < many:=by
 have l1 : h.toNat < rows.length:=by rw [R.len]; omega
 have l2 : f.toNat < rows[h.toNat].length:=by rw [R.row _ (List.getElem_mem l1)]; omega
 unfold stepI
 rw [getD_at l1,getD_at l2]
 exact R.val _ (List.getElem_mem l1) _ (List.getElem_mem l2)
def RowsAt (H : Hp) : List Addr -> LL -> Prop:=Paired fun a r => H a = some (.tup (r.map V.int))
theorem RowsAt.length {H : Hp} {ras : List Addr} {rows : LL} (h : RowsAt H ras rows) : ras.length = rows.length:=Paired.length h
theorem RowsAt.get : ∀ {H : Hp} {ras : List Addr} {rows : LL} {i : Nat},RowsAt H ras rows -> (h : i < rows.length) -> ∃ ra,ras[i]? = some ra /\ H ra = some (.tup (rows[i].map V.int))
 | _,_,_,_,.nil,h => by simp at h
 | _,_,_,0,.cons (a:=a) r _,_ => ⟨a,rfl,r⟩
 | _,_,_,i + 1,.cons _ t,h => by
  obtain ⟨ra,h1,h2⟩:=RowsAt.get (i:=i) t (by simpa using h)
  exact ⟨ra,by simpa using h1,by simpa using h2⟩
theorem RowsAt.same {H H' : Hp} {ras : List Addr} {rows : LL} (h : RowsAt H ras rows) (s : ∀ b xs,H b = some (.tup xs) -> H' b = some (.tup xs)) : RowsAt H' ras rows:=Paired.mapP h fun _ _ q => s _ _ q
theorem RowsAt.snoc : ∀ {H : Hp} {ras : List Addr} {rows : LL} {a : Addr} {r : LI},RowsAt H ras rows -> H a = some (.tup (r.map V.int)) -> RowsAt H (ras ++ [a]) (rows ++ [r])
 | _,_,_,_,_,.nil,h => .cons h .nil
 | _,_,_,_,_,.cons q t,h => .cons q (RowsAt.snoc t h)
structure MachAt (H : Hp) (m r g : Addr) (wide : Nat) (rows : LL) (signs : LI) : Prop where
 tup : H m = some (.tup [.int wide,.ref r,.ref g])
 rows : ∃ ras,H r = some (.tup (ras.map V.ref)) /\ RowsAt H ras rows
 sgn : H g = some (.tup (signs.map V.int))
theorem MachAt.same {H H' : Hp} {m r g : Addr} {wide : Nat} {rows : LL} {signs : LI} (M : MachAt H m r g wide rows signs) (s : ∀ b xs,H b = some (.tup xs) -> H' b = some (.tup xs)) : MachAt H' m r g wide rows signs:=by
 obtain ⟨h1,⟨ras,h2,h3⟩,h4⟩:=M
 exact ⟨s _ _ h1,⟨ras,s _ _ h2,h3.same s⟩,s _ _ h4⟩
theorem gx {H : Hp} {ras : List Addr} {rows : LL} {many wide : Nat} {h f : Int} (A : RowsAt H ras rows) (R : RowsOk many wide rows) (h0 : 0 <= h) (h1 : h < many) (f0 : 0 <= f) (f1 : f < wide) :
  ∃ (ra : Addr) (r : LI),atI (ras.map V.ref) h = some (.ref ra) /\ H ra = some (.tup (r.map V.int)) /\ atI (r.map V.int) f = some (.int (stepI rows h f)):=by
 have l1 : h.toNat < rows.length:=by rw [R.len]; omega
 have l2 : rows[h.toNat].length = wide:=R.row _ (List.getElem_mem l1)
 obtain ⟨ra,e1,e2⟩:=A.get l1
 refine ⟨ra,rows[h.toNat],pj h0 e1,e2,?_⟩
 rw [cw f0 (by rw [l2]; exact f1)]
 unfold stepI
 rw [getD_at l1]
def rY : Expr -> Arguments × Expr × Scope
 | .Lambda p b s _ => (p,b,s)
 | e => (⟨[],[],none,[],[],none,[]⟩,e,{ kind:=ScopeKind.function,names:=[],isGenerator:=false,isCoroutine:=false,more:=[] })
def rk : Expr -> Pos
 | .Lambda _ _ _ p => p
 | _ => ⟨0,0,0,0⟩
def sI : Stmt -> Expr
 | .Return (some e) _ => e
 | _ => .Name "" ⟨0,0,0,0⟩
def rj : Expr:=sI ((ay cg).getD 0 (.Pass ⟨0,0,0,0⟩))
def eU : Arguments × Expr × Scope:=rY rj
def iz : Str := "_law_rule" ++ ".<locals>." ++ "<lambda>"
def qh : Pos:=rk rj
theorem rl : LamScope ["_law_here","_law_there"] ["_law_times","_law_more"] eU.2.2:=⟨rfl,rfl,rfl,by decide +kernel,by decide +kernel,by decide +kernel,by decide +kernel,by decide +kernel⟩
def e5 (t m a b : Int) : Int:=(t * a + 3 * b + m) % 1000000
structure RuleAt (H : Hp) (f : Addr) (t m : Int) : Prop where
 ex : ∃ (c' : Addr) (clos : List (Str × Addr)),clos.map (·.1) = (["_law_times","_law_more"] : List Str) /\ LamHas H f c' iz eU.1 eU.2.1 eU.2.2 clos [.int t,.int m]
 t0 : 0 <= t
 t1 : t <= 1000
theorem LamHas.same {H H' : Hp} {f c' : Addr} {qual : Str} {params : Arguments} {body : Expr} {scope : Scope} {clos : List (Str × Addr)} {cvs : List V} (L : LamHas H f c' qual params body scope clos cvs) (s : Same H H') : LamHas H' f c' qual params body scope clos cvs:=
 ⟨s _ _ L.fn,s _ _ L.cd,Paired.mapP L.cl fun _ _ ⟨o,u,e,r⟩ => ⟨o,u,s _ _ e,r⟩,L.nd⟩
theorem RuleAt.same {H H' : Hp} {f : Addr} {t m : Int} (h : RuleAt H f t m) (s : Same H H') : RuleAt H' f t m:=by
 obtain ⟨⟨c',clos,h1,L⟩,t0,t1⟩:=h
 exact ⟨⟨c',clos,h1,LamHas.same L s⟩,t0,t1⟩
theorem RuleAt.fnv {H : Hp} {f : Addr} {t m : Int} (h : RuleAt H f t m) : FnV (.ref f) H:=by
 obtain ⟨⟨c',clos,h1,L⟩,_⟩:=h
 exact ⟨f,iz,eU.1,eU.2.1,eU.2.2,clos,c',rfl,L.fn⟩
def sd : V -> List V -> Hp -> VK -> Prop:=fun v vs H Q => ∃ (f : Addr) (t m a b : Int),v = .ref f /\ vs = [.int a,.int b] /\ RuleAt H f t m /\ Q (.int (e5 t m a b)) H
def sA : TE:=tOp (rI (fun _ j => 0 < j) fun i j => .int (i % j)) (tOp (rI0 fun i j => .int (i + j)) (tOp (rI0 fun i j => .int (i + j)) (tOp (rI CMul fun i j => .int (i * j)) (dM 2) (dM 0)) (tOp (rI CMul fun i j => .int (i * j)) (tC (.int 3)) (dM 1))) (dM 3)) (tC (.int 1000000))
theorem fM {X : Cx} {k : Nat} (hr : Room (k + 1) X.A) : LR X sd:=by
 intro pins s σ H f0 vs us Q I r ⟨f,t,m,a,b,e,ev,⟨⟨c',clos,hc,L⟩,t0,t1⟩,q⟩
 subst ev
 refine rn (k:=k) (ps:=["_law_here","_law_there"]) (fr:=["_law_times","_law_more"]) (params:=eU.1) (body:=eU.2.1) (scope:=eU.2.2) (te:=sA) hr rl (fun us hl qual clos c' pm ctv => ?_) (fun qual f c' clos s H hfr _ => ?_) pins s σ H f0 _ us Q I r ⟨rfl,f,c',iz,clos,[.int t,.int m],e,hc,L,?_⟩
 ·match us,hl with
  | [u,v],_ => rfl
 ·exact aF bH (aF cu (aF cu (aF eO (kr (i:=2) rfl (.inr (.inr rfl))) (kr (i:=0) rfl (.inl rfl))) (aF eO af (kr (i:=1) rfl (.inl rfl)))) (kr (i:=3) rfl (.inr (.inr rfl)))) af
 ·refine ⟨_,rfl,_,rfl,_,_,rfl,rfl,.inl ⟨by omega,by omega⟩,_,rfl,_,_,rfl,rfl,.inl ⟨by decide,by decide⟩,_,_,rfl,rfl,_,rfl,_,_,rfl,rfl,_,_,rfl,rfl,(by show (0 : Int) < 1000000; decide),?_⟩
  show Q (.int (e5 t m a b)) (back H _ (less H _))
  rw [oP]
  exact q
end My
set_option Elab.async false
set_option linter.all false
set_option maxRecDepth 100000
set_option maxHeartbeats 8000000
namespace My
open PySem L2
inductive Pl where
 | non
 | num (p : Int)
 | pair (l r : Pl)
def PlAt (H : Hp) : V -> Pl -> Prop
 | v,.non => v = .non
 | v,.num p => v = .int p
 | v,.pair l r => ∃ (a : Addr) (x y : V),v = .ref a /\ H a = some (.tup [x,y]) /\ PlAt H x l /\ PlAt H y r
theorem PlAt.keep {H H' : Hp} (k : ∀ a xs,H a = some (.tup xs) -> H' a = some (.tup xs)) : ∀ {p : Pl} {v : V},PlAt H v p -> PlAt H' v p
 | .non,_,h => h
 | .num _,_,h => h
 | .pair l r,_,⟨a,x,y,e,ha,h1,h2⟩ => ⟨a,x,y,e,k _ _ ha,PlAt.keep k h1,PlAt.keep k h2⟩
structure RCls (K : PySem.W.Frag) (C : Addr) : Prop where
 cl : Cls K C
 nr : NoAttr K C "rows"
 ns : NoAttr K C "signs"
structure RdAt (H : Hp) (C x r g : Addr) : Prop where
 ob : ∃ dx : Addr,H x = some (.ins C dx [("rows",.ref r),("signs",.ref g)])
theorem RdAt.same {H H' : Hp} {C x r g : Addr} (h : RdAt H C x r g) (s : Same H H') : RdAt H' C x r g:=by
 obtain ⟨dx,h1⟩:=h.ob
 exact ⟨dx,s _ _ h1⟩
def j5 (C : Addr) : Sp:=fun vs H Q _ => ∃ (x dx m r g : Addr) (wide : Nat) (rows : LL) (signs : LI),vs = [.ref x,.ref m] /\ H x = some (.ins C dx []) /\ MachAt H m r g wide rows signs /\
 ∀ H' : Hp,(∀ c u,c ≠ x -> H c = some u -> H' c = some u) -> RdAt H' C x r g -> Q .non H'
inductive Wk where
 | walk
 | read (many wide : Nat) (rows : LL) (signs : LI)
 | pair (a b : Wk) (t m : Int)
def WkAt (CW CR CP : Addr) (H : Hp) : Addr -> Wk -> Prop
 | x,.walk => ∃ dx,H x = some (.ins CW dx [])
 | x,.read many wide rows signs => ∃ m r g,RdAt H CR x r g /\ MachAt H m r g wide rows signs /\ RowsOk many wide rows /\ signs.length = many
 | x,.pair a b t m => ∃ dx o1 o2 fn,H x = some (.ins CP dx [("one",.ref o1),("other",.ref o2),("rule",.ref fn)]) /\ WkAt CW CR CP H o1 a /\ WkAt CW CR CP H o2 b /\ RuleAt H fn t m
theorem WkAt.same {CW CR CP : Addr} {H H' : Hp} (s : Same H H') : ∀ {k : Wk} {x : Addr},WkAt CW CR CP H x k -> WkAt CW CR CP H' x k
 | .walk,_,⟨dx,h⟩ => ⟨dx,s _ _ h⟩
 | .read ..,_,⟨m,r,g,h1,h2,h3⟩ => ⟨m,r,g,h1.same s,h2.same (fun b xs e => s _ _ e),h3⟩
 | .pair ..,_,⟨dx,o1,o2,fn,h,h1,h2,h3⟩ => ⟨dx,o1,o2,fn,s _ _ h,WkAt.same s h1,WkAt.same s h2,h3.same s⟩
def nV : Wk -> Pl
 | .walk => .non
 | .read .. => .num 0
 | .pair a b _ _ => .pair (nV a) (nV b)
def jc : Wk -> Pl -> Int -> Pl
 | .walk,_,_ => .non
 | .read _ _ rows _,.num q,f => .num (stepI rows q f)
 | .pair a b _ _,.pair l r,f => .pair (jc a l f) (jc b r f)
 | _,_,_ => .non
def nW : Wk -> Pl -> Int
 | .walk,_ => 0
 | .read _ _ _ signs,.num q => signs.getD q.toNat 0
 | .pair a b t m,.pair l r => e5 t m (nW a l) (nW b r)
 | _,_ => 0
def Fits : Wk -> Pl -> Prop
 | .walk,.non => True
 | .read many _ _ _,.num q => 0 <= q /\ q < (many : Int)
 | .pair a b _ _,.pair l r => Fits a l /\ Fits b r
 | _,_ => False
def lI : Wk -> Int -> Prop
 | .walk,_ => True
 | .read _ wide _ _,f => 0 <= f /\ f < (wide : Int)
 | .pair a b _ _,f => lI a f /\ lI b f
def isW (k : Wk) : Prop:=k = .walk
def isR (k : Wk) : Prop := ∃ many wide rows signs,k = .read many wide rows signs
def dv (okP : Wk -> Prop) (k : Wk) : Prop:=isW k \/ isR k \/ okP k
def isP (okP : Wk -> Prop) (k : Wk) : Prop := ∃ a b t m,k = .pair a b t m /\ dv okP a /\ dv okP b
structure WC where
 W : Addr
 R : Addr
 P : Addr
def bA (C : WC) (ok : Wk -> Prop) : Sp:=fun vs H Q _ => ∃ (x : Addr) (k : Wk),vs = [.ref x] /\ ok k /\ WkAt C.W C.R C.P H x k /\ ∀ v H',Same H H' -> PlAt H' v (nV k) -> Q v H'
def bC (C : WC) (ok : Wk -> Prop) : Sp:=fun vs H Q _ => ∃ (x : Addr) (k : Wk) (v : V) (p : Pl) (f : Int),vs = [.ref x,v,.int f] /\ ok k /\ WkAt C.W C.R C.P H x k /\ PlAt H v p /\ Fits k p /\ lI k f /\ ∀ v H',Same H H' -> PlAt H' v (jc k p f) -> Q v H'
def bB (C : WC) (ok : Wk -> Prop) : Sp:=fun vs H Q _ => ∃ (x : Addr) (k : Wk) (v : V) (p : Pl),vs = [.ref x,v] /\ ok k /\ WkAt C.W C.R C.P H x k /\ PlAt H v p /\ Fits k p /\ Q (.int (nW k p)) H
def oo (Pt : Addr) : Sp:=fun vs H Q _ => ∃ t m : Int,vs = [.int t,.int m] /\ (0 <= t /\ t <= 1000) /\ TabSt H Pt iz qh /\
 ∀ (f : Addr) (H' : Hp),(∀ b u,b ≠ Pt -> H b = some u -> H' b = some u) -> TabSt H' Pt iz qh -> RuleAt H' f t m -> Q (.ref f) H'
section
variable {P : Program} {w : World} {K : PySem.W.Frag} {mg : Str -> Option Value} {base : Heap} {f c Pt : Addr} {fd : FuncData} {dV : Value} {C : Addr}
theorem m5 : FnScope ["_law_times","_law_more"] ["_law_times","_law_more"] (ae cg):=⟨rfl,rfl,rfl,by decide +kernel,rfl,by decide +kernel,by decide +kernel⟩
theorem lz : FnScope ["self"] ["self"] (ae cj):=⟨rfl,rfl,rfl,by decide +kernel,rfl,by decide +kernel,by decide +kernel⟩
theorem m3 : FnScope ["self","place","figure"] ["self","place","figure"] (ae cQ):=⟨rfl,rfl,rfl,by decide +kernel,rfl,by decide +kernel,by decide +kernel⟩
theorem mZ : FnScope ["self","place"] ["self","place"] (ae cP):=⟨rfl,rfl,rfl,by decide +kernel,rfl,by decide +kernel,by decide +kernel⟩
theorem gU : FnScope ["self","machine"] ["self","machine"] (ae aY):=⟨rfl,rfl,rfl,by decide +kernel,rfl,by decide +kernel,by decide +kernel⟩
theorem i5 : FnScope ["self"] ["self"] (ae br):=⟨rfl,rfl,rfl,by decide +kernel,rfl,by decide +kernel,by decide +kernel⟩
theorem jS : FnScope ["self","place","figure"] ["self","place","figure"] (ae bJ):=⟨rfl,rfl,rfl,by decide +kernel,rfl,by decide +kernel,by decide +kernel⟩
theorem jR : FnScope ["self","place"] ["self","place"] (ae bI):=⟨rfl,rfl,rfl,by decide +kernel,rfl,by decide +kernel,by decide +kernel⟩
theorem qG (F : FunD K "_law_rule" "_law_rule" cg dV f fd) (hc : fd.code = .ref c) (kL : LamK K mg base c Pt) : FnOk P w K mg base CX0 1 f fd ["_law_times","_law_more"] (oo Pt):=by
 refine F.okR (e:=rj) hc m5 (fun vs H Q E h => ?_) rfl (fun A outer s H vs Q E hr h => ?_)
 ·obtain ⟨t,m,rfl,_⟩:=h
  rfl
 obtain ⟨t,m,rfl,⟨t0,t1⟩,TS,q⟩:=h
 refine ⟨_,rG kL rfl rfl,TS,fun fn c' H' fnone hfn hPt hc' keep H'' out lent => ?_⟩
 have l1:=lent 0 "_law_times" (.int t) (s.heap.objs.size + 1) rfl rfl rfl rfl
 have l2:=lent 1 "_law_more" (.int m) (s.heap.objs.size + 2) rfl rfl rfl rfl
 have no : ∀ b u,H' b = some u -> H'' b = some u:=fun b u e => by
  rw [out b fun y hy => ?_]
  ·exact e
  ·have hm:=PySem.mem_of_lookup hy
   have hm' : (y,b) ∈ [((("_law_more" : Str)),s.heap.objs.size + 2),((("_law_times" : Str)),s.heap.objs.size + 1)]:=by first | exact hm | exact List.mem_reverse.mp hm
   simp at hm'
   rcases hm' with ⟨_,z⟩ | ⟨_,z⟩
   ·rw [z,l2.1] at e; cases e
   ·rw [z,l1.1] at e; cases e
 refine q fn H'' (fun b u nP e => no _ _ (keep b u nP e)) (.inr ⟨c',no _ _ hPt,no _ _ hc'⟩) ⟨⟨c',_,?_,⟨no _ _ hfn,no _ _ hc',?_,?_⟩⟩,t0,t1⟩
 ·rfl
 ·exact .cons l1.2 (.cons l2.2 .nil)
 ·simp
theorem qH {D : WC} (F : FunD K "begin" "Walk.begin" cj dV f fd) : FnOk P w K mg base CX0 1 f fd ["self"] (bA D isW):=by
 refine F.ok lz (fun vs H Q E h => ?_) (fun cdv A outer s H vs Q E hr h => ?_)
 ·obtain ⟨x,k,rfl,_⟩:=h
  rfl
 obtain ⟨x,k,rfl,rfl,W,q⟩:=h
 exact ⟨_,(ai (au eS)),q .non H (Same.refl _) rfl⟩
theorem qJ {D : WC} (F : FunD K "step" "Walk.step" cQ dV f fd) : FnOk P w K mg base CX0 1 f fd ["self","place","figure"] (bC D isW):=by
 refine F.ok m3 (fun vs H Q E h => ?_) (fun cdv A outer s H vs Q E hr h => ?_)
 ·obtain ⟨x,k,v,p,fg,rfl,_⟩:=h
  rfl
 obtain ⟨x,k,v,p,fg,rfl,rfl,W,PA,ft,fo,q⟩:=h
 exact ⟨_,(ai (au eS)),q .non H (Same.refl _) rfl⟩
theorem qI {D : WC} (F : FunD K "sign" "Walk.sign" cP dV f fd) : FnOk P w K mg base CX0 1 f fd ["self","place"] (bB D isW):=by
 refine F.ok mZ (fun vs H Q E h => ?_) (fun cdv A outer s H vs Q E hr h => ?_)
 ·obtain ⟨x,k,v,p,rfl,_⟩:=h
  rfl
 obtain ⟨x,k,v,p,rfl,rfl,W,PA,ft,q⟩:=h
 exact ⟨_,(ai (au af)),q⟩
theorem pW (F : FunD K "__init__" "Reading.__init__" aY dV f fd) (rc : RCls K C) : FnOk P w K mg base CX0 1 f fd ["self","machine"] (j5 C):=by
 refine F.ok gU (fun vs H Q E h => ?_) (fun cdv A outer s H vs Q E hr h => ?_)
 ·obtain ⟨x,dx,m,r,g,wide,rows,signs,rfl,_⟩:=h
  rfl
 obtain ⟨x,dx,m,r,g,wide,rows,signs,rfl,hx,M,k⟩:=h
 refine ⟨_,(ao (kx (pv 0) (ar ak (pv 1) af (fun _ _ => rfl)) rfl)
   (ai (kx (pv 0) (ar ak (pv 1) af (fun _ _ => rfl)) rfl))),?_⟩
 have nmx : m ≠ x:=iw M.tup hx (by intro z; cases z)
 refine ⟨_,rfl,m,_,_,_,rfl,rfl,qT_ M.tup,rfl,_,rfl,x,C,dx,[],rfl,hx,rc.cl,rc.nr,by decide,?_⟩
 refine ⟨_,rfl,m,_,_,_,rfl,rfl,qT_ (by rw [aw nmx]; exact M.tup),rfl,_,rfl,x,C,dx,_,rfl,aj,rc.cl,rc.ns,by show 1 < 1000; decide,?_⟩
 refine k _ (fun c u hc e => ?_) ⟨dx,aj⟩
 rw [aw hc,aw hc]
 exact e
theorem qD {D : WC} (F : FunD K "begin" "Reading.begin" br dV f fd) : FnOk P w K mg base CX0 1 f fd ["self"] (bA D isR):=by
 refine F.ok i5 (fun vs H Q E h => ?_) (fun cdv A outer s H vs Q E hr h => ?_)
 ·obtain ⟨x,k,rfl,_⟩:=h
  rfl
 obtain ⟨x,k,rfl,⟨many,wide,rows,signs,rfl⟩,W,q⟩:=h
 exact ⟨_,(ai (au af)),q (.int 0) H (Same.refl _) rfl⟩
theorem qF {D : WC} (F : FunD K "step" "Reading.step" bJ dV f fd) (rc : RCls K D.R) : FnOk P w K mg base CX0 1 f fd ["self","place","figure"] (bC D isR):=by
 refine F.ok jS (fun vs H Q E h => ?_) (fun cdv A outer s H vs Q E hr h => ?_)
 ·obtain ⟨x,k,v,p,fg,rfl,_⟩:=h
  rfl
 obtain ⟨x,k,v,p,fg,rfl,⟨many,wide,rows,signs,rfl⟩,⟨m,r,g,⟨dx,hx⟩,M,R,lsg⟩,PA,ft,⟨f0,f1⟩,k⟩:=h
 cases p with
 | non => exact ft.elim
 | pair l r => exact ft.elim
 | num q =>
  obtain ⟨q0,q1⟩:=ft
  obtain rfl : v = .int q:=PA
  obtain ⟨hm,⟨ras,hr',hA⟩,hg⟩:=M
  obtain ⟨ra,rr,e1,e2,e3⟩:=gx hA R q0 q1 f0 f1
  refine ⟨_,(ai (au (ar ak (ar ak (aA (pv 0) rfl) (pv 1) (fun _ _ => rfl)) (pv 2) (fun _ _ => rfl)))),?_⟩
  exact ⟨_,rfl,x,D.R,dx,_,_,rfl,hx,rc.cl,rc.nr,rfl,_,rfl,r,_,_,_,rfl,rfl,qT_ hr',e1,_,rfl,ra,_,_,_,rfl,rfl,qT_ e2,e3,k _ H (Same.refl _) rfl⟩
theorem qE {D : WC} (F : FunD K "sign" "Reading.sign" bI dV f fd) (rc : RCls K D.R) : FnOk P w K mg base CX0 1 f fd ["self","place"] (bB D isR):=by
 refine F.ok jR (fun vs H Q E h => ?_) (fun cdv A outer s H vs Q E hr h => ?_)
 ·obtain ⟨x,k,v,p,rfl,_⟩:=h
  rfl
 obtain ⟨x,k,v,p,rfl,⟨many,wide,rows,signs,rfl⟩,⟨m,r,g,⟨dx,hx⟩,M,R,lsg⟩,PA,ft,k⟩:=h
 cases p with
 | non => exact ft.elim
 | pair l r => exact ft.elim
 | num q =>
  obtain ⟨q0,q1⟩:=ft
  obtain rfl : v = .int q:=PA
  refine ⟨_,(ai (au (ar ak (aA (pv 0) rfl) (pv 1) (fun _ _ => rfl)))),?_⟩
  exact ⟨_,rfl,x,D.R,dx,_,_,rfl,hx,rc.cl,rc.ns,rfl,_,rfl,g,_,_,_,rfl,rfl,qT_ M.sgn,cw q0 (by omega),k⟩
end
section
variable {C : WC} {okP : Wk -> Prop} {H : Hp} {σ : St} {ta : TE} {o : Addr} {a : Wk}
theorem WkAt.ins (W : WkAt C.W C.R C.P H o a) : (isW a -> ∃ dx,H o = some (.ins C.W dx [])) /\ (isR a -> ∃ dx r g,H o = some (.ins C.R dx [("rows",.ref r),("signs",.ref g)])) /\ ((∃ l r t m,a = .pair l r t m) -> ∃ dx o1 o2 fn,H o = some (.ins C.P dx [("one",.ref o1),("other",.ref o2),("rule",.ref fn)])):=by
 cases a with
 | walk => exact ⟨fun _ => W,fun ⟨_,_,_,_,e⟩ => (by cases e),fun ⟨_,_,_,_,e⟩ => (by cases e)⟩
 | read many wide rows signs =>
  obtain ⟨m,r,g,⟨dx,hx⟩,_⟩:=W
  exact ⟨fun e => (by cases e),fun _ => ⟨dx,r,g,hx⟩,fun ⟨_,_,_,_,e⟩ => (by cases e)⟩
 | pair l r t m =>
  obtain ⟨dx,o1,o2,fn,hx,_⟩:=W
  exact ⟨fun e => (by cases e),fun ⟨_,_,_,_,e⟩ => (by cases e),fun _ => ⟨dx,o1,o2,fn,hx⟩⟩
theorem nY {m : Str} {s1 s2 s3 : Sp} {t : TA} {Q : VK} (hp : ∀ k,okP k -> ∃ l r t m,k = .pair l r t m) (pa : dv okP a) (W : WkAt C.W C.R C.P H o a) (hta : ∀ R : VK,R (.ref o) H -> ta σ H R)
  (n1 : ∀ r g : V,List.lookup m [(("rows" : Str),r),("signs",g)] = none) (n2 : ∀ x y z : V,List.lookup m [(("one" : Str),x),("other",y),("rule",z)] = none)
  (h1 : isW a -> t σ H fun vs H2 => s1 (.ref o :: (vs ++ [])) H2 Q E0) (h2 : isR a -> t σ H fun vs H2 => s2 (.ref o :: (vs ++ [])) H2 Q E0) (h3 : okP a -> t σ H fun vs H2 => s3 (.ref o :: (vs ++ [])) H2 Q E0) :
  bS C.W m s1 [] E0 ta t σ H Q \/ bS C.R m s2 [] E0 ta t σ H Q \/ bS C.P m s3 [] E0 ta t σ H Q:=by
 obtain ⟨i1,i2,i3⟩:=W.ins
 rcases pa with e | e | e
 ·obtain ⟨dx,hx⟩:=i1 e
  exact .inl (hta _ ⟨o,dx,[],rfl,hx,rfl,h1 e⟩)
 ·obtain ⟨dx,r,g,hx⟩:=i2 e
  exact .inr (.inl (hta _ ⟨o,dx,_,rfl,hx,n1 _ _,h2 e⟩))
 ·obtain ⟨dx,o1,o2,fn,hx⟩:=i3 (hp _ e)
  exact .inr (.inr (hta _ ⟨o,dx,_,rfl,hx,n2 _ _ _,h3 e⟩))
theorem ib {Q : VK} (hp : ∀ k,okP k -> ∃ l r t m,k = .pair l r t m) (pa : dv okP a) (W : WkAt C.W C.R C.P H o a) (hta : ∀ R : VK,R (.ref o) H -> ta σ H R) (k : ∀ v H',Same H H' -> PlAt H' v (nV a) -> Q v H') :
  bS C.W "begin" (bA C isW) [] E0 ta gY σ H Q \/ bS C.R "begin" (bA C isR) [] E0 ta gY σ H Q \/ bS C.P "begin" (bA C okP) [] E0 ta gY σ H Q:=
 nY hp pa W hta (fun _ _ => rfl) (fun _ _ _ => rfl) (fun e => ⟨o,a,rfl,e,W,k⟩) (fun e => ⟨o,a,rfl,e,W,k⟩) (fun e => ⟨o,a,rfl,e,W,k⟩)
theorem ie {Q : VK} {t : TA} {v : V} {p : Pl} {f : Int} (hp : ∀ k,okP k -> ∃ l r t m,k = .pair l r t m) (pa : dv okP a) (W : WkAt C.W C.R C.P H o a) (hta : ∀ R : VK,R (.ref o) H -> ta σ H R) (ht : ∀ R : List V -> Hp -> Prop,R [v,.int f] H -> t σ H R) (PA : PlAt H v p) (ft : Fits a p) (fo : lI a f) (k : ∀ v H',Same H H' -> PlAt H' v (jc a p f) -> Q v H') :
  bS C.W "step" (bC C isW) [] E0 ta t σ H Q \/ bS C.R "step" (bC C isR) [] E0 ta t σ H Q \/ bS C.P "step" (bC C okP) [] E0 ta t σ H Q:=
 nY hp pa W hta (fun _ _ => rfl) (fun _ _ _ => rfl) (fun e => ht _ ⟨o,a,v,p,f,rfl,e,W,PA,ft,fo,k⟩) (fun e => ht _ ⟨o,a,v,p,f,rfl,e,W,PA,ft,fo,k⟩) (fun e => ht _ ⟨o,a,v,p,f,rfl,e,W,PA,ft,fo,k⟩)
theorem ic {Q : VK} {t : TA} {v : V} {p : Pl} (hp : ∀ k,okP k -> ∃ l r t m,k = .pair l r t m) (pa : dv okP a) (W : WkAt C.W C.R C.P H o a) (hta : ∀ R : VK,R (.ref o) H -> ta σ H R) (ht : ∀ R : List V -> Hp -> Prop,R [v] H -> t σ H R) (PA : PlAt H v p) (ft : Fits a p) (k : Q (.int (nW a p)) H) :
  bS C.W "sign" (bB C isW) [] E0 ta t σ H Q \/ bS C.R "sign" (bB C isR) [] E0 ta t σ H Q \/ bS C.P "sign" (bB C okP) [] E0 ta t σ H Q:=
 nY hp pa W hta (fun _ _ => rfl) (fun _ _ _ => rfl) (fun e => ht _ ⟨o,a,v,p,rfl,e,W,PA,ft,k⟩) (fun e => ht _ ⟨o,a,v,p,rfl,e,W,PA,ft,k⟩) (fun e => ht _ ⟨o,a,v,p,rfl,e,W,PA,ft,k⟩)
end
structure PCls (K : PySem.W.Frag) (C : Addr) : Prop where
 cl : Cls K C
 n1 : NoAttr K C "one"
 n2 : NoAttr K C "other"
 n3 : NoAttr K C "rule"
def j4 (C : Addr) : Sp:=fun vs H Q _ => ∃ (x dx o1 o2 fn : Addr),vs = [.ref x,.ref o1,.ref o2,.ref fn] /\ H x = some (.ins C dx []) /\
 ∀ H' : Hp,(∀ c u,c ≠ x -> H c = some u -> H' c = some u) -> H' x = some (.ins C dx [("one",.ref o1),("other",.ref o2),("rule",.ref fn)]) -> Q .non H'
section
variable {P : Program} {w : World} {K : PySem.W.Frag} {mg : Str -> Option Value} {base : Heap} {f : Addr} {fd : FuncData} {dV : Value} {D : WC} {okP : Wk -> Prop}
theorem gT : FnScope ["self","one","other","rule"] ["self","one","other","rule"] (ae aX):=⟨rfl,rfl,rfl,by decide +kernel,rfl,by decide +kernel,by decide +kernel⟩
theorem e6 : FnScope ["self"] ["self"] (ae bb):=⟨rfl,rfl,rfl,by decide +kernel,rfl,by decide +kernel,by decide +kernel⟩
theorem fW : FnScope ["self","place","figure"] ["self","place","figure"] (ae bo):=⟨rfl,rfl,rfl,by decide +kernel,rfl,by decide +kernel,by decide +kernel⟩
theorem sc_Pairing_sign : FnScope ["self","place","rule"] ["self","place"] (ae bj):=⟨rfl,rfl,rfl,by decide +kernel,rfl,by decide +kernel,by decide +kernel⟩
theorem pV {C : Addr} (F : FunD K "__init__" "Pairing.__init__" aX dV f fd) (pc : PCls K C) : FnOk P w K mg base CX0 1 f fd ["self","one","other","rule"] (j4 C):=by
 refine F.ok gT (fun vs H Q E h => ?_) (fun cdv A outer s H vs Q E hr h => ?_)
 ·obtain ⟨x,dx,o1,o2,fn,rfl,_⟩:=h
  rfl
 obtain ⟨x,dx,o1,o2,fn,rfl,hx,k⟩:=h
 refine ⟨_,(ao (kx (pv 0) (pv 1) rfl)
   (ao (kx (pv 0) (pv 2) rfl)
   (ai (kx (pv 0) (pv 3) rfl)))),?_⟩
 refine ⟨_,rfl,_,rfl,x,C,dx,[],rfl,hx,pc.cl,pc.n1,by decide,?_⟩
 refine ⟨_,rfl,_,rfl,x,C,dx,_,rfl,aj,pc.cl,pc.n2,by show 1 < 1000; decide,?_⟩
 refine ⟨_,rfl,_,rfl,x,C,dx,_,rfl,aj,pc.cl,pc.n3,by show 2 < 1000; decide,?_⟩
 refine k _ (fun c u hc e => ?_) aj
 rw [aw hc,aw hc,aw hc]
 exact e
theorem pP (F : FunD K "begin" "Pairing.begin" bb dV f fd) (pc : PCls K D.P) (hp : ∀ k,okP k -> ∃ l r t m,k = .pair l r t m) (GW : DefMe P w K mg base D.W "begin" 1 ["self"] (bA D isW)) (GR : DefMe P w K mg base D.R "begin" 1 ["self"] (bA D isR)) (GP : DefMe P w K mg base D.P "begin" 2 ["self"] (bA D okP)) : FnOk P w K mg base CX0 3 f fd ["self"] (bA D (isP okP)):=by
 refine F.ok e6 (fun vs H Q E h => ?_) (fun cdv A outer s H vs Q E hr h => ?_)
 ·obtain ⟨x,k,rfl,_⟩:=h
  rfl
 obtain ⟨x,k,rfl,⟨a,b,t,m,rfl,pa,pb⟩,⟨dx,o1,o2,fn,hx,W1,W2,RU⟩,q⟩:=h
 refine ⟨_,(ai (au (eT (aa (az (bW GW hr (aA (pv 0) rfl)) (az (bW GR hr (aA (pv 0) rfl)) (bW GP hr (aA (pv 0) rfl)))) (aa (az (bW GW hr (aA (pv 0) rfl)) (az (bW GR hr (aA (pv 0) rfl)) (bW GP hr (aA (pv 0) rfl)))) ab))))),?_⟩
 refine ib hp pa W1 (fun R hR => ⟨_,rfl,x,D.P,dx,_,_,rfl,hx,pc.cl,pc.n1,rfl,hR⟩) fun v1 H1 s1 p1 => ?_
 have hx1:=s1 _ _ hx
 have W21:=W2.same s1
 refine ib hp pb W21 (fun R hR => ⟨_,rfl,x,D.P,dx,_,_,rfl,hx1,pc.cl,pc.n2,rfl,hR⟩) fun v2 H2 s2 p2 => ?_
 refine ⟨(by show 2 <= sizeLine; decide),fun T hT => ?_⟩
 have s3:=av hT (HO.tup [v1,v2])
 exact q _ _ (s1.trans (s2.trans s3)) ⟨T,v1,v2,rfl,aj,p1.keep (fun _ _ e => (s2.trans s3) _ _ e),p2.keep (fun _ _ e => s3 _ _ e)⟩
theorem pT (F : FunD K "step" "Pairing.step" bo dV f fd) (pc : PCls K D.P) (hp : ∀ k,okP k -> ∃ l r t m,k = .pair l r t m) (GW : DefMe P w K mg base D.W "step" 1 ["self","place","figure"] (bC D isW)) (GR : DefMe P w K mg base D.R "step" 1 ["self","place","figure"] (bC D isR)) (GP : DefMe P w K mg base D.P "step" 2 ["self","place","figure"] (bC D okP)) : FnOk P w K mg base CX0 3 f fd ["self","place","figure"] (bC D (isP okP)):=by
 refine F.ok fW (fun vs H Q E h => ?_) (fun cdv A outer s H vs Q E hr h => ?_)
 ·obtain ⟨x,k,v,p,fg,rfl,_⟩:=h
  rfl
 obtain ⟨x,k,v,p,fg,rfl,⟨a,b,t,m,rfl,pa,pb⟩,⟨dx,o1,o2,fn,hx,W1,W2,RU⟩,PA,ft,⟨fo1,fo2⟩,q⟩:=h
 cases p with
 | non => exact ft.elim
 | num q => exact ft.elim
 | pair l r =>
  obtain ⟨ft1,ft2⟩:=ft
  obtain ⟨T0,x1,x2,rfl,hT0,PA1,PA2⟩:=PA
  refine ⟨_,(ai (au (eT (aa (az (aK GW hr (aA (pv 0) rfl) (aa (ar ak (pv 1) af (fun _ _ => rfl)) (aa (pv 2) ab))) (az (aK GR hr (aA (pv 0) rfl) (aa (ar ak (pv 1) af (fun _ _ => rfl)) (aa (pv 2) ab))) (aK GP hr (aA (pv 0) rfl) (aa (ar ak (pv 1) af (fun _ _ => rfl)) (aa (pv 2) ab))))) (aa (az (aK GW hr (aA (pv 0) rfl) (aa (ar ak (pv 1) af (fun _ _ => rfl)) (aa (pv 2) ab))) (az (aK GR hr (aA (pv 0) rfl) (aa (ar ak (pv 1) af (fun _ _ => rfl)) (aa (pv 2) ab))) (aK GP hr (aA (pv 0) rfl) (aa (ar ak (pv 1) af (fun _ _ => rfl)) (aa (pv 2) ab))))) ab))))),?_⟩
  refine ie hp pa W1 (fun R hR => ⟨_,rfl,x,D.P,dx,_,_,rfl,hx,pc.cl,pc.n1,rfl,hR⟩) (fun R hR => ⟨_,rfl,T0,_,_,_,rfl,rfl,qT_ hT0,rfl,_,rfl,hR⟩) PA1 ft1 fo1 fun v1 H1 s1 p1 => ?_
  have hx1:=s1 _ _ hx
  have W21:=W2.same s1
  have hT1:=s1 _ _ hT0
  have PA21:=PA2.keep (fun _ _ e => s1 _ _ e)
  refine ie hp pb W21 (fun R hR => ⟨_,rfl,x,D.P,dx,_,_,rfl,hx1,pc.cl,pc.n2,rfl,hR⟩) (fun R hR => ⟨_,rfl,T0,_,_,_,rfl,rfl,qT_ hT1,rfl,_,rfl,hR⟩) PA21 ft2 fo2 fun v2 H2 s2 p2 => ?_
  refine ⟨(by show 2 <= sizeLine; decide),fun T hT => ?_⟩
  have s3:=av hT (HO.tup [v1,v2])
  exact q _ _ (s1.trans (s2.trans s3)) ⟨T,v1,v2,rfl,aj,p1.keep (fun _ _ e => (s2.trans s3) _ _ e),p2.keep (fun _ _ e => s3 _ _ e)⟩
theorem pR (F : FunD K "sign" "Pairing.sign" bj dV f fd) (pc : PCls K D.P) (hp : ∀ k,okP k -> ∃ l r t m,k = .pair l r t m) (GW : DefMe P w K mg base D.W "sign" 1 ["self","place"] (bB D isW)) (GR : DefMe P w K mg base D.R "sign" 1 ["self","place"] (bB D isR)) (GP : DefMe P w K mg base D.P "sign" 2 ["self","place"] (bB D okP)) : FnOk P w K mg base CX0 3 f fd ["self","place"] (bB D (isP okP)):=by
 refine F.ok sc_Pairing_sign (fun vs H Q E h => ?_) (fun cdv A outer s H vs Q E hr h => ?_)
 ·obtain ⟨x,k,v,p,rfl,_⟩:=h
  rfl
 obtain ⟨x,k,v,p,rfl,⟨a,b,t,m,rfl,pa,pb⟩,⟨dx,o1,o2,fn,hx,W1,W2,RU⟩,PA,ft,q⟩:=h
 cases p with
 | non => exact ft.elim
 | num q => exact ft.elim
 | pair l r =>
  obtain ⟨ft1,ft2⟩:=ft
  obtain ⟨T0,x1,x2,rfl,hT0,PA1,PA2⟩:=PA
  refine ⟨_,(ao (aW (i:=2) sc_Pairing_sign.nd rfl (Or.inl rfl) (aA (pv 0) rfl))
   (ai (au (d9 (pv 2) (aa (az (aK GW hr (aA (pv 0) rfl) (aa (ar ak (pv 1) af (fun _ _ => rfl)) ab)) (az (aK GR hr (aA (pv 0) rfl) (aa (ar ak (pv 1) af (fun _ _ => rfl)) ab)) (aK GP hr (aA (pv 0) rfl) (aa (ar ak (pv 1) af (fun _ _ => rfl)) ab)))) (aa (az (aK GW hr (aA (pv 0) rfl) (aa (ar ak (pv 1) af (fun _ _ => rfl)) ab)) (az (aK GR hr (aA (pv 0) rfl) (aa (ar ak (pv 1) af (fun _ _ => rfl)) ab)) (aK GP hr (aA (pv 0) rfl) (aa (ar ak (pv 1) af (fun _ _ => rfl)) ab)))) ab)) ((fM hr)))))),?_⟩
  refine ⟨_,rfl,x,D.P,dx,_,_,rfl,hx,pc.cl,pc.n3,rfl,?_⟩
  refine ⟨_,rfl,RU.fnv,?_⟩
  refine ic hp pa W1 (fun R hR => ⟨_,rfl,x,D.P,dx,_,_,rfl,hx,pc.cl,pc.n1,rfl,hR⟩) (fun R hR => ⟨_,rfl,T0,_,_,_,rfl,rfl,qT_ hT0,rfl,hR⟩) PA1 ft1 ?_
  refine ic hp pb W2 (fun R hR => ⟨_,rfl,x,D.P,dx,_,_,rfl,hx,pc.cl,pc.n2,rfl,hR⟩) (fun R hR => ⟨_,rfl,T0,_,_,_,rfl,rfl,qT_ hT0,rfl,hR⟩) PA2 ft2 ?_
  exact ⟨RU.fnv,fn,t,m,_,_,rfl,rfl,RU,q⟩
theorem pQ (F : FunD K "begin" "Pairing.begin" bb dV f fd) (pc : PCls K D.P) (hp : ∀ k,okP k -> ∃ l r t m,k = .pair l r t m) (GW : DefMe P w K mg base D.W "begin" 1 ["self"] (bA D isW)) (GR : DefMe P w K mg base D.R "begin" 1 ["self"] (bA D isR)) (GP : DefMe P w K mg base D.P "begin" 3 ["self"] (bA D okP)) : FnOk P w K mg base CX0 4 f fd ["self"] (bA D (isP okP)):=by
 refine F.ok e6 (fun vs H Q E h => ?_) (fun cdv A outer s H vs Q E hr h => ?_)
 ·obtain ⟨x,k,rfl,_⟩:=h
  rfl
 obtain ⟨x,k,rfl,⟨a,b,t,m,rfl,pa,pb⟩,⟨dx,o1,o2,fn,hx,W1,W2,RU⟩,q⟩:=h
 refine ⟨_,(ai (au (eT (aa (az (bW GW hr (aA (pv 0) rfl)) (az (bW GR hr (aA (pv 0) rfl)) (bW GP hr (aA (pv 0) rfl)))) (aa (az (bW GW hr (aA (pv 0) rfl)) (az (bW GR hr (aA (pv 0) rfl)) (bW GP hr (aA (pv 0) rfl)))) ab))))),?_⟩
 refine ib hp pa W1 (fun R hR => ⟨_,rfl,x,D.P,dx,_,_,rfl,hx,pc.cl,pc.n1,rfl,hR⟩) fun v1 H1 s1 p1 => ?_
 have hx1:=s1 _ _ hx
 have W21:=W2.same s1
 refine ib hp pb W21 (fun R hR => ⟨_,rfl,x,D.P,dx,_,_,rfl,hx1,pc.cl,pc.n2,rfl,hR⟩) fun v2 H2 s2 p2 => ?_
 refine ⟨(by show 2 <= sizeLine; decide),fun T hT => ?_⟩
 have s3:=av hT (HO.tup [v1,v2])
 exact q _ _ (s1.trans (s2.trans s3)) ⟨T,v1,v2,rfl,aj,p1.keep (fun _ _ e => (s2.trans s3) _ _ e),p2.keep (fun _ _ e => s3 _ _ e)⟩
theorem pU (F : FunD K "step" "Pairing.step" bo dV f fd) (pc : PCls K D.P) (hp : ∀ k,okP k -> ∃ l r t m,k = .pair l r t m) (GW : DefMe P w K mg base D.W "step" 1 ["self","place","figure"] (bC D isW)) (GR : DefMe P w K mg base D.R "step" 1 ["self","place","figure"] (bC D isR)) (GP : DefMe P w K mg base D.P "step" 3 ["self","place","figure"] (bC D okP)) : FnOk P w K mg base CX0 4 f fd ["self","place","figure"] (bC D (isP okP)):=by
 refine F.ok fW (fun vs H Q E h => ?_) (fun cdv A outer s H vs Q E hr h => ?_)
 ·obtain ⟨x,k,v,p,fg,rfl,_⟩:=h
  rfl
 obtain ⟨x,k,v,p,fg,rfl,⟨a,b,t,m,rfl,pa,pb⟩,⟨dx,o1,o2,fn,hx,W1,W2,RU⟩,PA,ft,⟨fo1,fo2⟩,q⟩:=h
 cases p with
 | non => exact ft.elim
 | num q => exact ft.elim
 | pair l r =>
  obtain ⟨ft1,ft2⟩:=ft
  obtain ⟨T0,x1,x2,rfl,hT0,PA1,PA2⟩:=PA
  refine ⟨_,(ai (au (eT (aa (az (aK GW hr (aA (pv 0) rfl) (aa (ar ak (pv 1) af (fun _ _ => rfl)) (aa (pv 2) ab))) (az (aK GR hr (aA (pv 0) rfl) (aa (ar ak (pv 1) af (fun _ _ => rfl)) (aa (pv 2) ab))) (aK GP hr (aA (pv 0) rfl) (aa (ar ak (pv 1) af (fun _ _ => rfl)) (aa (pv 2) ab))))) (aa (az (aK GW hr (aA (pv 0) rfl) (aa (ar ak (pv 1) af (fun _ _ => rfl)) (aa (pv 2) ab))) (az (aK GR hr (aA (pv 0) rfl) (aa (ar ak (pv 1) af (fun _ _ => rfl)) (aa (pv 2) ab))) (aK GP hr (aA (pv 0) rfl) (aa (ar ak (pv 1) af (fun _ _ => rfl)) (aa (pv 2) ab))))) ab))))),?_⟩
  refine ie hp pa W1 (fun R hR => ⟨_,rfl,x,D.P,dx,_,_,rfl,hx,pc.cl,pc.n1,rfl,hR⟩) (fun R hR => ⟨_,rfl,T0,_,_,_,rfl,rfl,qT_ hT0,rfl,_,rfl,hR⟩) PA1 ft1 fo1 fun v1 H1 s1 p1 => ?_
  have hx1:=s1 _ _ hx
  have W21:=W2.same s1
  have hT1:=s1 _ _ hT0
  have PA21:=PA2.keep (fun _ _ e => s1 _ _ e)
  refine ie hp pb W21 (fun R hR => ⟨_,rfl,x,D.P,dx,_,_,rfl,hx1,pc.cl,pc.n2,rfl,hR⟩) (fun R hR => ⟨_,rfl,T0,_,_,_,rfl,rfl,qT_ hT1,rfl,_,rfl,hR⟩) PA21 ft2 fo2 fun v2 H2 s2 p2 => ?_
  refine ⟨(by show 2 <= sizeLine; decide),fun T hT => ?_⟩
  have s3:=av hT (HO.tup [v1,v2])
  exact q _ _ (s1.trans (s2.trans s3)) ⟨T,v1,v2,rfl,aj,p1.keep (fun _ _ e => (s2.trans s3) _ _ e),p2.keep (fun _ _ e => s3 _ _ e)⟩
theorem pS (F : FunD K "sign" "Pairing.sign" bj dV f fd) (pc : PCls K D.P) (hp : ∀ k,okP k -> ∃ l r t m,k = .pair l r t m) (GW : DefMe P w K mg base D.W "sign" 1 ["self","place"] (bB D isW)) (GR : DefMe P w K mg base D.R "sign" 1 ["self","place"] (bB D isR)) (GP : DefMe P w K mg base D.P "sign" 3 ["self","place"] (bB D okP)) : FnOk P w K mg base CX0 4 f fd ["self","place"] (bB D (isP okP)):=by
 refine F.ok sc_Pairing_sign (fun vs H Q E h => ?_) (fun cdv A outer s H vs Q E hr h => ?_)
 ·obtain ⟨x,k,v,p,rfl,_⟩:=h
  rfl
 obtain ⟨x,k,v,p,rfl,⟨a,b,t,m,rfl,pa,pb⟩,⟨dx,o1,o2,fn,hx,W1,W2,RU⟩,PA,ft,q⟩:=h
 cases p with
 | non => exact ft.elim
 | num q => exact ft.elim
 | pair l r =>
  obtain ⟨ft1,ft2⟩:=ft
  obtain ⟨T0,x1,x2,rfl,hT0,PA1,PA2⟩:=PA
  refine ⟨_,(ao (aW (i:=2) sc_Pairing_sign.nd rfl (Or.inl rfl) (aA (pv 0) rfl))
   (ai (au (d9 (pv 2) (aa (az (aK GW hr (aA (pv 0) rfl) (aa (ar ak (pv 1) af (fun _ _ => rfl)) ab)) (az (aK GR hr (aA (pv 0) rfl) (aa (ar ak (pv 1) af (fun _ _ => rfl)) ab)) (aK GP hr (aA (pv 0) rfl) (aa (ar ak (pv 1) af (fun _ _ => rfl)) ab)))) (aa (az (aK GW hr (aA (pv 0) rfl) (aa (ar ak (pv 1) af (fun _ _ => rfl)) ab)) (az (aK GR hr (aA (pv 0) rfl) (aa (ar ak (pv 1) af (fun _ _ => rfl)) ab)) (aK GP hr (aA (pv 0) rfl) (aa (ar ak (pv 1) af (fun _ _ => rfl)) ab)))) ab)) ((fM hr)))))),?_⟩
  refine ⟨_,rfl,x,D.P,dx,_,_,rfl,hx,pc.cl,pc.n3,rfl,?_⟩
  refine ⟨_,rfl,RU.fnv,?_⟩
  refine ic hp pa W1 (fun R hR => ⟨_,rfl,x,D.P,dx,_,_,rfl,hx,pc.cl,pc.n1,rfl,hR⟩) (fun R hR => ⟨_,rfl,T0,_,_,_,rfl,rfl,qT_ hT0,rfl,hR⟩) PA1 ft1 ?_
  refine ic hp pb W2 (fun R hR => ⟨_,rfl,x,D.P,dx,_,_,rfl,hx,pc.cl,pc.n2,rfl,hR⟩) (fun R hR => ⟨_,rfl,T0,_,_,_,rfl,rfl,qT_ hT0,rfl,hR⟩) PA2 ft2 ?_
  exact ⟨RU.fnv,fn,t,m,_,_,rfl,rfl,RU,q⟩
end
def oJ (K : PySem.W.Frag) : Sp:=fun vs H Q _ => ∃ (a : Addr) (k : Int) (ns : LI),vs = [.ref a,.int k] /\ SqL K H a (ns.map V.int) /\ ns.length <= 63 /\ 0 <= k /\ k < 1000000 /\
 ∀ v : Int,0 <= v -> v < 2147483399 -> Q (.int v) H
section
variable {P : Program} {w : World} {K : PySem.W.Frag} {mg : Str -> Option Value} {base : Heap} {f : Addr} {fd : FuncData} {dV : Value}
theorem sc__law_number : FnScope ["_law_script","_law_k","_law_number_here"] ["_law_script","_law_k"] (ae bT):=⟨rfl,rfl,rfl,by decide +kernel,rfl,by decide +kernel,by decide +kernel⟩
theorem rA (F : FunD K "_law_number" "_law_number" bT dV f fd) (bD : mg "len" = none) : FnOk P w K mg base CX0 1 f fd ["_law_script","_law_k"] (oJ K):=by
 refine F.ok sc__law_number (fun vs H Q E h => ?_) (fun cdv A outer s H vs Q E hr h => ?_)
 ·obtain ⟨a,k,ns,rfl,_⟩:=h
  rfl
 obtain ⟨a,k,ns,rfl,hS,h63,h0,h1,q⟩:=h
 have hl : (ns.map V.int).length = ns.length:=List.length_map _
 refine ⟨_,(ao (bX (c6 r9 (pv 1) (aE ax (by rfl) bD cq (aa (pv 0) ab)) (bV _)) (ai (au (aF bH (ar j0 (pv 0) (pv 1) (fun _ _ => rfl)) af))) aO)
   (ao (aW (i:=2) sc__law_number.nd rfl (Or.inl rfl) (aF cu (aF cu (aF eO (aF eO af (pv 1)) (pv 1)) (aF eO af (pv 1))) af))
   (ao (bX (c6 r8 (aE ax (by rfl) bD cq (aa (pv 0) ab)) af (bV _)) (ai (aW (i:=2) sc__law_number.nd rfl (Or.inl rfl) (aF eO (pv 2) (aF cu (aF bH (ar j0 (pv 0) (aF bH (pv 1) (aE ax (by rfl) bD cq (aa (pv 0) ab))) (fun _ _ => rfl)) af) af)))) aO)
   (ai (au (aF bH (aF eO (pv 2) af) af)))))),?_⟩
 have fin : ∀ c : Int,Q (.int (c * 40692 % 2147483399)) H:=fun c => by
  have r:=dA (a:=c * 40692) (b:=2147483399) (by decide)
  exact q _ r.1 r.2
 refine ⟨_,rfl,_,rfl,a,_,rfl,.inl hS,_,_,rfl,rfl,_,rfl,q8 (fun c => ?_) (fun c => ?_)⟩
 ·rw [hl] at c
  have r:=dA (a:=ns.getD k.toNat 0) (b:=1000000007) (by decide)
  exact ⟨_,rfl,_,rfl,a,_,_,_,rfl,rfl,hS,cw h0 c,_,_,rfl,rfl,(by show (0 : Int) < 1000000007; decide),q _ r.1 (by omega)⟩
 refine ⟨_,rfl,_,_,rfl,rfl,.inl ⟨by decide,by decide⟩,_,rfl,_,_,rfl,rfl,.inr ⟨by omega,by omega⟩,_,rfl,_,_,rfl,rfl,.inl ⟨by decide,by decide⟩,_,_,rfl,rfl,_,_,rfl,rfl,?_⟩
 refine ⟨_,rfl,a,_,rfl,.inl hS,_,_,rfl,rfl,_,rfl,?_⟩
 refine q8 (fun c => ?_) (fun c => ?_)
 ·have c' : (0 : Int) < (((ns.map V.int).length : Nat) : Int):=c
  have m0:=Int.emod_nonneg k (show (((ns.map V.int).length : Nat) : Int) ≠ 0 by omega)
  have m1:=Int.emod_lt_of_pos k c'
  have m2:=dA (a:=ns.getD (k % (((ns.map V.int).length : Nat) : Int)).toNat 0) (b:=65521) (by decide)
  refine ⟨_,rfl,_,rfl,_,rfl,_,rfl,a,_,rfl,.inl hS,_,_,rfl,rfl,c',a,_,_,_,rfl,rfl,hS,cw m0 (by rw [<- hl]; exact m1),_,_,rfl,rfl,(by show (0 : Int) < 65521; decide),_,_,rfl,rfl,_,_,rfl,rfl,.inr ⟨by omega,by omega⟩,?_⟩
  exact ⟨_,rfl,_,_,rfl,rfl,.inr ⟨by decide,by decide⟩,_,_,rfl,rfl,(by show (0 : Int) < 2147483399; decide),fin _⟩
 ·exact ⟨_,rfl,_,_,rfl,rfl,.inr ⟨by decide,by decide⟩,_,_,rfl,rfl,(by show (0 : Int) < 2147483399; decide),fin _⟩
end
def gy : Sp:=fun vs H Q _ => ∃ z : Int,vs = [.int z] /\ Q (.bl true) H
def nq : Sp:=fun vs H Q _ => ∃ n : Int,vs = [.int n] /\ 0 <= n /\ ∀ v : Int,0 <= v -> v < 1000000 -> Q (.int v) H
def cB (ok : Pl -> Prop) : Sp:=fun vs H Q _ => ∃ (x y : V) (p : Pl),vs = [x,y] /\ ok p /\ PlAt H x p /\ PlAt H y p /\ Q (.bl true) H
def upP (okI : Pl -> Prop) (p : Pl) : Prop:=p = .non \/ (∃ z,p = .num z) \/ ∃ l r,p = .pair l r /\ okI l /\ okI r
def nk (K : PySem.W.Frag) : Sp:=fun vs H Q _ => ∃ (a : Addr) (st : Int) (many wide : Nat) (xs : LI),vs = [.ref a,.int st,.int wide,.int many] /\ SqL K H a (xs.map V.int) /\ xs.length <= 63 /\ (0 <= st /\ st < 100) /\ (1 <= many /\ many <= 10) /\ (1 <= wide /\ wide <= 100) /\
 ∀ (m r g : Addr) (H' : Hp) (rows : LL) (signs : LI),Same H H' -> MachAt H' m r g wide rows signs -> RowsOk many wide rows -> signs.length = many -> Q (.ref m) H'
section
variable {P : Program} {w : World} {K : PySem.W.Frag} {mg : Str -> Option Value} {base : Heap} {f : Addr} {fd : FuncData} {dV : Value}
theorem lA : FnScope ["_law_found"] ["_law_found"] (ae cn):=⟨rfl,rfl,rfl,by decide +kernel,rfl,by decide +kernel,by decide +kernel⟩
theorem sc__law_same : FnScope ["_law_found","_law_due","_law_k"] ["_law_found","_law_due"] (ae bK):=⟨rfl,rfl,rfl,by decide +kernel,rfl,by decide +kernel,by decide +kernel⟩
theorem m6 : FnScope ["_law_number_here"] ["_law_number_here"] (ae cR):=⟨rfl,rfl,rfl,by decide +kernel,rfl,by decide +kernel,by decide +kernel⟩
theorem sc__law_machine : FnScope ["_law_script","_law_start","_law_wide","_law_many","_law_rows","_law_q","_law_at","_law_signs_here"] ["_law_script","_law_start","_law_wide","_law_many"] (ae ba):=⟨rfl,rfl,rfl,by decide +kernel,rfl,by decide +kernel,by decide +kernel⟩
theorem bk__law_machine_0 : BlkScope ["_law_script","_law_start","_law_wide","_law_many","_law_rows","_law_q","_law_at","_law_signs_here"] (ae ba) ["_law_f","_law_many","_law_q","_law_script","_law_start","_law_wide"] [none,some 3,some 5,some 0,some 1,some 2] { kind:=ScopeKind.function,names:=[(".0",NameKind.local),("_law_f",NameKind.local),("_law_number",NameKind.globalImplicit),("_law_many",NameKind.free),("_law_q",NameKind.free),("_law_script",NameKind.free),("_law_start",NameKind.free),("_law_wide",NameKind.free)],isGenerator:=false,isCoroutine:=false,more:=[] }:=⟨rfl,by decide +kernel,by decide +kernel,by decide +kernel,by decide +kernel,rfl,by decide +kernel⟩
theorem bk__law_machine_1 : BlkScope ["_law_script","_law_start","_law_wide","_law_many","_law_rows","_law_q","_law_at","_law_signs_here"] (ae ba) ["_law_q","_law_at","_law_script"] [none,some 6,some 0] { kind:=ScopeKind.function,names:=[(".0",NameKind.local),("_law_q",NameKind.local),("_law_sign",NameKind.globalImplicit),("_law_number",NameKind.globalImplicit),("_law_at",NameKind.free),("_law_script",NameKind.free)],isGenerator:=false,isCoroutine:=false,more:=[] }:=⟨rfl,by decide +kernel,by decide +kernel,by decide +kernel,by decide +kernel,rfl,by decide +kernel⟩
theorem o5 (F : FunD K "_law_whole" "_law_whole" cn dV f fd) (aq : mg "isinstance" = none) (qm : mg "int" = none) (ot : mg "bool" = none) : FnOk P w K mg base CX0 1 f fd ["_law_found"] gy:=by
 refine F.ok lA (fun vs H Q E h => ?_) (fun cdv A outer s H vs Q E hr h => ?_)
 ·obtain ⟨z,rfl,_⟩:=h
  rfl
 obtain ⟨z,rfl,q⟩:=h
 refine ⟨_,(ai (au (mM (aE dh (by rfl) aq aZ (aa (pv 0) (aa (eA (v:=.ty "int") rfl qm qY rfl) ab))) (mN (rH (aE dh (by rfl) aq aZ (aa (pv 0) (aa (eA (v:=.ty "bool") rfl ot qt rfl) ab)))))))),?_⟩
 refine ⟨_,rfl,_,_,_,_,rfl,TyOf.int z,nK K,_,rfl,kS ?_⟩
 exact ⟨_,rfl,_,_,_,_,rfl,TyOf.int z,mr K,_,rfl,q⟩
theorem eL (K : PySem.W.Frag) : PySem.W.kitOne K (.type "int") (.type "tuple") = some false:=by with_unfolding_all rfl
theorem p0 (F : FunD K "_law_sign" "_law_sign" cR dV f fd) : FnOk P w K mg base CX0 1 f fd ["_law_number_here"] nq:=by
 refine F.ok m6 (fun vs H Q E h => ?_) (fun cdv A outer s H vs Q E hr h => ?_)
 ·obtain ⟨n,rfl,_⟩:=h
  rfl
 obtain ⟨n,rfl,n0,q⟩:=h
 refine ⟨_,(ao (bX (c6 ko (aF bH (pv 0) af) af (bV _)) (ai (au (aF bH (aF mL (pv 0) af) af))) aO)
   (ai (au (aF bH (aF bH (pv 0) af) af)))),?_⟩
 refine ⟨_,rfl,_,_,rfl,rfl,(by show (0 : Int) < 5; decide),rfl,_,rfl,q9 (fun _ => ?_) (fun _ => ?_)⟩
 ·have md:=dA (a:=n / 5) (b:=1000000) (by decide)
  exact ⟨_,rfl,_,_,rfl,rfl,⟨by decide,by decide⟩,_,_,rfl,rfl,(by show (0 : Int) < 1000000; decide),q _ md.1 md.2⟩
 ·have md:=dA (a:=n % 5) (b:=3) (by decide)
  exact ⟨_,rfl,_,_,rfl,rfl,(by show (0 : Int) < 5; decide),_,_,rfl,rfl,(by show (0 : Int) < 3; decide),q _ md.1 (by omega)⟩
theorem pO (F : FunD K "_law_machine" "_law_machine" ba dV f fd) (aG : DefOk P w K mg base "_law_number" 1 ["_law_script","_law_k"] [] (oJ K)) (fY : DefOk P w K mg base "_law_sign" 1 ["_law_number_here"] [] nq) (bx : mg "range" = none) (bz : mg "tuple" = none) :
  FnOk P w K mg base CX0 2 f fd ["_law_script","_law_start","_law_wide","_law_many"] (nk K):=by
 refine F.ok sc__law_machine (fun vs H Q E h => ?_) (fun cdv A outer s H vs Q E hr h => ?_)
 ·obtain ⟨a,st,many,wide,xs,rfl,_⟩:=h
  rfl
 obtain ⟨a,st,many,wide,xs,rfl,hS,h63,⟨st0,st1⟩,⟨m0,m1⟩,⟨w0,w1⟩,k⟩:=h
 refine ⟨_,(ao (aW (i:=4) sc__law_machine.nd rfl (Or.inl rfl) (kq ab))
   (ao (ia PassesOwn.never rfl (da rfl bx (aa (pv 3) ab)) (aR (i:=5) sc__law_machine.nd rfl (Or.inr rfl)) (ai (mV (p6 PySem.F.plainAttrs_list PySem.F.slot_list_append PySem.F.type_list_append gz (pv 4) (aa (iY eH (by rfl) bz cT (aa (j2 rfl bk__law_machine_0 (da rfl bx (aa (pv 2) ab)) (fun _ _ _ _ => (aR (i:=0) bk__law_machine_0.nd rfl (Or.inl rfl))) (fun _ _ _ _ => (aF bH (aN aG hr (aa (pv 3) (aa (aF cu (aF cu (pv 4) (aF eO (pv 2) (pv 5))) (pv 0)) ab))) (pv 1)))) ab)) ab)))))
   (ao (aW (i:=6) sc__law_machine.nd rfl (Or.inr rfl) (aF cu (pv 1) (aF eO (pv 3) (pv 2))))
   (ao (dc (i:=7) rfl sc__law_machine.nd rfl (Or.inl rfl) bk__law_machine_1 (da rfl bx (aa (pv 3) ab)) (fun _ _ _ _ => (aR (i:=0) bk__law_machine_1.nd rfl (Or.inl rfl))) (fun _ _ _ _ => (aN fY hr (aa (aN aG hr (aa (pv 2) (aa (aF cu (pv 1) (pv 0)) ab))) ab))))
   (ai (au (eT (aa (pv 2) (aa (iY eH (by rfl) bz cT (aa (pv 4) ab)) (aa (iY eH (by rfl) bz cT (aa (pv 7) ab)) ab)))))))))),?_⟩
 have prod : ∀ i : Nat,i <= many -> 0 <= ((i : Int) * (wide : Int)) /\ ((i : Int) * (wide : Int)) <= 10 * 100:=fun i hi => ro (by omega) (by omega) (by omega) (by omega)
 refine ⟨(by show 0 <= sizeLine; decide),fun R hR => ?_⟩
 try dsimp only [aV]
 refine lO (t:=qf _ _ _) (fun σ' H' => ∃ (ras : List Addr) (rws : LL) (v : OV),σ' = [some (.ref a),some (.int st),some (.int wide),some (.int many),some (.ref R),v,none,none] /\ Same H H' /\ H' R = some (.lst (ras.map V.ref)) /\ RowsAt H' ras rws /\ RowsOk many wide rws) ?_ (fun D' nxt => ?_)
 rotate_left
 ·refine ⟨_,rfl,(many : Int),rfl,by omega,by omega,eZ (fun i σ' H' => ∃ (ras : List Addr) (rws : LL) (v : OV),σ' = [some (.ref a),some (.int st),some (.int wide),some (.int many),some (.ref R),v,none,none] /\ Same H H' /\ H' R = some (.lst (ras.map V.ref)) /\ RowsAt H' ras rws /\ rws.length = i /\ (∀ r ∈ rws,r.length = wide) /\ ∀ r ∈ rws,∀ v ∈ r,0 <= v /\ v < (many : Int))
   ⟨[],[],none,rfl,av hR _,aj,.nil,rfl,(fun r h => by cases h),(fun r h => by cases h)⟩ ?_ ?_⟩
  ·rintro i σ' H3 hi ⟨ras,rws,v,rfl,hs3,hR3,hA3,hn3,hl3,hv3⟩
   rw [Int.toNat_natCast] at hi
   have pi:=prod i (by omega)
   have z0 : (0 : Int) + (i : Int) = (i : Int):=Int.zero_add _
   rw [z0]
   refine ⟨_,rfl,.inl ⟨rfl,_,qL_ hR3⟩,_,rfl,(wide : Int),rfl,by omega,by omega,?_⟩
   refine j8 (fun D j zs H4 => Same H3 H4 /\ ∃ row : LI,zs = row.map V.int /\ row.length = j /\ ∀ v ∈ row,0 <= v /\ v < (many : Int)) (fun D hD => ⟨av hD _,[],rfl,rfl,(fun v h => by cases h)⟩) ?_ ?_
   ·rintro D j zs H4 Q' hD hj hz ⟨hs4,row,rfl,hl4,hv4⟩ k'
    refine ⟨_,rfl,_,rfl,_,rfl,_,rfl,_,_,rfl,rfl,.inl ⟨by omega,by omega⟩,_,_,rfl,rfl,_,rfl,_,_,rfl,rfl,a,_,xs,rfl,(hs3.trans hs4).seq hS,h63,by omega,by omega,fun x x0 x1 => ?_⟩
    have md:=dA (a:=x) (b:=(many : Int)) (by omega)
    refine ⟨_,rfl,_,_,rfl,rfl,(by omega),k' _ _ hz (dd (by rw [lm_]; omega)) ⟨bR hs4 hD,row ++ [_],by rw [List.map_append]; rfl,by simp [hl4],fun v hv => ?_⟩⟩
    rcases ma_.mp hv with z | z
    ·exact hv4 v z
    ·rw [List.mem_singleton.mp z]; exact md
   rintro D zs H4 hD hz ⟨hs4,row,rfl,hl4,hv4⟩
   rw [Int.toNat_natCast] at hl4
   refine ⟨D,_,rfl,.inl ⟨qL_ hz,fun t ht => ?_⟩⟩
   have hR4:=hs4 _ _ hR3
   have nR : R ≠ t:=aJ hR4 ht
   refine ⟨R,_,_,rfl,rfl,by rw [aw nR]; exact hR4,dd (by rw [lm_,hA3.length]; omega),?_⟩
   have sT : ∀ b xs,H3 b = some (.tup xs) -> (upd (upd H4 t (.tup (row.map V.int))) R (.lst (ras.map V.ref ++ [V.ref t]))) b = some (.tup xs):=fun b xs e => by
    have e4:=hs4 _ _ e
    rw [aw (iw e4 hR4 (by intro z; cases z)),aw (aJ e4 ht)]
    exact e4
   refine ⟨ras ++ [t],rws ++ [row],_,rfl,bR (bR (hs3.trans hs4) ((hs3.trans hs4).free ht)) hR,by rw [aj,List.map_append]; rfl,RowsAt.snoc (hA3.same sT) (by rw [aw (Ne.symm nR),aj]),by simp [hn3],?_,?_⟩
   ·intro r hr'
    rcases ma_.mp hr' with z | z
    ·exact hl3 r z
    ·rw [List.mem_singleton.mp z]; exact hl4
   ·intro r hr'
    rcases ma_.mp hr' with z | z
    ·exact hv3 r z
    ·rw [List.mem_singleton.mp z]; exact hv4
  ·rintro σ' H3 ⟨ras,rws,v,rfl,hs3,hR3,hA3,hn3,hl3,hv3⟩
   rw [Int.toNat_natCast] at hn3
   exact nxt _ _ ⟨ras,rws,v,rfl,hs3,hR3,hA3,⟨hn3,hl3,hv3⟩⟩
 rintro σ' H3 ⟨ras,rws,v,rfl,hs3,hR3,hA3,RO⟩
 have pm:=prod many (Nat.le_refl _)
 refine ⟨_,rfl,_,rfl,_,rfl,_,_,rfl,rfl,.inl ⟨by omega,by omega⟩,_,_,rfl,rfl,?_⟩
 refine ⟨_,rfl,(many : Int),rfl,by omega,by omega,?_⟩
 refine j8 (fun D j ys H4 => Same H3 H4 /\ ∃ sg : LI,ys = sg.map V.int /\ sg.length = j) (fun D hD => ⟨av hD _,[],rfl,rfl⟩) ?_ ?_
 ·rintro D j ys H4 Q' hD hj hy ⟨hs4,sg,rfl,hl4⟩ k'
  rw [Int.toNat_natCast] at hj
  refine ⟨_,rfl,_,rfl,_,rfl,_,_,rfl,rfl,a,_,xs,rfl,(hs3.trans hs4).seq hS,h63,by omega,by omega,fun x x0 x1 => ⟨x,rfl,x0,fun u u0 u1 => k' _ _ hy (dd (by rw [lm_]; omega)) ⟨bR hs4 hD,sg ++ [u],by rw [List.map_append]; rfl,by simp [hl4]⟩⟩⟩
 rintro G ys H4 hG0 hG ⟨hs4,sg,rfl,hl4⟩
 rw [Int.toNat_natCast] at hl4
 refine ⟨_,rfl,_,rfl,R,_,rfl,.inl ⟨qL_ (hs4 _ _ hR3),fun rt hrt => ?_⟩⟩
 have s5:=av hrt (HO.tup (ras.map V.ref))
 refine ⟨_,rfl,G,_,rfl,.inl ⟨qL_ (s5 _ _ hG),fun gt hgt => ?_⟩⟩
 have s6:=av hgt (HO.tup (sg.map V.int))
 refine ⟨(by show 3 <= sizeLine; decide),fun m hm => ?_⟩
 have s7:=av hm (HO.tup [V.int wide,V.ref rt,V.ref gt])
 exact k m rt gt _ rws sg (hs3.trans (hs4.trans (s5.trans (s6.trans s7)))) ⟨aj,⟨ras,(s6.trans s7) _ _ aj,hA3.same fun b zs e => (hs4.trans (s5.trans (s6.trans s7))) _ _ e⟩,s7 _ _ aj⟩ RO hl4
theorem pX {okI : Pl -> Prop} (F : FunD K "_law_same" "_law_same" bK dV f fd) (bc : DefOk P w K mg base "_law_whole" 1 ["_law_found"] [] gy) (aM : DefOk P w K mg base "_law_same" 1 ["_law_found","_law_due"] [] (cB okI)) (aq : mg "isinstance" = none) (bz : mg "tuple" = none) (bD : mg "len" = none) (bx : mg "range" = none) : FnOk P w K mg base CX0 2 f fd ["_law_found","_law_due"] (cB (upP okI)):=by
 refine F.ok sc__law_same (fun vs H Q E h => ?_) (fun cdv A outer s H vs Q E hr h => ?_)
 ·obtain ⟨x,y,p,rfl,_⟩:=h
  rfl
 obtain ⟨x,y,p,rfl,hp,px,py,q⟩:=h
 refine ⟨_,(ao (bX (c6 iX (pv 1) eS (bV _)) (ai (au (fO iX (pv 0) eS (bV _)))) aO)
   (ao (bX (cc (cf (aE dh (by rfl) aq aZ (aa (pv 1) (aa (eA (v:=.ty "tuple") rfl bz cT rfl) ab))))) (ai (au (mM (aN bc hr (aa (pv 0) ab)) (mN (fO ko (pv 0) (pv 1) (bV _)))))) aO)
   (ao (bX (PW.pt (oH (cc (cf (aE dh (by rfl) aq aZ (aa (pv 0) (aa (eA (v:=.ty "tuple") rfl bz cT rfl) ab))))) (mW (c6 p3 (aE ax (by rfl) bD cq (aa (pv 0) ab)) (aE ax (by rfl) bD cq (aa (pv 1) ab)) (bV _))))) (ai (au dD)) aO)
   (ao (ia PassesOwn.never rfl (da rfl bx (aa (aE ax (by rfl) bD cq (aa (pv 1) ab)) ab)) (aR (i:=2) sc__law_same.nd rfl (Or.inl rfl)) (ai (bX (cc (cf (aN aM hr (aa (ar ak (pv 0) (pv 2) (fun _ _ => rfl)) (aa (ar ak (pv 1) (pv 2) (fun _ _ => rfl)) ab))))) (ai (au dD)) aO)))
   (ai (au dD)))))),?_⟩
 rcases hp with rfl | ⟨z,rfl⟩ | ⟨l,r,rfl,hl,hr'⟩
 ·obtain rfl : x = .non:=px
  obtain rfl : y = .non:=py
  exact ⟨_,rfl,rfl,_,rfl,kS ⟨_,rfl,rfl,q⟩⟩
 ·obtain rfl : x = .int z:=px
  obtain rfl : y = .int z:=py
  refine ⟨_,rfl,rfl,_,rfl,di ?_⟩
  refine ⟨_,rfl,_,_,_,_,rfl,TyOf.int z,eL K,_,rfl,kS ?_⟩
  refine ⟨_,rfl,z,rfl,_,rfl,kS ⟨_,rfl,_,rfl,rfl,?_⟩⟩
  rw [decide_eq_true rfl]
  exact q
 ·obtain ⟨a,x1,x2,rfl,ha,p1,p2⟩:=px
  obtain ⟨b,y1,y2,rfl,hb,q1,q2⟩:=py
  refine ⟨_,rfl,rfl,_,rfl,di ?_⟩
  refine ⟨_,rfl,_,_,_,_,rfl,TyOf.tup hb,bq K,_,rfl,di ?_⟩
  refine ⟨_,rfl,_,_,_,_,rfl,TyOf.tup ha,bq K,_,rfl,di ⟨_,rfl,a,_,rfl,.inr (qT_ ha),_,rfl,b,_,rfl,.inr (qT_ hb),rfl,_,rfl,pI (fun n => absurd rfl n) (fun _ => ?_)⟩⟩
  refine ⟨_,rfl,b,_,rfl,.inr (qT_ hb),_,rfl,by have e2 : ([y1,y2] : List V).length = 2:=rfl; omega,by have e2 : ([y1,y2] : List V).length = 2:=rfl; omega,eZ (fun i σ' H' => ∃ v,σ' = [some (.ref a),some (.ref b),v] /\ H' = H) ⟨none,rfl,rfl⟩ ?_ ?_⟩
  ·rintro i σ' H' hi ⟨v,rfl,rfl⟩
   have hi' : i < 2:=hi
   have c2 : i = 0 \/ i = 1:=by omega
   rcases c2 with rfl | rfl
   ·exact ⟨_,rfl,_,rfl,a,_,_,_,rfl,rfl,qT_ ha,rfl,_,rfl,_,rfl,b,_,_,_,rfl,rfl,qT_ hb,rfl,x1,y1,l,rfl,hl,p1,q1,_,rfl,di ⟨_,rfl,rfl⟩⟩
   ·exact ⟨_,rfl,_,rfl,a,_,_,_,rfl,rfl,qT_ ha,rfl,_,rfl,_,rfl,b,_,_,_,rfl,rfl,qT_ hb,rfl,x2,y2,r,rfl,hr',p2,q2,_,rfl,di ⟨_,rfl,rfl⟩⟩
  ·rintro σ' H' ⟨v,rfl,rfl⟩
   exact q
theorem pY {okI : Pl -> Prop} (F : FunD K "_law_same" "_law_same" bK dV f fd) (bc : DefOk P w K mg base "_law_whole" 1 ["_law_found"] [] gy) (aM : DefOk P w K mg base "_law_same" 2 ["_law_found","_law_due"] [] (cB okI)) (aq : mg "isinstance" = none) (bz : mg "tuple" = none) (bD : mg "len" = none) (bx : mg "range" = none) : FnOk P w K mg base CX0 3 f fd ["_law_found","_law_due"] (cB (upP okI)):=by
 refine F.ok sc__law_same (fun vs H Q E h => ?_) (fun cdv A outer s H vs Q E hr h => ?_)
 ·obtain ⟨x,y,p,rfl,_⟩:=h
  rfl
 obtain ⟨x,y,p,rfl,hp,px,py,q⟩:=h
 refine ⟨_,(ao (bX (c6 iX (pv 1) eS (bV _)) (ai (au (fO iX (pv 0) eS (bV _)))) aO)
   (ao (bX (cc (cf (aE dh (by rfl) aq aZ (aa (pv 1) (aa (eA (v:=.ty "tuple") rfl bz cT rfl) ab))))) (ai (au (mM (aN bc hr (aa (pv 0) ab)) (mN (fO ko (pv 0) (pv 1) (bV _)))))) aO)
   (ao (bX (PW.pt (oH (cc (cf (aE dh (by rfl) aq aZ (aa (pv 0) (aa (eA (v:=.ty "tuple") rfl bz cT rfl) ab))))) (mW (c6 p3 (aE ax (by rfl) bD cq (aa (pv 0) ab)) (aE ax (by rfl) bD cq (aa (pv 1) ab)) (bV _))))) (ai (au dD)) aO)
   (ao (ia PassesOwn.never rfl (da rfl bx (aa (aE ax (by rfl) bD cq (aa (pv 1) ab)) ab)) (aR (i:=2) sc__law_same.nd rfl (Or.inl rfl)) (ai (bX (cc (cf (aN aM hr (aa (ar ak (pv 0) (pv 2) (fun _ _ => rfl)) (aa (ar ak (pv 1) (pv 2) (fun _ _ => rfl)) ab))))) (ai (au dD)) aO)))
   (ai (au dD)))))),?_⟩
 rcases hp with rfl | ⟨z,rfl⟩ | ⟨l,r,rfl,hl,hr'⟩
 ·obtain rfl : x = .non:=px
  obtain rfl : y = .non:=py
  exact ⟨_,rfl,rfl,_,rfl,kS ⟨_,rfl,rfl,q⟩⟩
 ·obtain rfl : x = .int z:=px
  obtain rfl : y = .int z:=py
  refine ⟨_,rfl,rfl,_,rfl,di ?_⟩
  refine ⟨_,rfl,_,_,_,_,rfl,TyOf.int z,eL K,_,rfl,kS ?_⟩
  refine ⟨_,rfl,z,rfl,_,rfl,kS ⟨_,rfl,_,rfl,rfl,?_⟩⟩
  rw [decide_eq_true rfl]
  exact q
 ·obtain ⟨a,x1,x2,rfl,ha,p1,p2⟩:=px
  obtain ⟨b,y1,y2,rfl,hb,q1,q2⟩:=py
  refine ⟨_,rfl,rfl,_,rfl,di ?_⟩
  refine ⟨_,rfl,_,_,_,_,rfl,TyOf.tup hb,bq K,_,rfl,di ?_⟩
  refine ⟨_,rfl,_,_,_,_,rfl,TyOf.tup ha,bq K,_,rfl,di ⟨_,rfl,a,_,rfl,.inr (qT_ ha),_,rfl,b,_,rfl,.inr (qT_ hb),rfl,_,rfl,pI (fun n => absurd rfl n) (fun _ => ?_)⟩⟩
  refine ⟨_,rfl,b,_,rfl,.inr (qT_ hb),_,rfl,by have e2 : ([y1,y2] : List V).length = 2:=rfl; omega,by have e2 : ([y1,y2] : List V).length = 2:=rfl; omega,eZ (fun i σ' H' => ∃ v,σ' = [some (.ref a),some (.ref b),v] /\ H' = H) ⟨none,rfl,rfl⟩ ?_ ?_⟩
  ·rintro i σ' H' hi ⟨v,rfl,rfl⟩
   have hi' : i < 2:=hi
   have c2 : i = 0 \/ i = 1:=by omega
   rcases c2 with rfl | rfl
   ·exact ⟨_,rfl,_,rfl,a,_,_,_,rfl,rfl,qT_ ha,rfl,_,rfl,_,rfl,b,_,_,_,rfl,rfl,qT_ hb,rfl,x1,y1,l,rfl,hl,p1,q1,_,rfl,di ⟨_,rfl,rfl⟩⟩
   ·exact ⟨_,rfl,_,rfl,a,_,_,_,rfl,rfl,qT_ ha,rfl,_,rfl,_,rfl,b,_,_,_,rfl,rfl,qT_ hb,rfl,x2,y2,r,rfl,hr',p2,q2,_,rfl,di ⟨_,rfl,rfl⟩⟩
  ·rintro σ' H' ⟨v,rfl,rfl⟩
   exact q
theorem pZ {okI : Pl -> Prop} (F : FunD K "_law_same" "_law_same" bK dV f fd) (bc : DefOk P w K mg base "_law_whole" 1 ["_law_found"] [] gy) (aM : DefOk P w K mg base "_law_same" 3 ["_law_found","_law_due"] [] (cB okI)) (aq : mg "isinstance" = none) (bz : mg "tuple" = none) (bD : mg "len" = none) (bx : mg "range" = none) : FnOk P w K mg base CX0 4 f fd ["_law_found","_law_due"] (cB (upP okI)):=by
 refine F.ok sc__law_same (fun vs H Q E h => ?_) (fun cdv A outer s H vs Q E hr h => ?_)
 ·obtain ⟨x,y,p,rfl,_⟩:=h
  rfl
 obtain ⟨x,y,p,rfl,hp,px,py,q⟩:=h
 refine ⟨_,(ao (bX (c6 iX (pv 1) eS (bV _)) (ai (au (fO iX (pv 0) eS (bV _)))) aO)
   (ao (bX (cc (cf (aE dh (by rfl) aq aZ (aa (pv 1) (aa (eA (v:=.ty "tuple") rfl bz cT rfl) ab))))) (ai (au (mM (aN bc hr (aa (pv 0) ab)) (mN (fO ko (pv 0) (pv 1) (bV _)))))) aO)
   (ao (bX (PW.pt (oH (cc (cf (aE dh (by rfl) aq aZ (aa (pv 0) (aa (eA (v:=.ty "tuple") rfl bz cT rfl) ab))))) (mW (c6 p3 (aE ax (by rfl) bD cq (aa (pv 0) ab)) (aE ax (by rfl) bD cq (aa (pv 1) ab)) (bV _))))) (ai (au dD)) aO)
   (ao (ia PassesOwn.never rfl (da rfl bx (aa (aE ax (by rfl) bD cq (aa (pv 1) ab)) ab)) (aR (i:=2) sc__law_same.nd rfl (Or.inl rfl)) (ai (bX (cc (cf (aN aM hr (aa (ar ak (pv 0) (pv 2) (fun _ _ => rfl)) (aa (ar ak (pv 1) (pv 2) (fun _ _ => rfl)) ab))))) (ai (au dD)) aO)))
   (ai (au dD)))))),?_⟩
 rcases hp with rfl | ⟨z,rfl⟩ | ⟨l,r,rfl,hl,hr'⟩
 ·obtain rfl : x = .non:=px
  obtain rfl : y = .non:=py
  exact ⟨_,rfl,rfl,_,rfl,kS ⟨_,rfl,rfl,q⟩⟩
 ·obtain rfl : x = .int z:=px
  obtain rfl : y = .int z:=py
  refine ⟨_,rfl,rfl,_,rfl,di ?_⟩
  refine ⟨_,rfl,_,_,_,_,rfl,TyOf.int z,eL K,_,rfl,kS ?_⟩
  refine ⟨_,rfl,z,rfl,_,rfl,kS ⟨_,rfl,_,rfl,rfl,?_⟩⟩
  rw [decide_eq_true rfl]
  exact q
 ·obtain ⟨a,x1,x2,rfl,ha,p1,p2⟩:=px
  obtain ⟨b,y1,y2,rfl,hb,q1,q2⟩:=py
  refine ⟨_,rfl,rfl,_,rfl,di ?_⟩
  refine ⟨_,rfl,_,_,_,_,rfl,TyOf.tup hb,bq K,_,rfl,di ?_⟩
  refine ⟨_,rfl,_,_,_,_,rfl,TyOf.tup ha,bq K,_,rfl,di ⟨_,rfl,a,_,rfl,.inr (qT_ ha),_,rfl,b,_,rfl,.inr (qT_ hb),rfl,_,rfl,pI (fun n => absurd rfl n) (fun _ => ?_)⟩⟩
  refine ⟨_,rfl,b,_,rfl,.inr (qT_ hb),_,rfl,by have e2 : ([y1,y2] : List V).length = 2:=rfl; omega,by have e2 : ([y1,y2] : List V).length = 2:=rfl; omega,eZ (fun i σ' H' => ∃ v,σ' = [some (.ref a),some (.ref b),v] /\ H' = H) ⟨none,rfl,rfl⟩ ?_ ?_⟩
  ·rintro i σ' H' hi ⟨v,rfl,rfl⟩
   have hi' : i < 2:=hi
   have c2 : i = 0 \/ i = 1:=by omega
   rcases c2 with rfl | rfl
   ·exact ⟨_,rfl,_,rfl,a,_,_,_,rfl,rfl,qT_ ha,rfl,_,rfl,_,rfl,b,_,_,_,rfl,rfl,qT_ hb,rfl,x1,y1,l,rfl,hl,p1,q1,_,rfl,di ⟨_,rfl,rfl⟩⟩
   ·exact ⟨_,rfl,_,rfl,a,_,_,_,rfl,rfl,qT_ ha,rfl,_,rfl,_,rfl,b,_,_,_,rfl,rfl,qT_ hb,rfl,x2,y2,r,rfl,hr',p2,q2,_,rfl,di ⟨_,rfl,rfl⟩⟩
  ·rintro σ' H' ⟨v,rfl,rfl⟩
   exact q
end
inductive All2 {α β : Type} (R : α -> β -> Prop) : List α -> List β -> Prop
 | nil : All2 R [] []
 | cons {a b l m} (h : R a b) (t : All2 R l m) : All2 R (a :: l) (b :: m)
theorem All2.length {α β : Type} {R : α -> β -> Prop} {l : List α} {m : List β} (h : All2 R l m) : l.length = m.length:=by
 induction h with
 | nil => rfl
 | cons _ _ ih => rw [List.length_cons,List.length_cons,ih]
theorem All2.imp {α β : Type} {R S : α -> β -> Prop} {l : List α} {m : List β} (h : All2 R l m) (k : ∀ a b,R a b -> S a b) : All2 S l m:=by
 induction h with
 | nil => exact .nil
 | cons h _ ih => exact .cons (k _ _ h) ih
theorem All2.at {α β : Type} {R : α -> β -> Prop} {l : List α} {m : List β} (h : All2 R l m) : ∀ {i : Nat} {a : α},l[i]? = some a -> ∃ b,m[i]? = some b /\ R a b:=by
 induction h with
 | nil => intro i a e; simp at e
 | cons h _ ih =>
  intro i a e
  cases i with
  | zero => simp at e; subst e; exact ⟨_,rfl,h⟩
  | succ i => simp at e; obtain ⟨b,e1,e2⟩:=ih e; exact ⟨b,by simpa using e1,e2⟩
theorem All2.snoc {α β : Type} {R : α -> β -> Prop} {l : List α} {m : List β} {a : α} {b : β} (h : All2 R l m) (r : R a b) : All2 R (l ++ [a]) (m ++ [b]):=by
 induction h with
 | nil => exact .cons r .nil
 | cons h _ ih => exact .cons h ih
def pls (p q : Int) : List Pl:=[.non,.num p,.num q,.pair (.num p) (.num q),.pair (.num p) (.num p),.pair .non (.num q),.pair (.num q) (.pair (.num p) (.num q))]
def wks (R1 R2 : Wk) (t1 m1 t2 m2 : Int) : List Wk:=[.walk,R1,R2,.pair R1 R2 t1 m1,.pair R1 R1 t2 m2,.pair .walk R2 t2 m2,.pair R2 (.pair R1 R2 t1 m1) t2 m2]
def sgs (a b t1 m1 t2 m2 : Int) : LI:=[0,a,b,e5 t1 m1 a b,e5 t2 m2 a a,e5 t2 m2 0 b,e5 t2 m2 b (e5 t1 m1 a b)]
abbrev P0 : Pl -> Prop:=fun _ => False
abbrev P3 : Pl -> Prop:=upP (upP (upP P0))
def oK : Sp:=fun vs H Q _ => ∃ p q : Int,vs = [.int p,.int q] /\ ∀ (L : Addr) (xs : List V) (H' : Hp),Same H H' -> H' L = some (.lst xs) -> All2 (PlAt H') xs (pls p q) -> Q (.ref L) H'
def oM : Sp:=fun vs H Q _ => ∃ (a b t1 m1 t2 m2 : Int) (f1 f2 : Addr),vs = [.int a,.int b,.ref f1,.ref f2] /\ RuleAt H f1 t1 m1 /\ RuleAt H f2 t2 m2 /\ ∀ (L : Addr) (H' : Hp),Same H H' -> H' L = some (.lst ((sgs a b t1 m1 t2 m2).map V.int)) -> Q (.ref L) H'
def nj : Sp:=fun vs H Q _ => ∃ (L1 L2 : Addr) (xs ys : List V) (ps : List Pl),vs = [.ref L1,.ref L2] /\ H L1 = some (.lst xs) /\ H L2 = some (.lst ys) /\ All2 (PlAt H) xs ps /\ All2 (PlAt H) ys ps /\ (∀ p ∈ ps,P3 p) /\ ps.length <= 1000 /\ Q (.bl true) H
def qd (C : WC) : Sp:=fun vs H Q _ => ∃ (m1 m2 f1 f2 r1 g1 r2 g2 : Addr) (n1 w1 n2 w2 : Nat) (rows1 rows2 : LL) (sg1 sg2 : LI) (t1 u1 t2 u2 : Int),vs = [.ref m1,.ref m2,.ref f1,.ref f2] /\ MachAt H m1 r1 g1 w1 rows1 sg1 /\ RowsOk n1 w1 rows1 /\ sg1.length = n1 /\ MachAt H m2 r2 g2 w2 rows2 sg2 /\ RowsOk n2 w2 rows2 /\ sg2.length = n2 /\ RuleAt H f1 t1 u1 /\ RuleAt H f2 t2 u2 /\
 ∀ (L : Addr) (as : List Addr) (H' : Hp),Same H H' -> H' L = some (.lst (as.map V.ref)) -> All2 (WkAt C.W C.R C.P H') as (wks (.read n1 w1 rows1 sg1) (.read n2 w2 rows2 sg2) t1 u1 t2 u2) -> Q (.ref L) H'
def SameN (H H' : Hp) : Prop := ∀ b u,(∀ xs,u ≠ HO.lst xs) -> H b = some u -> H' b = some u
theorem SameN.upd {H : Hp} {L : Addr} {xs ys : List V} (h : H L = some (.lst xs)) : SameN H (upd H L (.lst ys)):=fun b u n e => by
 rw [aw (iw e h (n xs))]
 exact e
theorem RuleAt.sameN {H H' : Hp} {f : Addr} {t m : Int} (h : RuleAt H f t m) (s : SameN H H') : RuleAt H' f t m:=by
 obtain ⟨⟨c',clos,h1,L⟩,t0,t1⟩:=h
 exact ⟨⟨c',clos,h1,⟨s _ _ (fun _ z => by cases z) L.fn,s _ _ (fun _ z => by cases z) L.cd,Paired.mapP L.cl fun _ _ ⟨o,u,e,r⟩ => ⟨o,u,s _ _ (fun _ z => by cases z) e,r⟩,L.nd⟩⟩,t0,t1⟩
theorem WkAt.sameN {CW CR CP : Addr} {H H' : Hp} (s : SameN H H') : ∀ {k : Wk} {x : Addr},WkAt CW CR CP H x k -> WkAt CW CR CP H' x k
 | .walk,_,⟨dx,h⟩ => ⟨dx,s _ _ (fun _ z => by cases z) h⟩
 | .read ..,_,⟨m,r,g,⟨dx,h1⟩,h2,h3⟩ => ⟨m,r,g,⟨dx,s _ _ (fun _ z => by cases z) h1⟩,h2.same (fun b xs e => s _ _ (fun _ z => by cases z) e),h3⟩
 | .pair ..,_,⟨dx,o1,o2,fn,h,h1,h2,h3⟩ => ⟨dx,o1,o2,fn,s _ _ (fun _ z => by cases z) h,WkAt.sameN s h1,WkAt.sameN s h2,h3.sameN s⟩
theorem m7 {te : TE} {g : TG} {u : TS} {D : Ends} {σ : St} {H : Hp} (h : te σ H fun x H1 => g x σ H1 (u D)) : nU (qe te g) u D σ H:=h
theorem eE {te : TE} {t : TA} {σ : St} {H : Hp} {R : List V -> Hp -> Prop} (h : te σ H fun x H1 => t σ H1 fun xs H2 => R (x :: xs) H2) : fX te t σ H R:=h
@[irreducible] def MkP (C : Addr) (sp : Sp) (vs : List V) (Q : VK) (H : Hp) : Prop := ∀ x dx,H x = none -> H dx = none -> dx ≠ x -> sp (.ref x :: (vs ++ [])) (upd (upd H dx (.own x)) x (.ins C dx [])) (fun v H2 => v = .non /\ Q (.ref x) H2) E0
theorem dg {C : Addr} {sp : Sp} {t : TA} {σ : St} {H : Hp} {Q : VK} (h : t σ H fun vs H1 => MkP C sp vs Q H1) : qg C sp [] E0 t σ H Q:=by
 unfold MkP at h
 exact h
section
variable {C : WC} {H : Hp} {Q : VK}
theorem oG {σ : St} (k : ∀ x H',Same H H' -> WkAt C.W C.R C.P H' x .walk -> Q (.ref x) H') : sj C.W σ H Q:=fun x dx hx hd ne =>
 k x _ (bR (av hd _) hx) ⟨dx,aj⟩
theorem iv {m r g : Addr} {n wd : Nat} {rows : LL} {sg : LI} (M : MachAt H m r g wd rows sg) (R : RowsOk n wd rows) (l : sg.length = n) (k : ∀ x H',Same H H' -> WkAt C.W C.R C.P H' x (.read n wd rows sg) -> Q (.ref x) H') :
  MkP C.R (j5 C.R) [.ref m] Q H:=by
 unfold MkP
 intro x dx hx hd ne
 have s1 : Same H (upd (upd H dx (.own x)) x (.ins C.R dx [])):=bR (av hd _) hx
 refine ⟨x,dx,m,r,g,wd,rows,sg,rfl,aj,M.same (fun b xs e => s1 _ _ e),fun H' kp rd => ⟨rfl,?_⟩⟩
 have s2 : Same H H' := fun b u e => kp b u (aJ e hx) (s1 _ _ e)
 exact k x H' s2 ⟨m,r,g,rd,M.same (fun b xs e => s2 _ _ e),R,l⟩
theorem iu {o1 o2 fn : Addr} {a b : Wk} {t m : Int} (W1 : WkAt C.W C.R C.P H o1 a) (W2 : WkAt C.W C.R C.P H o2 b) (F : RuleAt H fn t m) (k : ∀ x H',Same H H' -> WkAt C.W C.R C.P H' x (.pair a b t m) -> Q (.ref x) H') :
  MkP C.P (j4 C.P) [.ref o1,.ref o2,.ref fn] Q H:=by
 unfold MkP
 intro x dx hx hd ne
 have s1 : Same H (upd (upd H dx (.own x)) x (.ins C.P dx [])):=bR (av hd _) hx
 refine ⟨x,dx,o1,o2,fn,rfl,aj,fun H' kp hx' => ⟨rfl,?_⟩⟩
 have s2 : Same H H' := fun b u e => kp b u (aJ e hx) (s1 _ _ e)
 exact k x H' s2 ⟨dx,o1,o2,fn,hx',W1.same s2,W2.same s2,F.same s2⟩
end
section
variable {P : Program} {w : World} {K : PySem.W.Frag} {mg : Str -> Option Value} {base : Heap} {f : Addr} {fd : FuncData} {dV : Value} {D : WC}
theorem ky : FnScope ["_law_p","_law_q"] ["_law_p","_law_q"] (ae bU):=⟨rfl,rfl,rfl,by decide +kernel,rfl,by decide +kernel,by decide +kernel⟩
theorem sc__law_signs : FnScope ["_law_here","_law_there","_law_first","_law_second","_law_signs_here"] ["_law_here","_law_there","_law_first","_law_second"] (ae ck):=⟨rfl,rfl,rfl,by decide +kernel,rfl,by decide +kernel,by decide +kernel⟩
theorem sc__law_all_same : FnScope ["_law_found","_law_due","_law_k"] ["_law_found","_law_due"] (ae bt):=⟨rfl,rfl,rfl,by decide +kernel,rfl,by decide +kernel,by decide +kernel⟩
theorem sc__law_walks : FnScope ["_law_one","_law_other","_law_first","_law_second","_law_left","_law_right","_law_walks_here"] ["_law_one","_law_other","_law_first","_law_second"] (ae cm):=⟨rfl,rfl,rfl,by decide +kernel,rfl,by decide +kernel,by decide +kernel⟩
theorem rB (F : FunD K "_law_places" "_law_places" bU dV f fd) : FnOk P w K mg base CX0 1 f fd ["_law_p","_law_q"] oK:=by
 refine F.ok ky (fun vs H Q E h => ?_) (fun cdv A outer s H vs Q E hr h => ?_)
 ·obtain ⟨p,q,rfl,_⟩:=h
  rfl
 obtain ⟨p,q,rfl,k⟩:=h
 refine l0 (nt (sq (qV (cC (PEW.mk eS) (cC (PEW.mk (pv 0)) (cC (PEW.mk (pv 1)) (cC (PEW.mk (eT (aa (pv 0) (aa (pv 1) ab)))) (cC (PEW.mk (eT (aa (pv 0) (aa (pv 0) ab)))) (cC (PEW.mk (eT (aa eS (aa (pv 1) ab)))) (cC (PEW.mk (eT (aa (pv 1) (aa (eT (aa (pv 0) (aa (pv 1) ab))) ab)))) qi)))))))))) ?_
 refine ⟨_,rfl,_,rfl,_,rfl,_,rfl,(by show 2 <= sizeLine; decide),fun T1 h1 => ?_⟩
 have s1:=av h1 (HO.tup [V.int p,V.int q])
 refine ⟨_,rfl,_,rfl,(by show 2 <= sizeLine; decide),fun T2 h2 => ?_⟩
 have s2:=av h2 (HO.tup [V.int p,V.int p])
 refine ⟨_,rfl,(by show 2 <= sizeLine; decide),fun T3 h3 => ?_⟩
 have s3:=av h3 (HO.tup [V.non,V.int q])
 refine ⟨_,rfl,_,rfl,_,rfl,(by show 2 <= sizeLine; decide),fun T4 h4 => ?_⟩
 have s4:=av h4 (HO.tup [V.int p,V.int q])
 refine ⟨(by show 2 <= sizeLine; decide),fun T5 h5 => ?_⟩
 have s5:=av h5 (HO.tup [V.int q,V.ref T4])
 refine ⟨(by show 7 <= sizeLine; decide),fun L hL => ?_⟩
 have s6:=av hL (HO.lst [V.non,V.int p,V.int q,V.ref T1,V.ref T2,V.ref T3,V.ref T5])
 have t5:=s5.trans s6
 have t4:=s4.trans t5
 have t3:=s3.trans t4
 have t2:=s2.trans t3
 refine k L _ _ (s1.trans t2) aj ?_
 exact .cons rfl (.cons rfl (.cons rfl (.cons ⟨T1,_,_,rfl,t2 _ _ aj,rfl,rfl⟩ (.cons ⟨T2,_,_,rfl,t3 _ _ aj,rfl,rfl⟩ (.cons ⟨T3,_,_,rfl,t4 _ _ aj,rfl,rfl⟩ (.cons ⟨T5,_,_,rfl,s6 _ _ aj,rfl,T4,_,_,rfl,t5 _ _ aj,rfl,rfl⟩ .nil))))))
theorem rC (F : FunD K "_law_signs" "_law_signs" ck dV f fd) : FnOk P w K mg base CX0 2 f fd ["_law_here","_law_there","_law_first","_law_second"] oM:=by
 refine F.ok sc__law_signs (fun vs H Q E h => ?_) (fun cdv A outer s H vs Q E hr h => ?_)
 ·obtain ⟨a,b,t1,m1,t2,m2,f1,f2,rfl,_⟩:=h
  rfl
 obtain ⟨a,b,t1,m1,t2,m2,f1,f2,rfl,R1,R2,k⟩:=h
 refine ⟨_,(ao (aW (i:=4) sc__law_signs.nd rfl (Or.inl rfl) (kq (aa af (aa (pv 0) (aa (pv 1) (aa (d9 (pv 2) (aa (pv 0) (aa (pv 1) ab)) ((fM hr))) (aa (d9 (pv 3) (aa (pv 0) (aa (pv 0) ab)) ((fM hr))) (aa (d9 (pv 3) (aa af (aa (pv 1) ab)) ((fM hr))) ab))))))))
   (ai (au (aF rE (pv 4) (kq (aa (d9 (pv 3) (aa (pv 1) (aa (d9 (pv 2) (aa (pv 0) (aa (pv 1) ab)) ((fM hr))) ab)) ((fM hr))) ab)))))),?_⟩
 refine ⟨_,rfl,_,rfl,_,rfl,R1.fnv,_,rfl,_,rfl,R1.fnv,f1,t1,m1,a,b,rfl,rfl,R1,?_⟩
 refine ⟨_,rfl,R2.fnv,_,rfl,_,rfl,R2.fnv,f2,t2,m2,a,a,rfl,rfl,R2,?_⟩
 refine ⟨_,rfl,R2.fnv,_,rfl,R2.fnv,f2,t2,m2,0,b,rfl,rfl,R2,?_⟩
 refine ⟨(by show 6 <= sizeLine; decide),fun L hL => ?_⟩
 have s1:=av hL (HO.lst [V.int 0,V.int a,V.int b,V.int (e5 t1 m1 a b),V.int (e5 t2 m2 a a),V.int (e5 t2 m2 0 b)])
 have R1' := R1.same s1
 have R2' := R2.same s1
 refine ⟨_,rfl,_,rfl,R2'.fnv,_,rfl,_,rfl,R1'.fnv,_,rfl,_,rfl,R1'.fnv,f1,t1,m1,a,b,rfl,rfl,R1',R2'.fnv,f2,t2,m2,b,_,rfl,rfl,R2',?_⟩
 refine ⟨(by show 1 <= sizeLine; decide),fun L2 hL2 => ?_⟩
 have s2:=av hL2 (HO.lst [V.int (e5 t2 m2 b (e5 t1 m1 a b))])
 refine ⟨L,L2,_,_,rfl,rfl,s2 _ _ aj,aj,by show 7 <= sizeLine; decide,fun L3 hL3 => ?_⟩
 exact k L3 _ (s1.trans (s2.trans (av hL3 _))) aj
theorem qC (F : FunD K "_law_all_same" "_law_all_same" bt dV f fd) (aM : DefOk P w K mg base "_law_same" 4 ["_law_found","_law_due"] [] (cB P3)) (bD : mg "len" = none) (bx : mg "range" = none) : FnOk P w K mg base CX0 5 f fd ["_law_found","_law_due"] nj:=by
 refine F.ok sc__law_all_same (fun vs H Q E h => ?_) (fun cdv A outer s H vs Q E hr h => ?_)
 ·obtain ⟨L1,L2,xs,ys,ps,rfl,_⟩:=h
  rfl
 obtain ⟨L1,L2,xs,ys,ps,rfl,h1,h2,a1,a2,hp,lp,q⟩:=h
 refine ⟨_,(ao (ia PassesOwn.never rfl (da rfl bx (aa (aE ax (by rfl) bD cq (aa (pv 1) ab)) ab)) (aR (i:=2) sc__law_all_same.nd rfl (Or.inl rfl)) (ai (bX (cc (cf (aN aM hr (aa (ar j0 (pv 0) (pv 2) (fun _ _ => rfl)) (aa (ar j0 (pv 1) (pv 2) (fun _ _ => rfl)) ab))))) (ai (au dD)) aO)))
   (ai (au (fO ko (aE ax (by rfl) bD cq (aa (pv 0) ab)) (aE ax (by rfl) bD cq (aa (pv 1) ab)) (bV _))))),?_⟩
 have l1:=a1.length
 have l2:=a2.length
 try dsimp only [aV]
 refine qv (t:=qf _ _ _) (fun σ' H' => ∃ v,σ' = [some (.ref L1),some (.ref L2),v] /\ H' = H) ?_ (fun nxt => ?_)
 rotate_left
 ·refine ⟨_,rfl,L2,_,rfl,.inl (qL_ h2),(ys.length : Int),rfl,by omega,by omega,eZ (fun i σ' H' => ∃ v,σ' = [some (.ref L1),some (.ref L2),v] /\ H' = H) ⟨none,rfl,rfl⟩ ?_ ?_⟩
  ·rintro i σ' H' hi ⟨v,rfl,rfl⟩
   rw [Int.toNat_natCast] at hi
   have z0 : (0 : Int) + (i : Int) = (i : Int):=Int.zero_add _
   rw [z0]
   obtain ⟨x,hx⟩ : ∃ x,xs[i]? = some x:=⟨_,List.getElem?_eq_getElem (by omega)⟩
   obtain ⟨y,hy⟩ : ∃ y,ys[i]? = some y:=⟨_,List.getElem?_eq_getElem hi⟩
   obtain ⟨p,e1,px⟩:=a1.at hx
   obtain ⟨p',e2,py⟩:=a2.at hy
   rw [e1] at e2
   cases e2
   exact ⟨_,rfl,_,rfl,L1,_,_,_,rfl,rfl,qL_ h1,jY hx,_,rfl,_,rfl,L2,_,_,_,rfl,rfl,qL_ h2,jY hy,x,y,p,rfl,hp p (mq_ e1),px,py,_,rfl,di ⟨_,rfl,rfl⟩⟩
  ·rintro σ' H' ⟨v,rfl,rfl⟩
   exact nxt _ _ ⟨_,rfl,rfl⟩
 rintro σ' H' ⟨v,rfl,rfl⟩
 refine ⟨_,rfl,L1,_,rfl,.inl (qL_ h1),_,rfl,L2,_,rfl,.inl (qL_ h2),rfl,?_⟩
 rw [decide_eq_true (by rw [l1,l2])]
 exact q
theorem rD (F : FunD K "_law_walks" "_law_walks" cm dV f fd) (hZ : mg "Walk" = some (.ref D.W)) (mkW : Mk0 K D.W) (cE : DefMk P w K mg base "Reading" D.R 1 ["self","machine"] (j5 D.R)) (cD : DefMk P w K mg base "Pairing" D.P 1 ["self","one","other","rule"] (j4 D.P)) : FnOk P w K mg base CX0 3 f fd ["_law_one","_law_other","_law_first","_law_second"] (qd D):=by
 refine F.ok sc__law_walks (fun vs H Q E h => ?_) (fun cdv A outer s H vs Q E hr h => ?_)
 ·obtain ⟨m1,m2,f1,f2,r1,g1,r2,g2,n1,w1,n2,w2,rows1,rows2,sg1,sg2,t1,u1,t2,u2,rfl,_⟩:=h
  rfl
 obtain ⟨m1,m2,f1,f2,r1,g1,r2,g2,n1,w1,n2,w2,rows1,rows2,sg1,sg2,t1,u1,t2,u2,rfl,M1,R1,l1,M2,R2,l2,F1,F2,k⟩:=h
 refine l0 (aP (PSW.mk (aW (i:=4) sc__law_walks.nd rfl (Or.inl rfl) (eR cE hr (aa (pv 0) ab))))
   (aP (PSW.mk (aW (i:=5) sc__law_walks.nd rfl (Or.inl rfl) (eR cE hr (aa (pv 1) ab))))
   (aP (sr (i:=6) sc__law_walks.nd rfl (Or.inl rfl) (qV (cC (PEW.mk (p8 hZ mkW)) (cC (PEW.mk (pv 4)) (cC (PEW.mk (pv 5)) (cC (PEW.mk (eR cD hr (aa (pv 4) (aa (pv 5) (aa (pv 2) ab))))) (cC (PEW.mk (eR cD hr (aa (pv 4) (aa (pv 4) (aa (pv 3) ab))))) qi)))))))
   (aP (PSW.mk (mV (p6 PySem.F.plainAttrs_list PySem.F.slot_list_append PySem.F.type_list_append gz (pv 6) (aa (eR cD hr (aa (p8 hZ mkW) (aa (pv 5) (aa (pv 3) ab)))) ab))))
   (aP (PSW.mk (mV (p6 PySem.F.plainAttrs_list PySem.F.slot_list_append PySem.F.type_list_append gz (pv 6) (aa (eR cD hr (aa (eR cE hr (aa (pv 1) ab)) (aa (eR cD hr (aa (eR cE hr (aa (pv 0) ab)) (aa (eR cE hr (aa (pv 1) ab)) (aa (pv 2) ab)))) (aa (pv 3) ab)))) ab))))
   (nt (PSW.mk (au (pv 6))))))))) ?_
 refine m7 (dg ⟨_,rfl,iv (C:=D) M1 R1 l1 fun a1 H1 s1 A1 => ?_⟩)
 dsimp only [aV]
 refine m7 (dg ⟨_,rfl,iv (C:=D) (M2.same fun b xs e => s1 _ _ e) R2 l2 fun a2 H2 s2 A2 => ?_⟩)
 dsimp only [aV]
 refine m7 (eE (oG (C:=D) fun a3 H3 s3 A3 => ?_))
 have S3:=s1.trans (s2.trans s3)
 have A13:=A1.same (s2.trans s3)
 have A23:=A2.same s3
 refine ⟨_,rfl,_,rfl,eE (dg ⟨_,rfl,_,rfl,_,rfl,iu (C:=D) A13 A23 (F1.same S3) fun a4 H4 s4 A4 => ?_⟩)⟩
 refine eE (dg ⟨_,rfl,_,rfl,_,rfl,iu (C:=D) (A13.same s4) (A13.same s4) (F2.same (S3.trans s4)) fun a5 H5 s5 A5 => ?_⟩)
 refine ⟨(by show 5 <= sizeLine; decide),fun L hL => ?_⟩
 have s6:=av hL (HO.lst [V.ref a3,V.ref a1,V.ref a2,V.ref a4,V.ref a5])
 have S5:=S3.trans (s4.trans s5)
 have S6:=S5.trans s6
 have t36:=s4.trans (s5.trans s6)
 refine ⟨_,rfl,.inl ⟨rfl,_,qL_ aj⟩,?_⟩
 refine eE (dg (eE (oG (C:=D) fun a6 H6 s7 A6 => ?_)))
 refine ⟨_,rfl,_,rfl,iu (C:=D) A6 (A23.same (t36.trans s7)) (F2.same (S6.trans s7)) fun a7 H7 s8 A7 => ?_⟩
 have hL7:=(s7.trans s8) _ _ (aj (H:=H5) (a:=L) (o:=HO.lst [V.ref a3,V.ref a1,V.ref a2,V.ref a4,V.ref a5]))
 refine ⟨L,_,_,rfl,rfl,hL7,(by show 5 < sizeLine; decide),?_⟩
 have u7:=SameN.upd (ys:=[V.ref a3,V.ref a1,V.ref a2,V.ref a4,V.ref a5] ++ [V.ref a7]) hL7
 have t37:=t36.trans (s7.trans s8)
 have S7:=S6.trans (s7.trans s8)
 have B3:=(A3.same t37).sameN u7
 have B1:=(A13.same t37).sameN u7
 have B2:=(A23.same t37).sameN u7
 have B4:=(A4.same (s5.trans (s6.trans (s7.trans s8)))).sameN u7
 have B5:=(A5.same (s6.trans (s7.trans s8))).sameN u7
 have B7:=A7.sameN u7
 have G1:=(F1.same S7).sameN u7
 have G2:=(F2.same S7).sameN u7
 have N1:=M1.same fun b xs e => u7 _ _ (fun _ z => by cases z) (S7 _ _ e)
 have N2:=M2.same fun b xs e => u7 _ _ (fun _ z => by cases z) (S7 _ _ e)
 obtain ⟨H8,e8⟩ : ∃ H8,upd H7 L (HO.lst ([V.ref a3,V.ref a1,V.ref a2,V.ref a4,V.ref a5] ++ [V.ref a7])) = H8:=⟨_,rfl⟩
 have hL8 : H8 L = some (.lst [V.ref a3,V.ref a1,V.ref a2,V.ref a4,V.ref a5,V.ref a7]):=by rw [<- e8]; exact aj
 have S8 : Same H H8:=by rw [<- e8]; exact bR (S5.trans (s6.trans (s7.trans s8))) (S5.free hL)
 rw [e8] at B3 B1 B2 B4 B5 B7 G1 G2 N1 N2
 rw [e8]
 refine ⟨_,rfl,.inl ⟨rfl,_,qL_ hL8⟩,?_⟩
 refine eE (dg (eE (dg ⟨_,rfl,iv (C:=D) N2 R2 l2 fun a8 H9 s9 A8 => ?_⟩)))
 refine eE (dg (eE (dg ⟨_,rfl,iv (C:=D) (N1.same fun b xs e => s9 _ _ e) R1 l1 fun a9 H10 s10 A9 => ?_⟩)))
 have t810:=s9.trans s10
 refine eE (dg ⟨_,rfl,iv (C:=D) (N2.same fun b xs e => t810 _ _ e) R2 l2 fun a10 H11 s11 A10 => ?_⟩)
 refine ⟨_,rfl,iu (C:=D) (A9.same s11) A10 (G1.same (t810.trans s11)) fun a11 H12 s12 A11 => ?_⟩
 have t812:=t810.trans (s11.trans s12)
 refine ⟨_,rfl,iu (C:=D) (A8.same (s10.trans (s11.trans s12))) A11 (G2.same t812) fun a12 H13 s13 A12 => ?_⟩
 have t813:=t812.trans s13
 have hL13:=t813 _ _ hL8
 refine ⟨L,_,_,rfl,rfl,hL13,(by show 6 < sizeLine; decide),?_⟩
 have u13:=SameN.upd (ys:=[V.ref a3,V.ref a1,V.ref a2,V.ref a4,V.ref a5,V.ref a7] ++ [V.ref a12]) hL13
 refine ⟨_,rfl,k L [a3,a1,a2,a4,a5,a7,a12] _ (bR (S8.trans t813) (S5.free hL)) aj ?_⟩
 exact .cons ((B3.same t813).sameN u13) (.cons ((B1.same t813).sameN u13) (.cons ((B2.same t813).sameN u13) (.cons ((B4.same t813).sameN u13) (.cons ((B5.same t813).sameN u13) (.cons ((B7.same t813).sameN u13) (.cons (A12.sameN u13) .nil))))))
end
abbrev okW : Wk -> Prop:=isP (isP fun _ => False)
theorem hpW : ∀ k,okW k -> ∃ l r t m,k = .pair l r t m:=fun _ ⟨a,b,t,m,e,_⟩ => ⟨a,b,t,m,e⟩
theorem c7 {n1 w1 n2 w2 : Nat} {rows1 rows2 : LL} {sg1 sg2 : LI} {t1 u1 t2 u2 : Int} : ∀ k ∈ wks (.read n1 w1 rows1 sg1) (.read n2 w2 rows2 sg2) t1 u1 t2 u2,dv okW k:=fun k hk => by
 have r1 : ∀ {ok : Wk -> Prop},dv ok (.read n1 w1 rows1 sg1):=.inr (.inl ⟨_,_,_,_,rfl⟩)
 have r2 : ∀ {ok : Wk -> Prop},dv ok (.read n2 w2 rows2 sg2):=.inr (.inl ⟨_,_,_,_,rfl⟩)
 simp only [wks,List.mem_cons,List.not_mem_nil,or_false] at hk
 rcases hk with e | e | e | e | e | e | e <;> subst e
 ·exact .inl rfl
 ·exact r1
 ·exact r2
 ·exact .inr (.inr ⟨_,_,_,_,rfl,r1,r2⟩)
 ·exact .inr (.inr ⟨_,_,_,_,rfl,r1,r1⟩)
 ·exact .inr (.inr ⟨_,_,_,_,rfl,.inl rfl,r2⟩)
 ·exact .inr (.inr ⟨_,_,_,_,rfl,r2,.inr (.inr ⟨_,_,_,_,rfl,r1,r2⟩)⟩)
theorem nX (z : Int) : P3 (.num z):=.inr (.inl ⟨z,rfl⟩)
theorem mP {p q : Int} : ∀ x ∈ pls p q,P3 x:=fun x hx => by
 have n : ∀ {ok : Pl -> Prop} {z : Int},upP ok (.num z):=.inr (.inl ⟨_,rfl⟩)
 simp only [pls,List.mem_cons,List.not_mem_nil,or_false] at hx
 rcases hx with e | e | e | e | e | e | e <;> subst e
 ·exact .inl rfl
 ·exact n
 ·exact n
 ·exact .inr (.inr ⟨_,_,rfl,n,n⟩)
 ·exact .inr (.inr ⟨_,_,rfl,n,n⟩)
 ·exact .inr (.inr ⟨_,_,rfl,.inl rfl,n⟩)
 ·exact .inr (.inr ⟨_,_,rfl,n,.inr (.inr ⟨_,_,rfl,n,n⟩)⟩)
theorem dR {H : Hp} : ∀ ns : LI,All2 (PlAt H) (ns.map V.int) (ns.map Pl.num)
 | [] => .nil
 | _ :: r => .cons rfl (dR r)
theorem PlAt.updL {H : Hp} {d : Addr} {ys zs : List V} {v : V} {p : Pl} (h : H d = some (.lst ys)) (x : PlAt H v p) : PlAt (upd H d (.lst zs)) v p:=x.keep fun a xs e => by
 rw [aw (iw e h (by intro z; cases z))]
 exact e
theorem mY {as : List Addr} {i : Nat} {x : V} (h : (as.map V.ref)[i]? = some x) : ∃ o,x = .ref o /\ as[i]? = some o:=by
 rw [List.getElem?_map] at h
 cases e : as[i]? with
 | none => rw [e] at h; cases h
 | some o => rw [e] at h; cases h; exact ⟨o,rfl,rfl⟩
section
variable {K : PySem.W.Frag} {D : WC} {L M : Addr} {as : List Addr} {ks : List Wk} {σ : St} {H : Hp} {Qd : Addr -> Hp -> Prop} {vs : List V} {ps : List Pl} {ix : List (Option Nat)}
theorem nB (hL : H L = some (.lst (as.map V.ref))) (A : All2 (WkAt D.W D.R D.P H) as ks) (hk : ∀ k ∈ ks,dv okW k) (lk : ks.length <= 900) (k : ∀ d ys H',Same H H' -> H' d = some (.lst ys) -> All2 (PlAt H') ys (ks.map nV) -> Qd d H') :
  i9 (Itl K L) [none] (aV 0) (fun σ H Q => bS D.W "begin" (bA D isW) [] E0 (dM 0) gY σ H Q \/ bS D.R "begin" (bA D isR) [] E0 (dM 0) gY σ H Q \/ bS D.P "begin" (bA D okW) [] E0 (dM 0) gY σ H Q) σ H Qd:=by
 have la:=A.length
 refine oQ (K:=K) (xs:=as.map V.ref) (fun d i ys H' => Same H H' /\ All2 (PlAt H') ys ((ks.map nV).take i)) (fun d hd => ⟨av hd _,.nil⟩) (fun d i ys H' _ p => qL_ (p.1 _ _ hL)) ?_ ?_
 ·rintro d i x ys H' Q' hd hi hy ⟨s',a'⟩ k'
  obtain ⟨o,rfl,ho⟩:=mY hi
  obtain ⟨kk,hkk,W⟩:=A.at ho
  have ly:=a'.length
  rw [List.length_take,lm_] at ly
  refine ib hpW (hk kk (mq_ hkk)) (W.same s') (fun R hR => ⟨_,rfl,hR⟩) fun v H4 s4 p4 => k' v H4 (s4 _ _ hy) (dd (by omega)) ⟨bR (s'.trans s4) hd,?_⟩
  have ez : (ks.map nV)[i]? = some (nV kk):=by rw [List.getElem?_map,hkk]; rfl
  rw [List.take_add_one,ez]
  exact (a'.imp fun _ _ z => (z.keep fun _ _ e => s4 _ _ e).updL (s4 _ _ hy)).snoc (p4.updL (s4 _ _ hy))
 ·rintro d ys H' hd hy ⟨s',a'⟩
  rw [List.take_of_length_le (by rw [lm_,lm_]; omega)] at a'
  exact k d ys H' s' hy a'
theorem nD {j : Nat} {f : Int} (hL : H L = some (.lst (as.map V.ref))) (hM : H M = some (.lst vs)) (A : All2 (WkAt D.W D.R D.P H) as ks) (B : All2 (PlAt H) vs ps) (hk : ∀ k ∈ ks,dv okW k) (lk : ks.length <= 900) (le : ks.length = ps.length) (ft : ∀ (i : Nat) k p,ks[i]? = some k -> ps[i]? = some p -> Fits k p) (fo : ∀ k ∈ ks,lI k f)
  (h0 : ∀ x y : V,(((aU ix σ).set 0 (some x)).set 1 (some y))[0]? = some (some x)) (h1 : ∀ x y : V,(((aU ix σ).set 0 (some x)).set 1 (some y))[1]? = some (some y)) (hj : ∀ x y : V,(((aU ix σ).set 0 (some x)).set 1 (some y))[j]? = some (some (.int f)))
  (k : ∀ d ys H',Same H H' -> H' d = some (.lst ys) -> All2 (PlAt H') ys (List.zipWith (fun k p => jc k p f) ks ps) -> Qd d H') :
  i9 (pe K L M) ix (qw K 2 (nI (aV 0) (nI (aV 1) q4))) (fun σ H Q => bS D.W "step" (bC D isW) [] E0 (dM 0) (fX (dM 1) (fX (dM j) gY)) σ H Q \/ bS D.R "step" (bC D isR) [] E0 (dM 0) (fX (dM 1) (fX (dM j) gY)) σ H Q \/ bS D.P "step" (bC D okW) [] E0 (dM 0) (fX (dM 1) (fX (dM j) gY)) σ H Q) σ H Qd:=by
 have la:=A.length
 have lb:=B.length
 refine lN (K:=K) (xs:=as.map V.ref) (zs:=vs) (by rw [lm_]; omega) (fun d i ys H' => Same H H' /\ All2 (PlAt H') ys ((List.zipWith (fun k p => jc k p f) ks ps).take i)) (fun T σ H Q x y h q => ⟨T,[x,y],rfl,qT_ h,rfl,x,[y],rfl,y,[],rfl,rfl,q⟩) (fun d hd => ⟨av hd _,.nil⟩) (fun d i ys H' hd hi hy p => ⟨qL_ (p.1 _ _ hL),qL_ (p.1 _ _ hM)⟩) ?_ ?_
 ·rintro d i ys H' T x z Q' hd hx hz hy ⟨s',a'⟩ hT k'
  obtain ⟨o,rfl,ho⟩:=mY hx
  obtain ⟨kk,hkk,W⟩:=A.at ho
  obtain ⟨pp,hpp,PB⟩:=B.at hz
  have sT:=av hT (HO.tup [V.ref o,z])
  have S:=s'.trans sT
  have ly:=a'.length
  rw [List.length_take,List.length_zipWith] at ly
  refine ie hpW (hk kk (mq_ hkk)) (W.same S) (fun R hR => ⟨_,h0 _ _,hR⟩) (fun R hR => ⟨_,h1 _ _,_,hj _ _,hR⟩) (PB.keep fun _ _ e => S _ _ e) (ft i kk pp hkk hpp) (fo kk (mq_ hkk)) fun v H4 s4 p4 => ?_
  have hy4:=(sT.trans s4) _ _ hy
  refine k' v H4 hy4 (dd (by omega)) ⟨bR (S.trans s4) hd,?_⟩
  have ez : (List.zipWith (fun k p => jc k p f) ks ps)[i]? = some (jc kk pp f):=by rw [List.getElem?_zipWith,hkk,hpp]
  rw [List.take_add_one,ez]
  exact (a'.imp fun _ _ z => (z.keep fun _ _ e => (sT.trans s4) _ _ e).updL hy4).snoc (p4.updL hy4)
 ·rintro d ys H' hd hy ⟨s',a'⟩
  rw [List.take_of_length_le (by rw [List.length_zipWith,lm_]; omega)] at a'
  exact k d ys H' s' hy a'
theorem ir (hL : H L = some (.lst (as.map V.ref))) (hM : H M = some (.lst vs)) (A : All2 (WkAt D.W D.R D.P H) as ks) (B : All2 (PlAt H) vs ps) (hk : ∀ k ∈ ks,dv okW k) (lk : ks.length <= 900) (le : ks.length = ps.length) (ft : ∀ (i : Nat) k p,ks[i]? = some k -> ps[i]? = some p -> Fits k p)
  (k : ∀ d H',Same H H' -> H' d = some (.lst ((List.zipWith nW ks ps).map V.int)) -> Qd d H') :
  i9 (pe K L M) [none,none] (qw K 2 (nI (aV 0) (nI (aV 1) q4))) (fun σ H Q => bS D.W "sign" (bB D isW) [] E0 (dM 0) (fX (dM 1) gY) σ H Q \/ bS D.R "sign" (bB D isR) [] E0 (dM 0) (fX (dM 1) gY) σ H Q \/ bS D.P "sign" (bB D okW) [] E0 (dM 0) (fX (dM 1) gY) σ H Q) σ H Qd:=by
 have la:=A.length
 have lb:=B.length
 refine lN (K:=K) (xs:=as.map V.ref) (zs:=vs) (by rw [lm_]; omega) (fun d i ys H' => Same H H' /\ ys = ((List.zipWith nW ks ps).take i).map V.int) (fun T σ H Q x y h q => ⟨T,[x,y],rfl,qT_ h,rfl,x,[y],rfl,y,[],rfl,rfl,q⟩) (fun d hd => ⟨av hd _,rfl⟩) (fun d i ys H' hd hi hy p => ⟨qL_ (p.1 _ _ hL),qL_ (p.1 _ _ hM)⟩) ?_ ?_
 ·rintro d i ys H' T x z Q' hd hx hz hy ⟨s',rfl⟩ hT k'
  obtain ⟨o,rfl,ho⟩:=mY hx
  obtain ⟨kk,hkk,W⟩:=A.at ho
  obtain ⟨pp,hpp,PB⟩:=B.at hz
  have sT:=av hT (HO.tup [V.ref o,z])
  have S:=s'.trans sT
  refine ic hpW (hk kk (mq_ hkk)) (W.same S) (fun R hR => ⟨_,rfl,hR⟩) (fun R hR => ⟨_,rfl,hR⟩) (PB.keep fun _ _ e => S _ _ e) (ft i kk pp hkk hpp) ?_
  refine k' _ _ (sT _ _ hy) (dd (by rw [lm_,List.length_take,List.length_zipWith]; omega)) ⟨bR S hd,?_⟩
  have ez : (List.zipWith nW ks ps)[i]? = some (nW kk pp):=by rw [List.getElem?_zipWith,hkk,hpp]
  rw [List.take_add_one,ez,List.map_append]
  rfl
 ·rintro d ys H' hd hy ⟨s',rfl⟩
  rw [List.take_of_length_le (by rw [List.length_zipWith,lm_]; omega)] at hy
  exact k d H' s' hy
end
theorem eY {n1 w1 n2 w2 : Nat} {rows1 rows2 : LL} {sg1 sg2 : LI} {t1 u1 t2 u2 p q : Int} (hp : 0 <= p /\ p < (n1 : Int)) (hq : 0 <= q /\ q < (n2 : Int)) : ∀ (i : Nat) k x,(wks (.read n1 w1 rows1 sg1) (.read n2 w2 rows2 sg2) t1 u1 t2 u2)[i]? = some k -> (pls p q)[i]? = some x -> Fits k x
 | 0,_,_,hk,hx => by cases hk; cases hx; trivial
 | 1,_,_,hk,hx => by cases hk; cases hx; exact hp
 | 2,_,_,hk,hx => by cases hk; cases hx; exact hq
 | 3,_,_,hk,hx => by cases hk; cases hx; exact ⟨hp,hq⟩
 | 4,_,_,hk,hx => by cases hk; cases hx; exact ⟨hp,hp⟩
 | 5,_,_,hk,hx => by cases hk; cases hx; exact ⟨trivial,hq⟩
 | 6,_,_,hk,hx => by cases hk; cases hx; exact ⟨hq,hp,hq⟩
 | _ + 7,_,_,hk,_ => by cases hk
theorem oB {n1 wd n2 : Nat} {rows1 rows2 : LL} {sg1 sg2 : LI} {t1 u1 t2 u2 f : Int} (hf : 0 <= f /\ f < (wd : Int)) : ∀ k ∈ wks (.read n1 wd rows1 sg1) (.read n2 wd rows2 sg2) t1 u1 t2 u2,lI k f:=fun k hk => by
 simp only [wks,List.mem_cons,List.not_mem_nil,or_false] at hk
 rcases hk with e | e | e | e | e | e | e <;> subst e
 ·trivial
 ·exact hf
 ·exact hf
 ·exact ⟨hf,hf⟩
 ·exact ⟨hf,hf⟩
 ·exact ⟨trivial,hf⟩
 ·exact ⟨hf,hf,hf⟩
section
variable {P : Program} {w : World} {K : PySem.W.Frag} {mg : Str -> Option Value} {base : Heap} {f Pt : Addr} {fd : FuncData} {dV : Value} {D : WC}
theorem sc__law_again : FnScope ["_law_walks_here","_law_one","_law_other","_law_first","_law_second","_law_places_here","_law_due","_law_figure","_law_steps"] ["_law_walks_here","_law_one","_law_other","_law_first","_law_second"] (ae bf):=⟨rfl,rfl,rfl,by decide +kernel,rfl,by decide +kernel,by decide +kernel⟩
theorem bk__law_again_0 : BlkScope ["_law_walks_here","_law_one","_law_other","_law_first","_law_second","_law_places_here","_law_due","_law_figure","_law_steps"] (ae bf) ["_law_walk"] [none] { kind:=ScopeKind.function,names:=[(".0",NameKind.local),("_law_walk",NameKind.local)],isGenerator:=false,isCoroutine:=false,more:=[] }:=⟨rfl,by decide +kernel,by decide +kernel,by decide +kernel,by decide +kernel,rfl,by decide +kernel⟩
theorem bk__law_again_1 : BlkScope ["_law_walks_here","_law_one","_law_other","_law_first","_law_second","_law_places_here","_law_due","_law_figure","_law_steps"] (ae bf) ["_law_walk","_law_place"] [none,none] { kind:=ScopeKind.function,names:=[(".0",NameKind.local),("_law_walk",NameKind.local),("_law_place",NameKind.local)],isGenerator:=false,isCoroutine:=false,more:=[] }:=⟨rfl,by decide +kernel,by decide +kernel,by decide +kernel,by decide +kernel,rfl,by decide +kernel⟩
theorem bk__law_again_2 : BlkScope ["_law_walks_here","_law_one","_law_other","_law_first","_law_second","_law_places_here","_law_due","_law_figure","_law_steps"] (ae bf) ["_law_walk","_law_place","_law_figure"] [none,none,some 7] { kind:=ScopeKind.function,names:=[(".0",NameKind.local),("_law_walk",NameKind.local),("_law_place",NameKind.local),("_law_figure",NameKind.free)],isGenerator:=false,isCoroutine:=false,more:=[] }:=⟨rfl,by decide +kernel,by decide +kernel,by decide +kernel,by decide +kernel,rfl,by decide +kernel⟩
theorem sc_law : FnScope ["_law_script","_law_wide","_law_one","_law_other","_law_first","_law_second","_law_walks_here","_law_walk","_law_p","_law_q","_law_cell","_law_figure","_law_places_here","_law_due","_law_told_first","_law_steps"] ["_law_script"] (ae eB):=⟨rfl,rfl,rfl,by decide +kernel,rfl,by decide +kernel,by decide +kernel⟩
theorem bk_law_0 : BlkScope ["_law_script","_law_wide","_law_one","_law_other","_law_first","_law_second","_law_walks_here","_law_walk","_law_p","_law_q","_law_cell","_law_figure","_law_places_here","_law_due","_law_told_first","_law_steps"] (ae eB) ["_law_walk"] [none] { kind:=ScopeKind.function,names:=[(".0",NameKind.local),("_law_walk",NameKind.local)],isGenerator:=false,isCoroutine:=false,more:=[] }:=⟨rfl,by decide +kernel,by decide +kernel,by decide +kernel,by decide +kernel,rfl,by decide +kernel⟩
theorem bk_law_1 : BlkScope ["_law_script","_law_wide","_law_one","_law_other","_law_first","_law_second","_law_walks_here","_law_walk","_law_p","_law_q","_law_cell","_law_figure","_law_places_here","_law_due","_law_told_first","_law_steps"] (ae eB) ["_law_walk","_law_place"] [none,none] { kind:=ScopeKind.function,names:=[(".0",NameKind.local),("_law_walk",NameKind.local),("_law_place",NameKind.local)],isGenerator:=false,isCoroutine:=false,more:=[] }:=⟨rfl,by decide +kernel,by decide +kernel,by decide +kernel,by decide +kernel,rfl,by decide +kernel⟩
theorem bk_law_2 : BlkScope ["_law_script","_law_wide","_law_one","_law_other","_law_first","_law_second","_law_walks_here","_law_walk","_law_p","_law_q","_law_cell","_law_figure","_law_places_here","_law_due","_law_told_first","_law_steps"] (ae eB) ["_law_walk","_law_place","_law_figure"] [none,none,some 11] { kind:=ScopeKind.function,names:=[(".0",NameKind.local),("_law_walk",NameKind.local),("_law_place",NameKind.local),("_law_figure",NameKind.free)],isGenerator:=false,isCoroutine:=false,more:=[] }:=⟨rfl,by decide +kernel,by decide +kernel,by decide +kernel,by decide +kernel,rfl,by decide +kernel⟩
theorem bk_law_3 : BlkScope ["_law_script","_law_wide","_law_one","_law_other","_law_first","_law_second","_law_walks_here","_law_walk","_law_p","_law_q","_law_cell","_law_figure","_law_places_here","_law_due","_law_told_first","_law_steps"] (ae eB) ["_law_walk","_law_place"] [none,none] { kind:=ScopeKind.function,names:=[(".0",NameKind.local),("_law_walk",NameKind.local),("_law_place",NameKind.local)],isGenerator:=false,isCoroutine:=false,more:=[] }:=⟨rfl,by decide +kernel,by decide +kernel,by decide +kernel,by decide +kernel,rfl,by decide +kernel⟩
theorem bk_law_4 : BlkScope ["_law_script","_law_wide","_law_one","_law_other","_law_first","_law_second","_law_walks_here","_law_walk","_law_p","_law_q","_law_cell","_law_figure","_law_places_here","_law_due","_law_told_first","_law_steps"] (ae eB) ["_law_walk","_law_place"] [none,none] { kind:=ScopeKind.function,names:=[(".0",NameKind.local),("_law_walk",NameKind.local),("_law_place",NameKind.local)],isGenerator:=false,isCoroutine:=false,more:=[] }:=⟨rfl,by decide +kernel,by decide +kernel,by decide +kernel,by decide +kernel,rfl,by decide +kernel⟩
def ni (D : WC) : Sp:=fun vs H Q _ => ∃ (L m1 m2 f1 f2 r1 g1 r2 g2 : Addr) (as : List Addr) (n1 n2 wd : Nat) (rows1 rows2 : LL) (sg1 sg2 : LI) (t1 u1 t2 u2 : Int),vs = [.ref L,.ref m1,.ref m2,.ref f1,.ref f2] /\ MachAt H m1 r1 g1 wd rows1 sg1 /\ RowsOk n1 wd rows1 /\ sg1.length = n1 /\ MachAt H m2 r2 g2 wd rows2 sg2 /\ RowsOk n2 wd rows2 /\ sg2.length = n2 /\ (1 <= n1 /\ 1 <= n2 /\ 1 <= wd) /\ RuleAt H f1 t1 u1 /\ RuleAt H f2 t2 u2 /\
 H L = some (.lst (as.map V.ref)) /\ All2 (WkAt D.W D.R D.P H) as (wks (.read n1 wd rows1 sg1) (.read n2 wd rows2 sg2) t1 u1 t2 u2) /\ ∀ H',Q (.bl true) H'
theorem pN (F : FunD K "_law_again" "_law_again" bf dV f fd) (aD : DefOk P w K mg base "_law_all_same" 5 ["_law_found","_law_due"] [] nj) (aI : DefOk P w K mg base "_law_places" 1 ["_law_p","_law_q"] [] oK) (bL : DefOk P w K mg base "_law_signs" 2 ["_law_here","_law_there","_law_first","_law_second"] [] oM)
  (GWb : DefMe P w K mg base D.W "begin" 1 ["self"] (bA D isW)) (GRb : DefMe P w K mg base D.R "begin" 1 ["self"] (bA D isR)) (GPb : DefMe P w K mg base D.P "begin" 4 ["self"] (bA D (isP (isP fun _ => False))))
  (GWs : DefMe P w K mg base D.W "step" 1 ["self","place","figure"] (bC D isW)) (GRs : DefMe P w K mg base D.R "step" 1 ["self","place","figure"] (bC D isR)) (GPs : DefMe P w K mg base D.P "step" 4 ["self","place","figure"] (bC D (isP (isP fun _ => False))))
  (GWg : DefMe P w K mg base D.W "sign" 1 ["self","place"] (bB D isW)) (GRg : DefMe P w K mg base D.R "sign" 1 ["self","place"] (bB D isR)) (GPg : DefMe P w K mg base D.P "sign" 4 ["self","place"] (bB D (isP (isP fun _ => False)))) (hU : mg "zip" = none) : FnOk P w K mg base CX0 6 f fd ["_law_walks_here","_law_one","_law_other","_law_first","_law_second"] (ni D):=by
 refine F.ok sc__law_again (fun vs H Q E h => ?_) (fun cdv A outer s H vs Q E hr h => ?_)
 ·obtain ⟨L,m1,m2,f1,f2,r1,g1,r2,g2,as,n1,n2,wd,rows1,rows2,sg1,sg2,t1,u1,t2,u2,rfl,_⟩:=h
  rfl
 obtain ⟨L,m1,m2,f1,f2,r1,g1,r2,g2,as,n1,n2,wd,rows1,rows2,sg1,sg2,t1,u1,t2,u2,rfl,M1,R1,l1,M2,R2,l2,⟨b1,b2,b3⟩,F1,F2,hL,AW,q⟩:=h
 refine l0 (aP (PSW.mk (dc (i:=5) rfl sc__law_again.nd rfl (Or.inl rfl) bk__law_again_0 (j3 (pv 0)) (fun _ _ _ _ => (aR (i:=0) bk__law_again_0.nd rfl (Or.inl rfl))) (fun _ _ _ _ => (az (bW GWb hr (pv 0)) (az (bW GRb hr (pv 0)) (bW GPb hr (pv 0)))))))
   (aP (PSW.mk (bX (cc (cf (aN aD hr (aa (pv 5) (aa (aN aI hr (aa af (aa af ab))) ab))))) (ai (au dD)) aO))
   (aP (PSW.mk (aW (i:=6) sc__law_again.nd rfl (Or.inl rfl) (aN bL hr (aa (ar ak (ar ak (pv 1) af (fun _ _ => rfl)) af (fun _ _ => rfl)) (aa (ar ak (ar ak (pv 2) af (fun _ _ => rfl)) af (fun _ _ => rfl)) (aa (pv 3) (aa (pv 4) ab)))))))
   (aP (PSW.mk (bX (cc (cf (aN aD hr (aa (j2 rfl bk__law_again_1 (gC rfl hU (aa (pv 0) (aa (aN aI hr (aa af (aa af ab))) ab))) (fun _ _ _ _ => (gA K (n:=2) rfl (bQ (aR (i:=0) bk__law_again_1.nd rfl (Or.inl rfl)) (bQ (aR (i:=1) bk__law_again_1.nd rfl (Or.inl rfl)) gB)))) (fun _ _ _ _ => (az (aK GWg hr (pv 0) (aa (pv 1) ab)) (az (aK GRg hr (pv 0) (aa (pv 1) ab)) (aK GPg hr (pv 0) (aa (pv 1) ab)))))) (aa (pv 6) ab))))) (ai (au dD)) aO))
   (aP (PSW.mk (aW (i:=7) sc__law_again.nd rfl (Or.inr rfl) (aF rF (ar ak (pv 1) af (fun _ _ => rfl)) af)))
   (aP (PSW.mk (dc (i:=8) rfl sc__law_again.nd rfl (Or.inl rfl) bk__law_again_2 (gC rfl hU (aa (pv 0) (aa (aN aI hr (aa af (aa af ab))) ab))) (fun _ _ _ _ => (gA K (n:=2) rfl (bQ (aR (i:=0) bk__law_again_2.nd rfl (Or.inl rfl)) (bQ (aR (i:=1) bk__law_again_2.nd rfl (Or.inl rfl)) gB)))) (fun _ _ _ _ => (az (aK GWs hr (pv 0) (aa (pv 1) (aa (pv 2) ab))) (az (aK GRs hr (pv 0) (aa (pv 1) (aa (pv 2) ab))) (aK GPs hr (pv 0) (aa (pv 1) (aa (pv 2) ab))))))))
   (nt (PSW.mk (au (aN aD hr (aa (pv 8) (aa (aN aI hr (aa (ar ak (ar ak (ar ak (pv 1) af (fun _ _ => rfl)) af (fun _ _ => rfl)) (pv 7) (fun _ _ => rfl)) (aa (ar ak (ar ak (ar ak (pv 2) af (fun _ _ => rfl)) af (fun _ _ => rfl)) (pv 7) (fun _ _ => rfl)) ab))) ab)))))))))))) ?_
 have hL0 : (0 : Int) <= 0 /\ (0 : Int) < (n1 : Int):=⟨by omega,by omega⟩
 have hL2 : (0 : Int) <= 0 /\ (0 : Int) < (n2 : Int):=⟨by omega,by omega⟩
 refine ⟨_,rfl,L,rfl,⟨_,qL_ hL⟩,nB hL AW c7 (by show 7 <= 900; decide) fun B ys H1 s1 hB aB => ?_⟩
 try dsimp only [aV]
 refine ⟨_,rfl,0,0,rfl,fun L2 xs2 H2 s2 h2 a2 => ?_⟩
 refine ⟨B,L2,ys,xs2,pls 0 0,rfl,s2 _ _ hB,h2,aB.imp fun _ _ z => z.keep fun _ _ e => s2 _ _ e,a2,mP,by show 7 <= 1000; decide,_,rfl,di ?_⟩
 dsimp only [nT]
 have S2:=s1.trans s2
 have M12:=M1.same fun b xs e => S2 _ _ e
 have M22:=M2.same fun b xs e => S2 _ _ e
 refine ⟨_,rfl,m1,_,_,_,rfl,rfl,qT_ M12.tup,rfl,g1,_,_,_,rfl,rfl,qT_ M12.sgn,cw (k:=0) (by omega) (by omega),_,rfl,m2,_,_,_,rfl,rfl,qT_ M22.tup,rfl,g2,_,_,_,rfl,rfl,qT_ M22.sgn,cw (k:=0) (by omega) (by omega),_,rfl,_,rfl,_,_,t1,u1,t2,u2,f1,f2,rfl,F1.same S2,F2.same S2,fun L3 H3 s3 h3 => ?_⟩
 have S3:=S2.trans s3
 try dsimp only [aV]
 refine ⟨_,rfl,0,0,rfl,fun L4 xs4 H4 s4 h4 a4 => ?_⟩
 have S4:=S3.trans s4
 refine ⟨L,L4,rfl,⟨_,qL_ (S4 _ _ hL)⟩,⟨_,qL_ h4⟩,ir (S4 _ _ hL) h4 (AW.imp fun _ _ z => z.same S4) a4 c7 (by show 7 <= 900; decide) rfl (eY hL0 hL2) fun B5 H5 s5 h5 => ?_⟩
 refine ⟨_,rfl,B5,L3,_,_,(sgs (sg1.getD 0 0) (sg2.getD 0 0) t1 u1 t2 u2).map Pl.num,rfl,h5,(s4.trans s5) _ _ h3,?_,dR _,?_,by show 7 <= 1000; decide,_,rfl,di ?_⟩
 ·exact dR _
 ·intro p hp
  obtain ⟨z,_,rfl⟩:=List.mem_map.mp hp
  exact nX z
 dsimp only [nT]
 have S5:=S4.trans s5
 have M15:=M1.same fun b xs e => S5 _ _ e
 refine ⟨_,rfl,m1,_,_,_,rfl,rfl,qT_ M15.tup,rfl,_,_,rfl,rfl,?_⟩
 try dsimp only [aV]
 have hfg : (0 : Int) <= (wd : Int) - 1 /\ (wd : Int) - 1 < (wd : Int):=⟨by omega,by omega⟩
 refine ⟨_,rfl,0,0,rfl,fun L6 xs6 H6 s6 h6 a6 => ?_⟩
 have S6:=S5.trans s6
 refine ⟨L,L6,rfl,⟨_,qL_ (S6 _ _ hL)⟩,⟨_,qL_ h6⟩,nD (S6 _ _ hL) h6 (AW.imp fun _ _ z => z.same S6) a6 c7 (by show 7 <= 900; decide) rfl (eY hL0 hL2) (oB hfg) (fun _ _ => rfl) (fun _ _ => rfl) (fun _ _ => rfl) fun B7 ys7 H7 s7 h7 a7 => ?_⟩
 try dsimp only [aV]
 have S7:=S6.trans s7
 have M17:=M1.same fun b xs e => S7 _ _ e
 have M27:=M2.same fun b xs e => S7 _ _ e
 obtain ⟨ras1,hr1,hA1⟩:=M17.rows
 obtain ⟨ras2,hr2,hA2⟩:=M27.rows
 obtain ⟨ra1,rr1,e1,e2,e3⟩:=gx hA1 R1 hL0.1 hL0.2 hfg.1 hfg.2
 obtain ⟨ra2,rr2,d1,d2,d3⟩:=gx hA2 R2 hL2.1 hL2.2 hfg.1 hfg.2
 refine ⟨_,rfl,_,rfl,m1,_,_,_,rfl,rfl,qT_ M17.tup,rfl,r1,_,_,_,rfl,rfl,qT_ hr1,e1,_,rfl,ra1,_,_,_,rfl,rfl,qT_ e2,e3,_,rfl,m2,_,_,_,rfl,rfl,qT_ M27.tup,rfl,r2,_,_,_,rfl,rfl,qT_ hr2,d1,_,rfl,ra2,_,_,_,rfl,rfl,qT_ d2,d3,_,_,rfl,fun L8 xs8 H8 s8 h8 a8 => ?_⟩
 exact ⟨B7,L8,ys7,xs8,_,rfl,s8 _ _ h7,h8,a7.imp fun _ _ z => z.keep fun _ _ e => s8 _ _ e,a8,mP,by show 7 <= 1000; decide,q _⟩
end
def oI (K : PySem.W.Frag) (Pt : Addr) : Sp:=fun vs H Q _ => ∃ (a : Addr) (ns : LI),vs = [.ref a] /\ SqL K H a (ns.map V.int) /\ ns.length <= 63 /\ H Pt = some (.tbl #[]) /\ ∀ H',Q (.bl true) H'
theorem nO {K : PySem.W.Frag} {H H' : Hp} {Pt a : Addr} {ps : Array Value} {xs : List V} (hP : H Pt = some (.tbl ps)) (k : ∀ b u,b ≠ Pt -> H b = some u -> H' b = some u) (h : SqL K H a xs) : SqL K H' a xs:=by
 rcases h with (h | ⟨o,h⟩) | h
 ·exact .inl (.inl (k _ _ (iw h hP (by intro z; cases z)) h))
 ·exact .inl (.inr ⟨o,k _ _ (iw h hP (by intro z; cases z)) h⟩)
 ·exact .inr h
theorem lR {v : V} {i : Nat} {u : TS} {D : Ends} {σ : St} {H : Hp} (h : u D (σ.set i (some v)) H) : nU (qe (tC v) (aV i)) u D σ H:=h
theorem TabSt.tbl {H : Hp} {Pt : Addr} {qual : Str} {pos : Pos} (t : TabSt H Pt qual pos) : ∃ ps,H Pt = some (.tbl ps):=t.elim (fun e => ⟨_,e⟩) fun ⟨c',e1,_⟩ => ⟨_,e1⟩
theorem RuleAt.keepT {H H' : Hp} {Pt f : Addr} {ps : Array Value} {t m : Int} (hP : H Pt = some (.tbl ps)) (k : ∀ b u,b ≠ Pt -> H b = some u -> H' b = some u) (h : RuleAt H f t m) : RuleAt H' f t m:=by
 obtain ⟨⟨c',clos,h1,L⟩,t0,t1⟩:=h
 have kk : ∀ b u,H b = some u -> (∀ qs,u ≠ HO.tbl qs) -> H' b = some u:=fun b u e n => k b u (iw e hP (n _)) e
 exact ⟨⟨c',clos,h1,⟨kk _ _ L.fn (fun _ z => by cases z),kk _ _ L.cd (fun _ z => by cases z),Paired.mapP L.cl fun _ _ ⟨o,u,e,r⟩ => ⟨o,u,kk _ _ e (fun _ z => by cases z),r⟩,L.nd⟩⟩,t0,t1⟩
section
variable {P : Program} {w : World} {K : PySem.W.Frag} {mg : Str -> Option Value} {base : Heap} {f Pt : Addr} {fd : FuncData} {dV : Value} {D : WC}
theorem rz (F : FunD K "law" "law" eB dV f fd) (aG : DefOk P w K mg base "_law_number" 1 ["_law_script","_law_k"] [] (oJ K)) (cS : DefOk P w K mg base "_law_machine" 2 ["_law_script","_law_start","_law_wide","_law_many"] [] (nk K)) (ed : DefOk P w K mg base "_law_rule" 1 ["_law_times","_law_more"] [] (oo Pt)) (fb : DefOk P w K mg base "_law_walks" 3 ["_law_one","_law_other","_law_first","_law_second"] [] (qd D))
  (aD : DefOk P w K mg base "_law_all_same" 5 ["_law_found","_law_due"] [] nj) (aI : DefOk P w K mg base "_law_places" 1 ["_law_p","_law_q"] [] oK) (bL : DefOk P w K mg base "_law_signs" 2 ["_law_here","_law_there","_law_first","_law_second"] [] oM) (e7 : DefOk P w K mg base "_law_again" 6 ["_law_walks_here","_law_one","_law_other","_law_first","_law_second"] [] (ni D))
  (GWb : DefMe P w K mg base D.W "begin" 1 ["self"] (bA D isW)) (GRb : DefMe P w K mg base D.R "begin" 1 ["self"] (bA D isR)) (GPb : DefMe P w K mg base D.P "begin" 4 ["self"] (bA D (isP (isP fun _ => False))))
  (GWs : DefMe P w K mg base D.W "step" 1 ["self","place","figure"] (bC D isW)) (GRs : DefMe P w K mg base D.R "step" 1 ["self","place","figure"] (bC D isR)) (GPs : DefMe P w K mg base D.P "step" 4 ["self","place","figure"] (bC D (isP (isP fun _ => False))))
  (GWg : DefMe P w K mg base D.W "sign" 1 ["self","place"] (bB D isW)) (GRg : DefMe P w K mg base D.R "sign" 1 ["self","place"] (bB D isR)) (GPg : DefMe P w K mg base D.P "sign" 4 ["self","place"] (bB D (isP (isP fun _ => False))))
  (hZ : mg "Walk" = some (.ref D.W)) (tyW : ∀ {H : Hp} {a dx : Addr} {fs : List (Str × V)},H a = some (.ins D.W dx fs) -> TyOf K H (.ref a) (.ref D.W)) (tyR : ∀ {H : Hp} {a dx : Addr} {fs : List (Str × V)},H a = some (.ins D.R dx fs) -> TyOf K H (.ref a) (.ref D.R)) (tyP : ∀ {H : Hp} {a dx : Addr} {fs : List (Str × V)},H a = some (.ins D.P dx fs) -> TyOf K H (.ref a) (.ref D.P))
  (kkW : PySem.W.kitOne K (.ref D.W) (.ref D.W) = some true) (kkR : PySem.W.kitOne K (.ref D.R) (.ref D.W) = some true) (kkP : PySem.W.kitOne K (.ref D.P) (.ref D.W) = some true)
  (aq : mg "isinstance" = none) (bD : mg "len" = none) (hU : mg "zip" = none) : FnOk P w K mg base CX0 7 f fd ["_law_script"] (oI K Pt):=by
 refine F.ok sc_law (fun vs H Q E h => ?_) (fun cdv A outer s H vs Q E hr h => ?_)
 ·obtain ⟨a,ns,rfl,_⟩:=h
  rfl
 obtain ⟨a,ns,rfl,hS,h63,hP,q⟩:=h
 refine l0 (aP (PSW.mk (aW (i:=1) sc_law.nd rfl (Or.inl rfl) (aF cu af (aF bH (aN aG hr (aa (pv 0) (aa af ab))) af))))
   (aP (PSW.mk (aW (i:=2) sc_law.nd rfl (Or.inl rfl) (aN cS hr (aa (pv 0) (aa af (aa (pv 1) (aa (aF cu af (aF bH (aN aG hr (aa (pv 0) (aa af ab))) af)) ab)))))))
   (aP (PSW.mk (aW (i:=3) sc_law.nd rfl (Or.inl rfl) (aN cS hr (aa (pv 0) (aa (aF cu af (aF eO (aE ax (by rfl) bD cq (aa (ar ak (pv 2) af (fun _ _ => rfl)) ab)) (aF cu (pv 1) af))) (aa (pv 1) (aa (aF cu af (aF bH (aN aG hr (aa (pv 0) (aa af ab))) af)) ab)))))))
   (aP (PSW.mk (aW (i:=4) sc_law.nd rfl (Or.inl rfl) (aN ed hr (aa (aF cu af (aF bH (aN aG hr (aa (pv 0) (aa af ab))) af)) (aa (aF bH (aN aG hr (aa (pv 0) (aa af ab))) af) ab)))))
   (aP (PSW.mk (aW (i:=5) sc_law.nd rfl (Or.inl rfl) (aN ed hr (aa (aF cu af (aF bH (aN aG hr (aa (pv 0) (aa af ab))) af)) (aa (aF bH (aN aG hr (aa (pv 0) (aa af ab))) af) ab)))))
   (aP (PSW.mk (aW (i:=6) sc_law.nd rfl (Or.inl rfl) (aN fb hr (aa (pv 2) (aa (pv 3) (aa (pv 4) (aa (pv 5) ab)))))))
   (aP (PSW.mk (ia PassesOwn.never rfl (j3 (pv 6)) (aR (i:=7) sc_law.nd rfl (Or.inl rfl)) (ai (bX (cc (cf (aE pq (by rfl) aq aZ (aa (pv 7) (aa (qL (v:=.ref _) rfl hZ rfl) ab))))) (ai (au dD)) aO))))
   (aP (PSW.mk (bX (cc (cf (aN aD hr (aa (j2 rfl bk_law_0 (j3 (pv 6)) (fun _ _ _ _ => (aR (i:=0) bk_law_0.nd rfl (Or.inl rfl))) (fun _ _ _ _ => (az (bW GWb hr (pv 0)) (az (bW GRb hr (pv 0)) (bW GPb hr (pv 0)))))) (aa (aN aI hr (aa af (aa af ab))) ab))))) (ai (au dD)) aO))
   (aP (PSW.mk (aW (i:=8) sc_law.nd rfl (Or.inl rfl) af))
   (aP (PSW.mk (aW (i:=9) sc_law.nd rfl (Or.inl rfl) af))
   (aP (PSW.mk (ia PassesOwn.never rfl (j3 (pv 0)) (aR (i:=10) sc_law.nd rfl (Or.inl rfl)) (ao (aW (i:=11) sc_law.nd rfl (Or.inr rfl) (aF bH (pv 10) (pv 1)))
   (ao (aW (i:=12) sc_law.nd rfl (Or.inl rfl) (aN aI hr (aa (pv 8) (aa (pv 9) ab))))
   (ao (aW (i:=13) sc_law.nd rfl (Or.inl rfl) (aN bL hr (aa (ar ak (ar ak (pv 2) af (fun _ _ => rfl)) (pv 8) (fun _ _ => rfl)) (aa (ar ak (ar ak (pv 3) af (fun _ _ => rfl)) (pv 9) (fun _ _ => rfl)) (aa (pv 4) (aa (pv 5) ab))))))
   (ao (aW (i:=14) sc_law.nd rfl (Or.inl rfl) (kq ab))
   (ao (bX (c6 ko (aF bH (aF mL (pv 10) af) af) af (bV _)) (ai (dc (i:=14) rfl sc_law.nd rfl (Or.inl rfl) bk_law_1 (gC rfl hU (aa (pv 6) (aa (pv 12) ab))) (fun _ _ _ _ => (gA K (n:=2) rfl (bQ (aR (i:=0) bk_law_1.nd rfl (Or.inl rfl)) (bQ (aR (i:=1) bk_law_1.nd rfl (Or.inl rfl)) gB)))) (fun _ _ _ _ => (az (aK GWg hr (pv 0) (aa (pv 1) ab)) (az (aK GRg hr (pv 0) (aa (pv 1) ab)) (aK GPg hr (pv 0) (aa (pv 1) ab))))))) aO)
   (ao (dc (i:=15) rfl sc_law.nd rfl (Or.inl rfl) bk_law_2 (gC rfl hU (aa (pv 6) (aa (pv 12) ab))) (fun _ _ _ _ => (gA K (n:=2) rfl (bQ (aR (i:=0) bk_law_2.nd rfl (Or.inl rfl)) (bQ (aR (i:=1) bk_law_2.nd rfl (Or.inl rfl)) gB)))) (fun _ _ _ _ => (az (aK GWs hr (pv 0) (aa (pv 1) (aa (pv 2) ab))) (az (aK GRs hr (pv 0) (aa (pv 1) (aa (pv 2) ab))) (aK GPs hr (pv 0) (aa (pv 1) (aa (pv 2) ab)))))))
   (ao (bX (c6 ko (aF bH (aF mL (pv 10) af) af) af (bV _)) (ai (dc (i:=14) rfl sc_law.nd rfl (Or.inl rfl) bk_law_3 (gC rfl hU (aa (pv 6) (aa (pv 12) ab))) (fun _ _ _ _ => (gA K (n:=2) rfl (bQ (aR (i:=0) bk_law_3.nd rfl (Or.inl rfl)) (bQ (aR (i:=1) bk_law_3.nd rfl (Or.inl rfl)) gB)))) (fun _ _ _ _ => (az (aK GWg hr (pv 0) (aa (pv 1) ab)) (az (aK GRg hr (pv 0) (aa (pv 1) ab)) (aK GPg hr (pv 0) (aa (pv 1) ab))))))) aO)
   (ao (aW (i:=8) sc_law.nd rfl (Or.inl rfl) (ar ak (ar ak (ar ak (pv 2) af (fun _ _ => rfl)) (pv 8) (fun _ _ => rfl)) (pv 11) (fun _ _ => rfl)))
   (ao (aW (i:=9) sc_law.nd rfl (Or.inl rfl) (ar ak (ar ak (ar ak (pv 3) af (fun _ _ => rfl)) (pv 9) (fun _ _ => rfl)) (pv 11) (fun _ _ => rfl)))
   (ai (bX (PW.pt (oH (cc (cf (aN aD hr (aa (pv 14) (aa (pv 13) ab))))) (mW (cc (cf (aN aD hr (aa (pv 15) (aa (aN aI hr (aa (pv 8) (aa (pv 9) ab))) ab)))))))) (ai (au dD)) aO)))))))))))))
   (aP (PSW.mk (aW (i:=13) sc_law.nd rfl (Or.inl rfl) (aN bL hr (aa (ar ak (ar ak (pv 2) af (fun _ _ => rfl)) (pv 8) (fun _ _ => rfl)) (aa (ar ak (ar ak (pv 3) af (fun _ _ => rfl)) (pv 9) (fun _ _ => rfl)) (aa (pv 4) (aa (pv 5) ab)))))))
   (aP (PSW.mk (bX (cc (cf (aN aD hr (aa (j2 rfl bk_law_4 (gC rfl hU (aa (pv 6) (aa (aN aI hr (aa (pv 8) (aa (pv 9) ab))) ab))) (fun _ _ _ _ => (gA K (n:=2) rfl (bQ (aR (i:=0) bk_law_4.nd rfl (Or.inl rfl)) (bQ (aR (i:=1) bk_law_4.nd rfl (Or.inl rfl)) gB)))) (fun _ _ _ _ => (az (aK GWg hr (pv 0) (aa (pv 1) ab)) (az (aK GRg hr (pv 0) (aa (pv 1) ab)) (aK GPg hr (pv 0) (aa (pv 1) ab)))))) (aa (pv 13) ab))))) (ai (au dD)) aO))
   (nt (PSW.mk (au (aN e7 hr (aa (pv 6) (aa (pv 2) (aa (pv 3) (aa (pv 4) (aa (pv 5) ab)))))))))))))))))))))) ?_
 refine ⟨_,rfl,a,_,ns,rfl,hS,h63,by decide,by decide,fun v0 v00 v01 => ?_⟩
 have r7:=dA (a:=v0) (b:=7) (by decide)
 obtain ⟨wd,ew⟩:=oi (x:=1 + v0 % 7) (by omega)
 refine ⟨_,_,rfl,rfl,(by show (0 : Int) < 7; decide),_,_,rfl,rfl,?_⟩
 dsimp only [aV]
 rw [ew]
 refine ⟨_,rfl,_,rfl,_,rfl,a,_,ns,rfl,hS,h63,by decide,by decide,fun v1 v10 v11 => ?_⟩
 have r6:=dA (a:=v1) (b:=6) (by decide)
 obtain ⟨n1,en1⟩:=oi (x:=1 + v1 % 6) (by omega)
 refine ⟨_,_,rfl,rfl,(by show (0 : Int) < 6; decide),_,_,rfl,rfl,?_⟩
 dsimp only [aV]
 rw [en1]
 refine ⟨a,5,n1,wd,ns,rfl,hS,h63,⟨by decide,by decide⟩,⟨by omega,by omega⟩,⟨by omega,by omega⟩,fun m1 r1 g1 H1 rows1 sg1 s1 M1 R1 l1 => ?_⟩
 try dsimp only [aV]
 obtain ⟨ras1,hr1,hA1⟩:=M1.rows
 have lr1 : (ras1.map V.ref).length = n1:=by rw [lm_,hA1.length,R1.len]
 refine ⟨_,rfl,_,rfl,m1,_,_,_,rfl,rfl,qT_ M1.tup,rfl,r1,_,rfl,.inr (qT_ hr1),?_⟩
 rw [lr1]
 have pw : n1 * (wd + 1) <= 6 * 8:=Nat.mul_le_mul (by omega) (by omega)
 have ep : (n1 : Int) * ((wd : Int) + 1) = ((n1 * (wd + 1) : Nat) : Int):=by push_cast; rfl
 refine ⟨_,rfl,_,_,rfl,rfl,_,_,rfl,rfl,.inl ⟨by omega,by omega⟩,_,_,rfl,rfl,_,rfl,_,rfl,a,_,ns,rfl,s1.seq hS,h63,by decide,by decide,fun v2 v20 v21 => ?_⟩
 have r62:=dA (a:=v2) (b:=6) (by decide)
 obtain ⟨n2,en2⟩:=oi (x:=1 + v2 % 6) (by omega)
 refine ⟨_,_,rfl,rfl,(by show (0 : Int) < 6; decide),_,_,rfl,rfl,?_⟩
 dsimp only [aV]
 rw [en2,ep]
 refine ⟨a,_,n2,wd,ns,rfl,s1.seq hS,h63,⟨by omega,by omega⟩,⟨by omega,by omega⟩,⟨by omega,by omega⟩,fun m2 r2 g2 H2 rows2 sg2 s2 M2 R2 l2 => ?_⟩
 try dsimp only [aV]
 have S2:=s1.trans s2
 have hS2:=S2.seq hS
 have hP2:=S2 _ _ hP
 refine ⟨_,rfl,a,_,ns,rfl,hS2,h63,by decide,by decide,fun v3 v30 v31 => ?_⟩
 have r50:=dA (a:=v3) (b:=50) (by decide)
 refine ⟨_,_,rfl,rfl,(by show (0 : Int) < 50; decide),_,_,rfl,rfl,_,rfl,a,_,ns,rfl,hS2,h63,by decide,by decide,fun v4 v40 v41 => ?_⟩
 refine ⟨_,_,rfl,rfl,(by show (0 : Int) < 7; decide),_,_,rfl,⟨by omega,by omega⟩,.inl hP2,fun f1 H3 k3 T3 F1 => ?_⟩
 try dsimp only [aV]
 obtain ⟨ps3,hP3⟩:=TabSt.tbl T3
 have hS3:=nO hP2 k3 hS2
 have tup3 : ∀ b xs,H2 b = some (.tup xs) -> H3 b = some (.tup xs):=fun b xs e => k3 b _ (iw e hP2 (by intro z; cases z)) e
 refine ⟨_,rfl,a,_,ns,rfl,hS3,h63,by decide,by decide,fun v5 v50 v51 => ?_⟩
 have r11:=dA (a:=v5) (b:=11) (by decide)
 refine ⟨_,_,rfl,rfl,(by show (0 : Int) < 11; decide),_,_,rfl,rfl,_,rfl,a,_,ns,rfl,hS3,h63,by decide,by decide,fun v6 v60 v61 => ?_⟩
 refine ⟨_,_,rfl,rfl,(by show (0 : Int) < 1000000; decide),_,_,rfl,⟨by omega,by omega⟩,T3,fun f2 H4 k4 T4 F2 => ?_⟩
 try dsimp only [aV]
 have hS4:=nO hP3 k4 hS3
 have tup4 : ∀ b xs,H3 b = some (.tup xs) -> H4 b = some (.tup xs):=fun b xs e => k4 b _ (iw e hP3 (by intro z; cases z)) e
 have F14:=F1.keepT hP3 k4
 have N1:=M1.same fun b xs e => tup4 _ _ (tup3 _ _ (s2 _ _ e))
 have N2:=M2.same fun b xs e => tup4 _ _ (tup3 _ _ e)
 refine ⟨_,rfl,_,rfl,_,rfl,_,rfl,m1,m2,f1,f2,r1,g1,r2,g2,n1,wd,n2,wd,rows1,rows2,sg1,sg2,_,_,_,_,rfl,N1,R1,l1,N2,R2,l2,F14,F2,fun L as H5 s5 hL AW => ?_⟩
 try dsimp only [aV]
 obtain ⟨t1,et1⟩ : ∃ t1,2 + v3 % 50 = t1:=⟨_,rfl⟩
 obtain ⟨u1,eu1⟩ : ∃ u1,v4 % 7 = u1:=⟨_,rfl⟩
 obtain ⟨t2,et2⟩ : ∃ t2,5 + v5 % 11 = t2:=⟨_,rfl⟩
 obtain ⟨u2,eu2⟩ : ∃ u2,v6 % 1000000 = u2:=⟨_,rfl⟩
 rw [et1,eu1] at F14 F1 AW
 rw [et2,eu2] at F2 AW
 have hS5:=s5.seq hS4
 have b1 : 1 <= n1 /\ n1 <= 6:=⟨by omega,by omega⟩
 have b2 : 1 <= n2 /\ n2 <= 6:=⟨by omega,by omega⟩
 have bw : 1 <= wd /\ wd <= 7:=⟨by omega,by omega⟩
 have M15:=N1.same fun b xs e => s5 _ _ e
 have M25:=N2.same fun b xs e => s5 _ _ e
 have F15:=F14.same s5
 have F25:=F2.same s5
 clear en1 en2 ew ep pw r7 r6 r62 r50 r11 v00 v01 v10 v11 v20 v21 v30 v31 v40 v41 v50 v51 v60 v61 et1 eu1 et2 eu2
 refine lO (t:=qf _ _ _) (fun σ' H' => ∃ v7 : OV,σ' = [some (.ref a),some (.int wd),some (.ref m1),some (.ref m2),some (.ref f1),some (.ref f2),some (.ref L),v7,none,none,none,none,none,none,none,none] /\ H' = H5) ?_ (fun D' nxt => ?_)
 rotate_left
 ·refine ⟨_,rfl,L,rfl,⟨_,qL_ hL⟩,nH (K:=K) (xs:=as.map V.ref) (fun i σ' H' => ∃ v7 : OV,σ' = [some (.ref a),some (.int wd),some (.ref m1),some (.ref m2),some (.ref f1),some (.ref f2),some (.ref L),v7,none,none,none,none,none,none,none,none] /\ H' = H5) ⟨none,rfl,rfl⟩ (fun i σ' H' _ ⟨_,_,e⟩ => by rw [e]; exact qL_ hL) ?_ ?_⟩
  ·rintro i x σ' H' hi ⟨v7,rfl,rfl⟩
   obtain ⟨o,rfl,ho⟩:=mY hi
   obtain ⟨kk,hkk,W⟩:=AW.at ho
   obtain ⟨i1,i2,i3⟩:=W.ins
   have ty : ∃ C,TyOf K H' (.ref o) (.ref C) /\ PySem.W.kitOne K (.ref C) (.ref D.W) = some true:=by
    rcases c7 kk (mq_ hkk) with e | e | e
    ·obtain ⟨dx,hx⟩:=i1 e
     exact ⟨_,tyW hx,kkW⟩
    ·obtain ⟨dx,r,g,hx⟩:=i2 e
     exact ⟨_,tyR hx,kkR⟩
    ·obtain ⟨dx,o1,o2,fn,hx⟩:=i3 (hpW _ e)
     exact ⟨_,tyP hx,kkP⟩
   obtain ⟨C,ty1,ty2⟩:=ty
   exact ⟨_,rfl,_,_,_,_,_,rfl,ty1,rfl,ty2,_,rfl,di ⟨_,rfl,rfl⟩⟩
  ·rintro σ' H' ⟨v7,rfl,rfl⟩
   exact nxt _ _ ⟨_,rfl,rfl⟩
 rintro σ' H' ⟨v7,rfl,rfl⟩
 have hz1 : (0 : Int) <= 0 /\ (0 : Int) < (n1 : Int):=⟨by omega,by omega⟩
 have hz2 : (0 : Int) <= 0 /\ (0 : Int) < (n2 : Int):=⟨by omega,by omega⟩
 refine ⟨_,rfl,L,rfl,⟨_,qL_ hL⟩,nB hL AW c7 (by show 7 <= 900; decide) fun B ys H1' s1' hB aB => ?_⟩
 refine ⟨0,0,rfl,fun L2 xs2 H2' s2' h2 a2 => ?_⟩
 refine ⟨B,L2,ys,xs2,pls 0 0,rfl,s2' _ _ hB,h2,aB.imp fun _ _ z => z.keep fun _ _ e => s2' _ _ e,a2,mP,by show 7 <= 1000; decide,_,rfl,di ?_⟩
 dsimp only [nT]
 refine lR ?_
 refine lR ?_
 try dsimp only [aV]
 have S2' := s1'.trans s2'
 refine lO (t:=qf _ _ _) (fun σ' H6 => ∃ (v7 v10 v11 v12 v13 v14 v15 : OV) (p q : Int),σ' = [some (.ref a),some (.int wd),some (.ref m1),some (.ref m2),some (.ref f1),some (.ref f2),some (.ref L),v7,some (.int p),some (.int q),v10,v11,v12,v13,v14,v15] /\ Same H' H6 /\ (0 <= p /\ p < (n1 : Int)) /\ (0 <= q /\ q < (n2 : Int))) ?_ (fun D' nxt => ?_)
 rotate_left
 ·refine ⟨_,rfl,a,rfl,⟨_,S2'.seq hS5⟩,nH (K:=K) (xs:=ns.map V.int) (fun i σ' H6 => ∃ (v7 v10 v11 v12 v13 v14 v15 : OV) (p q : Int),σ' = [some (.ref a),some (.int wd),some (.ref m1),some (.ref m2),some (.ref f1),some (.ref f2),some (.ref L),v7,some (.int p),some (.int q),v10,v11,v12,v13,v14,v15] /\ Same H' H6 /\ (0 <= p /\ p < (n1 : Int)) /\ (0 <= q /\ q < (n2 : Int)))
   ⟨_,none,none,none,none,none,none,0,0,rfl,S2',hz1,hz2⟩ (fun i σ' H6 _ ⟨_,_,_,_,_,_,_,_,_,_,s6,_⟩ => s6.seq hS5) ?_ ?_⟩
  ·rintro i x σ' H6 hi ⟨v7,v10,v11,v12,v13,v14,v15,p,q,rfl,s6,hp,hq⟩
   obtain ⟨c,rfl,hc⟩:=qx hi
   have fg:=dA (a:=c) (b:=(wd : Int)) (by omega)
   refine ⟨_,rfl,_,rfl,_,_,rfl,rfl,(by omega),?_⟩
   obtain ⟨fI,ef⟩ : ∃ fI,c % (wd : Int) = fI:=⟨_,rfl⟩
   rw [ef] at fg
   dsimp only [aV]
   rw [ef]
   refine ⟨_,rfl,_,rfl,p,q,rfl,fun L7 xs7 H7 s7 h7 a7 => ?_⟩
   have S7:=s6.trans s7
   have M17:=M15.same fun b xs e => S7 _ _ e
   have M27:=M25.same fun b xs e => S7 _ _ e
   try dsimp only [aV]
   refine ⟨_,rfl,m1,_,_,_,rfl,rfl,qT_ M17.tup,rfl,_,rfl,g1,_,_,_,rfl,rfl,qT_ M17.sgn,cw hp.1 (by omega),_,rfl,m2,_,_,_,rfl,rfl,qT_ M27.tup,rfl,_,rfl,g2,_,_,_,rfl,rfl,qT_ M27.sgn,cw hq.1 (by omega),_,rfl,_,rfl,_,_,t1,u1,t2,u2,f1,f2,rfl,F15.same S7,F25.same S7,fun L8 H8 s8 h8 => ?_⟩
   try dsimp only [aV]
   refine ⟨(by show 0 <= sizeLine; decide),fun T0 hT0 => ?_⟩
   try dsimp only [aV]
   have s9:=av hT0 (HO.lst [])
   obtain ⟨H9,e9⟩ : ∃ H9,upd H8 T0 (HO.lst []) = H9:=⟨_,rfl⟩
   rw [e9] at s9
   rw [e9]
   have S9:=S7.trans (s8.trans s9)
   have hL9:=S9 _ _ hL
   have A9:=AW.imp fun _ _ z => z.same S9
   have h79:=(s8.trans s9) _ _ h7
   have a79:=a7.imp fun _ _ z => z.keep fun _ _ e => (s8.trans s9) _ _ e
   have par : c / 7 % 2 = 0 \/ c / 7 % 2 = 1:=by omega
   refine lO (t:=rM _ _ _) (fun σ' H10 => ∃ T : Addr,σ' = [some (.ref a),some (.int wd),some (.ref m1),some (.ref m2),some (.ref f1),some (.ref f2),some (.ref L),v7,some (.int p),some (.int q),some (.int c),some (.int fI),some (.ref L7),some (.ref L8),some (.ref T),v15] /\ Same H9 H10 /\ (c / 7 % 2 = 0 -> H10 T = some (.lst ((sgs (sg1.getD p.toNat 0) (sg2.getD q.toNat 0) t1 u1 t2 u2).map V.int)))) ?_ (fun D' nxt1 => ?_)
   rotate_left
   ·refine ⟨_,rfl,_,_,rfl,rfl,⟨by decide,by decide⟩,_,_,rfl,rfl,(by show (0 : Int) < 2; decide),rfl,_,rfl,q9 (fun c0 => ?_) (fun c0 => ?_)⟩
    ·refine ⟨_,rfl,_,rfl,L,L7,rfl,⟨_,qL_ hL9⟩,⟨_,qL_ h79⟩,ir hL9 h79 A9 a79 c7 (by show 7 <= 900; decide) rfl (eY hp hq) fun T H10 s10 h10 => ?_⟩
     exact nxt1 _ _ ⟨T,rfl,s10,fun _ => h10⟩
    ·exact nxt1 _ _ ⟨T0,rfl,Same.refl _,fun z => absurd z c0⟩
   rintro σ' H10 ⟨T,rfl,s10,hT⟩
   have S10:=S9.trans s10
   have hL10:=S10 _ _ hL
   have h710:=s10 _ _ h79
   refine ⟨_,rfl,_,rfl,L,L7,rfl,⟨_,qL_ hL10⟩,⟨_,qL_ h710⟩,nD hL10 h710 (AW.imp fun _ _ z => z.same S10) (a79.imp fun _ _ z => z.keep fun _ _ e => s10 _ _ e) c7 (by show 7 <= 900; decide) rfl (eY hp hq) (oB fg) (fun _ _ => rfl) (fun _ _ => rfl) (fun _ _ => rfl) fun B11 ys11 H11 s11 h11 a11 => ?_⟩
   try dsimp only [aV]
   have S11:=S10.trans s11
   have hL11:=S11 _ _ hL
   have h711:=s11 _ _ h710
   refine lO (t:=rM _ _ _) (fun σ' H12 => ∃ T : Addr,σ' = [some (.ref a),some (.int wd),some (.ref m1),some (.ref m2),some (.ref f1),some (.ref f2),some (.ref L),v7,some (.int p),some (.int q),some (.int c),some (.int fI),some (.ref L7),some (.ref L8),some (.ref T),some (.ref B11)] /\ Same H11 H12 /\ H12 T = some (.lst ((sgs (sg1.getD p.toNat 0) (sg2.getD q.toNat 0) t1 u1 t2 u2).map V.int))) ?_ (fun D' nxt2 => ?_)
   rotate_left
   ·refine ⟨_,rfl,_,_,rfl,rfl,⟨by decide,by decide⟩,_,_,rfl,rfl,(by show (0 : Int) < 2; decide),rfl,_,rfl,q9 (fun c0 => ?_) (fun c0 => ?_)⟩
    ·refine ⟨_,rfl,_,rfl,L,L7,rfl,⟨_,qL_ hL11⟩,⟨_,qL_ h711⟩,ir hL11 h711 (AW.imp fun _ _ z => z.same S11) (a79.imp fun _ _ z => z.keep fun _ _ e => (s10.trans s11) _ _ e) c7 (by show 7 <= 900; decide) rfl (eY hp hq) fun T H12 s12 h12 => ?_⟩
     exact nxt2 _ _ ⟨T,rfl,s12,h12⟩
    ·refine nxt2 _ _ ⟨T,rfl,Same.refl _,s11 _ _ (hT ?_)⟩
     rcases par with z | z
     ·exact z
     ·exact absurd z c0
   rintro σ' H12 ⟨T',rfl,s12,hT'⟩
   have S12:=S11.trans s12
   have M112:=M15.same fun b xs e => S12 _ _ e
   have M212:=M25.same fun b xs e => S12 _ _ e
   obtain ⟨rs1,hrs1,hAs1⟩:=M112.rows
   obtain ⟨rs2,hrs2,hAs2⟩:=M212.rows
   obtain ⟨ra1,rr1,e1,e2,e3⟩:=gx hAs1 R1 hp.1 hp.2 fg.1 fg.2
   obtain ⟨ra2,rr2,d1,d2,d3⟩:=gx hAs2 R2 hq.1 hq.2 fg.1 fg.2
   refine ⟨_,rfl,m1,_,_,_,rfl,rfl,qT_ M112.tup,rfl,_,rfl,r1,_,_,_,rfl,rfl,qT_ hrs1,e1,_,rfl,ra1,_,_,_,rfl,rfl,qT_ e2,e3,?_⟩
   try dsimp only [aV]
   refine ⟨_,rfl,m2,_,_,_,rfl,rfl,qT_ M212.tup,rfl,_,rfl,r2,_,_,_,rfl,rfl,qT_ hrs2,d1,_,rfl,ra2,_,_,_,rfl,rfl,qT_ d2,d3,?_⟩
   try dsimp only [aV]
   have h812:=(s9.trans (s10.trans (s11.trans s12))) _ _ h8
   refine ⟨_,rfl,_,rfl,T',L8,_,_,(sgs (sg1.getD p.toNat 0) (sg2.getD q.toNat 0) t1 u1 t2 u2).map Pl.num,rfl,hT',h812,dR _,dR _,fun x hx => ?_,by show 7 <= 1000; decide,_,rfl,di ?_⟩
   ·obtain ⟨z,_,rfl⟩:=List.mem_map.mp hx
    exact nX z
   refine ⟨_,rfl,_,rfl,_,rfl,_,_,rfl,fun L13 xs13 H13 s13 h13 a13 => ?_⟩
   refine ⟨B11,L13,ys11,xs13,_,rfl,(s12.trans s13) _ _ h11,h13,a11.imp fun _ _ z => z.keep fun _ _ e => (s12.trans s13) _ _ e,a13,mP,by show 7 <= 1000; decide,_,rfl,di ?_⟩
   exact ⟨_,_,_,_,_,_,_,_,_,rfl,S12.trans s13,nQ R1 hp.1 hp.2 fg.1 fg.2,nQ R2 hq.1 hq.2 fg.1 fg.2⟩
  ·rintro σ' H6 ⟨v7,v10,v11,v12,v13,v14,v15,p,q,rfl,s6,hp,hq⟩
   exact nxt _ _ ⟨_,_,_,_,_,_,_,p,q,rfl,s6,hp,hq⟩
 rintro σ' H6 ⟨v7,v10,v11,v12,v13,v14,v15,p,q',rfl,s6,hp,hq⟩
 have M16:=M15.same fun b xs e => s6 _ _ e
 have M26:=M25.same fun b xs e => s6 _ _ e
 refine ⟨_,rfl,m1,_,_,_,rfl,rfl,qT_ M16.tup,rfl,_,rfl,g1,_,_,_,rfl,rfl,qT_ M16.sgn,cw hp.1 (by omega),_,rfl,m2,_,_,_,rfl,rfl,qT_ M26.tup,rfl,_,rfl,g2,_,_,_,rfl,rfl,qT_ M26.sgn,cw hq.1 (by omega),_,rfl,_,rfl,_,_,t1,u1,t2,u2,f1,f2,rfl,F15.same s6,F25.same s6,fun L8 H8 s8 h8 => ?_⟩
 try dsimp only [aV]
 refine ⟨_,rfl,_,rfl,_,rfl,p,q',rfl,fun L9 xs9 H9 s9 h9 a9 => ?_⟩
 have S9:=s6.trans (s8.trans s9)
 refine ⟨L,L9,rfl,⟨_,qL_ (S9 _ _ hL)⟩,⟨_,qL_ h9⟩,ir (S9 _ _ hL) h9 (AW.imp fun _ _ z => z.same S9) a9 c7 (by show 7 <= 900; decide) rfl (eY hp hq) fun T H10 s10 h10 => ?_⟩
 refine ⟨_,rfl,T,L8,_,_,(sgs (sg1.getD p.toNat 0) (sg2.getD q'.toNat 0) t1 u1 t2 u2).map Pl.num,rfl,h10,(s9.trans s10) _ _ h8,dR _,dR _,fun x hx => ?_,by show 7 <= 1000; decide,_,rfl,di ?_⟩
 ·obtain ⟨z,_,rfl⟩:=List.mem_map.mp hx
  exact nX z
 dsimp only [nT]
 have S10:=S9.trans s10
 exact ⟨_,rfl,_,rfl,_,rfl,_,rfl,_,rfl,L,m1,m2,f1,f2,r1,g1,r2,g2,as,n1,n2,wd,rows1,rows2,sg1,sg2,t1,u1,t2,u2,rfl,M15.same (fun b xs e => S10 _ _ e),R1,l1,M25.same (fun b xs e => S10 _ _ e),R2,l2,⟨b1.1,b2.1,bw.1⟩,F15.same S10,F25.same S10,S10 _ _ hL,AW.imp fun _ _ z => z.same S10,fun _ => q _⟩
end
theorem vac {P : Program} {w : World} {K : PySem.W.Frag} {mg : Str -> Option Value} {base : Heap} {k : Nat} {f : Addr} {fd : FuncData} {ps : List Str} {sp : Sp} (h : ∀ vs H Q E,sp vs H Q E -> False) : FnOk P w K mg base CX0 k f fd ps sp:=⟨fun vs H Q E z => (h vs H Q E z).elim,fun _ _ _ _ _ _ vs Q E _ _ _ _ z => (h _ _ _ _ z).elim⟩
theorem rO {D : WC} : ∀ vs H Q E,bA D (fun _ => False) vs H Q E -> False:=fun _ _ _ _ ⟨_,_,_,h,_⟩ => h
theorem rQ {D : WC} : ∀ vs H Q E,bC D (fun _ => False) vs H Q E -> False:=fun _ _ _ _ ⟨_,_,_,_,_,_,h,_⟩ => h
theorem rP {D : WC} : ∀ vs H Q E,bB D (fun _ => False) vs H Q E -> False:=fun _ _ _ _ ⟨_,_,_,_,_,h,_⟩ => h
theorem qQ : ∀ vs H Q E,cB P0 vs H Q E -> False:=fun _ _ _ _ ⟨_,_,_,_,h,_⟩ => h
theorem hpP {ok : Wk -> Prop} : ∀ k,isP ok k -> ∃ l r t m,k = .pair l r t m:=fun _ ⟨a,b,t,m,e,_⟩ => ⟨a,b,t,m,e⟩
@[elab_as_elim] theorem oY {motive : List Value -> Prop} {us : List Value} (hl : us.length = 1) (h : ∀ a0,motive [a0]) : motive us:=match us,hl with | [a0],_ => h _
@[elab_as_elim] theorem mv {motive : List Value -> Prop} {us : List Value} (hl : us.length = 2) (h : ∀ a0 a1,motive [a0,a1]) : motive us:=match us,hl with | [a0,a1],_ => h _ _
@[elab_as_elim] theorem rm {motive : List Value -> Prop} {us : List Value} (hl : us.length = 3) (h : ∀ a0 a1 a2,motive [a0,a1,a2]) : motive us:=match us,hl with | [a0,a1,a2],_ => h _ _ _
@[elab_as_elim] theorem qA {motive : List Value -> Prop} {us : List Value} (hl : us.length = 4) (h : ∀ a0 a1 a2 a3,motive [a0,a1,a2,a3]) : motive us:=match us,hl with | [a0,a1,a2,a3],_ => h _ _ _ _
@[elab_as_elim] theorem sC {motive : List Value -> Prop} {us : List Value} (hl : us.length = 5) (h : ∀ a0 a1 a2 a3 a4,motive [a0,a1,a2,a3,a4]) : motive us:=match us,hl with | [a0,a1,a2,a3,a4],_ => h _ _ _ _ _
@[elab_as_elim] theorem sQ {motive : List Value -> Prop} {us : List Value} (hl : us.length = 6) (h : ∀ a0 a1 a2 a3 a4 a5,motive [a0,a1,a2,a3,a4,a5]) : motive us:=match us,hl with | [a0,a1,a2,a3,a4,a5],_ => h _ _ _ _ _ _
@[elab_as_elim] theorem sR {motive : List Value -> Prop} {us : List Value} (hl : us.length = 7) (h : ∀ a0 a1 a2 a3 a4 a5 a6,motive [a0,a1,a2,a3,a4,a5,a6]) : motive us:=match us,hl with | [a0,a1,a2,a3,a4,a5,a6],_ => h _ _ _ _ _ _ _
theorem all_mk {l : PySem.W.OpenLaw} {w : World} {K : PySem.W.Frag} {h : Heap} {mg : Str -> Option Value} {fa : Addr} {ts : List Addr} (X : K.In h) (G : h.Ns mainGlobals mg) (hfa : mg "law" = some (.ref fa))
  {dE eh eg cy cX cW cx cV cU bh bg eI fA gq gr d0 gp fz eJ fy dr fx pE : Addr} {k8 kB mH lW mG lV iV iB jK jh jJ jg iU iA jI jf jH je gO gE gN gD km j6 lj kF mJ lY mK lZ jL ji mI lX lh kE kn j7 lg kD iW iC k9 kC rq ph : Option Addr} {lB m9 m8 i7 jW jV i6 jU jT gX gW kz lG ng nh jX nc lF kA lD i8 lC rK : Array (Option Value)} {k1 kT kM ll gZ kG mC ml me mR ij l6 mB mj ma mQ ig l5 iR iM iJ i0 eW iG jF jy js jP fU jm jE jx jr jO fT jl iQ iL iI iZ eV iE jD jw jq jN fS jk jC jv jo jM fR jj gM gK gI gR dC gG gL gJ gH gQ dB gF kj ke kb ku gm j9 k7 kY kQ lx g8 kK mE mn mh mT il l8 mF mq mi mU ip l9 jG jz jt jQ fV jn mD mm mf mS ik l7 k6 kX kP lu g7 kJ kl kf kc kv gn ka k5 kW kO lr g6 kI iT iO iK i4 eX iH k2 kU kN lq g0 kH rp pJ pC p9 nZ pA : Value}
  (eC : PySem.W.nsIn K mainGlobals "_law_number" = some (some (.ref eI))) (eM : K.lookup eI = some ⟨kj,km,.func (PySem.W.fnOf "_law_number" "_law_number" (aH bT) (ay bT) (ae bT) .none ke kb ku j6 gm j9),kz⟩) (eF : PySem.W.codeIn K gm "_law_number" = true) (de : PySem.W.keepIn K (.ref eI) = true)
  (fj : PySem.W.nsIn K mainGlobals "_law_whole" = some (some (.ref fA))) (fJ : K.lookup fA = some ⟨k7,lj,.func (PySem.W.fnOf "_law_whole" "_law_whole" (aH cn) (ay cn) (ae cn) .none kY kQ lx kF g8 kK),lG⟩) (fv : PySem.W.codeIn K g8 "_law_whole" = true) (dJ : PySem.W.keepIn K (.ref fA) = true)
  (f9 : PySem.W.nsIn K mainGlobals "_law_same" = some (some (.ref gq))) (gv : K.lookup gq = some ⟨mE,mJ,.func (PySem.W.fnOf "_law_same" "_law_same" (aH bK) (ay bK) (ae bK) .none mn mh mT lY il l8),ng⟩) (gj : PySem.W.codeIn K il "_law_same" = true) (cb : PySem.W.keepIn K (.ref gq) = true)
  (gb : PySem.W.nsIn K mainGlobals "_law_sign" = some (some (.ref gr))) (gw : K.lookup gr = some ⟨mF,mK,.func (PySem.W.fnOf "_law_sign" "_law_sign" (aH cR) (ay cR) (ae cR) .none mq mi mU lZ ip l9),nh⟩) (gk : PySem.W.codeIn K ip "_law_sign" = true) (er : PySem.W.keepIn K (.ref gr) = true)
  (dQ : PySem.W.nsIn K mainGlobals "_law_machine" = some (some (.ref d0))) (d8 : K.lookup d0 = some ⟨jG,jL,.func (PySem.W.fnOf "_law_machine" "_law_machine" (aH ba) (ay ba) (ae ba) .none jz jt jQ ji fV jn),jX⟩) (dZ : PySem.W.codeIn K fV "_law_machine" = true) (c5 : PySem.W.keepIn K (.ref d0) = true)
  (ee : PySem.W.nsIn K mainGlobals "_law_rule" = some (some (.ref gp))) (et : K.lookup gp = some ⟨mD,mI,.func (PySem.W.fnOf "_law_rule" "_law_rule" (aH cg) (ay cg) (ae cg) .none mm mf mS lX ik l7),nc⟩) (gi : PySem.W.codeIn K ik "_law_rule" = true) (eo : PySem.W.keepIn K (.ref gp) = true)
  (fi : PySem.W.nsIn K mainGlobals "_law_walks" = some (some (.ref fz))) (fH : K.lookup fz = some ⟨k6,lh,.func (PySem.W.fnOf "_law_walks" "_law_walks" (aH cm) (ay cm) (ae cm) .none kX kP lu kE g7 kJ),lF⟩) (fu : PySem.W.codeIn K g7 "_law_walks" = true) (dI : PySem.W.keepIn K (.ref fz) = true)
  (eD : PySem.W.nsIn K mainGlobals "_law_places" = some (some (.ref eJ))) (eN : K.lookup eJ = some ⟨kl,kn,.func (PySem.W.fnOf "_law_places" "_law_places" (aH bU) (ay bU) (ae bU) .none kf kc kv j7 gn ka),kA⟩) (eG : PySem.W.codeIn K gn "_law_places" = true) (df : PySem.W.keepIn K (.ref eJ) = true)
  (fh : PySem.W.nsIn K mainGlobals "_law_signs" = some (some (.ref fy))) (fG : K.lookup fy = some ⟨k5,lg,.func (PySem.W.fnOf "_law_signs" "_law_signs" (aH ck) (ay ck) (ae ck) .none kW kO lr kD g6 kI),lD⟩) (fq : PySem.W.codeIn K g6 "_law_signs" = true) (dH : PySem.W.keepIn K (.ref fy) = true)
  (dk : PySem.W.nsIn K mainGlobals "_law_all_same" = some (some (.ref dr))) (dz : K.lookup dr = some ⟨iT,iW,.func (PySem.W.fnOf "_law_all_same" "_law_all_same" (aH bt) (ay bt) (ae bt) .none iO iK i4 iC eX iH),i8⟩) (dq : PySem.W.codeIn K eX "_law_all_same" = true) (cA : PySem.W.keepIn K (.ref dr) = true)
  (ff : PySem.W.nsIn K mainGlobals "_law_again" = some (some (.ref fx))) (fF : K.lookup fx = some ⟨k2,k9,.func (PySem.W.fnOf "_law_again" "_law_again" (aH bf) (ay bf) (ae bf) .none kU kN lq kC g0 kH),lC⟩) (fm : PySem.W.codeIn K g0 "_law_again" = true) (dG : PySem.W.keepIn K (.ref fx) = true)
  (ou : PySem.W.nsIn K mainGlobals "law" = some (some (.ref pE))) (pL : K.lookup pE = some ⟨rp,rq,.func (PySem.W.fnOf "law" "law" (aH eB) (ay eB) (ae eB) .none pJ pC p9 ph nZ pA),rK⟩) (pk : PySem.W.codeIn K nZ "law" = true) (pK : PySem.W.keepIn K (.ref pE) = true)
  (qk : PySem.W.nsIn K mainGlobals "len" = some none)
  (nu : PySem.W.nsIn K mainGlobals "range" = some none)
  (nv : PySem.W.nsIn K mainGlobals "tuple" = some none)
  (fQ : PySem.W.nsIn K mainGlobals "isinstance" = some none)
  (qj : PySem.W.nsIn K mainGlobals "int" = some none)
  (y_bool : PySem.W.nsIn K mainGlobals "bool" = some none)
  (ql : PySem.W.nsIn K mainGlobals "zip" = some none)
  {aC : Addr} (l3 : PySem.W.nsIn K mainGlobals "Walk" = some (some (.ref aC)))
  {ah : Addr} (hX : PySem.W.nsIn K mainGlobals "Reading" = some (some (.ref ah)))
  {ag : Addr} (hV : PySem.W.nsIn K mainGlobals "Pairing" = some (some (.ref ag)))
  (fe : PySem.W.findIn K (.ref aC) "begin" = some (some (.ref dE))) (fE : K.lookup dE = some ⟨k1,k8,.func (PySem.W.fnOf "begin" "Walk.begin" (aH cj) (ay cj) (ae cj) .none kT kM ll kB gZ kG),lB⟩) (fk : PySem.W.codeIn K gZ "Walk.begin" = true) (dF : PySem.W.keepIn K (.ref dE) = true)
  (f7 : PySem.W.findIn K (.ref aC) "step" = some (some (.ref eh))) (gu : K.lookup eh = some ⟨mC,mH,.func (PySem.W.fnOf "step" "Walk.step" (aH cQ) (ay cQ) (ae cQ) .none ml me mR lW ij l6),m9⟩) (gh : PySem.W.codeIn K ij "Walk.step" = true) (en : PySem.W.keepIn K (.ref eh) = true)
  (fZ : PySem.W.findIn K (.ref aC) "sign" = some (some (.ref eg))) (gs : K.lookup eg = some ⟨mB,mG,.func (PySem.W.fnOf "sign" "Walk.sign" (aH cP) (ay cP) (ae cP) .none mj ma mQ lV ig l5),m8⟩) (gd : PySem.W.codeIn K ig "Walk.sign" = true) (el : PySem.W.keepIn K (.ref eg) = true)
  (dj : PySem.W.findIn K (.ref ah) "begin" = some (some (.ref cy))) (dy : K.lookup cy = some ⟨iR,iV,.func (PySem.W.fnOf "begin" "Reading.begin" (aH br) (ay br) (ae br) .none iM iJ i0 iB eW iG),i7⟩) (dn : PySem.W.codeIn K eW "Reading.begin" = true) (cz : PySem.W.keepIn K (.ref cy) = true)
  (dP : PySem.W.findIn K (.ref ah) "step" = some (some (.ref cX))) (d7 : K.lookup cX = some ⟨jF,jK,.func (PySem.W.fnOf "step" "Reading.step" (aH bJ) (ay bJ) (ae bJ) .none jy js jP jh fU jm),jW⟩) (dY : PySem.W.codeIn K fU "Reading.step" = true) (cZ : PySem.W.keepIn K (.ref cX) = true)
  (dN : PySem.W.findIn K (.ref ah) "sign" = some (some (.ref cW))) (d6 : K.lookup cW = some ⟨jE,jJ,.func (PySem.W.fnOf "sign" "Reading.sign" (aH bI) (ay bI) (ae bI) .none jx jr jO jg fT jl),jV⟩) (dX : PySem.W.codeIn K fT "Reading.sign" = true) (cY : PySem.W.keepIn K (.ref cW) = true)
  (bM : PySem.W.findIn K (.ref ag) "begin" = some (some (.ref cx))) (dw : K.lookup cx = some ⟨iQ,iU,.func (PySem.W.fnOf "begin" "Pairing.begin" (aH bb) (ay bb) (ae bb) .none iL iI iZ iA eV iE),i6⟩) (dm : PySem.W.codeIn K eV "Pairing.begin" = true) (bp : PySem.W.keepIn K (.ref cx) = true)
  (b8 : PySem.W.findIn K (.ref ag) "step" = some (some (.ref cV))) (d5 : K.lookup cV = some ⟨jD,jI,.func (PySem.W.fnOf "step" "Pairing.step" (aH bo) (ay bo) (ae bo) .none jw jq jN jf fS jk),jU⟩) (dW : PySem.W.codeIn K fS "Pairing.step" = true) (bG : PySem.W.keepIn K (.ref cV) = true)
  (bZ : PySem.W.findIn K (.ref ag) "sign" = some (some (.ref cU))) (d4 : K.lookup cU = some ⟨jC,jH,.func (PySem.W.fnOf "sign" "Pairing.sign" (aH bj) (ay bj) (ae bj) .none jv jo jM je fR jj),jT⟩) (dU : PySem.W.codeIn K fR "Pairing.sign" = true) (bF : PySem.W.keepIn K (.ref cU) = true)
  (cG : PySem.W.findIn K (.ref ah) "__init__" = some (some (.ref bh))) (cM : K.lookup bh = some ⟨gM,gO,.func (PySem.W.fnOf "__init__" "Reading.__init__" (aH aY) (ay aY) (ae aY) .none gK gI gR gE dC gG),gX⟩) (cI : PySem.W.codeIn K dC "Reading.__init__" = true) (cK : PySem.W.keepIn K (.ref bh) = true)
  (cF : PySem.W.findIn K (.ref ag) "__init__" = some (some (.ref bg))) (cL : K.lookup bg = some ⟨gL,gN,.func (PySem.W.fnOf "__init__" "Pairing.__init__" (aH aX) (ay aX) (ae aX) .none gJ gH gQ gD dB gF),gW⟩) (cH : PySem.W.codeIn K dB "Pairing.__init__" = true) (cJ : PySem.W.keepIn K (.ref bg) = true)
  (tabS : (PySem.W.tabIn K "_law_rule").isSome = true)
  (tabH : PySem.W.codeHdIn K ((PySem.W.tabIn K "_law_rule").getD (0,0)).1 ((PySem.W.tabIn K "_law_rule").getD (0,0)).2 = true)
  (tabN : K.lookup ((PySem.W.tabIn K "_law_rule").getD (0,0)).2 = none)
  (tabM : ts.elem ((PySem.W.tabIn K "_law_rule").getD (0,0)).2 = true)
  (cW_pg : PySem.W.plainGet K aC Str.empty = true)
  (cW_hd : PySem.W.hasDictIn K aC = true)
  (cW_po : PySem.W.plainOver K aC = true)
  (cW_sa : PySem.W.findIn K (.ref aC) "__setattr__" = some (some (.builtin "object.__setattr__")))
  (cW_mk : PySem.W.makesIn K aC = true)
  (cW_in : PySem.W.findIn K (.ref aC) "__init__" = some (some (.builtin "object.__init__")))
  (cW_kp : PySem.W.keepIn K (.ref aC) = true)
  (eK : PySem.W.isFn K (.ref dE) = true)
  (fD : PySem.W.isFn K (.ref eh) = true)
  (fB : PySem.W.isFn K (.ref eg) = true)
  (cW_cc : PySem.W.findIn K (.ref aC) "__class__" = some (some (.builtin "object.__class__")))
  (cW_mo : PySem.W.mroIn K aC (.type "object") = some true)
  (kk_W : PySem.W.kitOne K (.ref aC) (.ref aC) = some true)
  (cR_pg : PySem.W.plainGet K ah Str.empty = true)
  (cR_hd : PySem.W.hasDictIn K ah = true)
  (cR_po : PySem.W.plainOver K ah = true)
  (cR_sa : PySem.W.findIn K (.ref ah) "__setattr__" = some (some (.builtin "object.__setattr__")))
  (cR_n_rows : PySem.W.findIn K (.ref ah) "rows" = some none)
  (cR_n_signs : PySem.W.findIn K (.ref ah) "signs" = some none)
  (cR_mk : PySem.W.makesIn K ah = true)
  (cR_fi : PySem.W.isFn K (.ref bh) = true)
  (cR_kp : PySem.W.keepIn K (.ref ah) = true)
  (c9 : PySem.W.isFn K (.ref cy) = true)
  (du : PySem.W.isFn K (.ref cX) = true)
  (dt : PySem.W.isFn K (.ref cW) = true)
  (cR_cc : PySem.W.findIn K (.ref ah) "__class__" = some (some (.builtin "object.__class__")))
  (cR_mo : PySem.W.mroIn K ah (.type "object") = some true)
  (kk_R : PySem.W.kitOne K (.ref ah) (.ref aC) = some true)
  (cP_pg : PySem.W.plainGet K ag Str.empty = true)
  (cP_hd : PySem.W.hasDictIn K ag = true)
  (cP_po : PySem.W.plainOver K ag = true)
  (cP_sa : PySem.W.findIn K (.ref ag) "__setattr__" = some (some (.builtin "object.__setattr__")))
  (cP_n_one : PySem.W.findIn K (.ref ag) "one" = some none)
  (cP_n_other : PySem.W.findIn K (.ref ag) "other" = some none)
  (cP_n_rule : PySem.W.findIn K (.ref ag) "rule" = some none)
  (cP_mk : PySem.W.makesIn K ag = true)
  (cP_fi : PySem.W.isFn K (.ref bg) = true)
  (cP_kp : PySem.W.keepIn K (.ref ag) = true)
  (bE : PySem.W.isFn K (.ref cx) = true)
  (bO : PySem.W.isFn K (.ref cV) = true)
  (bN : PySem.W.isFn K (.ref cU) = true)
  (cP_cc : PySem.W.findIn K (.ref ag) "__class__" = some (some (.builtin "object.__class__")))
  (cP_mo : PySem.W.mroIn K ag (.type "object") = some true)
  (kk_P : PySem.W.kitOne K (.ref ag) (.ref aC) = some true)
  (c_sp : PySem.W.specialIn K (.builtin "object.__class__") "__get__" = some (some (.builtin "getset_descriptor.__get__")))
  (c_tk : PySem.W.takesIn K (.builtin "object.__class__") = some true) :
  ∃ (fd : FuncData) (c Pt : Addr),PySem.W.codeHdIn K c Pt = true /\ Pt ∈ ts /\ K.lookup Pt = none /\ (∀ (s : Shared) (v : Value),BindsTo s fd ⟨[v],[]⟩ [("_law_script",v)]) /\ ∀ base : Heap,K.In base -> base.Ns mainGlobals mg -> ny base mg -> FnOk l.prog w K mg base CX0 7 fa fd ["_law_script"] (oI K Pt):=by
 have e:=hfa.symm.trans (PySem.W.mg_of X G ou)
 cases e
 have F_Walk_begin:=aQ (st:=cj) fE fk dF
 have b_Walk_begin:=F_Walk_begin.binds (ps:=["self"]) fun _ _ _ _ _ _ us hl => oY hl fun _ => rfl
 have F_Walk_step:=aQ (st:=cQ) gu gh en
 have b_Walk_step:=F_Walk_step.binds (ps:=["self","place","figure"]) fun _ _ _ _ _ _ us hl => rm hl fun _ _ _ => rfl
 have F_Walk_sign:=aQ (st:=cP) gs gd el
 have b_Walk_sign:=F_Walk_sign.binds (ps:=["self","place"]) fun _ _ _ _ _ _ us hl => mv hl fun _ _ => rfl
 have F_Reading_begin:=aQ (st:=br) dy dn cz
 have b_Reading_begin:=F_Reading_begin.binds (ps:=["self"]) fun _ _ _ _ _ _ us hl => oY hl fun _ => rfl
 have F_Reading_step:=aQ (st:=bJ) d7 dY cZ
 have b_Reading_step:=F_Reading_step.binds (ps:=["self","place","figure"]) fun _ _ _ _ _ _ us hl => rm hl fun _ _ _ => rfl
 have F_Reading_sign:=aQ (st:=bI) d6 dX cY
 have b_Reading_sign:=F_Reading_sign.binds (ps:=["self","place"]) fun _ _ _ _ _ _ us hl => mv hl fun _ _ => rfl
 have F_Pairing_begin:=aQ (st:=bb) dw dm bp
 have b_Pairing_begin:=F_Pairing_begin.binds (ps:=["self"]) fun _ _ _ _ _ _ us hl => oY hl fun _ => rfl
 have F_Pairing_step:=aQ (st:=bo) d5 dW bG
 have b_Pairing_step:=F_Pairing_step.binds (ps:=["self","place","figure"]) fun _ _ _ _ _ _ us hl => rm hl fun _ _ _ => rfl
 have F_Pairing_sign:=aQ (st:=bj) d4 dU bF
 have b_Pairing_sign:=F_Pairing_sign.binds (ps:=["self","place"]) fun _ _ _ _ _ _ us hl => mv hl fun _ _ => rfl
 have F_Reading___init__:=aQ (st:=aY) cM cI cK
 have b_Reading___init__:=F_Reading___init__.binds (ps:=["self","machine"]) fun _ _ _ _ _ _ us hl => mv hl fun _ _ => rfl
 have F_Pairing___init__:=aQ (st:=aX) cL cH cJ
 have b_Pairing___init__:=F_Pairing___init__.binds (ps:=["self","one","other","rule"]) fun _ _ _ _ _ _ us hl => qA hl fun _ _ _ _ => rfl
 have F__law_number:=aQ (st:=bT) eM eF de
 have b__law_number:=F__law_number.binds (ps:=["_law_script","_law_k"]) fun _ _ _ _ _ _ us hl => mv hl fun _ _ => rfl
 have kZ:=PySem.W.mg_of X G eC
 have F__law_whole:=aQ (st:=cn) fJ fv dJ
 have b__law_whole:=F__law_whole.binds (ps:=["_law_found"]) fun _ _ _ _ _ _ us hl => oY hl fun _ => rfl
 have mz:=PySem.W.mg_of X G fj
 have F__law_same:=aQ (st:=bK) gv gj cb
 have b__law_same:=F__law_same.binds (ps:=["_law_found","_law_due"]) fun _ _ _ _ _ _ us hl => mv hl fun _ _ => rfl
 have eu:=PySem.W.mg_of X G f9
 have F__law_sign:=aQ (st:=cR) gw gk er
 have b__law_sign:=F__law_sign.binds (ps:=["_law_number_here"]) fun _ _ _ _ _ _ us hl => oY hl fun _ => rfl
 have nM:=PySem.W.mg_of X G gb
 have F__law_machine:=aQ (st:=ba) d8 dZ c5
 have b__law_machine:=F__law_machine.binds (ps:=["_law_script","_law_start","_law_wide","_law_many"]) fun _ _ _ _ _ _ us hl => qA hl fun _ _ _ _ => rfl
 have ki:=PySem.W.mg_of X G dQ
 have F__law_rule:=aQ (st:=cg) et gi eo
 have b__law_rule:=F__law_rule.binds (ps:=["_law_times","_law_more"]) fun _ _ _ _ _ _ us hl => mv hl fun _ _ => rfl
 have nL:=PySem.W.mg_of X G ee
 have F__law_walks:=aQ (st:=cm) fH fu dI
 have b__law_walks:=F__law_walks.binds (ps:=["_law_one","_law_other","_law_first","_law_second"]) fun _ _ _ _ _ _ us hl => qA hl fun _ _ _ _ => rfl
 have my:=PySem.W.mg_of X G fi
 have F__law_places:=aQ (st:=bU) eN eG df
 have b__law_places:=F__law_places.binds (ps:=["_law_p","_law_q"]) fun _ _ _ _ _ _ us hl => mv hl fun _ _ => rfl
 have k0:=PySem.W.mg_of X G eD
 have F__law_signs:=aQ (st:=ck) fG fq dH
 have b__law_signs:=F__law_signs.binds (ps:=["_law_here","_law_there","_law_first","_law_second"]) fun _ _ _ _ _ _ us hl => qA hl fun _ _ _ _ => rfl
 have mx:=PySem.W.mg_of X G fh
 have F__law_all_same:=aQ (st:=bt) dz dq cA
 have b__law_all_same:=F__law_all_same.binds (ps:=["_law_found","_law_due"]) fun _ _ _ _ _ _ us hl => mv hl fun _ _ => rfl
 have jA:=PySem.W.mg_of X G dk
 have F__law_again:=aQ (st:=bf) fF fm dG
 have b__law_again:=F__law_again.binds (ps:=["_law_walks_here","_law_one","_law_other","_law_first","_law_second"]) fun _ _ _ _ _ _ us hl => sC hl fun _ _ _ _ _ => rfl
 have mw:=PySem.W.mg_of X G ff
 have F_law:=aQ (st:=eB) pL pk pK
 have b_law:=F_law.binds (ps:=["_law_script"]) fun _ _ _ _ _ _ us hl => oY hl fun _ => rfl
 have sP:=PySem.W.mg_of X G ou
 have bD:=PySem.W.mg_none_of X G qk
 have bx:=PySem.W.mg_none_of X G nu
 have bz:=PySem.W.mg_none_of X G nv
 have aq:=PySem.W.mg_none_of X G fQ
 have qm:=PySem.W.mg_none_of X G qj
 have ot:=PySem.W.mg_none_of X G y_bool
 have hU:=PySem.W.mg_none_of X G ql
 have hZ:=PySem.W.mg_of X G l3
 have oT:=PySem.W.mg_of X G hX
 have oS:=PySem.W.mg_of X G hV
 obtain ⟨⟨c,Pt⟩,tabF⟩:=Option.isSome_iff_exists.mp tabS
 rw [tabF] at tabH tabN tabM
 refine ⟨PySem.W.fnOf "law" "law" (aH eB) (ay eB) (ae eB) .none pJ pC p9 ph nZ pA,c,Pt,tabH,List.mem_of_elem_eq_true tabM,tabN,fun s v => .of_eq rfl,fun base _ _ hbm => ?_⟩
 have kL : LamK K mg base c Pt:=⟨tabH,hbm⟩
 have iq:=(show Cls K aC from ⟨cW_pg,cW_hd,cW_po,cW_sa⟩)
 have cN:=(show Cls K ah from ⟨cR_pg,cR_hd,cR_po,cR_sa⟩)
 have oh:=(show Mk K ah bh from ⟨cR_mk,cG,cR_fi,cR_kp⟩)
 have aS:=(show Cls K ag from ⟨cP_pg,cP_hd,cP_po,cP_sa⟩)
 have oa:=(show Mk K ag bg from ⟨cP_mk,cF,cP_fi,cP_kp⟩)
 have mkW:=(show Mk0 K aC from ⟨cW_mk,cW_in,cW_kp⟩)
 have rc:=(show RCls K ah from ⟨cN,cR_n_rows,cR_n_signs⟩)
 have pc:=(show PCls K ag from ⟨aS,cP_n_one,cP_n_other,cP_n_rule⟩)
 have cE : DefMk l.prog w K mg base "Reading" ah 1 ["self","machine"] (j5 ah):=⟨oT,cN,_,_,oh,b_Reading___init__,pW F_Reading___init__ rc⟩
 have cD : DefMk l.prog w K mg base "Pairing" ag 1 ["self","one","other","rule"] (j4 ag):=⟨oS,aS,_,_,oa,b_Pairing___init__,pV F_Pairing___init__ pc⟩
 have GW_begin:=(show DefMe l.prog w K mg base aC "begin" 1 ["self"] (bA ⟨aC,ah,ag⟩ isW) from ⟨iq,_,_,⟨fe,eK,dF⟩,b_Walk_begin,qH F_Walk_begin⟩)
 have GR_begin:=(show DefMe l.prog w K mg base ah "begin" 1 ["self"] (bA ⟨aC,ah,ag⟩ isR) from ⟨cN,_,_,⟨dj,c9,cz⟩,b_Reading_begin,qD F_Reading_begin⟩)
 have GP0_begin:=(show DefMe l.prog w K mg base ag "begin" 2 ["self"] (bA ⟨aC,ah,ag⟩ (fun _ => False)) from ⟨aS,_,_,⟨bM,bE,bp⟩,b_Pairing_begin,vac rO⟩)
 have GP1_begin:=(show DefMe l.prog w K mg base ag "begin" 3 ["self"] (bA ⟨aC,ah,ag⟩ (isP fun _ => False)) from ⟨aS,_,_,⟨bM,bE,bp⟩,b_Pairing_begin,pP F_Pairing_begin pc (fun _ h => h.elim) GW_begin GR_begin GP0_begin⟩)
 have GP2_begin:=(show DefMe l.prog w K mg base ag "begin" 4 ["self"] (bA ⟨aC,ah,ag⟩ (isP (isP fun _ => False))) from ⟨aS,_,_,⟨bM,bE,bp⟩,b_Pairing_begin,pQ F_Pairing_begin pc hpP GW_begin GR_begin GP1_begin⟩)
 have GW_step:=(show DefMe l.prog w K mg base aC "step" 1 ["self","place","figure"] (bC ⟨aC,ah,ag⟩ isW) from ⟨iq,_,_,⟨f7,fD,en⟩,b_Walk_step,qJ F_Walk_step⟩)
 have GR_step:=(show DefMe l.prog w K mg base ah "step" 1 ["self","place","figure"] (bC ⟨aC,ah,ag⟩ isR) from ⟨cN,_,_,⟨dP,du,cZ⟩,b_Reading_step,qF F_Reading_step rc⟩)
 have GP0_step:=(show DefMe l.prog w K mg base ag "step" 2 ["self","place","figure"] (bC ⟨aC,ah,ag⟩ (fun _ => False)) from ⟨aS,_,_,⟨b8,bO,bG⟩,b_Pairing_step,vac rQ⟩)
 have GP1_step:=(show DefMe l.prog w K mg base ag "step" 3 ["self","place","figure"] (bC ⟨aC,ah,ag⟩ (isP fun _ => False)) from ⟨aS,_,_,⟨b8,bO,bG⟩,b_Pairing_step,pT F_Pairing_step pc (fun _ h => h.elim) GW_step GR_step GP0_step⟩)
 have GP2_step:=(show DefMe l.prog w K mg base ag "step" 4 ["self","place","figure"] (bC ⟨aC,ah,ag⟩ (isP (isP fun _ => False))) from ⟨aS,_,_,⟨b8,bO,bG⟩,b_Pairing_step,pU F_Pairing_step pc hpP GW_step GR_step GP1_step⟩)
 have GW_sign:=(show DefMe l.prog w K mg base aC "sign" 1 ["self","place"] (bB ⟨aC,ah,ag⟩ isW) from ⟨iq,_,_,⟨fZ,fB,el⟩,b_Walk_sign,qI F_Walk_sign⟩)
 have GR_sign:=(show DefMe l.prog w K mg base ah "sign" 1 ["self","place"] (bB ⟨aC,ah,ag⟩ isR) from ⟨cN,_,_,⟨dN,dt,cY⟩,b_Reading_sign,qE F_Reading_sign rc⟩)
 have GP0_sign:=(show DefMe l.prog w K mg base ag "sign" 2 ["self","place"] (bB ⟨aC,ah,ag⟩ (fun _ => False)) from ⟨aS,_,_,⟨bZ,bN,bF⟩,b_Pairing_sign,vac rP⟩)
 have GP1_sign:=(show DefMe l.prog w K mg base ag "sign" 3 ["self","place"] (bB ⟨aC,ah,ag⟩ (isP fun _ => False)) from ⟨aS,_,_,⟨bZ,bN,bF⟩,b_Pairing_sign,pR F_Pairing_sign pc (fun _ h => h.elim) GW_sign GR_sign GP0_sign⟩)
 have GP2_sign:=(show DefMe l.prog w K mg base ag "sign" 4 ["self","place"] (bB ⟨aC,ah,ag⟩ (isP (isP fun _ => False))) from ⟨aS,_,_,⟨bZ,bN,bF⟩,b_Pairing_sign,pS F_Pairing_sign pc hpP GW_sign GR_sign GP1_sign⟩)
 have aG : DefOk l.prog w K mg base "_law_number" 1 ["_law_script","_law_k"] [] (oJ K):=⟨_,_,[],kZ,de,.nil,b__law_number,rA F__law_number bD⟩
 have bc : DefOk l.prog w K mg base "_law_whole" 1 ["_law_found"] [] (gy):=⟨_,_,[],mz,dJ,.nil,b__law_whole,o5 F__law_whole aq qm ot⟩
 have GF:=(show DefOk l.prog w K mg base "_law_same" 1 ["_law_found","_law_due"] [] (cB P0) from ⟨_,_,[],eu,cb,.nil,b__law_same,vac qQ⟩)
 have aM : DefOk l.prog w K mg base "_law_same" 2 ["_law_found","_law_due"] [] (cB (upP P0)):=⟨_,_,[],eu,cb,.nil,b__law_same,pX F__law_same bc GF aq bz bD bx⟩
 have GS1:=aM
 have aM : DefOk l.prog w K mg base "_law_same" 3 ["_law_found","_law_due"] [] (cB (upP (upP P0))):=⟨_,_,[],eu,cb,.nil,b__law_same,pY F__law_same bc GS1 aq bz bD bx⟩
 have GS2:=aM
 have aM : DefOk l.prog w K mg base "_law_same" 4 ["_law_found","_law_due"] [] (cB P3):=⟨_,_,[],eu,cb,.nil,b__law_same,pZ F__law_same bc GS2 aq bz bD bx⟩
 have fY : DefOk l.prog w K mg base "_law_sign" 1 ["_law_number_here"] [] (nq):=⟨_,_,[],nM,er,.nil,b__law_sign,p0 F__law_sign ⟩
 have cS : DefOk l.prog w K mg base "_law_machine" 2 ["_law_script","_law_start","_law_wide","_law_many"] [] (nk K):=⟨_,_,[],ki,c5,.nil,b__law_machine,pO F__law_machine aG fY bx bz⟩
 have ed : DefOk l.prog w K mg base "_law_rule" 1 ["_law_times","_law_more"] [] (oo Pt):=⟨_,_,[],nL,eo,.nil,b__law_rule,qG F__law_rule (qu ee et tabF) kL⟩
 have fb : DefOk l.prog w K mg base "_law_walks" 3 ["_law_one","_law_other","_law_first","_law_second"] [] (qd ⟨aC,ah,ag⟩):=⟨_,_,[],my,dI,.nil,b__law_walks,rD F__law_walks hZ mkW cE cD⟩
 have aI : DefOk l.prog w K mg base "_law_places" 1 ["_law_p","_law_q"] [] (oK):=⟨_,_,[],k0,df,.nil,b__law_places,rB F__law_places ⟩
 have bL : DefOk l.prog w K mg base "_law_signs" 2 ["_law_here","_law_there","_law_first","_law_second"] [] (oM):=⟨_,_,[],mx,dH,.nil,b__law_signs,rC F__law_signs ⟩
 have aD : DefOk l.prog w K mg base "_law_all_same" 5 ["_law_found","_law_due"] [] (nj):=⟨_,_,[],jA,cA,.nil,b__law_all_same,qC F__law_all_same aM bD bx⟩
 have e7 : DefOk l.prog w K mg base "_law_again" 6 ["_law_walks_here","_law_one","_law_other","_law_first","_law_second"] [] (ni ⟨aC,ah,ag⟩):=⟨_,_,[],mw,dG,.nil,b__law_again,pN F__law_again aD aI bL GW_begin GR_begin GP2_begin GW_step GR_step GP2_step GW_sign GR_sign GP2_sign hU⟩
 exact rz F_law aG cS ed fb aD aI bL e7 GW_begin GR_begin GP2_begin GW_step GR_step GP2_step GW_sign GR_sign GP2_sign hZ (fun e => TyOf.ins e iq cW_cc c_sp c_tk cW_mo) (fun e => TyOf.ins e cN cR_cc c_sp c_tk cR_mo) (fun e => TyOf.ins e aS cP_cc c_sp c_tk cP_mo) kk_W kk_R kk_P aq bD hU
theorem walk {l : PySem.W.OpenLaw} {q : Program} {loose : List Str} {XP : (Str -> Option Value) -> Heap -> Prop} {YP : World -> Heap -> Prop} {d : DefRec} {K : Params -> PySem.W.Frag} {ts : List Addr} (hn : l.most = some 63) (hdf : d.params.defaults = [])
  (hY : ∀ (w : World) (h : Heap),YP w h -> (K w.params).In h /\ ∀ P,P ∈ ts -> h.get? P = some (PySem.W.tabObj #[]))
  (F : ∀ (w : World) (mg : Str -> Option Value) (fa : Addr) (h : Heap),(K w.params).In h -> h.Ns mainGlobals mg -> mg d.name = some (.ref fa) ->
   ∃ (fd : FuncData) (c Pt : Addr),PySem.W.codeHdIn (K w.params) c Pt = true /\ Pt ∈ ts /\ (K w.params).lookup Pt = none /\ (∀ (s : Shared) (u : Value),BindsTo s fd ⟨[u],[]⟩ [("_law_script",u)]) /\ ∀ base : Heap,(K w.params).In base -> base.Ns mainGlobals mg -> ny base mg -> FnOk l.prog w (K w.params) mg base CX0 7 fa fd ["_law_script"] (oI (K w.params) Pt)) :
  PySem.W.WalkO q loose XP YP l.row.toRowW d [] (fun f vs => PySem.call f vs):=
 L2.walk_ofT (n:=63) (k:=7) (x := "_law_script") (CX:=fun _ => CX0) (sp:=fun w _ Pt => oI (K w.params) Pt) hn (by decide) hdf ⟨rfl,by decide,by decide⟩ (fun w h Y => (hY w h Y).1) (fun w h Y => (hY w h Y).2) F (fun _ _ Pt _ a ns hl hO hS => ⟨a,ns,rfl,hS,hl,hO.1,fun _ => rfl⟩) fun _ _ _ _ _ z => z
end My
open PySem PySem.W PyProof.Rows
set_option maxRecDepth 100000 in
set_option maxHeartbeats 0 in
theorem PySem.Challenge.cw_figuretell_k21_reading_and_pairing_holds : PySem.Challenge.rw_figuretell_k21_reading_and_pairing.Holds := by
 w_on; o_law; k_head; (case hw => w_witness2)
 k_fill
 refine My.walk (l:=PySem.Challenge.rw_figuretell_k21_reading_and_pairing) rfl rfl (fun w h Y => Y) ?F
 case F =>
  intro w mg fa h KX G hmg
  refine' My.all_mk KX G hmg ?eC ?eM ?eF ?de ?fj ?fJ ?fv ?dJ ?f9 ?gv ?gj ?cb ?gb ?gw ?gk ?er ?dQ ?d8 ?dZ ?c5 ?ee ?et ?gi ?eo ?fi ?fH ?fu ?dI ?eD ?eN ?eG ?df ?fh ?fG ?fq ?dH ?dk ?dz ?dq ?cA ?ff ?fF ?fm ?dG ?ou ?pL ?pk ?pK ?qk ?nu ?nv ?fQ ?qj ?y_bool ?ql ?l3 ?hX ?hV ?fe ?fE ?fk ?dF ?f7 ?gu ?gh ?en ?fZ ?gs ?gd ?el ?dj ?dy ?dn ?cz ?dP ?d7 ?dY ?cZ ?dN ?d6 ?dX ?cY ?bM ?dw ?dm ?bp ?b8 ?d5 ?dW ?bG ?bZ ?d4 ?dU ?bF ?cG ?cM ?cI ?cK ?cF ?cL ?cH ?cJ ?tabS ?tabH ?tabN ?tabM ?cW_pg ?cW_hd ?cW_po ?cW_sa ?cW_mk ?cW_in ?cW_kp ?eK ?fD ?fB ?cW_cc ?cW_mo ?kk_W ?cR_pg ?cR_hd ?cR_po ?cR_sa ?cR_n_rows ?cR_n_signs ?cR_mk ?cR_fi ?cR_kp ?c9 ?du ?dt ?cR_cc ?cR_mo ?kk_R ?cP_pg ?cP_hd ?cP_po ?cP_sa ?cP_n_one ?cP_n_other ?cP_n_rule ?cP_mk ?cP_fi ?cP_kp ?bE ?bO ?bN ?cP_cc ?cP_mo ?kk_P ?c_sp ?c_tk
  (case eC => k_is); (case eM => k_is); (case eF => k_is); (case de => k_is)
  (case fj => k_is); (case fJ => k_is); (case fv => k_is); (case dJ => k_is)
  (case f9 => k_is); (case gv => k_is); (case gj => k_is); (case cb => k_is)
  (case gb => k_is); (case gw => k_is); (case gk => k_is); (case er => k_is)
  (case dQ => k_is); (case d8 => k_is); (case dZ => k_is); (case c5 => k_is)
  (case ee => k_is); (case et => k_is); (case gi => k_is); (case eo => k_is)
  (case fi => k_is); (case fH => k_is); (case fu => k_is); (case dI => k_is)
  (case eD => k_is); (case eN => k_is); (case eG => k_is); (case df => k_is)
  (case fh => k_is); (case fG => k_is); (case fq => k_is); (case dH => k_is)
  (case dk => k_is); (case dz => k_is); (case dq => k_is); (case cA => k_is)
  (case ff => k_is); (case fF => k_is); (case fm => k_is); (case dG => k_is)
  (case ou => k_is); (case pL => k_is); (case pk => k_is); (case pK => k_is)
  (case qk => k_is); (case nu => k_is); (case nv => k_is); (case fQ => k_is); (case qj => k_is); (case y_bool => k_is); (case ql => k_is)
  (case l3 => k_is)
  (case hX => k_is)
  (case hV => k_is)
  (case fe => k_is); (case fE => k_is); (case fk => k_is); (case dF => k_is)
  (case f7 => k_is); (case gu => k_is); (case gh => k_is); (case en => k_is)
  (case fZ => k_is); (case gs => k_is); (case gd => k_is); (case el => k_is)
  (case dj => k_is); (case dy => k_is); (case dn => k_is); (case cz => k_is)
  (case dP => k_is); (case d7 => k_is); (case dY => k_is); (case cZ => k_is)
  (case dN => k_is); (case d6 => k_is); (case dX => k_is); (case cY => k_is)
  (case bM => k_is); (case dw => k_is); (case dm => k_is); (case bp => k_is)
  (case b8 => k_is); (case d5 => k_is); (case dW => k_is); (case bG => k_is)
  (case bZ => k_is); (case d4 => k_is); (case dU => k_is); (case bF => k_is)
  (case cG => k_is); (case cM => k_is); (case cI => k_is); (case cK => k_is)
  (case cF => k_is); (case cL => k_is); (case cH => k_is); (case cJ => k_is)
  (case tabS => first | k_is | k_exc | decide | kernel_rfl)
  (case tabH => first | k_is | k_exc | decide | kernel_rfl)
  (case tabN => first | k_is | k_exc | decide | kernel_rfl)
  (case tabM => first | k_is | k_exc | decide | kernel_rfl)
  (case cW_pg => first | k_is | k_exc | decide | kernel_rfl)
  (case cW_hd => first | k_is | k_exc | decide | kernel_rfl)
  (case cW_po => first | k_is | k_exc | decide | kernel_rfl)
  (case cW_sa => first | k_is | k_exc | decide | kernel_rfl)
  (case cW_mk => first | k_is | k_exc | decide | kernel_rfl)
  (case cW_in => first | k_is | k_exc | decide | kernel_rfl)
  (case cW_kp => first | k_is | k_exc | decide | kernel_rfl)
  (case eK => first | k_is | k_exc | decide | kernel_rfl)
  (case fD => first | k_is | k_exc | decide | kernel_rfl)
  (case fB => first | k_is | k_exc | decide | kernel_rfl)
  (case cW_cc => first | k_is | k_exc | decide | kernel_rfl)
  (case cW_mo => first | k_is | k_exc | decide | kernel_rfl)
  (case kk_W => first | k_is | k_exc | decide | kernel_rfl)
  (case cR_pg => first | k_is | k_exc | decide | kernel_rfl)
  (case cR_hd => first | k_is | k_exc | decide | kernel_rfl)
  (case cR_po => first | k_is | k_exc | decide | kernel_rfl)
  (case cR_sa => first | k_is | k_exc | decide | kernel_rfl)
  (case cR_n_rows => first | k_is | k_exc | decide | kernel_rfl)
  (case cR_n_signs => first | k_is | k_exc | decide | kernel_rfl)
  (case cR_mk => first | k_is | k_exc | decide | kernel_rfl)
  (case cR_fi => first | k_is | k_exc | decide | kernel_rfl)
  (case cR_kp => first | k_is | k_exc | decide | kernel_rfl)
  (case c9 => first | k_is | k_exc | decide | kernel_rfl)
  (case du => first | k_is | k_exc | decide | kernel_rfl)
  (case dt => first | k_is | k_exc | decide | kernel_rfl)
  (case cR_cc => first | k_is | k_exc | decide | kernel_rfl)
  (case cR_mo => first | k_is | k_exc | decide | kernel_rfl)
  (case kk_R => first | k_is | k_exc | decide | kernel_rfl)
  (case cP_pg => first | k_is | k_exc | decide | kernel_rfl)
  (case cP_hd => first | k_is | k_exc | decide | kernel_rfl)
  (case cP_po => first | k_is | k_exc | decide | kernel_rfl)
  (case cP_sa => first | k_is | k_exc | decide | kernel_rfl)
  (case cP_n_one => first | k_is | k_exc | decide | kernel_rfl)
  (case cP_n_other => first | k_is | k_exc | decide | kernel_rfl)
  (case cP_n_rule => first | k_is | k_exc | decide | kernel_rfl)
  (case cP_mk => first | k_is | k_exc | decide | kernel_rfl)
  (case cP_fi => first | k_is | k_exc | decide | kernel_rfl)
  (case cP_kp => first | k_is | k_exc | decide | kernel_rfl)
  (case bE => first | k_is | k_exc | decide | kernel_rfl)
  (case bO => first | k_is | k_exc | decide | kernel_rfl)
  (case bN => first | k_is | k_exc | decide | kernel_rfl)
  (case cP_cc => first | k_is | k_exc | decide | kernel_rfl)
  (case cP_mo => first | k_is | k_exc | decide | kernel_rfl)
  (case kk_P => first | k_is | k_exc | decide | kernel_rfl)
  (case c_sp => first | k_is | k_exc | decide | kernel_rfl)
  (case c_tk => first | k_is | k_exc | decide | kernel_rfl)
