import PyProof.Rows.All
import Wide.All
import OpenK.AllK
import Wide.FinOn
import Lean
import PyProof.EqAt
import PyProof.EqKinds
import PyProof.TupleCall
import PyProof.NeKinds
import PyProof.ExcBaseAll.ValueError
import PyProof.ExcClass3
import OpenK.KOwn
import PyProof.Rows.FStr
import KE.KTryMore
import PyProof.ExcAttrAll.ValueError
import KE.KDictList
import PyProof.CompMap
import PyProof.Draws
import PyProof.ListRange
import PyProof.ZipIter
import PyProof.EnumMake
import PyProof.CollectIter
import PyProof.SetRoads
import PyProof.Rows.SortShell
import PyProof.Rows.SortWalk
import PyProof.ExcInit
import PyProof.InstStoreFacts
import PyProof.MinMaxWalk
import PyProof.Rows.StrJoin2
import PyProof.StrBlock2
import PyProof.Rows.SortStr
import PySem.Challenge.RW_figuretell_k51_free_and_depth
set_option Elab.async false
set_option linter.all false
set_option maxRecDepth 100000
namespace L2
open PySem PySem.Spec PyProof.Rows
abbrev Key:=Sum Int Str
def uH : Key -> Value -> Bool
 | .inl k,v => Value.isInt k v
 | .inr x,v => Value.isStrOf x v
def wm (w : World) : Key -> Int
 | .inl k => hashInt k
 | .inr x => hashStr w x
theorem br : ∀ {k : Key} {v : Value},uH k v = true -> (∃ i t,k = Sum.inl i /\ v = Value.int i t) \/ (∃ x t,k = Sum.inr x /\ v = Value.str x t)
 | .inl i,v,h => by
  obtain ⟨t,e⟩:=Value.isInt_shape (k:=i) (v:=v) h
  exact .inl ⟨i,t,rfl,e⟩
 | .inr x,v,h => by
  obtain ⟨t,e⟩:=Value.isStrOf_shape (x:=x) (v:=v) h
  exact .inr ⟨x,t,rfl,e⟩
theorem uZ (a b : Int) : decide ((Sum.inl a : Key) = Sum.inl b) = (a == b):=by
 by_cases e : a = b
 ·subst e; simp
 ·have h : ¬ (Sum.inl a : Key) = Sum.inl b:=fun q => e (Sum.inl.inj q)
  rw [decide_eq_false h]
  exact (beq_eq_false_iff_ne.mpr e).symm
theorem u7 (a b : Str) : decide ((Sum.inr a : Key) = Sum.inr b) = decide (a = b):=by
 by_cases e : a = b
 ·subst e; simp
 ·have h : ¬ (Sum.inr a : Key) = Sum.inr b:=fun q => e (Sum.inr.inj q)
  rw [decide_eq_false h,decide_eq_false e]
theorem u0 (a : Int) (b : Str) : decide ((Sum.inl a : Key) = Sum.inr b) = false:=decide_eq_false (fun q => nomatch q)
theorem u6 (a : Str) (b : Int) : decide ((Sum.inr a : Key) = Sum.inl b) = false:=decide_eq_false (fun q => nomatch q)
def lX (prog : Program) (w : World) : PySem.KeyKind prog w Key where
 is:=uH
 hash:=wm w
 inj:=fun v a b ha hb => by
  rcases br ha with ⟨i,t,rfl,rfl⟩ | ⟨x,t,rfl,rfl⟩
  ·rcases br hb with ⟨j,u,rfl,e⟩ | ⟨y,u,rfl,e⟩
   ·injection e with e1 _; rw [e1]
   ·exact nomatch e
  ·rcases br hb with ⟨j,u,rfl,e⟩ | ⟨y,u,rfl,e⟩
   ·exact nomatch e
   ·injection e with e1 _; rw [e1]
 byValue:=fun k v h => by
  rcases br h with ⟨i,t,rfl,rfl⟩ | ⟨x,t,rfl,rfl⟩ <;> rfl
 pyHash:=fun hv h => by
  rcases br hv with ⟨i,t,rfl,rfl⟩ | ⟨x,t,rfl,rfl⟩
  ·exact wpAny_pyHash_int h
  ·exact wpAny_pyHash_str h
 eqBool:=fun hu hv h => by
  rcases br hu with ⟨i,t,rfl,rfl⟩ | ⟨x,t,rfl,rfl⟩
  ·rcases br hv with ⟨j,u,rfl,rfl⟩ | ⟨y,u,rfl,rfl⟩
   ·rw [uZ] at h; exact wpAny_eqBool_int h
   ·rw [u0] at h; exact SeqAt.EqAt.int_str i t y u _ _ _ _ h
  ·rcases br hv with ⟨j,u,rfl,rfl⟩ | ⟨y,u,rfl,rfl⟩
   ·rw [u6] at h; exact SeqAt.EqAt.str_int x t j u _ _ _ _ h
   ·rw [u7] at h; exact wpAny_eqBool_str h
 «strs» := fun k x t v h => by
  rcases br h with ⟨i,u,rfl,e⟩ | ⟨y,u,rfl,e⟩
  ·exact nomatch e
  ·injection e with e1 _
   subst e1
   cases v <;> rfl
end L2
namespace L2
open PySem PySem.Spec PyProof.Rows
inductive V where
 | non | bl (b : Bool) | int (i : Int) | str (x : Str) | byt (b : Array UInt8) | flt (b : UInt64) | ref (a : Addr) | ty (n : String)
 deriving DecidableEq
def RelV : V -> Value -> Prop
 | .non,u => u = Value.none
 | .bl b,u => u = Value.bool b
 | .int i,u => ∃ t,u = Value.int i t
 | .str x,u => ∃ t,u = Value.str x t
 | .byt b,u => ∃ t,u = Value.bytes b t
 | .flt b,u => ∃ t,u = Value.float b t
 | .ref a,u => u = Value.ref a
 | .ty n,u => u = Value.type n
abbrev Vals : List V -> List Value -> Prop:=Paired RelV
theorem Vals.length {xs : List V} {us : List Value} (r : Vals xs us) : xs.length = us.length:=Paired.length r
theorem Vals.get : ∀ {xs : List V} {us : List Value} {i : Nat} {x : V},Vals xs us -> xs[i]? = some x -> ∃ u,us[i]? = some u /\ RelV x u
 | _,_,_,_,.nil,e => by simp at e
 | _,_,0,_,.cons r _,e => by simp at e; subst e; exact ⟨_,rfl,r⟩
 | _,_,i + 1,x,.cons _ t,e => by
  obtain ⟨u,h1,h2⟩:=Vals.get (i:=i) (x:=x) t (by simpa using e)
  exact ⟨u,by simpa using h1,h2⟩
theorem Vals.append : ∀ {xs ys : List V} {us ws : List Value},Vals xs us -> Vals ys ws -> Vals (xs ++ ys) (us ++ ws)
 | _,_,_,_,.nil,s => s
 | _,_,_,_,.cons r t,s => .cons r (Vals.append t s)
def uP : Option V -> Option Value -> Prop
 | some v,some u => RelV v u
 | none,none => True
 | _,_ => False
def KV {κ : Type} : List (κ × V) -> List (κ × Value) -> Prop:=Paired fun (p : κ × V) (q : κ × Value) => p.1 = q.1 /\ RelV p.2 q.2
def kV : Key -> V
 | .inl i => .int i
 | .inr x => .str x
inductive HO where
  | lst (xs : List V)
  | tup (xs : List V)
  | dK (kvs : List (Key × V)) | dT (kvs : List (List Key × V))
  | set (S : Int -> Bool) (n : Nat)
  | ins (C dx : Addr) (fs : List (Str × V))
  | own (x : Addr)
  | xd (fs : List (Str × V))
  | met (f x : Addr)
  | rng (lo hi : Int)
  | frz (o : Obj) (u : HO)
  | tbl (ps : Array Value)
  | ext (φ : Heap -> Prop)
abbrev Hp:=Addr -> Option HO
def upd (H : Hp) (a : Addr) (o : HO) : Hp:=fun b => if b = a then some o else H b
theorem af {H : Hp} {a : Addr} {o : HO} : upd H a o a = some o:=by unfold upd; rw [if_pos rfl]
theorem ao {H : Hp} {a b : Addr} {o : HO} (h : b ≠ a) : upd H a o b = H b:=by unfold upd; rw [if_neg h]
theorem eF {H : Hp} {a b : Addr} {o u : HO} (h : H a = some o) (h' : H b = some u) (d : o ≠ u) : a ≠ b:=by
 intro e; subst e; rw [h] at h'; exact d (Option.some.inj h')
theorem av {H : Hp} {a b : Addr} {o : HO} (h : H a = some o) (h' : H b = none) : a ≠ b:=by
 intro e; subst e; rw [h] at h'; cases h'
section
variable (P : Program) (w : World)
def ObjOk (H : Hp) (h : Heap) (a : Addr) : HO -> Prop
 | .lst xs => xs.length <= sizeLine /\ ∃ (its : List Value) (n : Nat),Vals xs its /\ h.get? a = some { cls:=.type "list",data:=.seq its.toArray n }
 | .tup xs => xs.length <= sizeLine /\ ∃ its : List Value,Vals xs its /\ IsTup h a its.toArray
 | .dK kvs => kvs.length <= sizeLine /\ (a == sysModules) = false /\ ∃ vs,KV kvs vs /\ h.DictOf (lX P w) a vs
 | .dT kvs => kvs.length <= sizeLine /\ (a == sysModules) = false /\ ∃ xs : List (List Key × Addr × Value),
   Paired (fun (p : List Key × V) (q : List Key × Addr × Value) => p.1 = q.1 /\ H q.2.1 = some (.tup (p.1.map kV)) /\ RelV p.2 q.2.2) kvs xs /\
   ∃ o es ep,h.get? a = some o /\ o.ExactDict /\ o.data = .dict es ep /\ es.toList = xs.map (entryOfKey (tupleKind (lX P w))) /\ (xs.map (·.1)).Nodup
 | .set S n => h.SetOf (intKind P w) a S n
 | .ins C dx fs => H dx = some (.own a) /\ fs.length <= 1000 /\ dx ≠ a /\ h.get? a = some (PySem.W.instObj C dx) /\
   ∃ mA,h.Ns1 dx mA /\ (∀ f,uP (fs.lookup f) (mA f)) /\ PySem.Within mA (fs.map (·.1))
 | .own _ => ∃ o,h.get? a = some o
 | .xd fs => ∃ mA,h.Ns1 a mA /\ ∀ f,uP (fs.lookup f) (mA f)
 | .rng lo hi => ∃ t u v,h.get? a = some { cls:=.type "range",data:=.fields #[.int lo t,.int hi u,.int 1 v] }
 | .frz o u => h.get? a = some o /\ ObjOk H h a u
 | .tbl ps => h.get? a = some { cls:=.none,data:=.fields ps }
 | .met f x => h.get? a = some (PySem.W.methodObj (.ref f) (.ref x))
 | .ext φ => φ h /\ (∃ o,h.get? a = some o) /\ ∀ h1 h2 : Heap,φ h1 -> (∀ o,h1.get? a = some o -> h2.get? a = some o) -> φ h2
def HOk (H : Hp) (h : Heap) : Prop := ∀ a o,H a = some o -> ObjOk P w H h a o
end
section
variable {P : Program} {w : World} {H H' : Hp} {h h' : Heap} {a : Addr} {o : HO}
theorem ObjOk.lt (x : ObjOk P w H h a o) : a < h.objs.size:=by
 cases o with
 | lst xs => obtain ⟨_,_,_,_,e⟩:=x; exact Heap.lt_size e
 | tup xs => obtain ⟨_,_,_,p⟩:=x; exact p.lt
 | dK kvs => obtain ⟨_,_,_,_,o,_,_,e,_⟩:=x; exact Heap.lt_size e
 | dT kvs => obtain ⟨_,_,_,_,o,_,_,e,_⟩:=x; exact Heap.lt_size e
 | set S n => obtain ⟨o,_,_,_,e,_⟩:=x; exact Heap.lt_size e
 | ins C dx fs => obtain ⟨_,_,_,e,_⟩:=x; exact Heap.lt_size e
 | own y => obtain ⟨_,e⟩:=x; exact Heap.lt_size e
 | xd fs => obtain ⟨_,⟨_,_,_,e,_⟩,_⟩:=x; exact Heap.lt_size e
 | rng lo hi => obtain ⟨_,_,_,e⟩:=x; exact Heap.lt_size e
 | frz ob u => obtain ⟨e,_⟩:=x; exact Heap.lt_size e
 | tbl ps => exact Heap.lt_size (show h.get? a = some _ from x)
 | met f y => exact Heap.lt_size (show h.get? a = some _ from x)
 | ext φ => obtain ⟨_,⟨_,e⟩,_⟩:=x; exact Heap.lt_size e
theorem Paired.mapP {α β : Type} {F G : α -> β -> Prop} : ∀ {l₁ : List α} {l₂ : List β},Paired F l₁ l₂ -> (∀ a b,F a b -> G a b) -> Paired G l₁ l₂
 | _,_,.nil,_ => .nil
 | _,_,.cons r t,f => .cons (f _ _ r) (Paired.mapP t f)
theorem ObjOk.stay (x : ObjOk P w H h a o) (k : ∀ b u,(b = a \/ H b = some (.own a)) -> h.get? b = some u -> h'.get? b = some u)
  (ho : ∀ b,H b = some (.own a) -> H' b = some (.own a)) (ht : ∀ b xs,H b = some (.tup xs) -> H' b = some (.tup xs)) : ObjOk P w H' h' a o:=by
 induction o with
 | lst xs => obtain ⟨z,its,n,r,e⟩:=x; exact ⟨z,its,n,r,k _ _ (.inl rfl) e⟩
 | tup xs => obtain ⟨z,its,r,ob,e,c⟩:=x; exact ⟨z,its,r,ob,k _ _ (.inl rfl) e,c⟩
 | dK kvs => obtain ⟨z,y,vs,r,ob,es,ep,e,c⟩:=x; exact ⟨z,y,vs,r,ob,es,ep,k _ _ (.inl rfl) e,c⟩
 | dT kvs =>
  obtain ⟨z,y,xs,r,ob,es,ep,e,c⟩:=x
  exact ⟨z,y,xs,Paired.mapP r fun p q z => ⟨z.1,ht _ _ z.2.1,z.2.2⟩,ob,es,ep,k _ _ (.inl rfl) e,c⟩
 | set S n => obtain ⟨ob,es,ep,t,e,c⟩:=x; exact ⟨ob,es,ep,t,k _ _ (.inl rfl) e,c⟩
 | ins C dx fs =>
  obtain ⟨d,z,ne,e,mA,⟨od,es,ep,e2,c⟩,r⟩:=x
  exact ⟨ho _ d,z,ne,k _ _ (.inl rfl) e,mA,⟨od,es,ep,k _ _ (.inr d) e2,c⟩,r⟩
 | own y => obtain ⟨ob,e⟩:=x; exact ⟨ob,k _ _ (.inl rfl) e⟩
 | xd fs => obtain ⟨mA,⟨od,es,ep,e,c⟩,r⟩:=x; exact ⟨mA,⟨od,es,ep,k _ _ (.inl rfl) e,c⟩,r⟩
 | rng lo hi => obtain ⟨t,u,v,e⟩:=x; exact ⟨t,u,v,k _ _ (.inl rfl) e⟩
 | frz ob u ih => obtain ⟨e,q⟩:=x; exact ⟨k _ _ (.inl rfl) e,ih q⟩
 | tbl ps =>
  have e : h.get? a = some { cls:=.none,data:=.fields ps }:=x
  show h'.get? a = some { cls:=.none,data:=.fields ps }
  exact k a _ (.inl rfl) e
 | met f y =>
  have e : h.get? a = some (PySem.W.methodObj (.ref f) (.ref y)):=x
  show h'.get? a = some (PySem.W.methodObj (.ref f) (.ref y))
  exact k a _ (.inl rfl) e
 | ext φ => obtain ⟨p,⟨o,e⟩,st⟩:=x; exact ⟨st _ _ p fun o q => k _ _ (.inl rfl) q,⟨o,k _ _ (.inl rfl) e⟩,st⟩
theorem HOk.lt (x : HOk P w H h) (e : H a = some o) : a < h.objs.size:=(x a o e).lt
theorem HOk.fresh (x : HOk P w H h) (e : h.objs.size <= a) : H a = none:=by
 cases q : H a with
 | none => rfl
 | some u => exact absurd (Nat.lt_of_lt_of_le (x.lt q) e) (Nat.lt_irrefl _)
theorem HOk.kept (x : HOk P w H h) (k : ∀ b u,h.get? b = some u -> h'.get? b = some u) : HOk P w H h' := fun a o e =>
 (x a o e).stay (fun b u _ q => k b u q) (fun _ q => q) fun _ _ q => q
theorem HOk.laid (x : HOk P w H h) (k : ∀ b u,h.get? b = some u -> h'.get? b = some u) (hp : h.objs.size <= a) (new : ObjOk P w (upd H a o) h' a o) : HOk P w (upd H a o) h' := fun b u e => by
 have hn:=x.fresh hp
 by_cases hb : b = a
 ·subst hb; rw [af] at e; cases e; exact new
 ·rw [ao hb] at e
  exact (x b u e).stay (fun c v _ q => k c v q) (fun c q => by rw [ao (av q hn)]; exact q) fun c xs q => by rw [ao (av q hn)]; exact q
end
def Rd (H : Hp) (a : Addr) (u : HO) : Prop:=H a = some u \/ ∃ o,H a = some (.frz o u)
theorem Rd.ok {P : Program} {w : World} {H : Hp} {h : Heap} {a : Addr} {u : HO} (r : Rd H a u) (x : HOk P w H h) : ObjOk P w H h a u:=by
 rcases r with r | ⟨o,r⟩
 ·exact x a u r
 ·obtain ⟨_,q⟩:=x a _ r
  exact q
def Mut : Option HO -> Prop
 | some (.lst _) => True
 | some (.dK _) => True
 | some (.dT _) => True
 | some (.set _ _) => True
 | some (.ins _ _ _) => True
 | some (.ext _) => True
 | _ => False
section
variable {P : Program} {w : World} {H : Hp} {h h' : Heap} {x e : Addr} {o' : HO}
theorem HOk.write (ok : HOk P w H h) (mu : Mut (H x)) (he : e = x \/ H e = some (.own x)) (k : ∀ b u,b ≠ e -> h.get? b = some u -> h'.get? b = some u) (heo : ∃ u,h'.get? e = some u)
  (new : ObjOk P w (upd H x o') h' x o') : HOk P w (upd H x o') h' := fun b u q => by
 have nown : ∀ c y,H c = some (.own y) -> c ≠ x:=fun c y r z => by subst z; rw [r] at mu; exact mu
 have ntup : ∀ c xs,H c = some (.tup xs) -> c ≠ x:=fun c xs r z => by subst z; rw [r] at mu; exact mu
 by_cases hb : b = x
 ·subst hb; rw [af] at q; cases q; exact new
 ·rw [ao hb] at q
  by_cases hbe : b = e
  ·have q' : H b = some (.own x):=by
    rcases he with z | z
    ·exact absurd (hbe.trans z) hb
    ·rw [hbe]; exact z
   rw [q] at q'; cases q'
   obtain ⟨v,hv⟩:=heo
   exact ⟨v,by rw [hbe]; exact hv⟩
  ·refine (ok b u q).stay (fun c v hc r => k c v ?_ r) (fun c r => by rw [ao (nown c b r)]; exact r) fun c xs r => by rw [ao (ntup c xs r)]; exact r
   rcases hc with rfl | hc
   ·exact hbe
   ·rintro rfl
    rcases he with z | z
    ·exact nown c b hc z
    ·rw [hc] at z; cases z; exact hb rfl
end
structure Un (fs ex : List Addr) (H H' : Hp) (h h' : Heap) : Prop where
 keep : ∀ b o,h.get? b = some o -> H b = none -> b ∉ fs -> b ∉ ex -> h'.get? b = some o
 slot : ∀ b o,h.get? b = some o -> H b = none -> b ∈ fs -> b ∉ ex -> ∃ sl,h'.get? b = some { o with slots:=sl }
 free : ∀ b o,h.get? b = some o -> H b = none -> b ∉ ex -> H' b = none
 there : ∀ b o,h.get? b = some o -> b ∉ ex -> ∃ o',h'.get? b = some o'
 tups : ∀ b xs,H b = some (.tup xs) -> H' b = some (.tup xs)
 frzs : ∀ b o u,H b = some (.frz o u) -> H' b = some (.frz o u)
 tbls : ∀ b ps,H b = some (.tbl ps) -> ∃ more,H' b = some (.tbl (ps ++ more))
section
variable {fs fs' ex ex' : List Addr} {H H1 H2 : Hp} {h h1 h2 h' : Heap} {a x e : Addr} {o : HO}
theorem Un.any (u : Un fs ex H H1 h h1) {b : Addr} {ob : Obj} (q : h.get? b = some ob) (n : H b = none) (hx : b ∉ ex) : ∃ sl,h1.get? b = some { ob with slots:=sl }:=by
 by_cases hb : b ∈ fs
 ·exact u.slot b ob q n hb hx
 ·exact ⟨ob.slots,u.keep b ob q n hb hx⟩
theorem Un.kept (k : ∀ b u,h.get? b = some u -> h'.get? b = some u) : Un fs ex H H h h' :=
 ⟨fun b ob q _ _ _ => k b ob q,fun b ob q _ _ _ => ⟨ob.slots,k b ob q⟩,fun _ _ _ n _ => n,fun b ob q _ => ⟨ob,k b ob q⟩,fun _ _ q => q,fun _ _ _ q => q,fun _ ps q => ⟨#[],by rw [q]; simp⟩⟩
theorem Un.refl : Un fs ex H H h h:=Un.kept fun _ _ q => q
theorem Un.laid (k : ∀ b u,h.get? b = some u -> h'.get? b = some u) (hp : h.objs.size <= a) (hn : H a = none) : Un fs ex H (upd H a o) h h' where
 keep:=fun b u q _ _ _ => k b u q
 slot:=fun b u q _ _ _ => ⟨u.slots,k b u q⟩
 free:=fun b u q n _ => by rw [ao (Nat.ne_of_lt (Nat.lt_of_lt_of_le (Heap.lt_size q) hp))]; exact n
 there:=fun b u q _ => ⟨u,k b u q⟩
 tups:=fun b xs q => by rw [ao (av q hn)]; exact q
 frzs:=fun b u xs q => by rw [ao (av q hn)]; exact q
 tbls:=fun b ps q => ⟨#[],by rw [ao (av q hn),q]; simp⟩
theorem Un.write (mu : Mut (H x)) (he : e = x \/ H e = some (.own x)) (k : ∀ b u,b ≠ e -> h.get? b = some u -> h'.get? b = some u) (heo : ∃ u,h'.get? e = some u) : Un fs ex H (upd H x o) h h' := by
 have hx : ∀ b,H b = none -> b ≠ x:=fun b n z => by subst z; rw [n] at mu; exact mu
 have hb : ∀ b,H b = none -> b ≠ e:=fun b n z => by
  subst z
  rcases he with r | r
  ·exact hx b n r
  ·rw [n] at r; cases r
 have hm : ∀ b u,H b = some u -> ¬ Mut (some u) -> b ≠ x:=fun b u q nm z => by subst z; rw [q] at mu; exact nm mu
 refine ⟨fun b u q n _ _ => k b u (hb b n) q,fun b u q n _ _ => ⟨u.slots,k b u (hb b n) q⟩,fun b u q n _ => by rw [ao (hx b n)]; exact n,fun b u q _ => ?_,
  fun b xs q => by rw [ao (hm b _ q fun z => z)]; exact q,fun b u xs q => by rw [ao (hm b _ q fun z => z)]; exact q,fun b ps q => ⟨#[],by rw [ao (hm b _ q fun z => z),q]; simp⟩⟩
 by_cases hbe : b = e
 ·subst hbe; exact heo
 ·exact ⟨u,k b u hbe q⟩
end
def trk (h : Heap) (H : Hp) : List Addr:=(List.range h.objs.size).filter fun a => (H a).isSome
def lH (h : Heap) (H : Hp) : Heap:=PySem.W.hideAll h (trk h H)
theorem qO (h : Heap) (H : Hp) : (lH h H).objs.size = h.objs.size:=PySem.W.hideAll_size _ _
theorem rU {h : Heap} {H : Hp} {b : Addr} {o : Obj} (e : h.get? b = some o) (n : H b = none) : (lH h H).get? b = some o:=
 PySem.W.hideAll_get _ e fun hm => by
  have q : (H b).isSome = true:=(List.mem_filter.mp hm).2
  rw [n] at q; simp at q
theorem ud {h : Heap} {H : Hp} {b : Addr} {o : Obj} (e : (lH h H).get? b = some o) : h.get? b = some o /\ H b = none:=by
 have e' : h.get? b = some o:=PySem.W.of_hideAll (trk h H) e
 refine ⟨e',?_⟩
 cases q : H b with
 | none => rfl
 | some x =>
  have hm : b ∈ trk h H:=List.mem_filter.mpr ⟨List.mem_range.mpr (Heap.lt_size e'),by simp [q]⟩
  have z : (lH h H).get? b = none:=PySem.W.hideAll_none (trk h H) hm
  rw [z] at e; cases e
def tI (g h : Heap) (L : Addr) : List (Addr × Obj):=(List.range h.objs.size).filterMap fun a => if a = L \/ (g.get? a).isSome = true then none else (h.get? a).map fun o => (a,o)
def rest (g h : Heap) (L d : Addr) : List (Addr × Obj):=(tI g h L).filter fun p => decide (p.1 ≠ d)
end L2
namespace L2
open PySem PySem.Spec PyProof.Rows
structure Mod (K : PySem.W.Frag) (mg : Str -> Option Value) (base : Heap) : Prop where
 kin : K.In base
 glob : base.Ns mainGlobals mg
 blt : ∃ mb,base.Ns builtinsNs mb /\ ∀ x : Str,x ≠ "__name__" -> mb x = bootBuiltins x
 nolimit : base.NoLimit
structure Cx where
 prog : Program
 w : World
 K : PySem.W.Frag
 mg : Str -> Option Value
 base : Heap
 A : Around
 N : List Str
 s₀ : Shared
 H₀ : Hp
 env : Env
 outer : List Env
 stack : List Env
 ex : List Addr
 fn : Str -> Bool
 calm : Bool
 pn : List (Addr × Obj)
 xe : Value -> Shared -> Prop
def frs (l : List Env) : List Addr:=l.filterMap (·.frame)
abbrev Cx.fs (X : Cx) : List Addr:=frs X.outer
def Vis (sc : Scope) (x : Str) : Prop:=sc.names.lookup x = some .local \/ sc.names.lookup x = some .cell \/ sc.names.lookup x = some .free
def Loc (sc : Scope) (x : Str) : Prop:=sc.names.lookup x = some .local \/ sc.names.lookup x = some .cell
def Look (env : Env) (h : Heap) (m : Str -> Option Value) (x : Str) (u : Value) : Prop:=
 (env.kindOf x = some .local /\ m x = some u) \/ ((env.kindOf x = some .cell \/ env.kindOf x = some .free) /\ ∃ c,env.cells.lookup x = some c /\ h.IsCell c (some u))
structure Cx.Ok (X : Cx) : Prop where
 mod : Mod X.K X.mg X.base
 kind : X.env.scope.kind = .function
 glob : X.env.globals = mainGlobals
 blt : X.env.builtins = builtinsNs
 above : X.s₀.heap.objs.size <= X.env.locals
 inj : ∀ x y c,X.env.cells.lookup x = some c -> X.env.cells.lookup y = some c -> x = y
 has : ∀ x,(X.env.kindOf x = some .cell \/ X.env.kindOf x = some .free) -> ∃ c,X.env.cells.lookup x = some c
 cab : ∀ x c,X.fn x = true -> X.env.cells.lookup x = some c -> X.s₀.heap.objs.size <= c
 hd : X.calm = true -> X.A.handled = none
 frames : X.A.frames = some X.stack
 stk : X.stack = X.outer \/ (X.stack = X.env :: X.outer /\ X.env.frame = some X.env.locals)
 exf : ∀ b ∈ X.ex,b ≠ X.env.locals /\ ∀ x c,X.env.cells.lookup x = some c -> c ≠ b
 bs : ∀ b o,X.base.get? b = some o -> X.s₀.heap.get? b = some o /\ X.H₀ b = none
 bsz : X.base.objs.size <= X.s₀.heap.objs.size
 noex : ∀ b o,X.base.get? b = some o -> b ∉ X.ex
 exfs : ∀ b ∈ X.ex,b ∉ X.fs
 funs : X.s₀.heap.FunFrames X.base X.outer
 frf : ∀ b ∈ X.fs,X.H₀ b = none
structure Inv (X : Cx) (pins : List (Addr × Obj)) (σ : List (Option V)) (H : Hp) (s : Shared) : Prop where
 ok : X.Ok
 os : s.os = X.s₀.os
 bare : AllBare s.gens
 base : Un X.fs X.ex X.H₀ H X.s₀.heap s.heap
 loc : ∃ m,s.heap.Ns X.env.locals m /\ ∀ (i : Nat) (x : Str) (v : V),X.N[i]? = some x -> σ[i]? = some (some v) -> Vis X.env.scope x -> ∃ u,RelV v u /\ Look X.env s.heap m x u
 cell : ∀ x c,X.env.cells.lookup x = some c -> ∃ v,s.heap.IsCell c v
 free : H X.env.locals = none
 freeC : ∀ x c,X.env.cells.lookup x = some c -> H c = none
 pin : ∀ p ∈ X.pn ++ pins,s.heap.get? p.1 = some p.2 /\ H p.1 = none /\ p.1 ≠ X.env.locals /\ p.1 ∉ X.fs /\ ∀ v,p.2.data ≠ .cell v
 hok : HOk X.prog X.w H s.heap
 len : σ.length = X.N.length
section
variable {X : Cx} {pins : List (Addr × Obj)} {σ : List (Option V)} {H H' : Hp} {s : Shared} {h' : Heap}
theorem Cx.Ok.nofr (ok : X.Ok) {b : Addr} {o : Obj} (e : X.base.get? b = some o) : b ∉ X.fs:=fun hb => by
 have:=(ok.funs.mem hb).1
 rw [e] at this; cases this
theorem Inv.bs (I : Inv X pins σ H s) : ∀ b o,X.base.get? b = some o -> s.heap.get? b = some o /\ H b = none:=fun b o e =>
 ⟨I.base.keep b o (I.ok.bs b o e).1 (I.ok.bs b o e).2 (I.ok.nofr e) (I.ok.noex b o e),I.base.free b o (I.ok.bs b o e).1 (I.ok.bs b o e).2 (I.ok.noex b o e)⟩
theorem Inv.bk (I : Inv X pins σ H s) : ∀ b o,X.base.get? b = some o -> s.heap.get? b = some o:=fun b o e => (I.bs b o e).1
theorem Inv.mod (I : Inv X pins σ H s) : Mod X.K X.mg X.base:=I.ok.mod
theorem Inv.kIn (I : Inv X pins σ H s) : X.K.In s.heap:=I.ok.mod.kin.keeps I.bk
theorem Inv.lt (I : Inv X pins σ H s) : X.env.locals < s.heap.objs.size:=let ⟨_,hn,_⟩:=I.loc; hn.lt
theorem Inv.sz (I : Inv X pins σ H s) : X.s₀.heap.objs.size <= s.heap.objs.size:=Nat.le_trans I.ok.above (Nat.le_of_lt I.lt)
theorem Inv.nofs (I : Inv X pins σ H s) {a : Addr} (h : s.heap.objs.size <= a) : a ∉ X.fs:=fun hb => by
 obtain ⟨_,o,ho,_⟩:=I.ok.funs.mem hb
 exact absurd (Nat.lt_of_lt_of_le (Heap.lt_size ho) (Nat.le_trans I.sz h)) (Nat.lt_irrefl _)
theorem Inv.cne (I : Inv X pins σ H s) : ∀ x c,X.env.cells.lookup x = some c -> c ≠ X.env.locals:=fun x c e z => by
 obtain ⟨v,o,ho,hd⟩:=I.cell x c e
 obtain ⟨m,⟨o',es,ep,ho',hd',_⟩,_⟩:=I.loc
 rw [z,ho'] at ho; cases ho; rw [hd'] at hd; cases hd
theorem Inv.funs (I : Inv X pins σ H s) : s.heap.FunFrames X.base X.outer:=by
 have all : ∀ (l : List Env),(∀ b ∈ frs l,b ∈ X.fs) -> X.s₀.heap.FunFrames X.base l -> s.heap.FunFrames X.base l:=by
  intro l
  induction l with
  | nil => intro _ _; trivial
  | cons env r ih =>
   intro hs hl
   obtain ⟨hk,⟨L,o,hf,hn,ho,hd⟩,hr⟩:=hl
   have hL : L ∈ X.fs:=hs L (by unfold frs; rw [List.filterMap_cons,hf]; exact List.mem_cons_self)
   obtain ⟨sl,e⟩:=I.base.slot L o ho (I.ok.frf L hL) hL fun z => I.ok.exfs L z hL
   exact ⟨hk,⟨L,_,hf,hn,e,hd⟩,ih (fun b hb => hs b (by unfold frs; rw [List.filterMap_cons,hf]; exact List.mem_cons_of_mem _ hb)) hr⟩
 exact all X.outer (fun _ hb => hb) I.ok.funs
theorem Inv.stack (I : Inv X pins σ H s) : s.heap.FunFrames X.base X.stack:=by
 rcases I.ok.stk with e | ⟨e,hf⟩
 ·rw [e]; exact I.funs
 ·rw [e]
  obtain ⟨m,hn,_⟩:=I.loc
  refine .cons (by rw [I.ok.kind]; decide) hf hn ?_ I.funs
  exact Heap.get?_none_of_le (Nat.le_trans I.ok.bsz I.ok.above)
theorem Inv.stkSub (I : Inv X pins σ H s) : ∀ b ∈ frs X.stack,b ∈ X.env.locals :: X.fs:=fun b hb => by
 rcases I.ok.stk with e | ⟨e,hf⟩
 ·rw [e] at hb; exact List.mem_cons_of_mem _ hb
 ·rw [e] at hb
  unfold frs at hb
  rw [List.filterMap_cons,hf] at hb
  exact hb
theorem Inv.stkFree (I : Inv X pins σ H s) : ∀ b ∈ frs X.stack,H b = none:=fun b hb => by
 rcases List.mem_cons.mp (I.stkSub b hb) with e | hb
 ·rw [e]; exact I.free
 ·obtain ⟨_,o,ho,_⟩:=I.ok.funs.mem hb
  exact I.base.free b o ho (I.ok.frf b hb) fun z => I.ok.exfs b z hb
theorem Inv.step {g' : Array GenState} {t' : Nat} {d' : Drawn} {ch : List Addr} (I : Inv X pins σ H s)
  (hch : ∀ b ∈ ch,(b ∈ X.ex \/ X.s₀.heap.objs.size <= b) /\ b ≠ X.env.locals /\ (∀ x c,X.env.cells.lookup x = some c -> c ≠ b) /\ ∀ p ∈ X.pn ++ pins,p.1 ≠ b)
  (keep : ∀ b o,b ≠ X.env.locals -> b ∉ X.fs -> b ∉ ch -> s.heap.get? b = some o -> H b = none -> h'.get? b = some o)
  (slot : ∀ b o,b ≠ X.env.locals -> b ∈ X.fs -> b ∉ ch -> s.heap.get? b = some o -> H b = none -> ∃ sl,h'.get? b = some { o with slots:=sl }) (free : ∀ b o,b ∉ ch -> s.heap.get? b = some o -> H b = none -> H' b = none)
  (there : ∀ b o,b ∉ ch -> s.heap.get? b = some o -> ∃ o',h'.get? b = some o')
  (tups : ∀ b xs,H b = some (.tup xs) -> H' b = some (.tup xs)) (frzs : ∀ b o u,H b = some (.frz o u) -> H' b = some (.frz o u)) (tbls : ∀ b ps,H b = some (.tbl ps) -> ∃ more,H' b = some (.tbl (ps ++ more)))
  (ns : ∀ m,s.heap.Ns X.env.locals m -> h'.Ns X.env.locals m) (hok : HOk X.prog X.w H' h') (hg : AllBare g') :
  Inv X pins σ H' { s with heap:=h',gens:=g',drawn:=d',toks:=t' }:=by
 have neL : ∀ b o,X.s₀.heap.get? b = some o -> b ≠ X.env.locals:=fun b o e => Nat.ne_of_lt (Nat.lt_of_lt_of_le (Heap.lt_size e) I.ok.above)
 have neC : ∀ b o,X.s₀.heap.get? b = some o -> b ∉ X.ex -> b ∉ ch:=fun b o e hx hb => by
  rcases (hch b hb).1 with z | z
  ·exact hx z
  ·exact absurd (Nat.lt_of_lt_of_le (Heap.lt_size e) z) (Nat.lt_irrefl _)
 have cellK : ∀ x c,X.env.cells.lookup x = some c -> ∀ v,s.heap.IsCell c v -> h'.IsCell c v:=fun x c e v ⟨o,ho,hd⟩ => by
  have nch : c ∉ ch:=fun z => (hch c z).2.2.1 x c e rfl
  by_cases hc : c ∈ X.fs
  ·obtain ⟨sl,q⟩:=slot c o (I.cne x c e) hc nch ho (I.freeC x c e)
   exact ⟨_,q,hd⟩
  ·exact ⟨o,keep c o (I.cne x c e) hc nch ho (I.freeC x c e),hd⟩
 refine ⟨I.ok,I.os,hg,⟨fun b o e n hb hx => ?_,fun b o e n hb hx => ?_,fun b o e n hx => ?_,fun b o e hx => ?_,fun b xs e => tups b xs (I.base.tups b xs e),fun b o xs e => frzs b o xs (I.base.frzs b o xs e),fun b ps e => ?_⟩,?_,fun x c e => ?_,?_,fun x c e => ?_,fun p hp => ?_,hok,I.len⟩
 ·exact keep b o (neL b o e) hb (neC b o e hx) (I.base.keep b o e n hb hx) (I.base.free b o e n hx)
 ·obtain ⟨sl,e1⟩:=I.base.slot b o e n hb hx
  obtain ⟨sl',e2⟩:=slot b _ (neL b o e) hb (neC b o e hx) e1 (I.base.free b o e n hx)
  exact ⟨sl',e2⟩
 ·obtain ⟨o',e1⟩:=I.base.there b o e hx
  exact free b o' (neC b o e hx) e1 (I.base.free b o e n hx)
 ·obtain ⟨o',e1⟩:=I.base.there b o e hx
  exact there b o' (neC b o e hx) e1
 ·obtain ⟨m1,e1⟩:=I.base.tbls b ps e
  obtain ⟨m2,e2⟩:=tbls b _ e1
  exact ⟨m1 ++ m2,by rw [e2,Array.append_assoc]⟩
 ·obtain ⟨m,hn,hl⟩:=I.loc
  refine ⟨m,ns m hn,fun i x v e1 e2 e3 => ?_⟩
  obtain ⟨u,r,l⟩:=hl i x v e1 e2 e3
  refine ⟨u,r,?_⟩
  rcases l with l | ⟨k,c,e,z⟩
  ·exact .inl l
  ·exact .inr ⟨k,c,e,cellK x c e _ z⟩
 ·obtain ⟨v,z⟩:=I.cell x c e
  exact ⟨v,cellK x c e v z⟩
 ·obtain ⟨m,⟨o,_,_,ho,_⟩,_⟩:=I.loc
  exact free _ o (fun z => (hch _ z).2.1 rfl) ho I.free
 ·obtain ⟨v,o,ho,hd⟩:=I.cell x c e
  exact free c o (fun z => (hch c z).2.2.1 x c e rfl) ho (I.freeC x c e)
 ·obtain ⟨e,n,ne,nf,d⟩:=I.pin p hp
  have nch : p.1 ∉ ch:=fun z => (hch p.1 z).2.2.2 p hp rfl
  exact ⟨keep p.1 p.2 ne nf nch e n,free p.1 p.2 nch e n,ne,nf,d⟩
theorem Inv.un {t' : Nat} (I : Inv X pins σ H s) (u : Un X.fs [] H H' s.heap h') (hok : HOk X.prog X.w H' h') : Inv X pins σ H' { s with heap:=h',toks:=t' }:=by
 obtain ⟨m,⟨o,es,ep,ho,r⟩,_⟩:=id I.loc
 obtain ⟨sl,hL⟩:=u.any ho I.free (by simp)
 exact I.step (g' := s.gens) (d' := s.drawn) (ch:=[]) (fun _ z => nomatch z) (fun b o _ hb _ e n => u.keep b o e n hb (by simp)) (fun b o _ hb _ e n => u.slot b o e n hb (by simp)) (fun b o _ e n => u.free b o e n (by simp)) (fun b o _ e => u.there b o e (by simp)) u.tups u.frzs u.tbls (fun m' hm => by
  obtain ⟨o',es',ep',ho',r'⟩:=hm
  rw [ho] at ho'; cases ho'
  exact ⟨_,es',ep',hL,r'⟩) hok I.bare
theorem Inv.call {g' : Array GenState} {t' : Nat} {d' : Drawn} {ch : List Addr} (I : Inv X pins σ H s) (u : Un (frs X.stack) ch H H' s.heap h') (hok : HOk X.prog X.w H' h') (hg : AllBare g')
  (hch : ∀ b ∈ ch,(b ∈ X.ex \/ X.s₀.heap.objs.size <= b) /\ b ≠ X.env.locals /\ (∀ x c,X.env.cells.lookup x = some c -> c ≠ b) /\ ∀ p ∈ X.pn ++ pins,p.1 ≠ b) :
  Inv X pins σ H' { s with heap:=h',gens:=g',drawn:=d',toks:=t' }:=by
 obtain ⟨m,⟨o,es,ep,ho,r⟩,_⟩:=id I.loc
 obtain ⟨sl,hL⟩:=u.any ho I.free fun z => (hch _ z).2.1 rfl
 exact I.step (ch:=ch) hch (fun b o hL hb hc e n => u.keep b o e n (fun z => (List.mem_cons.mp (I.stkSub b z)).elim hL hb) hc) (fun b o _ _ hc e n => u.any e n hc) (fun b o hc e n => u.free b o e n hc) (fun b o hc e => u.there b o e hc) u.tups u.frzs u.tbls (fun m' hm => by
  obtain ⟨o',es',ep',ho',r'⟩:=hm
  rw [ho] at ho'; cases ho'
  exact ⟨_,es',ep',hL,r'⟩) hok hg
theorem Inv.turned {t' : Nat} {it : Addr} (I : Inv X pins σ H s) (k : ∀ b o,b ≠ it -> s.heap.get? b = some o -> h'.get? b = some o) (hn : H it = none) (hL : it ≠ X.env.locals)
  (h1 : it ∈ X.ex \/ X.s₀.heap.objs.size <= it) (h2 : ∀ x c,X.env.cells.lookup x = some c -> c ≠ it) (h3 : ∀ p ∈ X.pn ++ pins,p.1 ≠ it) : Inv X pins σ H { s with heap:=h',toks:=t' }:=by
 have nit : ∀ b u,H b = some u -> b ≠ it:=fun b u e z => by rw [z,hn] at e; cases e
 refine I.step (g' := s.gens) (d' := s.drawn) (ch:=[it]) (fun b hb => ?_) (fun b o _ _ hc e _ => k b o (fun z => hc (by simp [z])) e) (fun b o _ _ hc e _ => ⟨o.slots,k b o (fun z => hc (by simp [z])) e⟩) (fun _ _ _ _ n => n)
  (fun b o hc e => ⟨o,k b o (fun z => hc (by simp [z])) e⟩) (fun _ _ e => e) (fun _ _ _ e => e) (fun b ps e => ⟨#[],by rw [e]; simp⟩) (fun m hm => ?_) (fun b u e => ?_) I.bare
 ·have e : b = it:=by simpa using hb
  subst e
  exact ⟨h1,hL,h2,h3⟩
 ·obtain ⟨o,es,ep,ho,r⟩:=hm
  exact ⟨o,es,ep,k _ o (Ne.symm hL) ho,r⟩
 ·refine (I.hok b u e).stay (fun c v hc q => k c v ?_ q) (fun _ q => q) fun _ _ q => q
  rcases hc with z | z
  ·rw [z]; exact nit b u e
  ·exact nit c _ z
theorem Inv.tok (I : Inv X pins σ H s) (t : Nat) : Inv X pins σ H { s with toks:=t }:=I.un (h' := s.heap) (t' := t) Un.refl I.hok
theorem Inv.kept {t' : Nat} (I : Inv X pins σ H s) (k : ∀ b u,s.heap.get? b = some u -> h'.get? b = some u) : Inv X pins σ H { s with heap:=h',toks:=t' }:=I.un (Un.kept k) (I.hok.kept k)
theorem Inv.laid {a : Addr} {o : HO} {t' : Nat} (I : Inv X pins σ H s) (k : ∀ b u,s.heap.get? b = some u -> h'.get? b = some u) (hp : s.heap.objs.size <= a) (new : ObjOk X.prog X.w (upd H a o) h' a o) :
  Inv X pins σ (upd H a o) { s with heap:=h',toks:=t' }:=I.un (Un.laid k hp (I.hok.fresh hp)) (I.hok.laid k hp new)
theorem Inv.write {x e : Addr} {o : HO} {t' : Nat} (I : Inv X pins σ H s) (mu : Mut (H x)) (he : e = x \/ H e = some (.own x)) (k : ∀ b u,b ≠ e -> s.heap.get? b = some u -> h'.get? b = some u) (heo : ∃ u,h'.get? e = some u)
  (new : ObjOk X.prog X.w (upd H x o) h' x o) : Inv X pins σ (upd H x o) { s with heap:=h',toks:=t' }:=I.un (Un.write mu he k heo) (I.hok.write mu he k heo new)
theorem Inv.pins_of {pins' : List (Addr × Obj)} (I : Inv X pins σ H s) (h : ∀ p ∈ pins',s.heap.get? p.1 = some p.2 /\ H p.1 = none /\ p.1 ≠ X.env.locals /\ p.1 ∉ X.fs /\ ∀ v,p.2.data ≠ .cell v) : Inv X pins' σ H s:=
 ⟨I.ok,I.os,I.bare,I.base,I.loc,I.cell,I.free,I.freeC,fun p hp => (List.mem_append.mp hp).elim (fun z => I.pin p (List.mem_append_left _ z)) (h p),I.hok,I.len⟩
theorem nP {N : List Str} (hN : N.Nodup) {i j : Nat} {x : Str} (a : N[i]? = some x) (b : N[j]? = some x) : i = j:=by
 obtain ⟨h1,e1⟩:=List.getElem?_eq_some_iff.mp a
 obtain ⟨h2,e2⟩:=List.getElem?_eq_some_iff.mp b
 exact (List.getElem_inj hN).mp (e1.trans e2.symm)
theorem kK {M : Model} {A : Around} {E : Value -> Shared -> Prop} {i : Nat} {x : Str} {v : V} {u : Value} {Q : Unit -> Shared -> Prop} (I : Inv X pins σ H s) (hN : X.N.Nodup) (hi : X.N[i]? = some x) (hx : Loc X.env.scope x) (r : RelV v u)
  (h : ∀ s',Inv X pins (σ.set i (some v)) H s' -> (∃ a,Heap.SameBut a s.heap s'.heap /\ (a = X.env.locals \/ X.env.cells.lookup x = some a)) -> Q () s') (hf : X.fn x = true \/ X.env.scope.names.lookup x = some .local:=by first | exact .inl rfl | exact .inr rfl | assumption) : wpAny M A (storeName X.env x u) Q E s:=by
 obtain ⟨m,hn,hl⟩:=id I.loc
 have hcls : (X.env.scope.kind == .class || (X.env.scope.kind == .module && X.env.locals != X.env.globals)) = false:=by rw [I.ok.kind]; rfl
 have hiσ : i < σ.length:=by rw [I.len]; exact (List.getElem?_eq_some_iff.mp hi).1
 have cne:=I.cne
 have tracked : ∀ {a : Addr} {h' : Heap},(∃ o,s.heap.get? a = some o /\ H a = none) -> Heap.SameBut a s.heap h' -> HOk X.prog X.w H h' := fun {a h'} ha hs b ob e => by
  obtain ⟨_,_,hfree⟩:=ha
  refine (I.hok b ob e).stay (fun c w' hc q => (hs.2 c ?_).trans q) (fun _ q => q) fun _ _ q => q
  rintro rfl
  rcases hc with rfl | hc
  ·rw [hfree] at e; cases e
  ·rw [hfree] at hc; cases hc
 rcases hx with hk | hk
 ·refine wpAny_storeName_local hk hn (fun h' hn' hs => ?_) hcls
  obtain ⟨oL,_,_,hoL,_⟩:=id hn
  refine h _ ⟨I.ok,I.os,I.bare,⟨fun b o e n hb hx => ?_,fun b o e n hb hx => ?_,I.base.free,fun b o e hx => ?_,I.base.tups,I.base.frzs,I.base.tbls⟩,⟨_,hn',fun j y v' e1 e2 e3 => ?_⟩,fun y c e => ?_,I.free,I.freeC,fun p hp => ?_,tracked ⟨oL,hoL,I.free⟩ hs,by simpa using I.len⟩ ⟨_,hs,.inl rfl⟩
  ·exact (hs.2 b (Nat.ne_of_lt (Nat.lt_of_lt_of_le (Heap.lt_size e) I.ok.above))).trans (I.base.keep b o e n hb hx)
  ·obtain ⟨sl,e1⟩:=I.base.slot b o e n hb hx
   exact ⟨sl,(hs.2 b (Nat.ne_of_lt (Nat.lt_of_lt_of_le (Heap.lt_size e) I.ok.above))).trans e1⟩
  ·obtain ⟨o',e1⟩:=I.base.there b o e hx
   exact ⟨o',(hs.2 b (Nat.ne_of_lt (Nat.lt_of_lt_of_le (Heap.lt_size e) I.ok.above))).trans e1⟩
  ·by_cases hj : j = i
   ·subst hj
    rw [hi] at e1; cases e1
    rw [List.getElem?_set_self hiσ] at e2
    cases e2
    exact ⟨u,r,.inl ⟨hk,by simp⟩⟩
   ·rw [List.getElem?_set_ne (Ne.symm hj)] at e2
    obtain ⟨u',r',q⟩:=hl j y v' e1 e2 e3
    refine ⟨u',r',?_⟩
    rcases q with ⟨k,e⟩ | ⟨k,c,e,z⟩
    ·refine .inl ⟨k,?_⟩
     have : y ≠ x:=fun e => hj (nP hN e1 (e ▸ hi))
     simp [this,e]
    ·exact .inr ⟨k,c,e,z.sameBut hs (cne y c e)⟩
  ·obtain ⟨w',z⟩:=I.cell y c e
   exact ⟨w',z.sameBut hs (cne y c e)⟩
  ·obtain ⟨e,n,ne,nf,d⟩:=I.pin p hp
   exact ⟨(hs.2 p.1 ne).trans e,n,ne,nf,d⟩
 ·have hfn : X.fn x = true:=by
   rcases hf with z | z
   ·exact z
   ·rw [z] at hk; cases hk
  obtain ⟨c,hc⟩:=I.ok.has x (.inl hk)
  obtain ⟨w',z⟩:=I.cell x c hc
  refine wpAny_storeName_cell I.ok.kind hk hc z (fun h' hc' hs => ?_)
  obtain ⟨oc,hoc,hocd⟩:=id z
  refine h { s with heap:=h' } ⟨I.ok,I.os,I.bare,⟨fun b o e n hb hx => ?_,fun b o e n hb hx => ?_,I.base.free,fun b o e hx => ?_,I.base.tups,I.base.frzs,I.base.tbls⟩,⟨m,hn.sameBut hs (Ne.symm (cne x c hc)),fun j y v' e1 e2 e3 => ?_⟩,fun y c' e => ?_,I.free,I.freeC,fun p hp => ?_,tracked ⟨oc,hoc,I.freeC x c hc⟩ hs,by simpa using I.len⟩ ⟨c,hs,.inr hc⟩
  ·exact (hs.2 b (Nat.ne_of_lt (Nat.lt_of_lt_of_le (Heap.lt_size e) (I.ok.cab x c hfn hc)))).trans (I.base.keep b o e n hb hx)
  ·obtain ⟨sl,e1⟩:=I.base.slot b o e n hb hx
   exact ⟨sl,(hs.2 b (Nat.ne_of_lt (Nat.lt_of_lt_of_le (Heap.lt_size e) (I.ok.cab x c hfn hc)))).trans e1⟩
  ·obtain ⟨o',e1⟩:=I.base.there b o e hx
   exact ⟨o',(hs.2 b (Nat.ne_of_lt (Nat.lt_of_lt_of_le (Heap.lt_size e) (I.ok.cab x c hfn hc)))).trans e1⟩
  ·by_cases hj : j = i
   ·subst hj
    rw [hi] at e1; cases e1
    rw [List.getElem?_set_self hiσ] at e2
    cases e2
    exact ⟨u,r,.inr ⟨.inl hk,c,hc,hc'⟩⟩
   ·rw [List.getElem?_set_ne (Ne.symm hj)] at e2
    obtain ⟨u',r',q⟩:=hl j y v' e1 e2 e3
    refine ⟨u',r',?_⟩
    rcases q with q | ⟨k,c',e,z'⟩
    ·exact .inl q
    ·refine .inr ⟨k,c',e,z'.sameBut hs ?_⟩
     rintro rfl
     exact hj (nP hN e1 (I.ok.inj _ _ _ e hc ▸ hi))
  ·by_cases hcc : c' = c
   ·subst hcc; exact ⟨_,hc'⟩
   ·obtain ⟨w2,z2⟩:=I.cell y c' e
    exact ⟨w2,z2.sameBut hs hcc⟩
  ·obtain ⟨e,n,ne,nf,d⟩:=I.pin p hp
   refine ⟨(hs.2 p.1 ?_).trans e,n,ne,nf,d⟩
   intro q
   rw [q,hoc] at e
   have q' : oc = p.2:=Option.some.inj e
   exact d w' (by rw [<- q']; exact hocd)
theorem oq {M : Model} {A : Around} {E : Value -> Shared -> Prop} {i : Nat} {x : Str} {v : V} {u : Value} {Q : Unit -> Shared -> Prop} (I : Inv X pins σ H s) (hN : X.N.Nodup) (hi : X.N[i]? = some x) (hx : Loc X.env.scope x) (r : RelV v u)
  (h : ∀ s',Inv X pins (σ.set i (some v)) H s' -> Q () s') (hf : X.fn x = true \/ X.env.scope.names.lookup x = some .local:=by first | exact .inl rfl | exact .inr rfl | assumption) : wpAny M A (storeName X.env x u) Q E s:=
 kK I hN hi hx r (fun s' I' _ => h s' I') hf
theorem Inv.call' {s' : Shared} {ch : List Addr} (I : Inv X pins σ H s) (ho : s'.os = s.os) (u : Un (frs X.stack) ch H H' s.heap s'.heap) (hok : HOk X.prog X.w H' s'.heap) (hg : AllBare s'.gens)
  (hch : ∀ b ∈ ch,(b ∈ X.ex \/ X.s₀.heap.objs.size <= b) /\ b ≠ X.env.locals /\ (∀ x c,X.env.cells.lookup x = some c -> c ≠ b) /\ ∀ p ∈ X.pn ++ pins,p.1 ≠ b) : Inv X pins σ H' s' := by
 obtain ⟨h',g',d',t',o'⟩:=s'
 have e : o' = s.os:=ho
 subst e
 exact I.call (g' := g') (t' := t') (d' := d') u hok hg hch
end
abbrev XK:=Value -> Option Addr -> Hp -> Prop
abbrev St:=List (Option V)
abbrev VK:=V -> Hp -> Prop
abbrev TE:=St -> Hp -> VK -> Prop
abbrev TT:=St -> Hp -> (Bool -> Hp -> Prop) -> Prop
abbrev TA:=St -> Hp -> (List V -> Hp -> Prop) -> Prop
structure Ends where
 nx : St -> Hp -> Prop
 rt : VK
 bk : St -> Hp -> Prop:=fun _ _ => False
 ct : St -> Hp -> Prop:=fun _ _ => False
abbrev TS:=Ends -> St -> Hp -> Prop
def EP (X : Cx) (pins : List (Addr × Obj)) (σ : St) (Q : VK) (u : Value) (s' : Shared) : Prop := ∃ v H',Inv X pins σ H' s' /\ RelV v u /\ Q v H'
def TP (X : Cx) (pins : List (Addr × Obj)) (σ : St) (Q : Bool -> Hp -> Prop) (b : Bool) (s' : Shared) : Prop := ∃ H',Inv X pins σ H' s' /\ Q b H'
def AP (X : Cx) (pins : List (Addr × Obj)) (σ : St) (Q : List V -> Hp -> Prop) (us : List Value) (s' : Shared) : Prop := ∃ vs H',Inv X pins σ H' s' /\ Vals vs us /\ Q vs H'
def SP (X : Cx) (pins : List (Addr × Obj)) (D : Ends) (f : Flow) (s' : Shared) : Prop:=
 match f with
 | .next => ∃ σ' H',Inv X pins σ' H' s' /\ D.nx σ' H'
 | .brk => ∃ σ' H',Inv X pins σ' H' s' /\ D.bk σ' H'
 | .cont => ∃ σ' H',Inv X pins σ' H' s' /\ D.ct σ' H'
 | .ret u => ∃ v σ' H',Inv X pins σ' H' s' /\ RelV v u /\ D.rt v H'
def PE (X : Cx) (e : Expr) (t : TE) : Prop:=
 ∀ (pins : List (Addr × Obj)) (s : Shared) (σ : St) (H : Hp) (Q : VK),Inv X pins σ H s -> t σ H Q -> wpAny (model X.prog X.w) X.A (eval e X.env) (EP X pins σ Q) X.xe s
def PT (X : Cx) (e : Expr) (t : TT) : Prop:=
 ∀ (pins : List (Addr × Obj)) (s : Shared) (σ : St) (H : Hp) (Q : Bool -> Hp -> Prop),Inv X pins σ H s -> t σ H Q -> wpAny (model X.prog X.w) X.A (isTrue e X.env (eval e X.env)) (TP X pins σ Q) X.xe s
def PW (X : Cx) (e : Expr) (t : TT) : Prop:=
 ∀ (whole : Sem Value) (pins : List (Addr × Obj)) (s : Shared) (σ : St) (H : Hp) (Q : Bool -> Hp -> Prop),Inv X pins σ H s -> t σ H Q -> wpAny (model X.prog X.w) X.A (isTrue e X.env whole) (TP X pins σ Q) X.xe s
theorem PW.pt {X : Cx} {e : Expr} {t : TT} (h : PW X e t) : PT X e t:=h _
def PA (X : Cx) (es : List Expr) (t : TA) : Prop:=
 ∀ (pos : Pos) (pins : List (Addr × Obj)) (s : Shared) (σ : St) (H : Hp) (Q : List V -> Hp -> Prop),Inv X pins σ H s -> t σ H Q -> wpAny (model X.prog X.w) X.A (spliced (backTo pos (starEach es X.env))) (AP X pins σ Q) X.xe s
def PS (X : Cx) (st : Stmt) (t : TS) : Prop:=
 ∀ (pins : List (Addr × Obj)) (s : Shared) (σ : St) (H : Hp) (D : Ends),Inv X pins σ H s -> t D σ H -> wpAny (model X.prog X.w) X.A (exec st X.env) (SP X pins D) X.xe s
def PSs (X : Cx) (st : List Stmt) (t : TS) : Prop:=
 ∀ (pins : List (Addr × Obj)) (s : Shared) (σ : St) (H : Hp) (D : Ends),Inv X pins σ H s -> t D σ H -> wpAny (model X.prog X.w) X.A (execs st X.env) (SP X pins D) X.xe s
theorem thn {α : Type} {t : Sem α} {Q Q' : α -> Shared -> Prop} {M : Model} {A : Around} {E : Value -> Shared -> Prop} {s : Shared} (h : wpAny M A t Q E s) (hQ : ∀ a s,Q a s -> Q' a s) : wpAny M A t Q' E s:=wpAny_mono h hQ fun _ _ x => x
end L2
namespace L2
open PySem PySem.Spec PyProof.Rows
section
variable {X : Cx}
def vU (i : Nat) : TE:=fun σ H Q => ∃ v,σ[i]? = some (some v) /\ Q v H
def tC (v : V) : TE:=fun _ H Q => Q v H
theorem vh {i : Nat} {x : Str} {pos : Pos} (hN : X.N[i]? = some x) (hv : Vis X.env.scope x) (hd : (x == ("__debug__" : Str)) = false:=by decide) (hcd : (x == ("__classdict__" : Str)) = false:=by decide) : PE X (.Name x pos) (vU i):=by
 intro pins s σ H Q I h
 obtain ⟨v,e,h⟩:=h
 obtain ⟨m,hn,hl⟩:=I.loc
 obtain ⟨u,r,l⟩:=hl i x v hN e hv
 have fin : EP X pins σ Q u s:=⟨v,H,I,r,h⟩
 rcases l with ⟨hk,hm⟩ | ⟨hk,c,hc,hcell⟩
 ·exact wpAny_Name (wpAny_loadName_local I.ok.kind hk hn hm fin) hd
 ·rcases hk with hk | hk
  ·exact wpAny_Name (wpAny_loadName_cell I.ok.kind hk hc hcell fin) hd
  ·exact wpAny_Name (wpAny_loadName_free I.ok.kind hk hc hcell fin hcd) hd
theorem ae {i j pos} : PE X (.Constant (.int i) j pos) (tC (.int i)):=fun _ _ _ H _ I h => wpAny_Constant_int ⟨.int i,H,I.tok _,⟨_,rfl⟩,h⟩
theorem qp {b j pos} : PE X (.Constant (.bool b) j pos) (tC (.bl b)):=fun _ _ _ H _ I h => Constant_bool ⟨.bl b,H,I,rfl,h⟩
theorem ay {x j pos} : PE X (.Constant (.str x) j pos) (tC (.str x)):=fun _ _ _ H _ I h => Calls.Constant_str ⟨.str x,H,I.tok _,⟨_,rfl⟩,h⟩
def Gl (X : Cx) (x : Str) : Prop:=X.env.kindOf x = some .globalImplicit
theorem qc {E : Value -> Shared -> Prop} {pins : List (Addr × Obj)} {s : Shared} {σ : St} {H : Hp} {x : Str} {u : Value} {pos : Pos} {Q : Value -> Shared -> Prop} (I : Inv X pins σ H s) (hg : Gl X x) (hm : X.mg x = some u) (h : Q u s)
  (hd : (x == ("__debug__" : Str)) = false:=by decide) : wpAny (model X.prog X.w) X.A (eval (.Name x pos) X.env) Q E s:=
 Calls.Name_function_global I.ok.kind hg (Calls.loadGlobal_global (by rw [I.ok.glob]; exact I.mod.glob.keeps I.bk) hm h) hd
theorem hV {E : Value -> Shared -> Prop} {pins : List (Addr × Obj)} {s : Shared} {σ : St} {H : Hp} {x : Str} {u : Value} {pos : Pos} {Q : Value -> Shared -> Prop} (I : Inv X pins σ H s) (hg : Gl X x) (hm : X.mg x = none) (hv : bootBuiltins x = some u) (h : Q u s)
  (hn : x ≠ "__name__" := by decide) (hd : (x == ("__debug__" : Str)) = false:=by decide) : wpAny (model X.prog X.w) X.A (eval (.Name x pos) X.env) Q E s:=by
 obtain ⟨mb,h1,h2⟩:=I.mod.blt
 exact Calls.Name_function_global I.ok.kind hg (Calls.loadGlobal_builtin (by rw [I.ok.glob]; exact I.mod.glob.keeps I.bk) hm (by rw [I.ok.blt]; exact h1.keeps I.bk) ((h2 x hn).trans hv) h) hd
theorem jb {x : Str} {v : V} {u : Value} {pos : Pos} (hg : Gl X x) (hm : X.mg x = some u) (r : RelV v u) (hd : (x == ("__debug__" : Str)) = false:=by decide) : PE X (.Name x pos) (tC v):=
 fun _ _ _ H _ I h => qc I hg hm ⟨v,H,I,r,h⟩ hd
theorem ja {x : Str} {v : V} {u : Value} {pos : Pos} (hg : Gl X x) (hm : X.mg x = none) (hv : bootBuiltins x = some u) (r : RelV v u) (hn : x ≠ "__name__" := by decide) (hd : (x == ("__debug__" : Str)) = false:=by decide) : PE X (.Name x pos) (tC v):=
 fun _ _ _ H _ I h => hV I hg hm hv ⟨v,H,I,r,h⟩ hn hd
variable {a b : Expr} {ta tb : TE} {pos : Pos}
def tB (t : TE) : TT:=fun σ H Q => t σ H fun x H1 => ∃ c,x = .bl c /\ Q c H1
theorem mB {e : Expr} {t : TE} (h : PE X e t) (he : ∀ whole,isTrue e X.env whole = (do let v <- whole; standAt e.pos; holding [v] (truthy v)):=by intro _; rfl) : PT X e (tB t):=by
 intro pins s σ H Q I hw
 refine isTrue_plain (thn (h pins s σ H _ I hw) fun v s1 ⟨x,H1,I1,r1,q1⟩ => ?_) (he _)
 obtain ⟨d,rfl,q⟩:=q1
 cases r1
 exact wpAny_truthy_bool ⟨H1,I1,q⟩
variable {tA tB' : TT} {rest : List Expr}
def uE (t u : TT) : TT:=fun σ H Q => t σ H fun c H1 => if c = true then u σ H1 Q else Q false H1
def tOr (t u : TT) : TT:=fun σ H Q => t σ H fun c H1 => if c = true then Q true H1 else u σ H1 Q
def wy (t : TT) : TT:=fun σ H Q => t σ H fun c H1 => Q (!c) H1
theorem jc (ha : PT X a tA) : PW X (.BoolOp .And [a] pos) tA:=by
 intro wh pins s σ H Q I h
 refine isTrue_and (thn (ha pins s σ H Q I h) fun c s1 e => ?_)
 cases c with
 | true => exact isTrue_and_nil e
 | false => exact e
theorem pE (ha : PT X a tA) : PW X (.BoolOp .Or [a] pos) tA:=by
 intro wh pins s σ H Q I h
 refine isTrue_or (thn (ha pins s σ H Q I h) fun c s1 e => ?_)
 cases c with
 | false => exact isTrue_or_nil e
 | true => exact e
theorem ir (ha : PT X a tA) (hb : PW X (.BoolOp .And (b :: rest) pos) tB') : PW X (.BoolOp .And (a :: b :: rest) pos) (uE tA tB'):=by
 intro wh pins s σ H Q I h
 refine isTrue_and (thn (ha pins s σ H _ I h) fun c s1 ⟨H1,I1,q1⟩ => ?_)
 cases c with
 | true => exact hb wh pins s1 σ H1 Q I1 q1
 | false => exact ⟨H1,I1,q1⟩
theorem qr (ha : PT X a tA) (hb : PW X (.BoolOp .Or (b :: rest) pos) tB') : PW X (.BoolOp .Or (a :: b :: rest) pos) (tOr tA tB'):=by
 intro wh pins s σ H Q I h
 refine isTrue_or (thn (ha pins s σ H _ I h) fun c s1 ⟨H1,I1,q1⟩ => ?_)
 cases c with
 | true => exact ⟨H1,I1,q1⟩
 | false => exact hb wh pins s1 σ H1 Q I1 q1
theorem pD (ha : PT X a tA) : PT X (.UnaryOp .Not a pos) (wy tA):=by
 intro pins s σ H Q I h
 exact isTrue_not (ha pins s σ H (fun c H1 => Q (!c) H1) I h)
def vM (ta tb : TE) : TE:=fun σ H Q => ta σ H fun x H1 => ∃ c,x = .bl c /\ if c = true then tb σ H1 Q else Q (.bl false) H1
theorem sy {op} {t : TE} (h : PE X a t) : PE X (.BoolOp op [a] pos) t:=fun pins s σ H Q I hw => BoolOp_one (h pins s σ H Q I hw)
theorem pA (ha : PE X a ta) (hb : PE X (.BoolOp .And (b :: rest) pos) tb) : PE X (.BoolOp .And (a :: b :: rest) pos) (vM ta tb):=by
 intro pins s σ H Q I h
 refine BoolOp_and (thn (ha pins s σ H _ I h) fun v s1 ⟨x,H1,I1,r1,q1⟩ => ?_)
 obtain ⟨c,rfl,q1⟩:=q1
 cases r1
 refine wpAny_truthy_bool ?_
 cases c with
 | true => exact hb pins s1 σ H1 Q I1 q1
 | false => exact ⟨.bl false,H1,I1,rfl,q1⟩
end
end L2
namespace L2
open PySem PySem.Spec PyProof.Rows
def SqL (K : PySem.W.Frag) (H : Hp) (a : Addr) (xs : List V) : Prop:=
 Rd H a (.lst xs) \/
  ∃ (o : Obj) (its : Array Value) (n : Nat),K.lookup a = some o /\ o.cls = .type "list" /\ o.dict = none /\ o.data = .seq its n /\ its.size <= sizeLine /\ Vals xs its.toList
def SqT (K : PySem.W.Frag) (H : Hp) (a : Addr) (xs : List V) : Prop:=
 Rd H a (.tup xs) \/
  ∃ (o : Obj) (its : Array Value) (n : Nat),K.lookup a = some o /\ o.cls = .type "tuple" /\ o.data = .seq its n /\ its.size <= sizeLine /\ Vals xs its.toList
def wc : Value -> Option V
 | .none => some .non
 | .bool b => some (.bl b)
 | .int i _ => some (.int i)
 | .str x _ => some (.str x)
 | .bytes b _ => some (.byt b)
 | .float b _ => some (.flt b)
 | .ref a => some (.ref a)
 | .type n => some (.ty n)
 | _ => none
theorem RelV.abs {x : V} {u : Value} (r : RelV x u) : wc u = some x:=by
 cases x with
 | non => cases r; rfl
 | bl _ => cases r; rfl
 | int _ => obtain ⟨t,rfl⟩:=r; rfl
 | str _ => obtain ⟨t,rfl⟩:=r; rfl
 | byt _ => obtain ⟨t,rfl⟩:=r; rfl
 | flt _ => obtain ⟨t,rfl⟩:=r; rfl
 | ref _ => cases r; rfl
 | ty _ => cases r; rfl
theorem RelV.inj {x y : V} {u : Value} (r : RelV x u) (q : RelV y u) : x = y:=Option.some.inj (r.abs.symm.trans q.abs)
theorem Vals.inj : ∀ {xs ys : List V} {us : List Value},Vals xs us -> Vals ys us -> xs = ys
 | _,_,_,.nil,.nil => rfl
 | _,_,_,.cons r t,.cons r' t' => by rw [r.inj r',Vals.inj t t']
section
variable {X : Cx} {pins : List (Addr × Obj)} {σ : St} {H : Hp} {s : Shared} {a : Addr} {xs ys : List V}
theorem SqL.of {K : PySem.W.Frag} (h : H a = some (.lst xs)) : SqL K H a xs:=.inl (.inl h)
theorem SqT.of {K : PySem.W.Frag} (h : H a = some (.tup xs)) : SqT K H a xs:=.inl (.inl h)
theorem Inv.list (I : Inv X pins σ H s) (h : SqL X.K H a xs) : ∃ its : List Value,Vals xs its /\ PlainL s.heap a its.toArray /\ xs.length <= sizeLine:=by
 rcases h with h | ⟨o,its,n,hk,hc,hd,hs,hz,r⟩
 ·obtain ⟨z,its,n,r,e⟩:=h.ok I.hok
  exact ⟨its,r,⟨_,n,e,rfl,rfl,rfl⟩,z⟩
 ·refine ⟨its.toList,r,⟨o,n,I.kIn a o hk,hc,hd,by simpa using hs⟩,?_⟩
  have e:=r.length
  simp only [Array.length_toList] at e
  omega
theorem Inv.tuple (I : Inv X pins σ H s) (h : SqT X.K H a xs) : ∃ its : List Value,Vals xs its /\ IsTup s.heap a its.toArray /\ xs.length <= sizeLine:=by
 rcases h with h | ⟨o,its,n,hk,hc,hs,hz,r⟩
 ·obtain ⟨z,its,r,p⟩:=h.ok I.hok
  exact ⟨its,r,p,z⟩
 ·refine ⟨its.toList,r,⟨o,I.kIn a o hk,hc,n,by simpa using hs⟩,?_⟩
  have e:=r.length
  simp only [Array.length_toList] at e
  omega
theorem Inv.list_inj (I : Inv X pins σ H s) (h : SqL X.K H a xs) (h' : SqL X.K H a ys) : xs = ys:=by
 obtain ⟨its,r,⟨o,n,e,_,_,d⟩,_⟩:=I.list h
 obtain ⟨its',r',⟨o',n',e',_,_,d'⟩,_⟩:=I.list h'
 rw [e] at e'; cases e'
 rw [d] at d'
 injection d' with d1 _
 have : its = its' := by simpa using congrArg Array.toList d1
 subst this
 exact r.inj r'
theorem Inv.tuple_inj (I : Inv X pins σ H s) (h : SqT X.K H a xs) (h' : SqT X.K H a ys) : xs = ys:=by
 obtain ⟨its,r,⟨o,e,_,n,d⟩,_⟩:=I.tuple h
 obtain ⟨its',r',⟨o',e',_,n',d'⟩,_⟩:=I.tuple h'
 rw [e] at e'; cases e'
 rw [d] at d'
 injection d' with d1 _
 have : its = its' := by simpa using congrArg Array.toList d1
 subst this
 exact r.inj r'
end
abbrev Cx.wish (X : Cx) (E : Value -> Shared -> Prop) : Cx:={ X with xe:=E }
abbrev Cx.nox (X : Cx) : Cx:=X.wish fun _ _ => False
theorem Cx.Ok.wish {X : Cx} (ok : X.Ok) (E : Value -> Shared -> Prop) : (X.wish E).Ok:=
 ⟨ok.mod,ok.kind,ok.glob,ok.blt,ok.above,ok.inj,ok.has,ok.cab,ok.hd,ok.frames,ok.stk,ok.exf,ok.bs,ok.bsz,ok.noex,ok.exfs,ok.funs,ok.frf⟩
theorem Cx.Ok.unwish {X : Cx} {E : Value -> Shared -> Prop} (ok : (X.wish E).Ok) : X.Ok:=
 ⟨ok.mod,ok.kind,ok.glob,ok.blt,ok.above,ok.inj,ok.has,ok.cab,ok.hd,ok.frames,ok.stk,ok.exf,ok.bs,ok.bsz,ok.noex,ok.exfs,ok.funs,ok.frf⟩
section
variable {X : Cx} {pins : List (Addr × Obj)} {σ : St} {H : Hp} {s : Shared} {E : Value -> Shared -> Prop}
theorem Inv.wish (I : Inv X pins σ H s) (E : Value -> Shared -> Prop) : Inv (X.wish E) pins σ H s:=⟨I.ok.wish E,I.os,I.bare,I.base,I.loc,I.cell,I.free,I.freeC,I.pin,I.hok,I.len⟩
theorem Inv.unwish (I : Inv (X.wish E) pins σ H s) : Inv X pins σ H s:=⟨I.ok.unwish,I.os,I.bare,I.base,I.loc,I.cell,I.free,I.freeC,I.pin,I.hok,I.len⟩
theorem SP.unwish {D : Ends} {f : Flow} {s' : Shared} (h : SP (X.wish E) pins D f s') : SP X pins D f s' := by
 cases f with
 | next => obtain ⟨σ',H',I,q⟩:=h; exact ⟨σ',H',I.unwish,q⟩
 | brk => obtain ⟨σ',H',I,q⟩:=h; exact ⟨σ',H',I.unwish,q⟩
 | cont => obtain ⟨σ',H',I,q⟩:=h; exact ⟨σ',H',I.unwish,q⟩
 | ret u => obtain ⟨v,σ',H',I,r,q⟩:=h; exact ⟨v,σ',H',I.unwish,r,q⟩
theorem PSs.nox {st : List Stmt} {t : TS} (h : PSs X.nox st t) : PSs X st t:=fun pins s σ H D I hw =>
 wpAny_mono (h pins s σ H D (I.wish _) hw) (fun _ _ q => q.unwish) fun _ _ z => False.elim z
end
section
variable {X : Cx} {st : Stmt} {rest : List Stmt} {t u : TS} {e : Expr} {te : TE} {pos : Pos}
def aO : TS:=fun D σ H => D.nx σ H
def uF (t u : TS) : TS:=fun D σ H => t { D with nx:=u D } σ H
theorem bh : PSs X [] aO:=fun _ _ σ H _ I h => wpAny_execs_nil ⟨σ,H,I,h⟩
theorem aA (h1 : PS X st t) (h2 : PSs X rest u) : PSs X (st :: rest) (uF t u):=by
 intro pins s σ H D I h
 refine wpAny_execs_cons (thn (h1 pins s σ H { D with nx:=u D } I h) fun f s1 q => ?_)
 cases f with
 | next =>
  obtain ⟨σ',H',I',q⟩:=q
  exact h2 pins s1 σ' H' D I' q
 | ret v => exact q
 | brk => exact q
 | cont => exact q
theorem aw (h1 : PS X st t) : PSs X [st] t:=by
 intro pins s σ H D I h
 refine wpAny_execs_cons (thn (h1 pins s σ H D I h) fun f s1 q => ?_)
 cases f with
 | next => exact wpAny_execs_nil q
 | ret v => exact q
 | brk => exact q
 | cont => exact q
theorem Inv.quiet {pins : List (Addr × Obj)} {σ : St} {H : Hp} {s : Shared} (I : Inv X pins σ H s) : interactive X.env = false:=by simp [interactive,I.ok.kind]
def uL (te : TE) : TS:=fun D σ H => te σ H fun _ H1 => D.nx σ H1
theorem bu (he : PE X e te) (hs : swapsWith e none pos.line X.env = pure false:=by rfl) : PS X (.Expr e pos) (uL te):=by
 intro pins s σ H D I h
 exact wpAny_Expr_any (thn (he pins s σ H _ I h) fun v s1 ⟨x,H1,I1,r1,q1⟩ => ⟨σ,H1,I1,q1⟩) I.quiet hs
def vR (te : TE) : TS:=fun D σ H => te σ H D.rt
theorem aX (he : PE X e te) : PS X (.Return (some e) pos) (vR te):=by
 intro pins s σ H D I h
 exact wpAny_Return_some (thn (he pins s σ H _ I h) fun v s1 ⟨x,H1,I1,r1,q1⟩ => ⟨x,σ,H1,I1,r1,q1⟩)
def sW (c : TT) (t u : TS) : TS:=fun D σ H => c σ H fun b H1 => if b = true then t D σ H1 else u D σ H1
theorem bV {c : Expr} {a b : List Stmt} {tc : TT} (hc : PT X c tc) (ha : PSs X a t) (hb : PSs X b u) : PS X (.If c a b pos) (sW tc t u):=by
 intro pins s σ H D I h
 refine wpAny_If (thn (hc pins s σ H _ I h) fun d s1 ⟨H1,I1,q1⟩ => ?_)
 cases d with
 | true => exact ha pins s1 σ H1 D I1 q1
 | false => exact hb pins s1 σ H1 D I1 q1
end
abbrev TG:=V -> St -> Hp -> (St -> Hp -> Prop) -> Prop
abbrev TGs:=List V -> St -> Hp -> (St -> Hp -> Prop) -> Prop
def PG (X : Cx) (target : Expr) (t : TG) : Prop:=
 ∀ (pins : List (Addr × Obj)) (s : Shared) (σ : St) (H : Hp) (v : V) (u : Value) (Q : St -> Hp -> Prop),Inv X pins σ H s -> RelV v u -> t v σ H Q ->
  wpAny (model X.prog X.w) X.A (assign target X.env u) (fun _ s' => ∃ σ' H',Inv X pins σ' H' s' /\ Q σ' H') X.xe s
def PGs (X : Cx) (ts : List Expr) (t : TGs) : Prop:=
 ∀ (pins : List (Addr × Obj)) (s : Shared) (σ : St) (H : Hp) (vs : List V) (us : List Value) (Q : St -> Hp -> Prop),Inv X pins σ H s -> Vals vs us -> t vs σ H Q ->
  wpAny (model X.prog X.w) X.A (assignInOrder ((assignEach ts X.env).map (·.2)) us) (fun _ s' => ∃ σ' H',Inv X pins σ' H' s' /\ Q σ' H') X.xe s
section
variable {X : Cx} {pos : Pos}
def aG (i : Nat) : TG:=fun v σ H Q => Q (σ.set i (some v)) H
theorem aH {i : Nat} {x : Str} (hN : X.N.Nodup) (hi : X.N[i]? = some x) (hx : Loc X.env.scope x) (hf : X.fn x = true \/ X.env.scope.names.lookup x = some .local:=by first | exact .inl rfl | exact .inr rfl | assumption) : PG X (.Name x pos) (aG i):=by
 intro pins s σ H v u Q I r h
 exact wpAny_assign_Name (oq I hN hi hx r (fun s' I' => ⟨_,H,I',h⟩) hf)
def wg : TGs:=fun vs σ H Q => vs = [] /\ Q σ H
def vw (t : TG) (u : TGs) : TGs:=fun vs σ H Q => ∃ v r,vs = v :: r /\ t v σ H fun σ' H' => u r σ' H' Q
theorem gJ : PGs X [] wg:=by
 intro pins s σ H vs us Q I r h
 obtain ⟨e,h⟩:=h
 subst e
 cases r
 exact assignInOrder_nil ⟨σ,H,I,h⟩
theorem aU {e : Expr} {es : List Expr} {t : TG} {u : TGs} (h1 : PG X e t) (h2 : PGs X es u)
  (hs : (assignEach (e :: es) X.env).map (·.2) = assign e X.env :: (assignEach es X.env).map (·.2):=by rfl) : PGs X (e :: es) (vw t u):=by
 intro pins s σ H vs us Q I r h
 obtain ⟨v,vr,e1,h⟩:=h
 subst e1
 cases r with
 | cons r rr =>
  rw [hs]
  refine assignInOrder_cons (thn (h1 pins s σ H _ _ _ I r h) fun _ s1 ⟨σ1,H1,I1,q1⟩ => ?_)
  exact h2 pins s1 σ1 H1 _ _ Q I1 rr q1
def wj (K : PySem.W.Frag) (n : Nat) (t : TGs) : TG:=fun v σ H Q => ∃ a xs,v = .ref a /\ SqT K H a xs /\ xs.length = n /\ t xs σ H Q
theorem vi {es : List Expr} {k : Nat} {t : TGs} {n : Nat} (hc : X.calm = true) (h : PGs X es t)
  (hn : (assignEach es X.env).length = n:=by rfl) (hst : (assignEach es X.env).findIdx? (·.1) = none:=by rfl) : PG X (.Tuple es k pos) (wj X.K n t):=by
 intro pins s σ H v u Q I r hw
 obtain ⟨a,xs,e1,hq,hl,hw⟩:=hw
 subst e1
 cases r
 obtain ⟨its,rv,ht,hz⟩:=I.tuple hq
 refine assign_Tuple_tuple (I.ok.hd hc) ht (by simp [hn,<- hl,rv.length]) hst fun h' hx => ?_
 have I1 : Inv X pins σ H { s with heap:=h' }:=I.kept (t' := s.toks) fun b o e => hx b o (Nat.ne_of_lt (Heap.lt_size e)) e
 exact h pins _ σ H xs _ Q I1 (by simpa using rv) hw
def mS (te : TE) (g : TG) : TS:=fun D σ H => te σ H fun x H1 => g x σ H1 D.nx
theorem mz {tg e : Expr} {te : TE} {g : TG} (he : PE X e te) (hg : PG X tg g) (hs : swapsWithSole [tg] e pos.line X.env = pure false:=by rfl) (hw : swappedStores [tg] e X.env = pure none:=by rfl)
  (h1 : (assignEach [tg] X.env).map (·.2) = [assign tg X.env]:=by rfl) : PS X (.Assign [tg] e pos) (mS te g):=by
 intro pins s σ H D I h
 refine wpAny_Assign_stores (thn (he pins s σ H _ I h) fun v s1 ⟨x,H1,I1,r1,q1⟩ => ?_) hs hw
 rw [h1]
 exact thn (hg pins s1 σ H1 x v _ I1 r1 q1) fun _ s2 q => q
theorem az {i : Nat} {x : Str} {e : Expr} {te : TE} {pos' : Pos} (hN : X.N.Nodup) (hi : X.N[i]? = some x) (hx : Loc X.env.scope x) (he : PE X e te) (hs : swapsWith e (some (.Name x pos')) pos.line X.env = pure false:=by rfl) (hf : X.fn x = true \/ X.env.scope.names.lookup x = some .local:=by first | exact .inl rfl | exact .inr rfl | assumption) :
  PS X (.Assign [.Name x pos'] e pos) (mS te (aG i)):=by
 intro pins s σ H D I h
 refine wpAny_Assign_Name (thn (he pins s σ H _ I h) fun v s1 ⟨y,H1,I1,r1,q1⟩ => ?_) hs
 exact oq I1 hN hi hx r1 (fun s2 I2 => ⟨_,H1,I2,q1⟩) hf
end
section
variable {X : Cx} {pos : Pos}
def mT (c : TT) (tb : TS) : TS:=fun D σ H => ∃ W : Nat -> St -> Hp -> Prop,(∃ m,W m σ H) /\ ∀ m σ H,W m σ H ->
 c σ H fun b H1 => if b = true then ∃ N : St -> Hp -> Prop,(∀ σ' H',N σ' H' -> ∃ m',m' < m /\ W m' σ' H') /\ tb { D with nx:=N,ct:=N,bk:=D.nx } σ H1 else D.nx σ H1
theorem jB {c : Expr} {body : List Stmt} {tc : TT} {tb : TS} (hp : PassesOwn (model X.prog X.w) X.A X.env X.xe) (hc : PT X c tc) (hb : PSs X body tb) : PS X (.While c body [] pos) (mT tc tb):=by
 intro pins s σ H D I h
 obtain ⟨W,⟨m0,w0⟩,turn⟩:=h
 refine wpAny_While (codeAny_whileLoop (fun n s' => ∃ σ' H',Inv X pins σ' H' s' /\ W n σ' H') ?_ m0 ⟨σ,H,I,w0⟩)
 rintro n s1 ⟨σ1,H1,I1,w1⟩
 refine wpAny_passesOwn hp (thn (hc pins s1 σ1 H1 _ I1 (turn n σ1 H1 w1)) fun b s2 ⟨H2,I2,q2⟩ => ?_)
 cases b with
 | true =>
  obtain ⟨N,hN,q2⟩:=q2
  rw [if_pos rfl]
  refine wpAny_passesOwn hp (thn (hb pins s2 σ1 H2 _ I2 q2) fun f s3 q3 => ?_)
  cases f with
  | next =>
   obtain ⟨σ3,H3,I3,n3⟩:=q3
   obtain ⟨m',hm,w3⟩:=hN σ3 H3 n3
   exact ⟨m',hm,σ3,H3,I3,w3⟩
  | cont =>
   obtain ⟨σ3,H3,I3,n3⟩:=q3
   obtain ⟨m',hm,w3⟩:=hN σ3 H3 n3
   exact ⟨m',hm,σ3,H3,I3,w3⟩
  | brk => exact q3
  | ret v => exact q3
 | false =>
  rw [if_neg Bool.false_ne_true]
  exact wpAny_execs_nil ⟨σ1,H2,I2,q2⟩
end
structure It where
 go : Nat -> Hp -> Prop
 yld : Nat -> Hp -> V -> Hp -> Prop
 stop : Nat -> Hp -> Prop
def fP (X : Cx) (pins : List (Addr × Obj)) (H : Hp) (b : Addr) : Prop:=
 H b = none /\ b ≠ X.env.locals /\ b ∉ X.fs /\ (b ∈ X.ex \/ X.s₀.heap.objs.size <= b) /\ (∀ x c,X.env.cells.lookup x = some c -> c ≠ b) /\ ∀ p ∈ X.pn ++ pins,p.1 ≠ b
theorem Inv.fpOk {X : Cx} {pins : List (Addr × Obj)} {σ : St} {H H' : Hp} {s : Shared} {b : Addr} (I : Inv X pins σ H s) (hb : s.heap.objs.size <= b) (hn : H' b = none) : fP X pins H' b:=by
 refine ⟨hn,Nat.ne_of_gt (Nat.lt_of_lt_of_le I.lt hb),I.nofs hb,.inr (Nat.le_trans I.sz hb),fun x c e z => ?_,fun p hp z => ?_⟩
 ·obtain ⟨v,q⟩:=I.cell x c e
  exact absurd (Nat.lt_of_lt_of_le q.lt (by rw [z]; exact hb)) (Nat.lt_irrefl _)
 ·exact absurd (Nat.lt_of_lt_of_le (Heap.lt_size (I.pin p hp).1) (by rw [z]; exact hb)) (Nat.lt_irrefl _)
structure Turn (P : Program) (w : World) (K : PySem.W.Frag) (tg : Expr) (J : It) (fp : List Addr) (it : Addr) (tn : Nat -> Heap -> Prop) : Prop where
 mem : it ∈ fp
 obj : ∀ i h,tn i h -> ∀ b ∈ fp,∃ o,h.get? b = some o /\ ∀ v,o.data ≠ .cell v
 keep : ∀ i h h',tn i h -> (∀ b ∈ fp,∀ o,h.get? b = some o -> h'.get? b = some o) -> tn i h'
 item : ∀ (X : Cx),X.prog = P -> X.w = w -> X.K = K -> X.calm = true -> ∀ (i : Nat) (pins : List (Addr × Obj)) (s : Shared) (σ : St) (H : Hp) (E : Value -> Shared -> Prop),Inv X pins σ H s -> (∀ b ∈ fp,fP X pins H b) -> tn i s.heap -> J.go i H ->
  wpAny (model P w) X.A (pyNext (.ref it)) (fun r s1 => ∃ u,r = some u /\
   wpAny (model P w) X.A (letOwnedTupleGo tg (.ref it) u) (fun _ s2 => ∃ x H',Inv X pins σ H' s2 /\ RelV x u /\ J.yld i H x H' /\ tn (i + 1) s2.heap /\ ∀ b ∈ fp,H' b = none) E s1) E s
 done : ∀ (X : Cx),X.prog = P -> X.w = w -> X.K = K -> X.calm = true -> ∀ (i : Nat) (pins : List (Addr × Obj)) (s : Shared) (σ : St) (H : Hp) (E : Value -> Shared -> Prop),Inv X pins σ H s -> (∀ b ∈ fp,fP X pins H b) -> tn i s.heap -> J.stop i H ->
  wpAny (model P w) X.A (pyNext (.ref it)) (fun r s1 => r = none /\ Inv X pins σ H s1) E s
 self : ∀ (A : Around) (i : Nat) (s : Shared) (Q : Value -> Shared -> Prop) (E : Value -> Shared -> Prop),tn i s.heap -> Q (.ref it) s -> wpAny (model P w) A (pyIter (.ref it)) Q E s
abbrev TI:=St -> Hp -> (It -> Hp -> Prop) -> Prop
def PIE (X : Cx) (pins : List (Addr × Obj)) (σ : St) (tg : Expr) (R : It -> Hp -> Prop) (itv : Value) (s2 : Shared) : Prop:=
 ∃ (it : Addr) (fp : List Addr) (tn : Nat -> Heap -> Prop) (J : It) (H' : Hp),itv = .ref it /\ Inv X pins σ H' s2 /\ Turn X.prog X.w X.K tg J fp it tn /\ tn 0 s2.heap /\ (∀ b ∈ fp,fP X pins H' b) /\ R J H'
def PI (X : Cx) (tg iter : Expr) (wi : TI) : Prop:=
 ∀ (pins : List (Addr × Obj)) (s : Shared) (σ : St) (H : Hp) (R : It -> Hp -> Prop),Inv X pins σ H s -> wi σ H R ->
  wpAny (model X.prog X.w) X.A (eval iter X.env) (fun v s1 => wpAny (model X.prog X.w) X.A (pyIter v) (PIE X pins σ tg R) X.xe s1) X.xe s
theorem rT {M : Model} {A : Around} {E : Value -> Shared -> Prop} {s : Shared} {tg : Expr} {it : Addr} {u : Value} {o : Obj} {n : String} {vs : Array Value} {Q : Unit -> Shared -> Prop} (ho : s.heap.get? it = some o) (hc : o.cls = .type n) (hd : o.data = .fields vs)
  (hn : ["enumerate","zip","dict_itemiterator","dict_reverseitemiterator","odict_iterator","itertools.zip_longest","itertools.pairwise"].contains n = false) (hQ : Q () s) : wpAny M A (letOwnedTupleGo tg (.ref it) u) Q E s:=by
 unfold letOwnedTupleGo
 cases tg <;> first
  | exact wpAny_pure hQ
  | (cases u <;> first
    | exact wpAny_pure hQ
    | (refine wpAny_bind (wpAny_load ho ?_)
       rw [hc,hd]
       show wpAny M A (if (["enumerate","zip","dict_itemiterator","dict_reverseitemiterator","odict_iterator","itertools.zip_longest","itertools.pairwise"].contains n && vs[0]? == some (rawInt _)) = true then _ else _) Q E s
       rw [if_neg (by intro h; rw [hn,Bool.false_and] at h; cases h)]
       exact wpAny_pure hQ))
def Itl (K : PySem.W.Frag) (a : Addr) : It:=
 ⟨fun i H => ∃ xs x,SqL K H a xs /\ xs[i]? = some x,fun i H x H' => H' = H /\ ∀ xs,SqL K H a xs -> xs[i]? = some x,fun i H => ∃ xs,SqL K H a xs /\ xs.length <= i⟩
def Itt (K : PySem.W.Frag) (a : Addr) : It:=
 ⟨fun i H => ∃ xs x,SqT K H a xs /\ xs[i]? = some x,fun i H x H' => H' = H /\ ∀ xs,SqT K H a xs -> xs[i]? = some x,fun i H => ∃ xs,SqT K H a xs /\ xs.length <= i⟩
def Itr (lo : Int) (n : Nat) : It:=⟨fun i _ => i < n,fun i H x H' => H' = H /\ x = .int (lo + i),fun i _ => n <= i⟩
theorem rk {P : Program} {w : World} {K : PySem.W.Frag} {tg : Expr} (a it : Addr) : Turn P w K tg (Itl K a) [it] it (fun i h => h.IsListIter it a i) where
 mem:=by simp
 obj:=fun i h st b hb => by
  have e : b = it:=by simpa using hb
  subst e
  obtain ⟨o,e,c,d⟩:=st
  exact ⟨o,e,fun v z => by rw [d] at z; cases z⟩
 keep:=fun i h h' st k => st.at fun o e => k it (by simp) o e
 item:=by
  intro X hP hw hK hc i pins s σ H E I hf st hg
  subst hP hw hK
  obtain ⟨xs,x,hq,hx⟩:=hg
  obtain ⟨its,rv,p,hz⟩:=I.list hq
  obtain ⟨u,hu,ru⟩:=rv.get hx
  obtain ⟨f0,f1,f2,f3,f4,f5⟩:=hf it (by simp)
  refine wpAny_pyNext_list_item st p.isList (x:=u) (by simpa using hu) fun h' st' sb => ?_
  have I1 : Inv X pins σ H { s with heap:=h' }:=I.turned (t' := s.toks) (fun b o hb e => (sb.2 b hb).trans e) f0 f1 f3 f4 f5
  obtain ⟨o,e,c,d⟩:=id st'
  exact ⟨u,rfl,rT (s:={ s with heap:=h' }) e c d (by decide) ⟨x,H,I1,ru,⟨rfl,fun ys hy => by rw [I.list_inj hy hq]; exact hx⟩,st',fun b hb => (hf b hb).1⟩⟩
 done:=by
  intro X hP hw hK hc i pins s σ H E I hf st hg
  subst hP hw hK
  obtain ⟨xs,hq,hx⟩:=hg
  obtain ⟨its,rv,p,hz⟩:=I.list hq
  obtain ⟨f0,f1,f2,f3,f4,f5⟩:=hf it (by simp)
  have hl:=rv.length
  exact wpAny_pyNext_list_end (I.ok.hd hc) st p.isList (by simp; omega) fun h' eb => ⟨rfl,I.turned (t' := s.toks) (fun b o hb e => eb b o hb e) f0 f1 f3 f4 f5⟩
 self:=fun _ _ _ _ _ st h => wpAny_pyIter_listiter st h
theorem pS {P : Program} {w : World} {K : PySem.W.Frag} {tg : Expr} (a it : Addr) : Turn P w K tg (Itt K a) [it] it (fun i h => h.IsTupleIter it a i) where
 mem:=by simp
 obj:=fun i h st b hb => by
  have e : b = it:=by simpa using hb
  subst e
  obtain ⟨o,e,c,d⟩:=st
  exact ⟨o,e,fun v z => by rw [d] at z; cases z⟩
 keep:=fun i h h' st k => st.at fun o e => k it (by simp) o e
 item:=by
  intro X hP hw hK hc i pins s σ H E I hf st hg
  subst hP hw hK
  obtain ⟨xs,x,hq,hx⟩:=hg
  obtain ⟨its,rv,p,hz⟩:=I.tuple hq
  obtain ⟨u,hu,ru⟩:=rv.get hx
  obtain ⟨f0,f1,f2,f3,f4,f5⟩:=hf it (by simp)
  refine wpAny_pyNext_tuple_item st (show s.heap.IsTuple a its.toArray from p) (x:=u) (by simpa using hu) fun h' st' sb => ?_
  have I1 : Inv X pins σ H { s with heap:=h' }:=I.turned (t' := s.toks) (fun b o hb e => (sb.2 b hb).trans e) f0 f1 f3 f4 f5
  obtain ⟨o,e,c,d⟩:=id st'
  exact ⟨u,rfl,rT (s:={ s with heap:=h' }) e c d (by decide) ⟨x,H,I1,ru,⟨rfl,fun ys hy => by rw [I.tuple_inj hy hq]; exact hx⟩,st',fun b hb => (hf b hb).1⟩⟩
 done:=by
  intro X hP hw hK hc i pins s σ H E I hf st hg
  subst hP hw hK
  obtain ⟨xs,hq,hx⟩:=hg
  obtain ⟨its,rv,p,hz⟩:=I.tuple hq
  obtain ⟨f0,f1,f2,f3,f4,f5⟩:=hf it (by simp)
  have hl:=rv.length
  exact wpAny_pyNext_tuple_end (I.ok.hd hc) st (show s.heap.IsTuple a its.toArray from p) (by simp; omega) fun h' eb => ⟨rfl,I.turned (t' := s.toks) (fun b o hb e => eb b o hb e) f0 f1 f3 f4 f5⟩
 self:=fun _ _ _ _ _ st h => wpAny_pyIter_tupleiter st h
theorem pR {P : Program} {w : World} {K : PySem.W.Frag} {tg : Expr} (it : Addr) (lo : Int) (n : Nat) : Turn P w K tg (Itr lo n) [it] it (fun i h => IsRangeIter h it (lo + (i : Nat) * 1) ((n : Int) - (i : Nat)) 1) where
 mem:=by simp
 obj:=fun i h st b hb => by
  have e : b = it:=by simpa using hb
  subst e
  exact ⟨_,st,fun v z => by
   have z' : Data.fields _ = Data.cell v:=z
   cases z'⟩
 keep:=fun i h h' st k => k it (by simp) _ st
 item:=by
  intro X hP hw hK hc i pins s σ H E I hf st hg
  subst hP hw hK
  obtain ⟨f0,f1,f2,f3,f4,f5⟩:=hf it (by simp)
  have W:=Walks.range (prog:=X.prog) (w:=X.w) (I.ok.hd hc) it lo 1 n
  refine W.item i s _ _ hg st fun v h' tk hv st' kk => ?_
  obtain ⟨t,rfl⟩:=hv
  have I1 : Inv X pins σ H { s with heap:=h',toks:=tk }:=I.turned (fun b o hb e => kk b o (by simpa using hb) e) f0 f1 f3 f4 f5
  refine ⟨_,rfl,rT (s:={ s with heap:=h',toks:=tk }) (n := "range_iterator") st' rfl rfl (by decide) ⟨.int (lo + i),H,I1,⟨t,?_⟩,⟨rfl,rfl⟩,st',fun b hb => (hf b hb).1⟩⟩
  rw [Int.mul_one]
 done:=by
  intro X hP hw hK hc i pins s σ H E I hf st hg
  subst hP hw hK
  obtain ⟨f0,f1,f2,f3,f4,f5⟩:=hf it (by simp)
  exact wpAny_pyNext_range_end (I.ok.hd hc) st (by have : n <= i:=hg; omega) fun h' eb => ⟨rfl,I.turned (t' := s.toks) (fun b o hb e => eb b o hb e) f0 f1 f3 f4 f5⟩
 self:=fun _ _ _ _ _ st h => wpAny_pyIter_rangeiter st h
end L2
namespace L2
open PySem PySem.Spec PyProof.Rows
section
variable {X : Cx} {tg : Expr}
def vx (K : PySem.W.Frag) (tl : TE) : TI:=fun σ H R => tl σ H fun x H1 => ∃ a,x = .ref a /\ (∃ xs,SqL K H1 a xs) /\ R (Itl K a) H1
def wk (K : PySem.W.Frag) (tl : TE) : TI:=fun σ H R => tl σ H fun x H1 => ∃ a,x = .ref a /\ (∃ xs,SqT K H1 a xs) /\ R (Itt K a) H1
theorem gK {l : Expr} {tl : TE} (hl : PE X l tl) : PI X tg l (vx X.K tl):=by
 intro pins s σ H R I h
 refine thn (hl pins s σ H _ I h) fun v s1 ⟨x,H1,I1,r1,q1⟩ => ?_
 obtain ⟨a,e,⟨xs,hq⟩,q⟩:=q1
 subst e
 cases r1
 obtain ⟨its,rv,p,hz⟩:=I1.list hq
 refine wpAny_pyIter_list p.isList ?_
 refine ⟨s1.heap.objs.size,[s1.heap.objs.size],_,_,H1,rfl,I1.kept (t' := s1.toks) fun b o e => Heap.get?_push_of_some _ e,rk a _,⟨_,Heap.get?_push_size _ rfl,rfl,rfl⟩,fun b hb => ?_,q⟩
 have e : b = s1.heap.objs.size:=by simpa using hb
 subst e
 exact I1.fpOk (Nat.le_refl _) (I1.hok.fresh (Nat.le_refl _))
theorem ml {l : Expr} {tl : TE} (hl : PE X l tl) : PI X tg l (wk X.K tl):=by
 intro pins s σ H R I h
 refine thn (hl pins s σ H _ I h) fun v s1 ⟨x,H1,I1,r1,q1⟩ => ?_
 obtain ⟨a,e,⟨xs,hq⟩,q⟩:=q1
 subst e
 cases r1
 obtain ⟨its,rv,p,hz⟩:=I1.tuple hq
 refine wpAny_pyIter_tuple (show s1.heap.IsTuple a its.toArray from p) ?_
 refine ⟨s1.heap.objs.size,[s1.heap.objs.size],_,_,H1,rfl,I1.kept (t' := s1.toks) fun b o e => Heap.get?_push_of_some _ e,pS a _,⟨_,Heap.get?_push_size _ rfl,rfl,rfl⟩,fun b hb => ?_,q⟩
 have e : b = s1.heap.objs.size:=by simpa using hb
 subst e
 exact I1.fpOk (Nat.le_refl _) (I1.hok.fresh (Nat.le_refl _))
theorem sH {pins : List (Addr × Obj)} {σ : St} {H : Hp} {s : Shared} {R : It -> Hp -> Prop} {E : Value -> Shared -> Prop} {lo hi : Int} {t u v : Tok} {tk : Nat} (I : Inv X pins σ H s) (h1 : -(2 ^ 62) <= lo) (h2 : lo < 2 ^ 62) (h3 : -(2 ^ 62) <= hi) (h4 : hi < 2 ^ 62)
  (q : R (Itr lo (hi - lo).toNat) H) : wpAny (model X.prog X.w) X.A (pyIter (.ref s.heap.objs.size)) (PIE X pins σ tg R) E { s with heap:=s.heap.push { cls:=.type "range",data:=.fields #[.int lo t,.int hi u,.int 1 v] },toks:=tk }:=by
 refine wpAny_pyIter_range (IsRange.new ..) (small_one h1 h2 h3 h4) ?_
 have I1 : Inv X pins σ H { s with heap:=s.heap.push { cls:=.type "range",data:=.fields #[.int lo t,.int hi u,.int 1 v] },toks:=tk }:=I.kept fun b o e => Heap.get?_push_of_some _ e
 refine ⟨(s.heap.push { cls:=.type "range",data:=.fields #[.int lo t,.int hi u,.int 1 v] }).objs.size,[(s.heap.push { cls:=.type "range",data:=.fields #[.int lo t,.int hi u,.int 1 v] }).objs.size],_,_,H,rfl,
  I1.kept (t' := tk) fun b o e => Heap.get?_push_of_some _ e,pR _ lo (hi - lo).toNat,?_,fun b hb => ?_,q⟩
 ·have e1 : lo + ((0 : Nat) : Int) * 1 = lo:=by simp
  have e2 : (((hi - lo).toNat : Nat) : Int) - ((0 : Nat) : Int) = Builtin.Range.rangeSize lo hi 1:=by rw [rangeSize_one]; split <;> omega
  show IsRangeIter _ _ (lo + ((0 : Nat) : Int) * 1) ((((hi - lo).toNat : Nat) : Int) - ((0 : Nat) : Int)) 1
  rw [e1,e2]
  exact Heap.get?_push_size _ rfl
 ·have e : b = (s.heap.push { cls:=.type "range",data:=.fields #[.int lo t,.int hi u,.int 1 v] }).objs.size:=by simpa using hb
  subst e
  exact I1.fpOk (Nat.le_refl _) (I1.hok.fresh (Nat.le_refl _))
def vy (ta : TA) : TI:=fun σ H R => ta σ H fun vs H1 => ∃ j : Int,vs = [.int j] /\ -(2 ^ 62) <= j /\ j < 2 ^ 62 /\ R (Itr 0 j.toNat) H1
theorem kI {a : Expr} {ta : TA} {p pos : Pos} (hg : Gl X "range") (hm : X.mg "range" = none) (ha : PA X [a] ta) (hs : starEach [a] X.env = [(false,eval a X.env)]:=by rfl) : PI X tg (.Call (.Name "range" p) [a] [] pos) (vy ta):=by
 intro pins s σ H R I h
 refine Call_ (hV I hg hm boot_range (PyProof.Rows.callWith_type1 (thn (ha pos pins s σ H _ I h) fun us s1 ⟨vs,H1,I1,r1,q1⟩ => ?_) hs rfl))
 obtain ⟨j,e,q1,q2,q⟩:=q1
 subst e
 cases r1 with
 | cons r rr =>
  cases rr
  obtain ⟨t,rfl⟩:=r
  exact call_range_1 (sH I1 (by omega) (by omega) q1 q2 (by simpa using q))
def pP (wi : TI) (g : TG) (tb : TS) : TS:=fun D σ H => wi σ H fun J H1 => ∃ W : Nat -> Nat -> St -> Hp -> Prop,(∃ m,W 0 m σ H1) /\ ∀ i m σ H,W i m σ H ->
 (J.stop i H /\ D.nx σ H) \/ (J.go i H /\ ∃ N : St -> Hp -> Prop,(∀ σ' H',N σ' H' -> ∃ m',m' < m /\ W (i + 1) m' σ' H') /\ ∀ x H',J.yld i H x H' -> g x σ H' fun σ2 H2 => tb { D with nx:=N,ct:=N,bk:=D.nx } σ2 H2)
def mn (fp : List Addr) (h : Heap) : List (Addr × Obj):=fp.filterMap fun b => (h.get? b).map fun o => (b,o)
theorem bK {fp : List Addr} {h : Heap} {b : Addr} {o : Obj} (hb : b ∈ fp) (e : h.get? b = some o) : (b,o) ∈ mn fp h:=List.mem_filterMap.mpr ⟨b,hb,by rw [e]; rfl⟩
theorem qY {fp : List Addr} {h : Heap} {p : Addr × Obj} (hp : p ∈ mn fp h) : p.1 ∈ fp /\ h.get? p.1 = some p.2:=by
 obtain ⟨b,hb,e⟩:=List.mem_filterMap.mp hp
 cases q : h.get? b with
 | none => rw [q] at e; cases e
 | some o =>
  rw [q] at e
  have e' : (b,o) = p:=Option.some.inj e
  subst e'
  exact ⟨hb,q⟩
theorem Inv.pinned {pins : List (Addr × Obj)} {σ : St} {H : Hp} {s : Shared} {fp : List Addr} (I : Inv X pins σ H s) (hf : ∀ b ∈ fp,fP X pins H b) (ho : ∀ b ∈ fp,∃ o,s.heap.get? b = some o /\ ∀ v,o.data ≠ .cell v) : Inv X (pins ++ mn fp s.heap) σ H s:=
 I.pins_of fun p hp => (List.mem_append.mp hp).elim (fun z => I.pin p (List.mem_append_right _ z)) fun z => by
  obtain ⟨hb,e⟩:=qY z
  obtain ⟨f0,f1,f2,_⟩:=hf p.1 hb
  obtain ⟨o,e',d⟩:=ho p.1 hb
  rw [e] at e'; cases e'
  exact ⟨e,f0,f1,f2,d⟩
theorem Inv.unpinned {pins pl : List (Addr × Obj)} {σ : St} {H : Hp} {s : Shared} (I : Inv X (pins ++ pl) σ H s) : Inv X pins σ H s:=I.pins_of fun p hp => I.pin p (List.mem_append_right _ (List.mem_append_left _ hp))
theorem iq {iter : Expr} {body : List Stmt} {wi : TI} {g : TG} {tb : TS} {pos : Pos} (hp : PassesOwn (model X.prog X.w) X.A X.env X.xe) (hc : X.calm = true) (hi : PI X tg iter wi) (hg : PG X tg g) (hb : PSs X body tb)
  (hs : ∀ x,foldedSetIterable iter X.env x = pure x:=by intro _; rfl) : PS X (.For tg iter body [] pos) (pP wi g tb):=by
 intro pins s σ H D I h
 refine wpAny_For (thn (hi pins s σ H _ I h) fun v s1 h1 => thn h1 fun itv s2 h2 => ?_) hs
 obtain ⟨it,fp,tn,J,H2,e,I2,T,st2,f2,W,⟨m0,w0⟩,turn⟩:=h2
 subst e
 have stat : ∀ {H' : Hp},(∀ b ∈ fp,H' b = none) -> ∀ b ∈ fp,fP X pins H' b:=fun hn b hb => ⟨hn b hb,(f2 b hb).2⟩
 refine codeAny_forLoop_any (fun n s' => ∃ i σ' H',Inv X pins σ' H' s' /\ tn i s'.heap /\ (∀ b ∈ fp,H' b = none) /\ W i n σ' H') ?_ m0 ⟨0,σ,H2,I2,st2,fun b hb => (f2 b hb).1,w0⟩
 rintro n s3 ⟨i,σ3,H3,I3,st3,fr3,w3⟩
 rcases turn i n σ3 H3 w3 with ⟨stop,qn⟩ | ⟨go,N,hN,step⟩
 ·refine wpAny_passesOwn hp (thn (T.done X rfl rfl rfl hc i pins s3 σ3 H3 X.xe I3 (stat fr3) st3 stop) fun r s4 ⟨hr,I4⟩ => ?_)
  subst hr
  exact wpAny_execs_nil ⟨σ3,H3,I4,qn⟩
 ·refine wpAny_passesOwn hp (thn (T.item X rfl rfl rfl hc i pins s3 σ3 H3 X.xe I3 (stat fr3) st3 go) fun r s4 ⟨u,hr,h4⟩ => ?_)
  subst hr
  refine wpAny_passesOwn hp (thn h4 fun _ s5 ⟨x,H5,I5,r5,y5,st5,fr5⟩ => ?_)
  have I5' := I5.pinned (stat fr5) (T.obj _ _ st5)
  refine wpAny_passesOwn hp (thn (hg _ s5 σ3 H5 x u _ I5' r5 (step x H5 y5)) fun _ s6 ⟨σ6,H6,I6,q6⟩ => ?_)
  refine wpAny_passesOwn hp (thn (hb _ s6 σ6 H6 _ I6 q6) fun f s7 q7 => ?_)
  have again : ∀ {σ7 : St} {H7 : Hp},Inv X (pins ++ mn fp s5.heap) σ7 H7 s7 -> N σ7 H7 -> ∃ m,m < n /\ ∃ i σ' H',Inv X pins σ' H' s7 /\ tn i s7.heap /\ (∀ b ∈ fp,H' b = none) /\ W i m σ' H' := fun {σ7 H7} I7 n7 => by
   obtain ⟨m',hm,w7⟩:=hN σ7 H7 n7
   refine ⟨m',hm,i + 1,σ7,H7,I7.unpinned,T.keep _ _ _ st5 fun b hb o e => (I7.pin (b,o) (List.mem_append_right _ (List.mem_append_right _ (bK hb e)))).1,fun b hb => ?_,w7⟩
   obtain ⟨o,e,d⟩:=T.obj _ _ st5 b hb
   exact (I7.pin (b,o) (List.mem_append_right _ (List.mem_append_right _ (bK hb e)))).2.1
  cases f with
  | next => obtain ⟨σ7,H7,I7,n7⟩:=q7; exact again I7 n7
  | cont => obtain ⟨σ7,H7,I7,n7⟩:=q7; exact again I7 n7
  | brk => obtain ⟨σ7,H7,I7,q7⟩:=q7; exact ⟨σ7,H7,I7.unpinned,q7⟩
  | ret v => obtain ⟨x7,σ7,H7,I7,r7,q7⟩:=q7; exact ⟨x7,σ7,H7,I7.unpinned,r7,q7⟩
end
theorem rR {K : PySem.W.Frag} {a : Addr} {xs : List V} {g : TG} {tb : TS} {D : Ends} {σ : St} {H : Hp} (Pv : Nat -> St -> Hp -> Prop) (h0 : Pv 0 σ H) (hl : ∀ i σ H,i <= xs.length -> Pv i σ H -> SqL K H a xs)
  (hs : ∀ i x σ H,xs[i]? = some x -> Pv i σ H -> g x σ H fun σ2 H2 => tb { D with nx:=Pv (i + 1),ct:=Pv (i + 1),bk:=D.nx } σ2 H2) (hd : ∀ σ H,Pv xs.length σ H -> D.nx σ H) :
  ∃ W : Nat -> Nat -> St -> Hp -> Prop,(∃ m,W 0 m σ H) /\ ∀ i m σ H,W i m σ H ->
   ((Itl K a).stop i H /\ D.nx σ H) \/ ((Itl K a).go i H /\ ∃ N : St -> Hp -> Prop,(∀ σ' H',N σ' H' -> ∃ m',m' < m /\ W (i + 1) m' σ' H') /\ ∀ x H',(Itl K a).yld i H x H' -> g x σ H' fun σ2 H2 => tb { D with nx:=N,ct:=N,bk:=D.nx } σ2 H2):=by
 refine ⟨fun i m σ H => m = xs.length - i /\ i <= xs.length /\ Pv i σ H,⟨xs.length,by simp,Nat.zero_le _,h0⟩,?_⟩
 rintro i m σ H ⟨rfl,hi,p⟩
 have q:=hl i σ H hi p
 by_cases hlt : i < xs.length
 ·refine .inr ⟨⟨xs,xs[i],q,by simp [hlt]⟩,Pv (i + 1),fun σ' H' p' => ⟨xs.length - (i + 1),by omega,rfl,hlt,p'⟩,fun x H' y => ?_⟩
  obtain ⟨e,y⟩:=y
  subst e
  exact hs i x σ _ (y xs q) p
 ·have e : i = xs.length:=by omega
  subst e
  exact .inl ⟨⟨xs,q,Nat.le_refl _⟩,hd σ H p⟩
theorem p8 {K : PySem.W.Frag} {a : Addr} {xs : List V} {g : TG} {tb : TS} {D : Ends} {σ : St} {H : Hp} (Pv : Nat -> St -> Hp -> Prop) (h0 : Pv 0 σ H) (hl : ∀ i σ H,i <= xs.length -> Pv i σ H -> SqT K H a xs)
  (hs : ∀ i x σ H,xs[i]? = some x -> Pv i σ H -> g x σ H fun σ2 H2 => tb { D with nx:=Pv (i + 1),ct:=Pv (i + 1),bk:=D.nx } σ2 H2) (hd : ∀ σ H,Pv xs.length σ H -> D.nx σ H) :
  ∃ W : Nat -> Nat -> St -> Hp -> Prop,(∃ m,W 0 m σ H) /\ ∀ i m σ H,W i m σ H ->
   ((Itt K a).stop i H /\ D.nx σ H) \/ ((Itt K a).go i H /\ ∃ N : St -> Hp -> Prop,(∀ σ' H',N σ' H' -> ∃ m',m' < m /\ W (i + 1) m' σ' H') /\ ∀ x H',(Itt K a).yld i H x H' -> g x σ H' fun σ2 H2 => tb { D with nx:=N,ct:=N,bk:=D.nx } σ2 H2):=by
 refine ⟨fun i m σ H => m = xs.length - i /\ i <= xs.length /\ Pv i σ H,⟨xs.length,by simp,Nat.zero_le _,h0⟩,?_⟩
 rintro i m σ H ⟨rfl,hi,p⟩
 have q:=hl i σ H hi p
 by_cases hlt : i < xs.length
 ·refine .inr ⟨⟨xs,xs[i],q,by simp [hlt]⟩,Pv (i + 1),fun σ' H' p' => ⟨xs.length - (i + 1),by omega,rfl,hlt,p'⟩,fun x H' y => ?_⟩
  obtain ⟨e,y⟩:=y
  subst e
  exact hs i x σ _ (y xs q) p
 ·have e : i = xs.length:=by omega
  subst e
  exact .inl ⟨⟨xs,q,Nat.le_refl _⟩,hd σ H p⟩
theorem kE {lo : Int} {n : Nat} {g : TG} {tb : TS} {D : Ends} {σ : St} {H : Hp} (Pv : Nat -> St -> Hp -> Prop) (h0 : Pv 0 σ H)
  (hs : ∀ i σ H,i < n -> Pv i σ H -> g (.int (lo + i)) σ H fun σ2 H2 => tb { D with nx:=Pv (i + 1),ct:=Pv (i + 1),bk:=D.nx } σ2 H2) (hd : ∀ σ H,Pv n σ H -> D.nx σ H) :
  ∃ W : Nat -> Nat -> St -> Hp -> Prop,(∃ m,W 0 m σ H) /\ ∀ i m σ H,W i m σ H ->
   ((Itr lo n).stop i H /\ D.nx σ H) \/ ((Itr lo n).go i H /\ ∃ N : St -> Hp -> Prop,(∀ σ' H',N σ' H' -> ∃ m',m' < m /\ W (i + 1) m' σ' H') /\ ∀ x H',(Itr lo n).yld i H x H' -> g x σ H' fun σ2 H2 => tb { D with nx:=N,ct:=N,bk:=D.nx } σ2 H2):=by
 refine ⟨fun i m σ H => m = n - i /\ i <= n /\ Pv i σ H,⟨n,by simp,Nat.zero_le _,h0⟩,?_⟩
 rintro i m σ H ⟨rfl,hi,p⟩
 by_cases hlt : i < n
 ·refine .inr ⟨hlt,Pv (i + 1),fun σ' H' p' => ⟨n - (i + 1),by omega,rfl,hlt,p'⟩,fun x H' y => ?_⟩
  obtain ⟨e,y⟩:=y
  subst e y
  exact hs i σ _ hlt p
 ·have e : i = n:=by omega
  subst e
  exact .inl ⟨Nat.le_refl _,hd σ H p⟩
end L2
namespace L2
open PySem PySem.Spec PyProof.Rows
abbrev R2:=V -> V -> Hp -> VK -> Prop
def OpR (X : Cx) (f : Value -> Value -> Sem Value) (r : R2) : Prop:=
 ∀ (pins : List (Addr × Obj)) (s : Shared) (σ : St) (H : Hp) (x y : V) (v u : Value) (Q : VK),Inv X pins σ H s -> RelV x v -> RelV y u -> r x y H Q ->
  wpAny (model X.prog X.w) X.A (f v u) (EP X pins σ Q) X.xe s
def c7 (X : Cx) (f : Value) (r : List V -> Hp -> VK -> Prop) : Prop:=
 ∀ (pins : List (Addr × Obj)) (s : Shared) (σ : St) (H : Hp) (xs : List V) (us : List Value) (Q : VK),Inv X pins σ H s -> Vals xs us -> r xs H Q ->
  wpAny (model X.prog X.w) X.A (call f us) (EP X pins σ Q) X.xe s
def wb (X : Cx) (r : V -> Hp -> (Bool -> Hp -> Prop) -> Prop) : Prop:=
 ∀ (pins : List (Addr × Obj)) (s : Shared) (σ : St) (H : Hp) (x : V) (v : Value) (Q : Bool -> Hp -> Prop),Inv X pins σ H s -> RelV x v -> r x H Q ->
  wpAny (model X.prog X.w) X.A (truthy v) (TP X pins σ Q) X.xe s
def tOp (r : R2) (ta tb : TE) : TE:=fun σ H Q => ta σ H fun x H1 => tb σ H1 fun y H2 => r x y H2 Q
def rI (C : Int -> Int -> Prop) (g : Int -> Int -> V) : R2:=fun x y H Q => ∃ i j,x = .int i /\ y = .int j /\ C i j /\ Q (g i j) H
def rI0 (g : Int -> Int -> V) : R2:=fun x y H Q => ∃ i j,x = .int i /\ y = .int j /\ Q (g i j) H
section
variable {X : Cx} {a b c : Expr} {ta tb tc : TE} {pos : Pos}
theorem uR (ha : PE X a ta) (hb : PE X b tb) {pins : List (Addr × Obj)} {s : Shared} {σ : St} {H : Hp} {R : V -> V -> Hp -> Prop} (I : Inv X pins σ H s)
  (h : ta σ H fun x H1 => tb σ H1 fun y H2 => R x y H2) {Q : Value -> Shared -> Prop} {f : Value -> Value -> Sem Value}
  (hf : ∀ v u s2 x y H2,Inv X pins σ H2 s2 -> RelV x v -> RelV y u -> R x y H2 -> wpAny (model X.prog X.w) X.A (f v u) Q X.xe s2) :
  wpAny (model X.prog X.w) X.A (eval a X.env) (fun v s₁ => wpAny (model X.prog X.w) X.A (eval b X.env) (fun u s₂ => wpAny (model X.prog X.w) X.A (f v u) Q X.xe s₂) X.xe s₁) X.xe s:=by
 refine thn (ha pins s σ H _ I h) fun v s1 ⟨x,H1,I1,r1,q1⟩ => ?_
 refine thn (hb pins s1 σ H1 _ I1 q1) fun u s2 ⟨y,H2,I2,r2,q2⟩ => ?_
 exact hf v u s2 x y H2 I2 r1 r2 q2
theorem ai {op : Operator} {r : R2} (ho : OpR X (binaryOp op) r) (ha : PE X a ta) (hb : PE X b tb) : PE X (.BinOp a op b pos) (tOp r ta tb):=by
 intro pins s σ H Q I h
 exact wpAny_BinOp (uR ha hb I h fun v u s2 x y H2 I2 rx ry q => ho pins s2 σ H2 x y v u Q I2 rx ry q)
theorem opI {f : Value -> Value -> Sem Value} {C : Int -> Int -> Prop} {g : Int -> Int -> Int}
  (rule : ∀ (i j : Int) (t u : Tok) (s : Shared) (Q : Value -> Shared -> Prop) (E : Value -> Shared -> Prop),C i j -> Q (.int (g i j) s.toks) { s with toks:=s.toks + 1 } -> wpAny (model X.prog X.w) X.A (f (.int i t) (.int j u)) Q E s) :
  OpR X f (rI C fun i j => .int (g i j)):=by
 intro pins s σ H x y v u Q I rx ry h
 obtain ⟨i,j,rfl,rfl,hc,q⟩:=h
 obtain ⟨t,rfl⟩:=rx
 obtain ⟨t',rfl⟩:=ry
 exact rule i j t t' s _ _ hc ⟨.int (g i j),H,I.tok _,⟨_,rfl⟩,q⟩
theorem vF {f : Value -> Value -> Sem Value} {g : Int -> Int -> Int}
  (rule : ∀ (i j : Int) (t u : Tok) (s : Shared) (Q : Value -> Shared -> Prop) (E : Value -> Shared -> Prop),Q (.int (g i j) s.toks) { s with toks:=s.toks + 1 } -> wpAny (model X.prog X.w) X.A (f (.int i t) (.int j u)) Q E s) :
  OpR X f (rI0 fun i j => .int (g i j)):=by
 intro pins s σ H x y v u Q I rx ry h
 obtain ⟨i,j,rfl,rfl,q⟩:=h
 obtain ⟨t,rfl⟩:=rx
 obtain ⟨t',rfl⟩:=ry
 exact rule i j t t' s _ _ ⟨.int (g i j),H,I.tok _,⟨_,rfl⟩,q⟩
theorem vE {f : Value -> Value -> Sem Value} {g : Int -> Int -> Bool}
  (rule : ∀ (i j : Int) (t u : Tok) (s : Shared) (Q : Value -> Shared -> Prop) (E : Value -> Shared -> Prop),Q (.bool (g i j)) s -> wpAny (model X.prog X.w) X.A (f (.int i t) (.int j u)) Q E s) :
  OpR X f (rI0 fun i j => .bl (g i j)):=by
 intro pins s σ H x y v u Q I rx ry h
 obtain ⟨i,j,rfl,rfl,q⟩:=h
 obtain ⟨t,rfl⟩:=rx
 obtain ⟨t',rfl⟩:=ry
 exact rule i j t t' s _ _ ⟨.bl (g i j),H,I,rfl,q⟩
def vZ (i j : Int) : Prop:=0 < j /\ j < 1073741824
def CMul (i j : Int) : Prop:=(-(2 ^ 64) < i /\ i < 2 ^ 64) \/ (-(2 ^ 64) < j /\ j < 2 ^ 64)
theorem CMul.ok {i j : Int} (h : CMul i j) : IntMulOk i j:=by
 rcases h with ⟨h1,h2⟩ | ⟨h1,h2⟩
 ·exact .of_left (intBits_le_64 h1 h2)
 ·exact .of_right (intBits_le_64 h1 h2)
theorem bf : OpR X (binaryOp .Add) (rI0 fun i j => .int (i + j)):=vF fun _ _ _ _ _ _ _ q => add_int q
theorem pw : OpR X (binaryOp .Sub) (rI0 fun i j => .int (i - j)):=vF fun _ _ _ _ _ _ _ q => sub_int q
theorem gk : OpR X (binaryOp .Mult) (rI CMul fun i j => .int (i * j)):=opI fun _ _ _ _ _ _ _ hc q => mul_int q hc.ok
theorem ba : OpR X (binaryOp .FloorDiv) (rI vZ fun i j => .int (i / j)):=opI fun i j _ _ _ _ _ hc q => by
 have h1 : (0 : Int) < j:=hc.1
 have h2 : j < 1073741824:=hc.2
 exact floordiv_int (by omega) (by rw [Int.fdiv_eq_ediv_of_nonneg i (by omega)]; exact q) (.inl (PyProof.noPylong_small (by omega)))
theorem aQ : OpR X (binaryOp .Mod) (rI (fun _ j => 0 < j) fun i j => .int (i % j)):=opI fun i j _ _ _ _ _ hc q => by
 have h1 : (0 : Int) < j:=hc
 exact mod_int' (by omega) (by rw [Int.fmod_eq_emod_of_nonneg i (by omega)]; exact q)
end
def vL : V -> V -> Bool
 | .non,.non => true | .non,.int _ => true | .int _,.non => true | .non,.bl _ => true | .bl _,.non => true | .non,.str _ => true | .str _,.non => true
 | .int _,.int _ => true | .bl _,.bl _ => true | .str _,.str _ => true | .byt _,.byt _ => true
 | .int _,.str _ => true | .str _,.int _ => true | .bl _,.str _ => true | .str _,.bl _ => true
 | _,_ => false
def rEq : R2:=fun x y H Q => vL x y = true /\ Q (.bl (decide (x = y))) H
def rNe : R2:=fun x y H Q => vL x y = true /\ Q (.bl (!decide (x = y))) H
theorem p3 {i j : Int} : decide (V.int i = V.int j) = (i == j):=by
 rw [Bool.eq_iff_iff]
 simp
theorem rM {i j : Bool} : decide (V.bl i = V.bl j) = (i == j):=by
 rw [Bool.eq_iff_iff]
 simp
theorem p5 {i j : Str} : decide (V.str i = V.str j) = (i == j):=by
 rw [Bool.eq_iff_iff]
 simp
theorem p0 {i j : Array UInt8} : decide (V.byt i = V.byt j) = (i.toList == j.toList):=by
 rw [Bool.eq_iff_iff]
 cases i
 cases j
 simp
section
variable {X : Cx} {a b c : Expr} {ta tb tc : TE} {pos : Pos}
theorem aP {pins : List (Addr × Obj)} {σ : St} {H : Hp} {s : Shared} {Q : VK} {k k' : Bool} (I : Inv X pins σ H s) (q : Q (.bl k) H) (e : k = k') : EP X pins σ Q (.bool k') s:=by
 subst e
 exact ⟨.bl k,H,I,rfl,q⟩
theorem dh : OpR X (compareOp .Eq) rEq:=by
 intro pins s σ H x y v u Q I rx ry h
 obtain ⟨hs,q⟩:=h
 cases x with
 | non =>
  cases rx
  cases y with
  | non => cases ry; exact PySem.EqNone.eq_none_none (aP I q (by simp))
  | bl j => cases ry; exact PySem.EqNone.eq_none_bool (aP I q (by simp))
  | int j => obtain ⟨t',rfl⟩:=ry; exact PySem.EqNone.eq_none_int (aP I q (by simp))
  | str j => obtain ⟨t',rfl⟩:=ry; exact PySem.EqNone.eq_none_str (aP I q (by simp))
  | _ => exact absurd (show false = true from hs) Bool.false_ne_true
 | bl i =>
  cases rx
  cases y with
  | non => cases ry; exact PySem.EqNone.eq_bool_none (aP I q (by simp))
  | bl j => cases ry; exact eq_bool (aP I q rM)
  | str j => obtain ⟨t',rfl⟩:=ry; exact PySem.EqMixed.eq_bool_str (aP I q (by simp))
  | _ => exact absurd (show false = true from hs) Bool.false_ne_true
 | int i =>
  obtain ⟨t,rfl⟩:=rx
  cases y with
  | non => cases ry; exact PySem.EqNone.eq_int_none (aP I q (by simp))
  | int j => obtain ⟨t',rfl⟩:=ry; exact eq_int (aP I q p3)
  | str j => obtain ⟨t',rfl⟩:=ry; exact PySem.EqMixed.eq_int_str (aP I q (by simp))
  | _ => exact absurd (show false = true from hs) Bool.false_ne_true
 | str i =>
  obtain ⟨t,rfl⟩:=rx
  cases y with
  | non => cases ry; exact PySem.EqNone.eq_str_none (aP I q (by simp))
  | bl j => cases ry; exact PySem.EqMixed.eq_str_bool (aP I q (by simp))
  | int j => obtain ⟨t',rfl⟩:=ry; exact PySem.EqMixed.eq_str_int (aP I q (by simp))
  | str j => obtain ⟨t',rfl⟩:=ry; exact eq_str (aP I q p5)
  | _ => exact absurd (show false = true from hs) Bool.false_ne_true
 | byt i =>
  obtain ⟨t,rfl⟩:=rx
  cases y with
  | byt j => obtain ⟨t',rfl⟩:=ry; exact PySem.W.eq_bytes (aP I q p0)
  | _ => exact absurd (show false = true from hs) Bool.false_ne_true
 | _ => cases y <;> exact absurd (show false = true from hs) Bool.false_ne_true
theorem kG : OpR X (compareOp .NotEq) rNe:=by
 intro pins s σ H x y v u Q I rx ry h
 obtain ⟨hs,q⟩:=h
 cases x with
 | non =>
  cases rx
  cases y with
  | non => cases ry; exact PySem.EqNone.ne_none_none (aP I q (by simp))
  | bl j => cases ry; exact PySem.EqNone.ne_none_bool (aP I q (by simp))
  | int j => obtain ⟨t',rfl⟩:=ry; exact PySem.EqNone.ne_none_int (aP I q (by simp))
  | str j => obtain ⟨t',rfl⟩:=ry; exact PySem.EqNone.ne_none_str (aP I q (by simp))
  | _ => exact absurd (show false = true from hs) Bool.false_ne_true
 | bl i =>
  cases rx
  cases y with
  | non => cases ry; exact PySem.EqNone.ne_bool_none (aP I q (by simp))
  | bl j => cases ry; exact ne_bool (aP I q (congrArg not rM))
  | str j => obtain ⟨t',rfl⟩:=ry; exact PySem.EqMixed.ne_bool_str (aP I q (by simp))
  | _ => exact absurd (show false = true from hs) Bool.false_ne_true
 | int i =>
  obtain ⟨t,rfl⟩:=rx
  cases y with
  | non => cases ry; exact PySem.EqNone.ne_int_none (aP I q (by simp))
  | int j => obtain ⟨t',rfl⟩:=ry; exact ne_int (aP I q (congrArg not p3))
  | str j => obtain ⟨t',rfl⟩:=ry; exact PySem.EqMixed.ne_int_str (aP I q (by simp))
  | _ => exact absurd (show false = true from hs) Bool.false_ne_true
 | str i =>
  obtain ⟨t,rfl⟩:=rx
  cases y with
  | non => cases ry; exact PySem.EqNone.ne_str_none (aP I q (by simp))
  | bl j => cases ry; exact PySem.EqMixed.ne_str_bool (aP I q (by simp))
  | int j => obtain ⟨t',rfl⟩:=ry; exact PySem.EqMixed.ne_str_int (aP I q (by simp))
  | str j => obtain ⟨t',rfl⟩:=ry; exact ne_str (aP I q (congrArg not p5))
  | _ => exact absurd (show false = true from hs) Bool.false_ne_true
 | byt i =>
  obtain ⟨t,rfl⟩:=rx
  cases y with
  | byt j => obtain ⟨t',rfl⟩:=ry; exact PySem.W.ne_bytes (aP I q (congrArg not p0))
  | _ => exact absurd (show false = true from hs) Bool.false_ne_true
 | _ => cases y <;> exact absurd (show false = true from hs) Bool.false_ne_true
theorem gI : OpR X (compareOp .Lt) (rI0 fun i j => .bl (decide (i < j))):=vE fun _ _ _ _ _ _ _ q => lt_int q
theorem su : OpR X (compareOp .Gt) (rI0 fun i j => .bl (decide (j < i))):=vE fun _ _ _ _ _ _ _ q => gt_int q
theorem aN (b : Expr) {op : CmpOp} (h : op ≠ .In:=by decide) (h2 : op ≠ .NotIn:=by decide) : behindInMarks op b = false:=by
 have e1 : (op == CmpOp.In) = false:=by cases op <;> first | rfl | exact absurd rfl h
 have e2 : (op == CmpOp.NotIn) = false:=by cases op <;> first | rfl | exact absurd rfl h2
 cases b <;> simp [behindInMarks,e1,e2]
theorem uq {op : CmpOp} {r : R2} (ho : OpR X (compareOp op) r) (ha : PE X a ta) (hb : PE X b tb) (hm : behindInMarks op b = false) : PE X (.Compare a [op] [b] pos) (tOp r ta tb):=by
 intro pins s σ H Q I h
 exact wpAny_Compare1 (uR ha hb I h fun v u s2 x y H2 I2 rx ry q => ho pins s2 σ H2 x y v u Q I2 rx ry q) hm
def vS (t : TE) : TT:=fun σ H Q => t σ H fun x H' => ∃ k,x = .bl k /\ Q k H'
theorem aB {op : CmpOp} {r : R2} (ho : OpR X (compareOp op) r) (ha : PE X a ta) (hb : PE X b tb) (hm : behindInMarks op b = false) : PT X (.Compare a [op] [b] pos) (vS (tOp r ta tb)):=by
 intro pins s σ H Q I h
 refine wpAny_isTrue_Compare1 (thn (ha pins s σ H _ I h) fun v s1 ⟨x,H1,I1,r1,q1⟩ => thn (hb pins s1 σ H1 _ I1 q1) fun u s2 ⟨y,H2,I2,r2,q2⟩ =>
  thn (ho pins s2 σ H2 x y v u _ I2 r1 r2 q2) fun c s3 ⟨z,H3,I3,r3,k,e,q3⟩ => ?_) hm
 subst e
 cases r3
 exact wpAny_truthy_bool ⟨H3,I3,q3⟩
def vp (K : PySem.W.Frag) (x : V) (H : Hp) (k : Bool) : Prop:=
 match x with
 | .non => k = false
 | .bl b => k = b
 | .int i => k = (i != 0)
 | .str y => y.length <= sizeLine /\ k = ((y.length : Int) != 0)
 | .byt y => y.size <= sizeLine /\ k = ((y.size : Int) != 0)
 | .ref p => (∃ xs,SqL K H p xs /\ k = !xs.isEmpty) \/ (∃ xs,SqT K H p xs /\ k = !xs.isEmpty) \/ ∃ kvs,H p = some (.dK kvs) /\ k = !kvs.isEmpty
 | _ => False
theorem oV {κ : Type} {kvs : List (κ × V)} {vs : List (κ × Value)} (r : KV kvs vs) : (!vs.isEmpty) = !kvs.isEmpty:=by
 cases r <;> rfl
theorem jr {xs : List V} {its : List Value} (r : Vals xs its) : (!its.toArray.isEmpty) = !xs.isEmpty:=by
 cases r <;> simp
theorem hX : (sizeLine : Nat) < 2 ^ 63:=by rw [sizeLine_eq]; decide
theorem vm : wb X (fun x H Q => ∃ k,vp X.K x H k /\ Q k H):=by
 intro pins s σ H x v Q I rx h
 obtain ⟨k,e,q⟩:=h
 have hl:=hX
 have hs : sizeLine = 16777216:=sizeLine_eq
 cases x with
 | non =>
  cases rx
  have e' : k = false:=e
  subst e'
  exact truthy_none ⟨H,I,q⟩
 | bl b =>
  cases rx
  have e' : k = b:=e
  subst e'
  exact wpAny_truthy_bool ⟨H,I,q⟩
 | int i =>
  obtain ⟨t,rfl⟩:=rx
  have e' : k = (i != 0):=e
  subst e'
  exact PySem.P.truthy_int ⟨H,I,q⟩
 | str y =>
  obtain ⟨t,rfl⟩:=rx
  obtain ⟨hy,e'⟩ : y.length <= sizeLine /\ k = ((y.length : Int) != 0):=e
  subst e'
  exact PySem.P.truthy_str (by omega) ⟨H,I.tok _,q⟩
 | byt y =>
  obtain ⟨t,rfl⟩:=rx
  obtain ⟨hy,e'⟩ : y.size <= sizeLine /\ k = ((y.size : Int) != 0):=e
  subst e'
  exact PySem.W.truthy_bytes (by omega) ⟨H,I.tok _,q⟩
 | ref p =>
  cases rx
  have e' : (∃ xs,SqL X.K H p xs /\ k = !xs.isEmpty) \/ (∃ xs,SqT X.K H p xs /\ k = !xs.isEmpty) \/ ∃ kvs,H p = some (.dK kvs) /\ k = !kvs.isEmpty:=e
  rcases e' with ⟨xs,hx,e'⟩ | ⟨xs,hx,e'⟩ | ⟨kvs,hx,e'⟩
  ·subst e'
   obtain ⟨its,r,pl,hz⟩:=I.list hx
   have hlen:=r.length
   exact wpAny_truthy_list pl.isList (by simp only [List.size_toArray]; omega) ⟨H,I.tok _,by rw [jr r]; exact q⟩
  ·subst e'
   obtain ⟨its,r,pl,hz⟩:=I.tuple hx
   have hlen:=r.length
   exact truthy_tuple pl (by simp only [List.size_toArray]; omega) ⟨H,I.tok _,by rw [jr r]; exact q⟩
  ·subst e'
   obtain ⟨hz,hS,vs,r,m⟩ : kvs.length <= sizeLine /\ (p == sysModules) = false /\ ∃ vs,KV kvs vs /\ s.heap.DictOf (lX X.prog X.w) p vs:=I.hok p _ hx
   have hlen : kvs.length = vs.length:=Paired.length r
   exact wpAny_truthy_dict hS m (by omega) ⟨H,I.tok _,by rw [oV r]; exact q⟩
 | _ => exact (show False from e).elim
theorem sF (ha : PE X a ta) (he : ∀ whole,isTrue a X.env whole = (do let v <- whole; standAt a.pos; holding [v] (truthy v))) :
  PT X a (fun σ H Q => ta σ H fun x H' => ∃ k,vp X.K x H' k /\ Q k H'):=by
 intro pins s σ H Q I h
 exact isTrue_plain (thn (ha pins s σ H _ I h) fun v s1 ⟨x,H1,I1,r1,q1⟩ => vm pins s1 σ H1 x v Q I1 r1 q1) (he _)
theorem ar : OpR X (binaryOp .Add) (fun x y H Q => ∃ i j,x = .str i /\ y = .str j /\ i.length + j.length <= sizeLine /\ Q (.str (i ++ j)) H):=by
 intro pins s σ H x y v u Q I rx ry h
 obtain ⟨i,j,rfl,rfl,hz,q⟩:=h
 obtain ⟨t,rfl⟩:=rx
 obtain ⟨t',rfl⟩:=ry
 exact add_str (fun t' tk => ⟨.str (i ++ j),H,I.tok _,⟨_,rfl⟩,q⟩) hz
theorem vals1 {x : V} {us : List Value} (r : Vals [x] us) : ∃ u,us = [u] /\ RelV x u:=by
 cases r with
 | cons r1 r2 => cases r2; exact ⟨_,rfl,r1⟩
theorem vals2 {x y : V} {us : List Value} (r : Vals [x,y] us) : ∃ u w',us = [u,w'] /\ RelV x u /\ RelV y w' := by
 cases r with
 | cons r1 r2 =>
  cases r2 with
  | cons r3 r4 => cases r4; exact ⟨_,_,rfl,r1,r3⟩
theorem qE (hc : X.calm = true) : c7 X (.builtin "max") (fun xs H Q => ∃ i j,xs = [.int i,.int j] /\ Q (.int (if j > i then j else i)) H):=by
 intro pins s σ H xs us Q I r h
 obtain ⟨i,j,rfl,q⟩:=h
 obtain ⟨u,w',rfl,⟨t,rfl⟩,⟨t',rfl⟩⟩:=vals2 r
 refine max_two_ints (I.ok.hd hc) fun h' tk k => ⟨_,H,I.kept k,?_,q⟩
 by_cases hj : j > i
 ·rw [if_pos hj,if_pos hj]; exact ⟨_,rfl⟩
 ·rw [if_neg hj,if_neg hj]; exact ⟨_,rfl⟩
theorem qG (hc : X.calm = true) : c7 X (.builtin "min") (fun xs H Q => ∃ i j,xs = [.int i,.int j] /\ Q (.int (if j < i then j else i)) H):=by
 intro pins s σ H xs us Q I r h
 obtain ⟨i,j,rfl,q⟩:=h
 obtain ⟨u,w',rfl,⟨t,rfl⟩,⟨t',rfl⟩⟩:=vals2 r
 refine min_two_ints (I.ok.hd hc) fun h' tk k => ⟨_,H,I.kept k,?_,q⟩
 by_cases hj : j < i
 ·rw [if_pos hj,if_pos hj]; exact ⟨_,rfl⟩
 ·rw [if_neg hj,if_neg hj]; exact ⟨_,rfl⟩
theorem qD : c7 X (.type "int") (fun xs H Q => (∃ i,xs = [.int i] /\ Q (.int i) H) \/ ∃ k,xs = [.bl k] /\ Q (.int (if k then 1 else 0)) H):=by
 intro pins s σ H xs us Q I r h
 rcases h with ⟨i,rfl,q⟩ | ⟨k,rfl,q⟩
 ·obtain ⟨u,rfl,t,rfl⟩:=vals1 r
  exact call_int_int ⟨.int i,H,I,⟨_,rfl⟩,q⟩
 ·obtain ⟨u,rfl,r1⟩:=vals1 r
  cases r1
  exact call_int_bool ⟨.int (if k then 1 else 0),H,I.tok _,⟨_,rfl⟩,q⟩
theorem dU : c7 X (.type "str") (fun xs H Q => ∃ i,xs = [.int i] /\ i.natAbs.log2 < 1920 /\ Q (.str (toString i)) H):=by
 intro pins s σ H xs us Q I r h
 obtain ⟨i,rfl,hz,q⟩:=h
 obtain ⟨u,rfl,t,rfl⟩:=vals1 r
 exact PySem.P.str_of_int hz ⟨.str _,H,I.tok _,⟨_,rfl⟩,q⟩
end
end L2
namespace L2
open PySem PySem.Spec PyProof.Rows
structure ObjM (h : Heap) (x dx C : Addr) (mA : Str -> Option Value) : Prop where
 obj : h.get? x = some (PySem.W.instObj C dx)
 ns : h.Ns1 dx mA
 ne : dx ≠ x
theorem qT {h : Heap} {dx : Addr} {mA : Str -> Option Value} (n : h.Ns1 dx mA) : ∃ od,h.get? dx = some od /\ ∀ name,PySem.W.lookIn name od = some (mA name):=by
 obtain ⟨o,es,ep,ho,hd,hk,_,hm⟩:=n
 refine ⟨o,ho,fun name => ?_⟩
 have e:=hm name
 unfold nsFind findBy at e
 rw [<- Array.find?_toList] at e
 unfold PySem.W.lookIn
 rw [hd]
 dsimp only
 split
 ·rename_i y q
  rw [q] at e
  exact congrArg some e
 ·rename_i q
  rw [q] at e
  have a : es.toList.any (·.refKey) = false:=by
   rw [List.any_eq_false]
   intro y hy
   obtain ⟨z,t,hkey⟩:=hk y (Array.mem_toList_iff.mp hy)
   simp [DictEntry.refKey,hkey]
  have a' : ¬ es.toList.any (·.refKey) = true:=by rw [a]; exact Bool.false_ne_true
  rw [if_neg a']
  exact congrArg some e
theorem ObjM.look {h : Heap} {x dx C : Addr} {mA : Str -> Option Value} (I : ObjM h x dx C mA) : ∃ od,PySem.W.InstAt h x (PySem.W.instObj C dx) C (some od) /\ ∀ name,PySem.W.lookIn name od = some (mA name):=
 let ⟨od,ho,hl⟩:=qT I.ns
 ⟨od,⟨I.obj,rfl,rfl,ho⟩,hl⟩
section
variable {prog : Program} {w : World} {A : Around} {E : Value -> Shared -> Prop} {s : Shared} {K : PySem.W.Frag} {x dx C f : Addr} {mA : Str -> Option Value} {name : Str} {v : Value}
end
section
variable {P : Program} {w : World} {H H' : Hp} {h h' : Heap} {a C dx : Addr} {fs fs' : List (Str × V)}
theorem tV (hok : HOk P w H h) (e : H a = some (.ins C dx fs)) : ∃ mA,ObjM h a dx C mA /\ (∀ f,uP (fs.lookup f) (mA f)) /\ PySem.Within mA (fs.map (·.1)) /\ fs.length <= 1000 /\ H dx = some (.own a):=by
 obtain ⟨d,z,ne,ob,mA,n,r,q⟩:=(show ObjOk P w H h a (.ins C dx fs) from hok a _ e)
 exact ⟨mA,⟨ob,n,ne⟩,r,q,z,d⟩
end
structure Cls (K : PySem.W.Frag) (C : Addr) : Prop where
 pg : PySem.W.plainGet K C Str.empty = true
 hd : PySem.W.hasDictIn K C = true
 po : PySem.W.plainOver K C = true
 sa : PySem.W.findIn K (.ref C) "__setattr__" = some (some (.builtin "object.__setattr__"))
theorem Cls.get {K : PySem.W.Frag} {C : Addr} (c : Cls K C) (f : Str) : PySem.W.plainGet K C f = true:=c.pg
structure Con (K : PySem.W.Frag) (C : Addr) (f : Str) (v : V) (u : Value) : Prop where
 at_ : PySem.W.findIn K (.ref C) f = some (some u)
 rel : RelV v u
 get : PySem.W.specialIn K u "__get__" = some none
 cp : PySem.W.copiedNames.contains f = false
structure Meth (K : PySem.W.Frag) (C : Addr) (m : Str) (f : Addr) : Prop where
 at_ : PySem.W.findIn K (.ref C) m = some (some (.ref f))
 fn : PySem.W.isFn K (.ref f) = true
 kp : PySem.W.keepIn K (.ref f) = true
section
variable {X : Cx} {pins : List (Addr × Obj)} {σ : St} {H : Hp} {s : Shared} {a C dx : Addr} {fs : List (Str × V)} {f : Str} {v : V} {A : Around} {E : Value -> Shared -> Prop}
end
section
variable {X : Cx} {o e value : Expr} {f : Str} {pos pos' tpos : Pos} {ta tv : TE}
end
section
variable {X : Cx} {pins : List (Addr × Obj)} {σ : St} {H : Hp} {s : Shared} {A : Around} {E : Value -> Shared -> Prop} {Q : Value -> Shared -> Prop} {c : Value} {b : Bool}
inductive TyOf (K : PySem.W.Frag) (H : Hp) : V -> Value -> Prop where
 | non : TyOf K H .non (.type "NoneType")
 | bl (x : Bool) : TyOf K H (.bl x) (.type "bool")
 | int (i : Int) : TyOf K H (.int i) (.type "int")
 | str (x : Str) : TyOf K H (.str x) (.type "str")
 | flt (x : UInt64) : TyOf K H (.flt x) (.type "float")
 | lst {a : Addr} {xs : List V} (e : H a = some (.lst xs)) : TyOf K H (.ref a) (.type "list")
 | frz {a : Addr} {o : Obj} {xs : List V} (e : H a = some (.frz o (.lst xs))) : TyOf K H (.ref a) (.type "list")
 | tup {a : Addr} {xs : List V} (e : H a = some (.tup xs)) : TyOf K H (.ref a) (.type "tuple")
 | dK {a : Addr} {kvs : List (Key × V)} (e : H a = some (.dK kvs)) : TyOf K H (.ref a) (.type "dict")
 | dT {a : Addr} {kvs : List (List Key × V)} (e : H a = some (.dT kvs)) : TyOf K H (.ref a) (.type "dict")
 | ins {a C dx : Addr} {fs : List (Str × V)} (e : H a = some (.ins C dx fs)) (cl : Cls K C) (ha : PySem.W.findIn K (.ref C) "__class__" = some (some (.builtin "object.__class__")))
   (hn : PySem.W.specialIn K (.builtin "object.__class__") "__get__" = some (some (.builtin "getset_descriptor.__get__"))) (htk : PySem.W.takesIn K (.builtin "object.__class__") = some true)
   (hm : PySem.W.mroIn K C (.type "object") = some true) : TyOf K H (.ref a) (.ref C)
theorem qQ {x : V} {u t : Value} (I : Inv X pins σ H s) (rx : RelV x u) (ty : TyOf X.K H x t) (e : PySem.W.kitOne X.K t c = some b) (h : ∀ tk,Q (.bool b) { s with toks:=tk }) :
  wpAny (model X.prog X.w) A (call (.builtin "isinstance") [u,c]) Q E s:=by
 cases ty with
 | non => cases (show u = Value.none from rx); exact PySem.W.kia_one PySem.W.kitx_none I.kIn True.intro e (fun z => nomatch z) h
 | bl y => cases (show u = Value.bool y from rx); exact PySem.W.kia_one PySem.W.kitx_bool I.kIn True.intro e (fun z => nomatch z) h
 | int i => obtain ⟨t,q⟩:=(show ∃ t,u = Value.int i t from rx); cases q; exact PySem.W.kia_one PySem.W.kitx_int I.kIn True.intro e (fun z => nomatch z) h
 | str y => obtain ⟨t,q⟩:=(show ∃ t,u = Value.str y t from rx); cases q; exact PySem.W.kia_one PySem.W.kitx_str I.kIn True.intro e (fun z => nomatch z) h
 | flt y => obtain ⟨t,q⟩:=(show ∃ t,u = Value.float y t from rx); cases q; exact PySem.W.kia_one PySem.W.kitx_float I.kIn True.intro e (fun z => nomatch z) h
 | @lst a xs ea =>
  cases (show u = Value.ref a from rx)
  obtain ⟨_,_,n,_,h1⟩:=(show ObjOk X.prog X.w H s.heap a (.lst xs) from I.hok a _ ea)
  exact PySem.W.kia_one PySem.W.kitx_list I.kIn ⟨_,h1,rfl⟩ e (fun z => nomatch z) h
 | @frz a ob xs ea =>
  cases (show u = Value.ref a from rx)
  obtain ⟨_,_,_,n,_,h1⟩:=(show ObjOk X.prog X.w H s.heap a (.frz ob (.lst xs)) from I.hok a _ ea)
  exact PySem.W.kia_one PySem.W.kitx_list I.kIn ⟨_,h1,rfl⟩ e (fun z => nomatch z) h
 | @tup a xs ea =>
  cases (show u = Value.ref a from rx)
  obtain ⟨_,_,_,p⟩:=(show ObjOk X.prog X.w H s.heap a (.tup xs) from I.hok a _ ea)
  obtain ⟨o,h1,h2,_⟩:=p
  exact PySem.W.kia_one PySem.W.kitx_tuple I.kIn ⟨o,h1,h2⟩ e (fun z => nomatch z) h
 | @dK a kvs ea =>
  cases (show u = Value.ref a from rx)
  obtain ⟨_,_,vs,_,p⟩:=(show ObjOk X.prog X.w H s.heap a (.dK kvs) from I.hok a _ ea)
  obtain ⟨o,es,ep,h1,h2,_⟩:=p
  exact PySem.W.kia_one PySem.W.kitx_dict I.kIn ⟨o,h1,h2.1⟩ e (fun z => nomatch z) h
 | @dT a kvs ea =>
  cases (show u = Value.ref a from rx)
  obtain ⟨_,_,xs,_,o,es,ep,h1,h2,_⟩:=(show ObjOk X.prog X.w H s.heap a (.dT kvs) from I.hok a _ ea)
  exact PySem.W.kia_one PySem.W.kitx_dict I.kIn ⟨o,h1,h2.1⟩ e (fun z => nomatch z) h
 | @ins a C dx fs ea cl ha hn htk hm =>
  cases (show u = Value.ref a from rx)
  obtain ⟨mA,O,_⟩:=tV I.hok ea
  obtain ⟨od,J,_⟩:=O.look
  exact PySem.W.kia_one (PySem.W.kitx_own (cl.get _) cl.hd ha hn htk hm) I.kIn J e (fun z => nomatch z) h
end
end L2
namespace L2
open PySem PySem.Spec PyProof.Rows
structure Room (k : Nat) (A : Around) : Prop where
 hd : A.handled = none
 dp : A.depth + 3 * k + 5 < recursionLimit
 un : A.units + 16 * k + 200 < cLine
theorem Room.mono {j k : Nat} {A : Around} (r : Room k A) (h : j <= k) : Room j A:=⟨r.hd,by have:=r.dp; omega,by have:=r.un; omega⟩
theorem Room.deeper {k : Nat} {A : Around} (r : Room (k + 1) A) (env : Env) : Room k (A.deeper env):=
 ⟨r.hd,by have:=r.dp; show A.depth + 1 + 3 * k + 5 < _; omega,by have:=r.un; show A.units + 3 + 16 * k + 200 < _; omega⟩
theorem Room.depth {k : Nat} {A : Around} (r : Room k A) : A.depth < recursionLimit:=by have:=r.dp; omega
def vQ : TA:=fun _ H Q => Q [] H
def uK (ta : TE) (tr : TA) : TA:=fun σ H Q => ta σ H fun x H1 => tr σ H1 fun xs H2 => Q (x :: xs) H2
section
variable {X : Cx} {e : Expr} {es : List Expr} {te : TE} {t : TA} {pos : Pos}
theorem ag : PA X [] vQ:=fun _ _ _ _ H Q I h => Calls.spliced_nil ⟨[],H,I,.nil,h⟩
theorem aa (ha : PE X e te) (hr : PA X es t) (hs : starEach (e :: es) X.env = (false,eval e X.env) :: starEach es X.env:=by rfl) : PA X (e :: es) (uK te t):=by
 intro pos pins s σ H Q I h
 rw [hs]
 show wpAny _ _ (spliced ((false,eval e X.env) :: backTo pos (starEach es X.env))) _ _ s
 refine Calls.spliced_cons (thn (ha pins s σ H _ I h) fun u s1 ⟨x,H1,I1,r1,q1⟩ => ?_)
 exact thn (hr pos pins s1 σ H1 _ I1 q1) fun us s2 ⟨xs,H2,I2,r2,q2⟩ => ⟨x :: xs,H2,I2,.cons r1 r2,q2⟩
def vT (t : TA) : TE:=fun σ H Q => t σ H fun xs H1 => xs.length <= sizeLine /\ ∀ p,H1 p = none -> Q (.ref p) (upd H1 p (.tup xs))
def vO (t : TA) : TE:=fun σ H Q => t σ H fun xs H1 => xs.length <= sizeLine /\ ∀ p,H1 p = none -> Q (.ref p) (upd H1 p (.lst xs))
theorem bB {x1} (h : PA X es t) : PE X (.Tuple es x1 pos) (vT t):=by
 intro pins s σ H Q I hq
 refine wpAny_Tuple_spliced (thn (h pos pins s σ H _ I hq) fun us s1 ⟨xs,H1,I1,r,z,q⟩ => ⟨by rw [<- r.length]; exact z,?_⟩)
 have hf : H1 s1.heap.objs.size = none:=I1.hok.fresh (Nat.le_refl _)
 refine ⟨.ref s1.heap.objs.size,upd H1 s1.heap.objs.size (.tup xs),I1.laid (t' := s1.toks) (fun b u e => Heap.get?_push_of_some _ e) (Nat.le_refl _) ?_,rfl,q _ hf⟩
 exact ⟨z,us,r,⟨_,Heap.get?_push_size _ rfl,rfl,_,rfl⟩⟩
theorem bS (h : PA X es t) : PE X (.List es pos) (vO t):=by
 intro pins s σ H Q I hq
 refine wpAny_List_spliced (thn (h pos pins s σ H _ I hq) fun us s1 ⟨xs,H1,I1,r,z,q⟩ => ⟨by rw [<- r.length]; exact z,?_⟩)
 have hf : H1 s1.heap.objs.size = none:=I1.hok.fresh (Nat.le_refl _)
 refine ⟨.ref s1.heap.objs.size,upd H1 s1.heap.objs.size (.lst xs),I1.laid (t' := s1.toks) (fun b u e => Heap.get?_push_of_some _ e) (Nat.le_refl _) ?_,rfl,q _ hf⟩
 exact ⟨z,us,0,r,Heap.get?_push_size _ rfl⟩
end
abbrev Sp:=List V -> Hp -> VK -> XK -> Prop
abbrev CXT:=List Env -> Hp -> Shared -> XK -> Value -> Shared -> Prop
structure Env0 (P : Program) (w : World) (K : PySem.W.Frag) (mg : Str -> Option Value) (base : Heap) (A : Around) (outer : List Env) (s : Shared) (H : Hp) : Prop where
 frames : A.frames = some outer
 mod : Mod K mg base
 bs : ∀ b o,base.get? b = some o -> s.heap.get? b = some o /\ H b = none
 bsz : base.objs.size <= s.heap.objs.size
 funs : s.heap.FunFrames base outer
 frf : ∀ b ∈ frs outer,H b = none
 hok : HOk P w H s.heap
 bare : AllBare s.gens
def CE (outer : List Env) (P : Program) (w : World) (H : Hp) (s : Shared) (Q : VK) (u : Value) (s' : Shared) : Prop:=
 ∃ v H',s'.os = s.os /\ AllBare s'.gens /\ Un (frs outer) [] H H' s.heap s'.heap /\ HOk P w H' s'.heap /\ RelV v u /\ Q v H'
def CR (CX : CXT) (outer : List Env) (P : Program) (w : World) (H : Hp) (s : Shared) (Q : VK) (E : XK) (r : Result) (s' : Shared) : Prop:=
 match r with
 | .ok (.ret u) => CE outer P w H s Q u s'
 | .ok _ => False
 | .error e => CX outer H s E e s'
structure FnOk (P : Program) (w : World) (K : PySem.W.Frag) (mg : Str -> Option Value) (base : Heap) (CX : CXT) (k : Nat) (f : Addr) (fd : FuncData) (ps : List Str) (sp : Sp) : Prop where
 len : ∀ vs H Q E,sp vs H Q E -> vs.length = ps.length
 run : ∀ (A : Around) (outer : List Env) (s : Shared) (H : Hp) (args : Args) (us : List Value) (vs : List V) (Q : VK) (E : XK),Room k A -> Env0 P w K mg base A outer s H -> BindsTo s fd args (ps.zip us) -> Vals vs us -> sp vs H Q E ->
  codeAny (model P w) A (.call (.ref f) args) (CR CX outer P w H s Q E) s
theorem FnOk.imp {P : Program} {w : World} {K : PySem.W.Frag} {mg : Str -> Option Value} {base : Heap} {CX : CXT} {k : Nat} {f : Addr} {fd : FuncData} {ps : List Str} {sp sp' : Sp} (F : FnOk P w K mg base CX k f fd ps sp)
  (h : ∀ vs H Q E,sp' vs H Q E -> sp vs H Q E) : FnOk P w K mg base CX k f fd ps sp' :=
 ⟨fun vs H Q E q => F.len vs H Q E (h _ _ _ _ q),fun A outer s H args us vs Q E hr he hb hv hs => F.run A outer s H args us vs Q E hr he hb hv (h _ _ _ _ hs)⟩
section
variable {X : Cx} {pins : List (Addr × Obj)} {σ : St} {H : Hp} {s s' : Shared}
theorem Inv.env0 (I : Inv X pins σ H s) : Env0 X.prog X.w X.K X.mg X.base X.A X.stack s H:=
 ⟨I.ok.frames,I.ok.mod,I.bs,Nat.le_trans I.ok.bsz I.sz,I.stack,I.stkFree,I.hok,I.bare⟩
theorem Inv.after {Q : VK} {u : Value} (I : Inv X pins σ H s) (h : CE X.stack X.prog X.w H s Q u s') : EP X pins σ Q u s' := by
 obtain ⟨v,H',os,bare,un,hok,r,q⟩:=h
 obtain ⟨hh,g,d,t,os'⟩:=s'
 obtain rfl : os' = s.os:=os
 exact ⟨v,H',I.call (h' := hh) (g' := g) (d' := d) (t' := t) (ch:=[]) un hok bare (fun b z => absurd z (by simp)),r,q⟩
end
def uJ (sp : Sp) (dvs : List V) (E : XK) (t : TA) : TE:=fun σ H Q => t σ H fun vs H1 => sp (vs ++ dvs) H1 Q E
def Binds (K : PySem.W.Frag) (fd : FuncData) (ps : List Str) (ds : List Value) : Prop:=
 ∀ (s : Shared) (us : List Value),K.In s.heap -> (us ++ ds).length = ps.length -> BindsTo s fd ⟨us,[]⟩ (ps.zip (us ++ ds))
theorem Binds.all {K : PySem.W.Frag} {fd : FuncData} {ps : List Str} (h : ∀ us : List Value,us.length = ps.length -> bindArgs fd ⟨us,[]⟩ = pure (ps.zip us)) : Binds K fd ps []:=fun s us _ hl => by
 rw [List.append_nil] at hl ⊢
 exact .of_eq (h us hl)
def Passes (CX : CXT) (X : Cx) (E : XK) : Prop := ∀ (pins : List (Addr × Obj)) (σ : St) (H : Hp) (s : Shared) (e : Value) (s' : Shared),Inv X pins σ H s -> CX X.stack H s E e s' -> X.xe e s'
section
variable {X : Cx} {CX : CXT} {k : Nat} {f C : Addr} {fd : FuncData} {ps : List Str} {sp : Sp} {dvs : List V} {ds : List Value} {E : XK} {x m : Str} {p pos apos : Pos} {e o : Expr} {es : List Expr} {ta : TE} {t : TA}
theorem vj {pins : List (Addr × Obj)} {σ : St} {H : Hp} {s : Shared} {Q : VK} {us : List Value} {vs : List V} (F : FnOk X.prog X.w X.K X.mg X.base CX k f fd ps sp) (hr : Room k X.A) (hb : Binds X.K fd ps ds) (hd : Vals dvs ds) (hx : Passes CX X E)
  (I : Inv X pins σ H s) (r : Vals vs us) (h : sp (vs ++ dvs) H Q E) : wpAny (model X.prog X.w) X.A (call (.ref f) us) (EP X pins σ Q) X.xe s:=by
 have r2 : Vals (vs ++ dvs) (us ++ ds):=r.append hd
 have hl : (us ++ ds).length = ps.length:=by rw [<- r2.length]; exact F.len _ _ _ _ h
 refine wpAny_call (codeAny_mono (F.run X.A X.stack s H ⟨us,[]⟩ (us ++ ds) (vs ++ dvs) Q E hr I.env0 (hb s us I.kIn hl) r2 h) fun r s' hq => ?_)
 cases r with
 | error e => exact hx pins σ H s e s' I hq
 | ok fl =>
  cases fl with
  | ret u => exact I.after hq
  | next => exact False.elim hq
  | brk => exact False.elim hq
  | cont => exact False.elim hq
theorem uo (F : FnOk X.prog X.w X.K X.mg X.base CX k f fd ps sp) (hr : Room k X.A) (hg : Gl X x) (hm : X.mg x = some (.ref f)) (hk : PySem.W.keepIn X.K (.ref f) = true) (hb : Binds X.K fd ps ds) (hd : Vals dvs ds) (hx : Passes CX X E)
  (ha : PA X (e :: es) t) (hdb : (x == ("__debug__" : Str)) = false:=by decide) (he : starEach (e :: es) X.env = (false,eval e X.env) :: starEach es X.env:=by rfl) (hpl : (backTo pos (starEach es X.env)).any (·.1) = false:=by rfl) :
  PE X (.Call (.Name x p) (e :: es) [] pos) (uJ sp dvs E t):=by
 intro pins s σ H Q I h
 refine wpAny_Call_Name_kw (qc I hg hm ?_ hdb)
 refine PySem.W.callWith_K (h₀:=X.base) I.ok.mod.kin hk (thn (ha pos pins s σ H _ I h) fun us s1 ⟨vs,H1,I1,r,q⟩ => ⟨I1.kIn,?_⟩) he hpl
 exact vj F hr hb hd hx I1 r q
structure Mk (K : PySem.W.Frag) (C f : Addr) : Prop where
 makes : PySem.W.makesIn K C = true
 init : PySem.W.findIn K (.ref C) "__init__" = some (some (.ref f))
 fn : PySem.W.isFn K (.ref f) = true
 kp : PySem.W.keepIn K (.ref C) = true
end
section
variable {X : Cx} {CX : CXT} {k : Nat} {f C : Addr} {fd : FuncData} {ps ks : List Str} {sp : Sp} {E : XK} {x m : Str} {p pos apos kpos : Pos} {e o : Expr} {es : List Expr} {kws : List Keyword} {te ta : TE} {t tk : TA} {nm : Option Str}
structure KBinds (K : PySem.W.Frag) (fd : FuncData) (ps ks : List Str) (g : List Value -> List Value -> List Value) (gV : List V -> List V -> List V) : Prop where
 to : ∀ (s : Shared) (us ws : List Value),K.In s.heap -> (g us ws).length = ps.length -> BindsTo s fd ⟨us,ks.zip ws⟩ (ps.zip (g us ws))
 rel : ∀ {vs : List V} {us : List Value} {zs : List V} {ws : List Value},Vals vs us -> Vals zs ws -> Vals (gV vs zs) (g us ws)
variable {g : List Value -> List Value -> List Value} {gV : List V -> List V -> List V}
end
structure FnScope (N P : List Str) (sc : Scope) : Prop where
 kind : sc.kind = .function
 co : sc.isCoroutine = false
 gen : sc.isGenerator = false
 nd : N.Nodup
 pre : N.take P.length = P
 par : ∀ x ∈ P,sc.names.lookup x = some .local \/ sc.names.lookup x = some .cell
 nofree : ∀ y ∈ sc.names,y.2 ≠ .free
theorem kv {kindOf : Str -> Option NameKind} {x : Str} : ∀ {binds : List (Str × Value)} {m : Str -> Option Value},(∀ v,(x,v) ∉ binds) -> bindL kindOf binds m x = m x
 | [],_,_ => rfl
 | (n,v) :: r,m,h => by
  unfold bindL
  rw [kv fun w hw => h w (List.mem_cons_of_mem _ hw)]
  split
  ·have : x ≠ n:=by rintro rfl; exact h v List.mem_cons_self
   simp [this]
  ·rfl
theorem kr {kindOf : Str -> Option NameKind} {x : Str} : ∀ {binds : List (Str × Value)} {m : Str -> Option Value},(∀ v,(x,v) ∉ binds) -> bindC kindOf binds m x = m x
 | [],_,_ => rfl
 | (n,v) :: r,m,h => by
  unfold bindC
  rw [kr fun w hw => h w (List.mem_cons_of_mem _ hw)]
  split
  ·rfl
  ·have : x ≠ n:=by rintro rfl; exact h v List.mem_cons_self
   simp [this]
theorem ku {kindOf : Str -> Option NameKind} {x : Str} {v : Value} : ∀ {P : List Str} {vs : List Value} {i : Nat} {m : Str -> Option Value},P.Nodup -> P[i]? = some x -> vs[i]? = some v -> kindOf x = some .local ->
  bindL kindOf (P.zip vs) m x = some v
 | [],_,_,_,_,h,_,_ => by simp at h
 | _ :: _,[],_,_,_,_,h,_ => by simp at h
 | p :: P,w :: vs,0,m,nd,h1,h2,hk => by
  simp at h1 h2; subst h1; subst h2
  show bindL kindOf ((p,w) :: P.zip vs) m p = _
  unfold bindL
  rw [kv fun v hv => (List.nodup_cons.mp nd).1 (List.of_mem_zip hv).1,if_pos hk]
  simp
 | p :: P,w :: vs,i + 1,m,nd,h1,h2,hk => by
  show bindL kindOf ((p,w) :: P.zip vs) m x = _
  unfold bindL
  exact ku (i:=i) (List.nodup_cons.mp nd).2 (by simpa using h1) (by simpa using h2) hk
theorem kq {kindOf : Str -> Option NameKind} {x : Str} {v : Value} : ∀ {P : List Str} {vs : List Value} {i : Nat} {m : Str -> Option Value},P.Nodup -> P[i]? = some x -> vs[i]? = some v -> kindOf x ≠ some .local ->
  bindC kindOf (P.zip vs) m x = some v
 | [],_,_,_,_,h,_,_ => by simp at h
 | _ :: _,[],_,_,_,_,h,_ => by simp at h
 | p :: P,w :: vs,0,m,nd,h1,h2,hk => by
  simp at h1 h2; subst h1; subst h2
  show bindC kindOf ((p,w) :: P.zip vs) m p = _
  unfold bindC
  rw [kr fun v hv => (List.nodup_cons.mp nd).1 (List.of_mem_zip hv).1,if_neg hk]
  simp
 | p :: P,w :: vs,i + 1,m,nd,h1,h2,hk => by
  show bindC kindOf ((p,w) :: P.zip vs) m x = _
  unfold bindC
  exact kq (i:=i) (List.nodup_cons.mp nd).2 (by simpa using h1) (by simpa using h2) hk
def start (N : List Str) (vs : List V) : St:=vs.map some ++ List.replicate (N.length - vs.length) none
def qM (CX : CXT) (P : Program) (w : World) (K : PySem.W.Frag) (mg : Str -> Option Value) (base : Heap) (N : List Str) (qual : Str) (scope : Scope) (f : Addr) (cd : Value) (A : Around) (outer : List Env) (s : Shared) (H : Hp) (E : XK) : Cx where
 prog:=P
 w:=w
 K:=K
 mg:=mg
 base:=base
 A:=A.deeper (envOfC qual scope s.heap.objs.size f cd)
 N:=N
 s₀:=s
 H₀:=H
 env:=envOfC qual scope s.heap.objs.size f cd
 outer:=outer
 stack:=envOfC qual scope s.heap.objs.size f cd :: outer
 ex:=[]
 calm:=true
 fn:=fun _ => true
 pn:=[]
 xe:=fun e s' => wpAny (model P w) (A.deeper (envOfC qual scope s.heap.objs.size f cd)) (leaving (envOfC qual scope s.heap.objs.size f cd) e) (fun _ s'' => CX outer H s E e s'') (fun e' s'' => CX outer H s E e' s'') s'
theorem ng {sc : Scope} {n : Nat} {x : Str} (h : sc.names.lookup x = some .cell) : ∃ c,(cellsFrom n sc.names []).lookup x = some c:=by
 have q:=PySem.W.cellsFrom_some sc.names n [] (.inl h)
 exact Option.isSome_iff_exists.mp q
theorem qP {CX : CXT} {P : Program} {w : World} {K : PySem.W.Frag} {mg : Str -> Option Value} {base : Heap} {N ps : List Str} {qual : Str} {scope : Scope} {f : Addr} {cd : Value} {A : Around} {outer : List Env} {s s1 : Shared} {H : Hp} {E : XK} {us : List Value} {vs : List V}
  (S : FnScope N ps scope) (hd : A.handled = none) (e0 : Env0 P w K mg base A outer s H) (hl : vs.length = ps.length) (r : Vals vs us)
  (x : InCallC s s.heap.objs.size (bindL (envOfC qual scope s.heap.objs.size f cd).kindOf (ps.zip us) fun _ => none) (cellsFrom (s.heap.objs.size + 1) scope.names []) (bindC (envOfC qual scope s.heap.objs.size f cd).kindOf (ps.zip us) fun _ => none) s1) :
  Inv (qM CX P w K mg base N qual scope f cd A outer s H E) [] (start N vs) H s1:=by
 have hpl : ps.length <= N.length:=by have:=congrArg List.length S.pre; rw [List.length_take] at this; omega
 obtain ⟨h1,tk,rfl,hk⟩:=x.done
 have noA : ∀ b : Addr,b ∉ (qM CX P w K mg base N qual scope f cd A outer s H E).ex:=fun b z => absurd (show b ∈ ([] : List Addr) from z) (by simp)
 refine ⟨⟨e0.mod,S.kind,rfl,rfl,Nat.le_refl _,fun y z c h1 h2 => ?_,fun y hy => ?_,fun y c _ h => ?_,fun _ => hd,Around.frames_deeper e0.frames,.inr ⟨rfl,rfl⟩,fun b z => absurd z (noA b),e0.bs,e0.bsz,fun b _ _ => noA b,fun b z => absurd z (noA b),e0.funs,e0.frf⟩,
  rfl,e0.bare,Un.kept hk,⟨_,x.toInCall.ns,fun i y v h1 h2 h3 => ?_⟩,fun y c h => ⟨_,x.cell y c h⟩,e0.hok.fresh (Nat.le_refl _),fun y c h => ?_,fun p hp => absurd (show p ∈ ([] : List (Addr × Obj)) from hp) (by simp),e0.hok.kept hk,?_⟩
 ·exact name_of_addr x.apart (PySem.mem_of_lookup h1) (PySem.mem_of_lookup h2)
 ·have hy : scope.names.lookup y = some .cell \/ scope.names.lookup y = some .free:=hy
  rcases hy with hy | hy
  ·exact ng hy
  ·exact absurd rfl (S.nofree _ (PySem.mem_of_lookup hy))
 ·exact Nat.le_of_lt (x.above y c (PySem.mem_of_lookup h))
 ·have hi : i < vs.length:=by
   unfold start at h2
   by_cases hi : i < vs.length
   ·exact hi
   ·rw [List.getElem?_append_right (by simpa using hi)] at h2
    rw [List.getElem?_replicate] at h2
    split at h2 <;> cases h2
  have ha : vs[i]? = some v:=by
   unfold start at h2
   rw [List.getElem?_append_left (by simpa using hi),List.getElem?_map] at h2
   cases e : vs[i]? with
   | none => rw [e] at h2; cases h2
   | some a => rw [e] at h2; cases h2; rfl
  obtain ⟨u,hu,rv⟩:=r.get ha
  have hp : ps[i]? = some y:=by
   rw [<- S.pre,List.getElem?_take_of_lt (by omega)]; exact h1
  have ndP : ps.Nodup:=by rw [<- S.pre]; exact S.nd.sublist (List.take_sublist _ _)
  refine ⟨u,rv,?_⟩
  rcases S.par y (List.mem_of_getElem? hp) with k | k
  ·exact .inl ⟨k,ku ndP hp hu k⟩
  ·obtain ⟨c,e⟩:=ng (n:=s.heap.objs.size + 1) k
   refine .inr ⟨.inl k,c,e,?_⟩
   have q:=x.cell y c e
   rw [kq ndP hp hu (by show scope.names.lookup y ≠ _; rw [k]; decide)] at q
   exact q
 ·exact e0.hok.fresh (Nat.le_of_lt (x.above y c (PySem.mem_of_lookup h)))
 ·unfold start
  show _ = N.length
  rw [List.length_append,List.length_map,List.length_replicate]
  omega
theorem vv {CX : CXT} {P : Program} {w : World} {K : PySem.W.Frag} {mg : Str -> Option Value} {base : Heap} {k : Nat} {f : Addr} {name qual : Str} {params : Arguments} {body : List Stmt} {scope : Scope} {dV kV doc pm cdv ct oc : Value} {an od : Option Addr}
  {osl : Array (Option Value)} {N ps : List Str} {sp : Sp} (lk : K.lookup f = some ⟨oc,od,.func (PySem.W.fnOf name qual params body scope dV kV doc pm an cdv ct),osl⟩) (hcd : PySem.W.codeIn K cdv qual = true) (S : FnScope N ps scope)
  (len : ∀ vs H Q E,sp vs H Q E -> vs.length = ps.length)
  (hbody : ∀ (A : Around) (outer : List Env) (s : Shared) (H : Hp) (vs : List V) (Q : VK) (E : XK),Room k (A.deeper (envOfC qual scope s.heap.objs.size f cdv)) -> sp vs H Q E ->
   ∃ t,PSs (qM CX P w K mg base N qual scope f cdv A outer s H E) body t /\ t { nx:=fun _ H' => Q .non H',rt:=Q } (start N vs) H) :
  FnOk P w K mg base CX (k + 1) f (PySem.W.fnOf name qual params body scope dV kV doc pm an cdv ct) ps sp:=by
 refine ⟨len,fun A outer s H args us vs Q E hr e0 hb r hsp => ?_⟩
 have hl:=len _ _ _ _ hsp
 have KX : K.In s.heap:=e0.mod.kin.keeps fun b o e => (e0.bs b o e).1
 have lim : s.heap.NoLimit:=e0.mod.nolimit.keeps fun b o e => (e0.bs b o e).1
 have hkind : ∀ y ∈ ps.zip us,scope.names.lookup y.1 = some .local \/ (scope.names.lookup y.1 = some .cell /\ ((cellsFrom (s.heap.objs.size + 1) scope.names []).lookup y.1).isSome = true):=fun ⟨n,v⟩ hy => by
  rcases S.par n (List.of_mem_zip hy).1 with q | q
  ·exact .inl q
  ·exact .inr ⟨q,PySem.W.cellsFrom_some _ _ _ (.inl q)⟩
 refine codeAny_call_function hr.depth (KX _ _ lk) rfl S.co S.gen rfl (PySem.W.codeRec_of KX hcd) (hb _ _ _ _ ?_)
 refine wpAny_newFunctionEnv_cells S.kind hkind fun env he s1 x => ?_
 subst he
 refine ⟨lim.keeps x.toInCall.keep,codeAny_func ?_⟩
 obtain ⟨t,ht,hq⟩:=hbody A outer s H vs Q E (hr.deeper _) hsp
 have I : Inv (qM CX P w K mg base N qual scope f cdv A outer s H E) [] (start N vs) H s1:=qP S hr.hd e0 hl r x
 refine wpAny_mono (ht [] s1 (start N vs) H _ I hq) (fun fl s' hs => ?_) fun e s' hs => hs
 have fin : ∀ {σ' : St} {H' : Hp} {v : V} {u : Value},Inv (qM CX P w K mg base N qual scope f cdv A outer s H E) [] σ' H' s' -> RelV v u -> Q v H' -> CE outer P w H s Q u s' :=
  fun {σ' H' v u} J rv q => ⟨v,H',J.os,J.bare,J.base,J.hok,rv,q⟩
 cases fl with
 | ret u =>
  obtain ⟨v,σ',H',J,rv,q⟩:=hs
  exact fin J rv q
 | next =>
  obtain ⟨σ',H',J,q⟩:=hs
  exact fin (v:=V.non) (u:=Value.none) J rfl q
 | brk =>
  obtain ⟨_,_,_,q⟩:=hs
  exact False.elim q
 | cont =>
  obtain ⟨_,_,_,q⟩:=hs
  exact False.elim q
end L2
namespace L2
open PySem PySem.Spec PyProof.Rows
section
variable {X : Cx} {x : Str} {p pos : Pos} {e : Expr} {es : List Expr} {t : TA} {id T : String} {r : List V -> Hp -> VK -> Prop}
def tCB (r : List V -> Hp -> VK -> Prop) (t : TA) : TE:=fun σ H Q => t σ H fun vs H1 => r vs H1 Q
theorem aE (hc : c7 X (.builtin id) r) (hg : Gl X x) (hm : X.mg x = none) (hv : bootBuiltins x = some (.builtin id)) (ha : PA X (e :: es) t) (hn : x ≠ "__name__" := by decide) (hdb : (x == ("__debug__" : Str)) = false:=by decide)
  (he : starEach (e :: es) X.env = (false,eval e X.env) :: starEach es X.env:=by rfl) (hpl : (backTo pos (starEach es X.env)).any (·.1) = false:=by rfl) : PE X (.Call (.Name x p) (e :: es) [] pos) (tCB r t):=by
 intro pins s σ H Q I h
 refine wpAny_Call_Name_kw (hV I hg hm hv ?_ hn hdb)
 exact PyProof.Rows.callWith_builtin1 (thn (ha pos pins s σ H _ I h) fun us s1 ⟨vs,H1,I1,r1,q1⟩ => hc pins s1 σ H1 vs us Q I1 r1 q1) he hpl
theorem bb (hc : c7 X (.type T) r) (hg : Gl X x) (hm : X.mg x = none) (hv : bootBuiltins x = some (.type T)) (ha : PA X (e :: es) t) (hn : x ≠ "__name__" := by decide) (hdb : (x == ("__debug__" : Str)) = false:=by decide)
  (he : starEach (e :: es) X.env = (false,eval e X.env) :: starEach es X.env:=by rfl) (hpl : (backTo pos (starEach es X.env)).any (·.1) = false:=by rfl) : PE X (.Call (.Name x p) (e :: es) [] pos) (tCB r t):=by
 intro pins s σ H Q I h
 refine wpAny_Call_Name_kw (hV I hg hm hv ?_ hn hdb)
 exact PyProof.Rows.callWith_type1 (thn (ha pos pins s σ H _ I h) fun us s1 ⟨vs,H1,I1,r1,q1⟩ => hc pins s1 σ H1 vs us Q I1 r1 q1) he hpl
end
end L2
namespace HT
open PySem PyProof.Rows
section
open PySem.SeqAt
open PySem.AutoSeq1 (wpAny_loadPart')
open PySem.MeetsSeq PySem.MeetsSeq2 PySem.MeetsSeq3
end
section
variable {prog : Program} {w : World} {A : Around} {E : Value -> Shared -> Prop} {s : Shared}
end
end HT
namespace L2
open PySem PySem.Spec PyProof.Rows
abbrev TO:=St -> Hp -> (Option Int -> Hp -> Prop) -> Prop
section
variable {X : Cx} {e : Expr} {te : TE} {lo hi : Option Expr} {tl th : TO} {pos p2 : Pos}
end
end L2
namespace L2
open PySem PySem.Spec PyProof.Rows
def ixN (n : Nat) (i : Int) : Option Nat:=if 0 <= i then (if i < n then some i.toNat else none) else if -(n : Int) <= i then some (i + n).toNat else none
def atI {α : Type} (xs : List α) (i : Int) : Option α:=(ixN xs.length i).bind fun j => xs[j]?
theorem tW {n : Nat} {i : Int} {j : Nat} (h : ixN n i = some j) : seqIndex? i n = some j /\ j < n /\ -(n : Int) <= i /\ i < n:=by
 unfold ixN at h
 by_cases h0 : 0 <= i
 ·rw [if_pos h0] at h
  by_cases h1 : i < n
  ·rw [if_pos h1] at h
   have e : i.toNat = j:=Option.some.inj h
   exact ⟨by rw [seqIndex_of h0 h1,e],by omega,by omega,h1⟩
  ·rw [if_neg h1] at h; cases h
 ·rw [if_neg h0] at h
  by_cases h1 : -(n : Int) <= i
  ·rw [if_pos h1] at h
   have e : (i + n).toNat = j:=Option.some.inj h
   exact ⟨by rw [seqIndex_neg (by omega) h1,e],by omega,h1,by omega⟩
  ·rw [if_neg h1] at h; cases h
theorem kY {α : Type} {xs : List α} {i : Int} {v : α} (h : atI xs i = some v) : ∃ j,seqIndex? i xs.length = some j /\ xs[j]? = some v /\ j < xs.length /\ -(xs.length : Int) <= i /\ i < xs.length:=by
 unfold atI at h
 cases e : ixN xs.length i with
 | none => rw [e] at h; cases h
 | some j =>
  rw [e] at h
  obtain ⟨h1,h2,h3,h4⟩:=tW e
  exact ⟨j,h1,h,h2,h3,h4⟩
theorem pY {α : Type} {xs : List α} {j : Nat} {v : α} (h : xs[j]? = some v) : atI xs (j : Int) = some v:=by
 have hj : j < xs.length:=(List.getElem?_eq_some_iff.mp h).1
 have e : ixN xs.length (j : Int) = some j:=by
  unfold ixN
  rw [if_pos (by omega),if_pos (by omega)]; simp
 unfold atI; rw [e]; exact h
def pW (b : Expr) : Prop := ∀ o i,subscripted b false o i = operate [o,i] (getItem o i)
def IxR (X : Cx) (r : R2) : Prop:=
 ∀ (value slice : Expr) (pins : List (Addr × Obj)) (s : Shared) (σ : St) (H : Hp) (x y : V) (v u : Value) (Q : VK),Inv X pins σ H s -> RelV x v -> RelV y u -> r x y H Q ->
  subscripted slice false v u = operate [v,u] (getItem v u) -> wpAny (model X.prog X.w) X.A (subscriptTail value slice v u) (EP X pins σ Q) X.xe s
def MtR (X : Cx) (id : String) (r : V -> List V -> Hp -> VK -> Prop) : Prop:=
 ∀ (pins : List (Addr × Obj)) (s : Shared) (σ : St) (H : Hp) (x : V) (xs : List V) (v : Value) (us : List Value) (Q : VK),Inv X pins σ H s -> RelV x v -> Vals xs us -> r x xs H Q ->
  wpAny (model X.prog X.w) X.A (call (.builtin id) (v :: us)) (EP X pins σ Q) X.xe s
section
variable {X : Cx} {a b : Expr} {ta tb : TE} {pos : Pos}
theorem aI {r : R2} (hr : IxR X r) (ha : PE X a ta) (hb : PE X b tb) (hs : pW b) : PE X (.Subscript a b pos) (tOp r ta tb):=by
 intro pins s σ H Q I h
 exact Subscript_ (uR ha hb I h fun v u s2 x y H2 I2 rx ry q => hr a b pins s2 σ H2 x y v u Q I2 rx ry q (hs _ _))
def vH (K : PySem.W.Frag) : R2:=fun x y H Q => ∃ p xs i v,x = .ref p /\ y = .int i /\ SqL K H p xs /\ atI xs i = some v /\ Q v H
def vI (K : PySem.W.Frag) : R2:=fun x y H Q => ∃ p xs i v,x = .ref p /\ y = .int i /\ SqT K H p xs /\ atI xs i = some v /\ Q v H
def wt : R2:=fun x y H Q => ∃ z i c,x = .str z /\ y = .int i /\ z.length <= sizeLine /\ atI z.cps.toList i = some c /\ Q (.str ⟨#[c]⟩) H
theorem aM : IxR X (vH X.K):=by
 intro value slice pins s σ H x y v u Q I rx ry h hs
 obtain ⟨p,xs,i,z,rfl,rfl,hq,he,q⟩:=h
 cases rx
 obtain ⟨t,rfl⟩:=ry
 obtain ⟨its,r,pl,hz⟩:=I.list hq
 obtain ⟨j,h1,h2,h3,h4,h5⟩:=kY he
 obtain ⟨w,ew,rw'⟩:=r.get h2
 have hl:=r.length
 have hn:=hX
 have fin : EP X pins σ Q w s:=⟨z,H,I,rw',q⟩
 by_cases h0 : 0 <= i
 ·have hj : i.toNat = j:=by
   rw [seqIndex_of h0 h5] at h1
   exact Option.some.inj h1
  exact item_listR pl.isList h0 (by omega) (by rw [hj]; simpa using ew) fin hs
 ·have hj : (i + (its.toArray.size : Int)).toNat = j:=by
   rw [seqIndex_neg (by omega) h4] at h1
   rw [List.size_toArray,<- hl]
   exact Option.some.inj h1
  exact subscriptTail_builtinR (x:=w) pl.isList.typeIs slot_list_getitem.lookup
   (wpAny_getItem_list_neg (Q:=fun r s' => r = w /\ EP X pins σ Q r s') pl.isList (by omega) (by rw [List.size_toArray] <;> omega) (by omega) (by rw [hj]; simpa using ew) ⟨rfl,fin⟩) hs
theorem bJ : IxR X (vI X.K):=by
 intro value slice pins s σ H x y v u Q I rx ry h hs
 obtain ⟨p,xs,i,z,rfl,rfl,hq,he,q⟩:=h
 cases rx
 obtain ⟨t,rfl⟩:=ry
 obtain ⟨its,r,pl,hz⟩:=I.tuple hq
 obtain ⟨j,h1,h2,h3,h4,h5⟩:=kY he
 obtain ⟨w,ew,rw'⟩:=r.get h2
 have hl:=r.length
 have hn:=hX
 have fin : EP X pins σ Q w s:=⟨z,H,I,rw',q⟩
 exact subscriptTail_builtinR (x:=w) pl.typeIs slot_tuple_getitem.lookup
  (getItem_tuple (j:=j) (Q:=fun r s' => r = w /\ EP X pins σ Q r s') pl (by omega) (by omega) (by rw [List.size_toArray,<- hl]; exact h1) (by simpa using ew) ⟨rfl,fin⟩) hs
theorem oX : IxR X wt:=by
 intro value slice pins s σ H x y v u Q I rx ry h hs
 obtain ⟨z,i,c,rfl,rfl,hz,he,q⟩:=h
 obtain ⟨t,rfl⟩:=rx
 obtain ⟨t',rfl⟩:=ry
 obtain ⟨j,h1,h2,h3,h4,h5⟩:=kY he
 have hl : z.cps.toList.length = z.length:=by simp [Str.length]
 rw [hl] at h1 h4 h5
 have hn:=hX
 exact tail_any (typeIs_str s z t) slot_str_getitem.lookup (getItem_str (c:=c) (by
  have e1 : decide (i < -(2 ^ 63 : Int)) = false:=decide_eq_false (by omega)
  have e2 : decide (i ≥ 2 ^ 63) = false:=decide_eq_false (by omega)
  rw [e1,e2,Bool.or_false]) (by rw [h1]; simpa using h2) ⟨.str ⟨#[c]⟩,H,I.tok _,⟨_,rfl⟩,q⟩) hs
def iB : V -> Bool
 | .non => true
 | .bl _ => true
 | .int _ => true
 | .str _ => true
 | _ => false
def eqV : V -> V -> Bool
 | .non,.non => true
 | .bl a,.bl b => a == b
 | .bl a,.int b => (if a then 1 else 0) == b
 | .int a,.bl b => a == (if b then 1 else 0)
 | .int a,.int b => a == b
 | .str a,.str b => a == b
 | _,_ => false
theorem uW {A : Around} {s : Shared} {y x : V} {u v : Value} (ry : RelV y u) (rx : RelV x v) (fy : iB y = true) (fx : iB x = true) : SeqAt.EqAt A s u v (eqV y x):=by
 cases y with
 | non =>
  cases ry
  cases x with
  | non => cases rx; exact SeqAt.EqAt.same _
  | bl b => cases rx; exact SeqAt.EqAt.none_bool b
  | int b => obtain ⟨t,rfl⟩:=rx; exact SeqAt.EqAt.none_int b t
  | str b => obtain ⟨t,rfl⟩:=rx; exact SeqAt.EqAt.none_str b t
  | _ => exact absurd (show false = true from fx) Bool.false_ne_true
 | bl a =>
  cases ry
  cases x with
  | non => cases rx; exact SeqAt.EqAt.bool_none a
  | bl b => cases rx; exact SeqAt.EqAt.bool_bool a b
  | int b => obtain ⟨t,rfl⟩:=rx; exact SeqAt.EqAt.bool_int a b t
  | str b => obtain ⟨t,rfl⟩:=rx; exact SeqAt.EqAt.bool_str a b t
  | _ => exact absurd (show false = true from fx) Bool.false_ne_true
 | int a =>
  obtain ⟨t',rfl⟩:=ry
  cases x with
  | non => cases rx; exact SeqAt.EqAt.int_none a t'
  | bl b => cases rx; exact SeqAt.EqAt.int_bool a t' b
  | int b => obtain ⟨t,rfl⟩:=rx; exact SeqAt.EqAt.int_int a t' b t
  | str b => obtain ⟨t,rfl⟩:=rx; exact SeqAt.EqAt.int_str a t' b t
  | _ => exact absurd (show false = true from fx) Bool.false_ne_true
 | str a =>
  obtain ⟨t',rfl⟩:=ry
  cases x with
  | non => cases rx; exact SeqAt.EqAt.str_none a t'
  | bl b => cases rx; exact SeqAt.EqAt.str_bool a t' b
  | int b => obtain ⟨t,rfl⟩:=rx; exact SeqAt.EqAt.str_int a t' b t
  | str b => obtain ⟨t,rfl⟩:=rx; exact SeqAt.EqAt.str_str a t' b t
  | _ => exact absurd (show false = true from fx) Bool.false_ne_true
 | _ => exact absurd (show false = true from fy) Bool.false_ne_true
def eqU (x : V) (u : Value) : Bool:=match u with
 | .none => eqV .non x
 | .bool b => eqV (.bl b) x
 | .int i _ => eqV (.int i) x
 | .str z _ => eqV (.str z) x
 | _ => false
theorem rN {x y : V} {u : Value} (r : RelV y u) (f : iB y = true) : eqU x u = eqV y x:=by
 cases y with
 | non => cases r; rfl
 | bl b => cases r; rfl
 | int i => obtain ⟨t,rfl⟩:=r; rfl
 | str z => obtain ⟨t,rfl⟩:=r; rfl
 | _ => exact absurd (show false = true from f) Bool.false_ne_true
theorem kX {x : V} : ∀ {xs : List V} {us : List Value},Vals xs us -> xs.all iB = true -> us.any (eqU x) = xs.any fun y => eqV y x
 | _,_,.nil,_ => rfl
 | y :: xs,u :: us,.cons r t,f => by
  rw [List.all_cons,Bool.and_eq_true] at f
  rw [List.any_cons,List.any_cons,rN r f.1,kX t f.2]
theorem jy {A : Around} {s : Shared} {x : V} {v : Value} (rx : RelV x v) (fx : iB x = true) : ∀ {xs : List V} {us : List Value},Vals xs us -> xs.all iB = true -> ∀ u ∈ us,SeqAt.EqAt A s u v (eqU x u)
 | _,_,.nil,_ => fun u hu => by cases hu
 | y :: xs,u :: us,.cons r t,f => fun u' hu => by
  rw [List.all_cons,Bool.and_eq_true] at f
  rcases List.mem_cons.mp hu with rfl | hu
  ·rw [rN r f.1]; exact uW r rx f.1 fx
  ·exact jy rx fx t f.2 u' hu
def inV (x : V) (xs : List V) : Bool:=xs.any fun y => eqV y x
def rIn (K : PySem.W.Frag) (neg : Bool) : R2:=fun x y H Q => ∃ p xs,y = .ref p /\ (SqL K H p xs \/ SqT K H p xs) /\ iB x = true /\ xs.all iB = true /\ Q (.bl (if neg then !inV x xs else inV x xs)) H
theorem dy : OpR X (compareOp .In) (rIn X.K false):=by
 intro pins s σ H x y v u Q I rx ry h
 obtain ⟨p,xs,rfl,hq,fx,fs,q⟩:=h
 cases ry
 rcases hq with hq | hq
 ·obtain ⟨its,r,pl,hz⟩:=I.list hq
  refine SeqAt.in_listAt (eqU x) pl.isList (fun w hw => jy rx fx r fs w (by simpa using hw)) ⟨.bl _,H,I,rfl,?_⟩
  rw [show its.toArray.any (eqU x) = its.any (eqU x) by simp,kX r fs]
  exact q
 ·obtain ⟨its,r,pl,hz⟩:=I.tuple hq
  refine SeqAt.in_tupleAt (eqU x) pl (fun w hw => jy rx fx r fs w (by simpa using hw)) ⟨.bl _,H,I,rfl,?_⟩
  rw [show its.toArray.any (eqU x) = its.any (eqU x) by simp,kX r fs]
  exact q
theorem aZ : c7 X (.builtin "len") (fun xs H Q => ∃ p ys,xs = [.ref p] /\ (SqL X.K H p ys \/ SqT X.K H p ys) /\ Q (.int ys.length) H):=by
 intro pins s σ H xs us Q I r h
 obtain ⟨p,ys,rfl,hq,q⟩:=h
 obtain ⟨u,rfl,rx⟩:=vals1 r
 cases rx
 have hn:=hX
 rcases hq with hq | hq
 ·obtain ⟨its,r',pl,hz⟩:=I.list hq
  have hlen:=r'.length
  exact Calls.call_len_list pl.isList (by simp only [List.size_toArray] <;> omega) ⟨.int ys.length,H,I.tok _,⟨s.toks + 1,by rw [List.size_toArray,hlen]⟩,q⟩
 ·obtain ⟨its,r',pl,hz⟩:=I.tuple hq
  have hlen:=r'.length
  exact len_tuple pl (by simp only [List.size_toArray] <;> omega) ⟨.int ys.length,H,I.tok _,⟨s.toks + 1,by rw [List.size_toArray,hlen]⟩,q⟩
theorem gv : c7 X (.builtin "len") (fun xs H Q => ∃ z,xs = [.str z] /\ z.length <= sizeLine /\ Q (.int z.length) H):=by
 intro pins s σ H xs us Q I r h
 obtain ⟨z,rfl,hz,q⟩:=h
 obtain ⟨u,rfl,t,rfl⟩:=vals1 r
 have hn:=hX
 exact len_str (by omega) ⟨.int z.length,H,I.tok _,⟨_,rfl⟩,q⟩
theorem dq : c7 X (.type "tuple") (fun xs H Q => ∃ p ys,xs = [.ref p] /\ ((SqL X.K H p ys /\ ∀ l,H l = none -> Q (.ref l) (upd H l (.tup ys))) \/ (SqT X.K H p ys /\ Q (.ref p) H))):=by
 intro pins s σ H xs us Q I r h
 obtain ⟨p,ys,rfl,h⟩:=h
 obtain ⟨u,rfl,rx⟩:=vals1 r
 cases rx
 rcases h with ⟨hq,q⟩ | ⟨hq,q⟩
 ·obtain ⟨its,r',pl,hz⟩:=I.list hq
  have hlen:=r'.length
  refine call_tuple_list pl.isList (fun h' kp => ?_) (by simp only [List.size_toArray] <;> omega)
  have I1 : Inv X pins σ H { s with heap:=h' }:=I.kept (t' := s.toks) kp
  have I2 : Inv X pins σ (upd H h'.objs.size (.tup ys)) { s with heap:=h'.push { cls:=.type "tuple",data:=.seq its.toArray } }:=
   I1.laid (t' := s.toks) (fun b o e => Heap.get?_push_of_some _ e) (Nat.le_refl _) (show ObjOk X.prog X.w _ _ _ (.tup ys) from ⟨hz,its,r',IsTup.new _ _⟩)
  exact ⟨.ref h'.objs.size,_,I2,rfl,q _ (I1.hok.fresh (Nat.le_refl _))⟩
 ·obtain ⟨its,r',pl,hz⟩:=I.tuple hq
  exact call_tuple_same pl ⟨.ref p,H,I,rfl,q⟩
def tyV (K : PySem.W.Frag) (T : String) (x : V) (H : Hp) : Prop:=match x with
 | .str _ => T = "str"
 | .int _ => T = "int"
 | .ref p => (T = "list" /\ ∃ xs,SqL K H p xs) \/ (T = "tuple" /\ ∃ o,K.lookup p = some o /\ o.cls = .type "tuple" /\ o.dict = none) \/
   (T = "dict" /\ ((∃ kvs,H p = some (.dK kvs)) \/ ∃ kvs,H p = some (.dT kvs))) \/ (T = "set" /\ ∃ S n,H p = some (.set S n))
 | _ => False
theorem sX {pins : List (Addr × Obj)} {σ : St} {H : Hp} {s : Shared} {T : String} {x : V} {v : Value} (I : Inv X pins σ H s) (r : RelV x v) (ty : tyV X.K T x H) :
  s.TypeIs v T /\ ∀ a,v = .ref a -> ∃ ob,s.heap.get? a = some ob /\ ob.dict = none:=by
 cases x with
 | str z =>
  obtain ⟨t,rfl⟩:=r
  cases (show T = "str" from ty)
  exact ⟨typeIs_str s z t,fun _ e => nomatch e⟩
 | int i =>
  obtain ⟨t,rfl⟩:=r
  cases (show T = "int" from ty)
  exact ⟨typeIs_int s i t,fun _ e => nomatch e⟩
 | ref p =>
  cases r
  rcases ty with ⟨rfl,xs,hq⟩ | ⟨rfl,o,hk,hc,hd⟩ | ⟨rfl,hk⟩ | ⟨rfl,S,n,hk⟩
  ·obtain ⟨its,_,pl,_⟩:=I.list hq
   refine ⟨pl.isList.typeIs,fun a e => ?_⟩
   cases e
   obtain ⟨o,n,e,c,hd,_⟩:=pl
   exact ⟨o,e,hd⟩
  ·refine ⟨⟨o,I.kIn p o hk,hc⟩,fun a e => ?_⟩
   cases e
   exact ⟨o,I.kIn _ o hk,hd⟩
  ·have z : ∃ o,s.heap.get? p = some o /\ o.ExactDict:=by
    rcases hk with ⟨kvs,hk⟩ | ⟨kvs,hk⟩
    ·obtain ⟨_,_,_,_,o,_,_,e,ex,_⟩:=I.hok p _ hk
     exact ⟨o,e,ex⟩
    ·obtain ⟨_,_,_,_,o,_,_,e,ex,_⟩:=I.hok p _ hk
     exact ⟨o,e,ex⟩
   obtain ⟨o,e,ex⟩:=z
   refine ⟨⟨o,e,ex.1⟩,fun a e2 => ?_⟩
   cases e2
   exact ⟨o,e,ex.2.1⟩
  ·obtain ⟨o,_,_,_,e,ex,_⟩:=I.hok p _ hk
   refine ⟨⟨o,e,ex.1⟩,fun a e2 => ?_⟩
   cases e2
   exact ⟨o,e,ex.2.1⟩
 | _ => exact False.elim ty
def wx (K : PySem.W.Frag) (T : String) (r : V -> List V -> Hp -> VK -> Prop) (to : TE) : TE:=fun σ H Q => to σ H fun x H1 => tyV K T x H1 /\ r x [] H1 Q
def tBM (K : PySem.W.Frag) (T : String) (r : V -> List V -> Hp -> VK -> Prop) (to : TE) (t : TA) : TE:=fun σ H Q => to σ H fun x H1 => tyV K T x H1 /\ t σ H1 fun xs H2 => r x xs H2 Q
variable {o e : Expr} {es : List Expr} {to : TE} {t : TA} {name : Str} {apos cpos : Pos} {T id : String} {r : V -> List V -> Hp -> VK -> Prop}
theorem ij (pa : PlainAttrs T) (slot : Slot T name id) (hty : typeOf (.builtin id) = pure (.type "method_descriptor")) (hm : MtR X id r) (ho : PE X o to)
  (hbase : attributeBase o name X.env (eval o X.env) = eval o X.env:=by rfl) (hline : (apos.endLine == cpos.line) = true:=by rfl) : PE X (.Call (.Attribute o name apos) [] [] cpos) (wx X.K T r to):=by
 intro pins s σ H Q I h
 refine wpAny_Call_method0_late hbase hline (thn (ho pins s σ H _ I h) fun v s1 ⟨x,H1,I1,r1,ty,q1⟩ => ?_)
 obtain ⟨h1,h2⟩:=sX I1 r1 ty
 exact ⟨T,id,pa,slot,hty,h1,h2,Calls.callWith_builtin rfl (PySem.evalArgs_none (hm pins s1 σ H1 x [] v [] Q I1 r1 .nil q1))⟩
theorem cm (pa : PlainAttrs T) (slot : Slot T name id) (hty : typeOf (.builtin id) = pure (.type "method_descriptor")) (hm : MtR X id r) (ho : PE X o to) (ha : PA X (e :: es) t)
  (hbase : attributeBase o name X.env (eval o X.env) = eval o X.env:=by rfl)
  (hfew : ((backTo cpos (starEach (e :: es) X.env)).all (fun x => !x.1) && (backToKw cpos (keywordEach [] X.env)).all (fun x => x.1.isSome)
   && decide ((e :: es).length + ([] : List Keyword).length + (if ([] : List Keyword).isEmpty then 0 else 1) < 30)) = true:=by rfl)
  (hline : (apos.endLine == cpos.line) = true:=by rfl) (hs : starEach (e :: es) X.env = (false,eval e X.env) :: starEach es X.env:=by rfl) (hplain : (backTo cpos (starEach es X.env)).any (·.1) = false:=by rfl) :
  PE X (.Call (.Attribute o name apos) (e :: es) [] cpos) (tBM X.K T r to t):=by
 intro pins s σ H Q I h
 refine wpAny_Call_method_late hbase hfew hline rfl (thn (ho pins s σ H _ I h) fun v s1 ⟨x,H1,I1,r1,ty,q1⟩ => ?_)
 obtain ⟨h1,h2⟩:=sX I1 r1 ty
 refine ⟨T,id,pa,slot,hty,h1,h2,?_⟩
 have hA:=ha cpos pins s1 σ H1 _ I1 q1
 rw [hs] at hA ⊢
 refine Calls.callWith_builtin (by show (false || (backTo cpos (starEach es X.env)).any (·.1)) = false; rw [hplain] <;> rfl) (Calls.evalArgs_plain ?_)
 exact thn hA fun us s2 ⟨vs,H2,I2,r2,q2⟩ => hm pins s2 σ H2 x vs v us Q I2 r1 r2 q2
/- xs.append(e),list.index on a module's tuple .. are MtR facts of 06m -/
end
end L2
namespace L2
open PySem PySem.Spec PyProof.Rows
def MtM (X : Cx) (id : String) (r : V -> List V -> Hp -> VK -> Prop) : Prop:=
 ∀ (pins : List (Addr × Obj)) (s : Shared) (σ : St) (H : Hp) (x : V) (xs : List V) (v : Value) (us : List Value) (Q : VK),Inv X pins σ H s -> RelV x v -> Vals xs us -> r x xs H Q ->
  wpAny (model X.prog X.w) X.A (call (.builtin id) (v :: us)) (EP X pins σ Q) X.xe s
theorem Vals.one : ∀ {x : V} {us : List Value},Vals [x] us -> ∃ u,us = [u] /\ RelV x u
 | _,_,.cons r .nil => ⟨_,rfl,r⟩
theorem Vals.two : ∀ {x y : V} {us : List Value},Vals [x,y] us -> ∃ u v,us = [u,v] /\ RelV x u /\ RelV y v
 | _,_,_,.cons r (.cons q .nil) => ⟨_,_,rfl,r,q⟩
theorem Vals.zero : ∀ {us : List Value},Vals [] us -> us = []
 | _,.nil => rfl
theorem Vals.dropLast {xs : List V} {us : List Value} (h : Vals xs us) : Vals xs.dropLast us.dropLast:=by
 induction h with
 | nil => exact .nil
 | cons r t ih =>
  cases t with
  | nil => exact .nil
  | cons q t' => exact .cons r ih
theorem oQ {α : Type} (l : List α) : l.eraseIdx (l.length - 1) = l.dropLast:=by
 induction l with
 | nil => rfl
 | cons a r ih =>
  cases r with
  | nil => rfl
  | cons b r =>
   have e : (a :: b :: r).length - 1 = ((b :: r).length - 1) + 1:=by
    have h1 : (a :: b :: r).length = r.length + 2:=rfl
    have h2 : (b :: r).length = r.length + 1:=rfl
    omega
   rw [e,List.eraseIdx_cons_succ,ih]
   all_goals rfl
section
variable {X : Cx} {pins : List (Addr × Obj)} {σ : St} {H : Hp} {s : Shared} {l b : Addr} {xs ys zs : List V}
theorem Inv.lset {its its' : List Value} {n : Nat} {f : Array Value -> Array Value} {t' : Nat} (I : Inv X pins σ H s) (hH : H l = some (.lst xs))
  (e : s.heap.get? l = some { cls:=.type "list",data:=.seq its.toArray n }) (hf : f its.toArray = its'.toArray) (hv : Vals ys its') (hz : ys.length <= sizeLine) :
  Inv X pins σ (upd H l (.lst ys)) { s with heap:=s.heap.update l (Obj.mapSeq f),toks:=t' }:=by
 have q:=PySem.IsL.update e f
 rw [hf] at q
 refine I.write (x:=l) (e:=l) (by rw [hH]; exact trivial) (.inl rfl) (fun b' u hb hu => (Heap.get?_update_other s.heap (Obj.mapSeq f) (Ne.symm hb)).trans hu) ⟨_,q⟩ ?_
 exact ⟨hz,its',_,hv,q⟩
theorem Inv.lnew {its : List Value} {t' : Nat} (I : Inv X pins σ H s) (hv : Vals ys its) (hz : ys.length <= sizeLine) :
  Inv X pins σ (upd H s.heap.objs.size (.lst ys)) { s with heap:=s.heap.push { cls:=.type "list",data:=.seq its.toArray },toks:=t' }:=
 I.laid (fun _ _ q => Heap.get?_push_of_some _ q) (Nat.le_refl _) ⟨hz,its,0,hv,Heap.get?_push_size _ rfl⟩
theorem Inv.fresh (I : Inv X pins σ H s) : H s.heap.objs.size = none:=I.hok.fresh (Nat.le_refl _)
theorem Inv.lstM (I : Inv X pins σ H s) (hH : H l = some (.lst xs)) : xs.length <= sizeLine /\ ∃ (its : List Value) (n : Nat),Vals xs its /\ xs.length = its.length /\ s.heap.get? l = some { cls:=.type "list",data:=.seq its.toArray n }:=by
 obtain ⟨z,its,n,r,e⟩:=I.hok l _ hH
 exact ⟨z,its,n,r,r.length,e⟩
theorem nQ {n : Nat} (h : n <= sizeLine) : Builtin.List.listTooLong n = false:=by
 unfold Builtin.List.listTooLong
 exact decide_eq_false (by omega)
end
section
variable {X : Cx}
def uw : V -> List V -> Hp -> VK -> Prop:=fun x vs H Q => ∃ l xs y,x = .ref l /\ vs = [y] /\ H l = some (.lst xs) /\ xs.length < sizeLine /\ Q .non (upd H l (.lst (xs ++ [y])))
theorem aW : MtM X "list.append" uw:=by
 intro pins s σ H x vs v us Q I rx rv h
 obtain ⟨l,xs,y,rfl,rfl,hH,hz,q⟩:=h
 cases rx
 obtain ⟨u,rfl,ru⟩:=rv.one
 obtain ⟨z,its,n,r,hl,e⟩:=I.lstM hH
 refine call_meets F.slot_list_append ⟨_,e,rfl⟩ F.entry_list_append (F.args_list_append_2 _ _) (PySem.list_append l its.toArray n u (by rw [List.size_toArray]; omega)) ⟨e,?_⟩
 refine ⟨.non,_,I.lset (its' := its ++ [u]) hH e (by simp) (r.append (.cons ru .nil)) ?_,rfl,q⟩
 rw [List.length_append,List.length_singleton]
 omega
def qs : V -> List V -> Hp -> VK -> Prop:=fun x vs H Q => ∃ l b xs zs,x = .ref l /\ vs = [.ref b] /\ H l = some (.lst xs) /\ H b = some (.lst zs) /\ xs.length + zs.length <= sizeLine /\ Q .non (upd H l (.lst (xs ++ zs)))
theorem qX : MtM X "list.extend" qs:=by
 intro pins s σ H x vs v us Q I rx rv h
 obtain ⟨l,b,xs,zs,rfl,rfl,hH,hB,hz,q⟩:=h
 cases rx
 obtain ⟨u,rfl,ru⟩:=rv.one
 cases ru
 obtain ⟨z,its,n,r,hl,e⟩:=I.lstM hH
 obtain ⟨z2,its2,n2,r2,hl2,e2⟩:=I.lstM hB
 have hsz : its.toArray.size + its2.toArray.size <= sizeLine:=by rw [List.size_toArray,List.size_toArray]; omega
 have hlong : ¬ (!its.toArray.isEmpty && Builtin.List.listTooLong (its.toArray.size + its2.toArray.size)) = true:=by
  rw [nQ hsz,Bool.and_false]
  exact Bool.false_ne_true
 refine call_meets F.slot_list_extend ⟨_,e,rfl⟩ F.entry_list_extend (F.args_list_extend_2 _ _)
  (AutoSeq1.list_extend_list_list_0 l its.toArray n b its2.toArray n2 hlong (by rw [List.size_toArray]; omega) (by omega)) ⟨e,e2,?_⟩
 refine ⟨.non,_,I.lset (its' := its ++ its2) hH e (by simp) (r.append r2) ?_,rfl,q⟩
 rw [List.length_append]
 omega
def wu : V -> List V -> Hp -> VK -> Prop:=fun x vs H Q => ∃ l xs y,x = .ref l /\ vs = [] /\ H l = some (.lst xs) /\ xs[xs.length - 1]? = some y /\ Q y (upd H l (.lst xs.dropLast))
theorem hZ : MtM X "list.pop" wu:=by
 intro pins s σ H x vs v us Q I rx rv h
 obtain ⟨l,xs,y,rfl,rfl,hH,hy,q⟩:=h
 cases rx
 have hus:=rv.zero
 subst hus
 obtain ⟨z,its,n,r,hl,e⟩:=I.lstM hH
 obtain ⟨u,hu,ru⟩:=r.get hy
 have hy' : its.toArray[its.toArray.size - 1]? = some u:=by
  show its.toArray[its.length - 1]? = some u
  rw [<- Array.getElem?_toList,<- hl]
  exact hu
 refine call_meets F.slot_list_pop ⟨_,e,rfl⟩ F.entry_list_pop (F.args_list_pop_1 _) (MeetsSeq.list_pop_last l its.toArray n u hy' (by rw [List.size_toArray]; omega)) ⟨e,?_⟩
 refine ⟨y,_,I.lset (its' := its.dropLast) hH e ?_ r.dropLast ?_,ru,q⟩
 ·show its.toArray.eraseIdxIfInBounds (its.toArray.size - 1) = its.dropLast.toArray
  rw [List.size_toArray,List.eraseIdxIfInBounds_toArray,oQ]
 ·rw [List.length_dropLast]
  omega
def wo : R2:=fun x y H Q => ∃ l b xs zs,x = .ref l /\ y = .ref b /\ H l = some (.lst xs) /\ H b = some (.lst zs) /\ xs.length + zs.length <= sizeLine /\ ∀ p,H p = none -> Q (.ref p) (upd H p (.lst (xs ++ zs)))
theorem pq : OpR X (binaryOp .Add) wo:=by
 intro pins s σ H x y v u Q I rx ry h
 obtain ⟨l,b,xs,zs,rfl,rfl,hH,hB,hz,q⟩:=h
 cases rx
 cases ry
 obtain ⟨z,its,n,r,hl,e⟩:=I.lstM hH
 obtain ⟨z2,its2,n2,r2,hl2,e2⟩:=I.lstM hB
 refine PySem.P.add_list e e2 ?_ (by rw [List.size_toArray,List.size_toArray]; omega)
 have ea : its.toArray ++ its2.toArray = (its ++ its2).toArray:=by simp
 rw [ea]
 exact ⟨.ref _,_,I.lnew (t' := s.toks) (r.append r2) (by rw [List.length_append]; omega),rfl,q _ I.fresh⟩
end
section
variable {prog : Program} {w : World} {A : Around} {E : Value -> Shared -> Prop} {s : Shared}
end
section
variable {X : Cx}
end
end L2
namespace Att
open PySem PySem.W PySem.Calls PyProof.Rows
theorem iO {P : Params} {h : Heap} : ∀ (ns : List Int) (vs : List Value),WellAll P h vs (ns.map WData.int) -> IntsAre vs ns:=by
 intro ns
 induction ns with
 | nil =>
  intro vs w
  rw [List.map_nil] at w
  cases w
  exact .nil
 | cons n ns ih =>
  intro vs w
  rw [List.map_cons] at w
  cases w with
  | cons a b =>
   cases a
   exact .cons _ _ (ih _ b)
theorem rh {l : OpenLaw} {n : Nat} (hn : l.most = some n) {P : Params} {h : Heap} {args : List WData} {vals : List Value}
  (hpre : l.row.toRowW.claim.pre args = true) (hwl : WellAll P h vals args) :
  ∃ a vs ns,vals = [Value.ref a] /\ args = [WData.list (ns.map WData.int)] /\ h.get? a = some { cls:=.type "list",data:=.seq vs.toArray } /\ IntsAre vs ns /\ ns.length <= n:=by
 have hsh : WShape.hasAll [] args [.list .int] = true:=(pre_splitW hpre).1
 have hc : l.pre.holds [] { args:=args } = true:=(pre_splitW hpre).2
 obtain ⟨d,r,rfl,h1,h2⟩:=hasAllW_cons hsh
 obtain rfl:=hasAllW_nil h2
 obtain ⟨xs,rfl,h3⟩:=hasW_list h1
 obtain ⟨ns,rfl⟩:=items_int h3
 have hlen : ns.length <= n:=by
  unfold OpenLaw.pre at hc
  have h4 : (WTm.not (.lt (.lit (.int (n : Int))) (.len (.arg 0)))).holds [] { args:=[.list (ns.map .int)] } = true:=by
   have h4:=(holds_andW hc).1
   rw [hn] at h4
   exact h4
  have h5:=condW_of h4 (w_not (w_lt w_lit (w_len_list (w_arg rfl))))
  rw [List.length_map] at h5
  refine Nat.le_of_not_lt fun q => ?_
  have q' : (n : Int) < ((ns.length : Nat) : Int):=by omega
  first
   | (rw [decide_eq_true q'] at h5; exact absurd h5 (by decide))
   | (simp at h5; omega)
 cases hwl with
 | cons w1 w2 =>
  cases w2
  cases w1 with
  | list ho hall => exact ⟨_,_,ns,rfl,rfl,ho,iO ns _ hall,hlen⟩
theorem rg (l : OpenLaw) (args : List WData) : l.row.toRowW.claim.post args (.bool true) args = true:=
 postW_of (r:=l.row.toRowW) (X:=(true == true))
  (show WShape.has [] (.bool true) .bool = true by first | rfl | decide | simp [WShape.has,WShape.arms,WShape.armsAll])
  (show (WTm.eq .res (.lit (.bool true))).value [] { args:=args,res:=some (.bool true),after:=args } = some (.bool (true == true)) from w_eq_bool (w_res rfl) w_lit) rfl
theorem attach_call {l : OpenLaw} {n : Nat} {q : Program} {loose : List Str} {XP : (Str -> Option Value) -> Heap -> Prop} {YP : World -> Heap -> Prop} {d : DefRec}
  (hn : l.most = some n) (hdf : d.params.defaults = [])
  (call : ∀ (w : World) (s₀ s₁ : Shared) (mg mb : Str -> Option Value) (fa : Addr) (o : Obj) (pm cd doc : Value) (a : Addr) (vs : List Value) (ns : List Int),
   Ground q loose [] XP w s₀ mg mb s₁.heap -> YP w s₁.heap ->
   s₁.heap.get? fa = some o -> o.data = .func (docDef d.name d.params d.body d.scope pm cd doc) -> s₁.heap.CodeRec cd d.name -> mg d.name = some (.ref fa) ->
   s₁.heap.get? a = some { cls:=.type "list",data:=.seq vs.toArray } -> IntsAre vs ns -> ns.length <= n -> s₁.gens = #[] ->
   codeAny (model l.prog w) callerA (.call (.ref fa) ⟨[.ref a],[]⟩) (fun r s' => r = .ok (.ret (.bool true)) /\ OldK s₁.heap s'.heap /\ s'.os = s₁.os /\ AllBare s'.gens) s₁) :
  WalkO q loose XP YP l.row.toRowW d [] (fun f vs => PySem.call f vs):=by
 intro w s₀ s₁ mg mb G Y fa o pm cd doc dV kV ho hd hcd hD hmg hg args vals as hpre hlay hrd hwl hlo
 obtain rfl : dV = .none:=Dflts.none hD hdf
 obtain rfl : kV = .none:=Dflts.noKw hD
 obtain ⟨a,vs,ns,rfl,rfl,hobj,hints,hlen⟩:=rh hn hpre hwl
 refine enter_call (codeAny_mono (call w s₀ s₁ mg mb fa o pm cd doc a vs ns G Y ho (fd_plain hd) hcd hmg hobj hints hlen hg) fun r s' hq => ?_)
 obtain ⟨rfl,h2,h3,h4⟩:=hq
 exact ⟨.inl ⟨.bool true,.bool true,[],rfl,fun _ => rfl,.bool true,rg l _,fun _ => ⟨List.Pairwise.nil,fun _ hm => (nomatch hm)⟩⟩,h2,h3,h4⟩
section
variable {prog : Program} {w : World} {A : Around} {E : Value -> Shared -> Prop} {s : Shared} {K : Frag}
def ledger (h : Heap) (L d : Addr) : List (Addr × Obj):=(List.range h.objs.size).filterMap fun a => if a = L \/ a = d then none else (h.get? a).map fun o => (a,o)
end
end Att
namespace L2
open PySem PySem.Spec PyProof.Rows
theorem kL : ∀ {vs : List Value} {ns : List Int},IntsAre vs ns -> Vals (ns.map V.int) vs
 | _,_,.nil => .nil
 | _,_,.cons n t h => .cons ⟨t,rfl⟩ (kL h)
def uO (H : Hp) : Prop := ∀ b,H b = none \/ ∃ o xs,H b = some (.frz o (.lst xs))
theorem r8 {P : Program} {w : World} {K : PySem.W.Frag} {mg mb : Str -> Option Value} {CX : CXT} {k : Nat} {fa a : Addr} {fd : FuncData} {x : Str} {sp : Sp} {s₁ : Shared} {vs : List Value} {ns : List Int}
  (KX : K.In s₁.heap) (hns : s₁.heap.Ns mainGlobals mg) (hb : s₁.heap.Ns builtinsNs mb) (hbb : ∀ x : Str,x ≠ "__name__" -> mb x = bootBuiltins x) (hlim : s₁.heap.NoLimit) (hg : s₁.gens = #[])
  (ha : s₁.heap.get? a = some { cls:=.type "list",data:=.seq vs.toArray }) (hi : IntsAre vs ns) (hl : ns.length <= sizeLine) (hr : Room k callerA)
  (F : ∀ base : Heap,K.In base -> base.Ns mainGlobals mg -> FnOk P w K mg base CX k fa fd [x] sp) (hbind : ∀ (s : Shared) (u : Value),BindsTo s fd ⟨[u],[]⟩ [(x,u)])
  (hsp : ∀ H : Hp,uO H -> SqL K H a (ns.map V.int) -> sp [.ref a] H (fun v _ => v = .bl true) fun _ _ _ => False)
  (hCX : ∀ H e s',CX [] H s₁ (fun _ _ _ => False) e s' -> False) :
  codeAny (model P w) callerA (.call (.ref fa) ⟨[.ref a],[]⟩) (fun r s' => r = .ok (.ret (.bool true)) /\ OldK s₁.heap s'.heap /\ s'.os = s₁.os /\ AllBare s'.gens) s₁:=by
 have rv:=kL hi
 have lenV:=hi.length
 have core : ∀ H : Hp,uO H -> SqL K H a (ns.map V.int) -> HOk P w H s₁.heap -> (∀ b,H b ≠ none -> b = a) -> (H a ≠ none -> K.lookup a = none) ->
   codeAny (model P w) callerA (.call (.ref fa) ⟨[.ref a],[]⟩) (fun r s' => r = .ok (.ret (.bool true)) /\ OldK s₁.heap s'.heap /\ s'.os = s₁.os /\ AllBare s'.gens) s₁:=by
  intro H hO hS hok hA hK
  have base_of : ∀ {b : Addr} {o : Obj},s₁.heap.get? b = some o -> H b = none -> (lH s₁.heap H).get? b = some o:=fun e n => rU e n
  have noA : ∀ {b : Addr} {o : Obj} {es : Array DictEntry} {ep : Nat},s₁.heap.get? b = some o -> o.data = .dict es ep -> H b = none:=fun {b o es ep} e d => by
   cases q : H b with
   | none => rfl
   | some u =>
    have e' : b = a:=hA b (by rw [q]; simp)
    subst e'
    rw [ha] at e; cases e
    have d' : Data.seq vs.toArray _ = Data.dict es ep:=d
    cases d'
  have nsK : ∀ {b : Addr} {m : Str -> Option Value},s₁.heap.Ns b m -> (lH s₁.heap H).Ns b m:=fun {b m} ⟨o,es,ep,e,d,r⟩ => ⟨o,es,ep,base_of e (noA e d),d,r⟩
  have hKb : K.In (lH s₁.heap H):=fun b o e => base_of (KX b o e) (by
   cases q : H b with
   | none => rfl
   | some u =>
    have e' : b = a:=hA b (by rw [q]; simp)
    subst e'
    rw [hK (by rw [q]; simp)] at e; cases e)
  have hM : Mod K mg (lH s₁.heap H):=⟨hKb,nsK hns,⟨mb,nsK hb,hbb⟩,let ⟨mc,h1,h2⟩:=hlim; ⟨mc,nsK h1,h2⟩⟩
  have e0 : Env0 P w K mg (lH s₁.heap H) callerA [] s₁ H:=⟨rfl,hM,fun b o e => ud e,Nat.le_of_eq (qO _ _),trivial,fun b hb => absurd (show b ∈ ([] : List Addr) from hb) (by simp),hok,.of_eq hg⟩
  refine codeAny_mono ((F _ hKb (nsK hns)).run callerA [] s₁ H ⟨[.ref a],[]⟩ [.ref a] [.ref a] _ _ hr e0 (hbind s₁ (.ref a)) (.cons rfl .nil) (hsp H hO hS)) fun r s' h => ?_
  cases r with
  | error e => exact (hCX H e s' h).elim
  | ok fl =>
   cases fl with
   | next => exact False.elim h
   | brk => exact False.elim h
   | cont => exact False.elim h
   | ret u =>
    obtain ⟨v,H',os,bare,un,hok',r',q⟩:=h
    have q' : v = .bl true:=q
    subst q'
    obtain rfl : u = Value.bool true:=r'
    refine ⟨rfl,OldK.of_keep fun b o e => ?_,os,bare⟩
    cases q : H b with
    | none => exact un.keep b o e q (by intro z; exact absurd (show b ∈ ([] : List Addr) from z) (by simp)) (by simp)
    | some u =>
     rcases hO b with z | ⟨ob,xs,z⟩
     ·rw [q] at z; cases z
     ·have z2:=un.frzs b ob _ z
      obtain ⟨e1,_⟩:=hok b _ z
      obtain ⟨e2,_⟩:=hok' b _ z2
      rw [e] at e1; cases e1
      exact e2
 cases hk : K.lookup a with
 | some o =>
  have e:=KX a o hk
  rw [ha] at e
  cases e
  refine core (fun _ => none) (fun _ => .inl rfl) (.inr ⟨_,vs.toArray,_,hk,rfl,rfl,rfl,by rw [List.size_toArray,lenV]; exact hl,by simpa using rv⟩) (fun b u z => by have z' : (none : Option HO) = some u:=z; cases z') (fun b z => absurd rfl z) fun z => absurd rfl z
 | none =>
  refine core (fun b => if b = a then some (.frz { cls:=.type "list",data:=.seq vs.toArray } (.lst (ns.map V.int))) else none) (fun b => ?_) (.inl (.inr ⟨{ cls:=.type "list",data:=.seq vs.toArray },if_pos rfl⟩)) (fun b u z => ?_) (fun b z => ?_) fun _ => hk
  ·by_cases hb : b = a
   ·exact .inr ⟨_,_,if_pos hb⟩
   ·exact .inl (if_neg hb)
  ·by_cases hb : b = a
   ·have z' := (if_pos hb).symm.trans z
    cases z'
    subst hb
    exact ⟨ha,by rw [List.length_map]; exact hl,vs,_,rv,ha⟩
   ·have z' := (if_neg hb).symm.trans z
    cases z'
  ·by_cases hb : b = a
   ·exact hb
   ·exact absurd (if_neg hb) z
end L2
namespace L2
open PySem PySem.Spec PyProof.Rows
theorem walk_of {l : PySem.W.OpenLaw} {n k : Nat} {q : Program} {loose : List Str} {XP : (Str -> Option Value) -> Heap -> Prop} {YP : World -> Heap -> Prop} {d : DefRec} {K : Params -> PySem.W.Frag} {CX : World -> CXT} {sp : World -> Sp} {x : Str}
  (hn : l.most = some n) (hn2 : n <= sizeLine) (hdf : d.params.defaults = []) (hr : Room k callerA)
  (hY : ∀ (w : World) (h : Heap),YP w h -> (K w.params).In h)
  (F : ∀ (w : World) (mg : Str -> Option Value) (fa : Addr) (h : Heap),(K w.params).In h -> h.Ns mainGlobals mg -> mg d.name = some (.ref fa) ->
   ∃ fd : FuncData,(∀ (s : Shared) (u : Value),BindsTo s fd ⟨[u],[]⟩ [(x,u)]) /\
    ∀ base : Heap,(K w.params).In base -> base.Ns mainGlobals mg -> FnOk l.prog w (K w.params) mg base (CX w) k fa fd [x] (sp w))
  (hsp : ∀ (w : World) (H : Hp) (a : Addr) (ns : List Int),ns.length <= n -> uO H -> SqL (K w.params) H a (ns.map V.int) -> sp w [.ref a] H (fun v _ => v = .bl true) fun _ _ _ => False)
  (hCX : ∀ (w : World) (H : Hp) (s : Shared) (e : Value) (s' : Shared),CX w [] H s (fun _ _ _ => False) e s' -> False) :
  PySem.W.WalkO q loose XP YP l.row.toRowW d [] (fun f vs => PySem.call f vs):=by
 refine Att.attach_call hn hdf fun w s₀ s₁ mg mb fa o pm cd doc a vs ns G Y ho hd hcd hmg hobj hints hlen hg => ?_
 have KX:=hY w _ Y
 obtain ⟨fd,hb,hF⟩:=F w mg fa _ KX G.T.g hmg
 exact r8 KX G.T.g G.T.b G.T.builtins G.T.nolimit hg hobj hints (Nat.le_trans hlen hn2) hr hF hb (fun H hO hS => hsp w H a ns hlen hO hS) fun H e s' => hCX w H s₁ e s'
end L2
namespace L2
open PySem PySem.Spec PyProof.Rows
def aL (s : Stmt) : Arguments:=match s with
 | .FunctionDef _ a _ _ _ _ _ _ _ _ => a
 | _ => { posonlyargs:=[],args:=[],vararg:=none,kwonlyargs:=[],kw_defaults:=[],kwarg:=none,defaults:=[] }
def aK (s : Stmt) : List Stmt:=match s with
 | .FunctionDef _ _ b _ _ _ _ _ _ _ => b
 | _ => []
def aj (s : Stmt) : Scope:=match s with
 | .FunctionDef _ _ _ _ _ _ sc _ _ _ => sc
 | _ => { kind:=.function,names:=[],isGenerator:=false,isCoroutine:=false }
abbrev CX0 : CXT:=fun _ _ _ _ _ _ => False
abbrev E0 : XK:=fun _ _ _ => False
structure Fun (K : PySem.W.Frag) (x qual : Str) (st : Stmt) (f : Addr) (fd : FuncData) : Prop where
 ex : ∃ (oc : Value) (od : Option Addr) (kV doc pm : Value) (an : Option Addr) (cdv ct : Value) (osl : Array (Option Value)),
  fd = PySem.W.fnOf x qual (aL st) (aK st) (aj st) .none kV doc pm an cdv ct /\ K.lookup f = some ⟨oc,od,.func fd,osl⟩ /\ PySem.W.codeIn K cdv qual = true
 kp : PySem.W.keepIn K (.ref f) = true
section
variable {P : Program} {w : World} {K : PySem.W.Frag} {mg : Str -> Option Value} {base : Heap}
end
theorem cz {n : Nat} (h : n <= 1000) : n < sizeLine:=Nat.lt_of_le_of_lt h (by decide)
section
variable {X : Cx}
theorem pv (i : Nat) {x : Str} {pos : Pos} (hN : X.N[i]? = some x:=by rfl) (hv : Vis X.env.scope x:=by first | exact Or.inl rfl | exact Or.inr (Or.inl rfl) | exact Or.inr (Or.inr rfl)) (hd : (x == ("__debug__" : Str)) = false:=by decide)
  (hcd : (x == ("__classdict__" : Str)) = false:=by decide) : PE X (.Name x pos) (vU i):=vh hN hv hd hcd
end
theorem iP {A B : Prop} (h : B) : if false = true then A else B:=by
 rw [if_neg Bool.false_ne_true]
 exact h
theorem oW {A B : Prop} (h : A) : if true = true then A else B:=by
 rw [if_pos rfl]
 exact h
theorem nB {c A B : Prop} [Decidable c] (h1 : c -> A) (h2 : ¬ c -> B) : if c then A else B:=by
 by_cases h : c
 ·rw [if_pos h]
  exact h1 h
 ·rw [if_neg h]
  exact h2 h
def Same (H H' : Hp) : Prop := ∀ b o,H b = some o -> H' b = some o
theorem Same.refl (H : Hp) : Same H H:=fun _ _ h => h
theorem Same.trans {H H1 H2 : Hp} (a : Same H H1) (b : Same H1 H2) : Same H H2:=fun c o h => b c o (a c o h)
theorem Same.free {H H' : Hp} (e : Same H H') {l : Addr} (h : H' l = Option.none) : H l = Option.none:=by
 cases q : H l with
 | none => rfl
 | some o =>
  rw [e l o q] at h
  cases h
theorem Same.seq {K : PySem.W.Frag} {H H' : Hp} {a : Addr} {xs : List V} (e : Same H H') (h : SqL K H a xs) : SqL K H' a xs:=by
 rcases h with (h | ⟨o,h⟩) | h
 ·exact .inl (.inl (e _ _ h))
 ·exact .inl (.inr ⟨o,e _ _ h⟩)
 ·exact .inr h
end L2
set_option Elab.async false
set_option linter.all false
set_option maxRecDepth 100000
namespace L2
open PySem PySem.Spec PyProof.Rows
def bD (cells : List (Str × Addr)) : List (Str × NameKind) -> List (Str × Addr) -> List (Str × Addr)
 | [],cs => cs
 | (n,k) :: r,cs => bD cells r (if k == .free then (n,(cells.lookup n).getD 0) :: cs else cs)
theorem dt {scope : Scope} {env : Env} (h : ∀ y ∈ scope.names,y.2 = .free -> ∃ c,env.cells.lookup y.1 = some c) :
  closureFor scope env = pure (bD env.cells scope.names []):=by
 have all : ∀ (ns : List (Str × NameKind)) (cs : List (Str × Addr)),(∀ y ∈ ns,y.2 = .free -> ∃ c,env.cells.lookup y.1 = some c) ->
   (forIn ns cs (fun (x : Str × NameKind) (r : List (Str × Addr)) => (match x with
    | (name,kind) => if (kind == NameKind.free) = true then (do let c <- cellOf env name; pure (ForInStep.yield ((name,c) :: r))) else pure (ForInStep.yield r) : Sem (ForInStep (List (Str × Addr))))) : Sem (List (Str × Addr)))
   = pure (bD env.cells ns cs):=by
  intro ns
  induction ns with
  | nil => intro cs _; rfl
  | cons y r ih =>
   intro cs hy
   obtain ⟨n,k⟩:=y
   rw [List.forIn_cons]
   by_cases hk : k = .free
   ·subst hk
    obtain ⟨c,e⟩:=hy (n,.free) List.mem_cons_self rfl
    have e' : env.cells.lookup n = some c:=e
    have e1 : cellOf env n = pure c:=by unfold cellOf; rw [e']
    simp only [beq_self_eq_true,if_true,e1,pure_bind]
    rw [ih _ fun z hz => hy z (List.mem_cons_of_mem _ hz)]
    simp only [bD,beq_self_eq_true,if_true,e',Option.getD_some]
   ·have hb : (k == NameKind.free) = false:=by simpa using hk
    simp only [hb,Bool.false_eq_true,if_false,pure_bind]
    rw [ih _ fun z hz => hy z (List.mem_cons_of_mem _ hz)]
    simp only [bD,hb,Bool.false_eq_true,if_false]
 unfold closureFor
 have q:=all scope.names [] h
 simp only [bind_pure]
 exact q
theorem fN (cells : List (Str × Addr)) {x : Str} {c : Addr} : ∀ (ns : List (Str × NameKind)) (cs : List (Str × Addr)),(bD cells ns cs).lookup x = some c ->
  ((x,NameKind.free) ∈ ns /\ (cells.lookup x).getD 0 = c) \/ cs.lookup x = some c
 | [],_,h => .inr h
 | (n,k) :: r,cs,h => by
  rcases fN cells r _ h with ⟨h1,h2⟩ | h1
  ·exact .inl ⟨List.mem_cons_of_mem _ h1,h2⟩
  ·by_cases hk : k = .free
   ·subst hk
    simp only [beq_self_eq_true,if_true] at h1
    by_cases hx : x = n
    ·subst hx
     simp only [List.lookup_cons,beq_self_eq_true] at h1
     exact .inl ⟨List.mem_cons_self,Option.some.inj h1⟩
    ·have hb : (x == n) = false:=by simpa using hx
     simp only [List.lookup_cons,hb] at h1
     exact .inr h1
   ·have hb : (k == NameKind.free) = false:=by simpa using hk
    simp only [hb,Bool.false_eq_true,if_false] at h1
    exact .inr h1
theorem dX (cells : List (Str × Addr)) {x : Str} {c : Addr} (e : cells.lookup x = some c) : ∀ (ns : List (Str × NameKind)) (cs : List (Str × Addr)),((x,NameKind.free) ∈ ns \/ cs.lookup x = some c) ->
  (bD cells ns cs).lookup x = some c
 | [],_,h => by
  rcases h with h | h
  ·cases h
  ·exact h
 | (n,k) :: r,cs,h => by
  refine dX cells e r _ ?_
  rcases h with h | h
  ·rcases List.mem_cons.mp h with z | z
   ·cases z
    right
    simp only [beq_self_eq_true,if_true,List.lookup_cons,e,Option.getD_some]
   ·exact .inl z
  ·right
   by_cases hk : (k == NameKind.free) = true
   ·rw [if_pos hk]
    by_cases hx : x = n
    ·subst hx
     simp only [List.lookup_cons,beq_self_eq_true,e,Option.getD_some]
    ·have hb : (x == n) = false:=by simpa using hx
     simp only [List.lookup_cons,hb]
     exact h
   ·rw [if_neg hk]
    exact h
theorem gM {env : Env} : ∀ {names : List (Str × NameKind)} {x : Str},names.lookup x = some .free ->
  (names.map fun (n,k) => if (k == NameKind.free && env.scope.kind == .function && env.kindOf n == some .cell) then (n,NameKind.cell) else (n,k)).lookup x = some .cell \/
  (names.map fun (n,k) => if (k == NameKind.free && env.scope.kind == .function && env.kindOf n == some .cell) then (n,NameKind.cell) else (n,k)).lookup x = some .free
 | [],_,h => by simp at h
 | (n,k) :: r,x,h => by
  have ih:=@gM env r x
  show List.lookup x ((if (k == NameKind.free && env.scope.kind == .function && env.kindOf n == some .cell) = true then (n,NameKind.cell) else (n,k)) :: _) = _ \/
   List.lookup x ((if (k == NameKind.free && env.scope.kind == .function && env.kindOf n == some .cell) = true then (n,NameKind.cell) else (n,k)) :: _) = _
  cases hx : x == n with
  | true =>
   simp only [List.lookup_cons,hx] at h
   cases h
   by_cases hc : (NameKind.free == NameKind.free && env.scope.kind == .function && env.kindOf n == some .cell) = true
   ·rw [if_pos hc]; simp only [List.lookup_cons,hx]; first | exact .inl trivial | exact .inl rfl
   ·rw [if_neg hc]; simp only [List.lookup_cons,hx]; first | exact .inr trivial | exact .inr rfl
  | false =>
   simp only [List.lookup_cons,hx] at h
   by_cases hc : (k == NameKind.free && env.scope.kind == .function && env.kindOf n == some .cell) = true
   ·rw [if_pos hc]; simp only [List.lookup_cons,hx]; exact ih h
   ·rw [if_neg hc]; simp only [List.lookup_cons,hx]; exact ih h
theorem eA {env : Env} : ∀ {names : List (Str × NameKind)} {x : Str} {k' : NameKind},k' = .cell \/ k' = .free -> (∀ y ∈ names,y.2 ≠ .cell) ->
  (names.map fun (n,k) => if (k == NameKind.free && env.scope.kind == .function && env.kindOf n == some .cell) then (n,NameKind.cell) else (n,k)).lookup x = some k' -> (x,NameKind.free) ∈ names
 | [],_,_,_,_,h => by simp at h
 | (n,k) :: r,x,k',hk',hn,h => by
  have ih:=@eA env r x k' hk' (fun y hy => hn y (List.mem_cons_of_mem _ hy))
  have h' : List.lookup x ((if (k == NameKind.free && env.scope.kind == .function && env.kindOf n == some .cell) = true then (n,NameKind.cell) else (n,k)) :: (r.map fun (n,k) => if (k == NameKind.free && env.scope.kind == .function && env.kindOf n == some .cell) then (n,NameKind.cell) else (n,k))) = some k' := h
  have hkc : k ≠ .cell:=hn (n,k) List.mem_cons_self
  cases hx : x == n with
  | true =>
   have hxn : x = n:=by simpa using hx
   subst hxn
   by_cases hc : (k == NameKind.free && env.scope.kind == .function && env.kindOf x == some .cell) = true
   ·have hk : k = .free:=by
     simp only [Bool.and_eq_true,beq_iff_eq] at hc
     exact hc.1.1
    subst hk
    exact List.mem_cons_self
   ·rw [if_neg hc] at h'
    simp only [List.lookup_cons,beq_self_eq_true] at h'
    have hk : k = k' := Option.some.inj h'
    rcases hk' with z | z
    ·exact absurd (hk.trans z) hkc
    ·rw [hk,z]; exact List.mem_cons_self
  | false =>
   refine List.mem_cons_of_mem _ (ih ?_)
   by_cases hc : (k == NameKind.free && env.scope.kind == .function && env.kindOf n == some .cell) = true
   ·rw [if_pos hc] at h'
    simpa only [List.lookup_cons,hx] using h'
   ·rw [if_neg hc] at h'
    simpa only [List.lookup_cons,hx] using h'
def aJ (ix : List (Option Nat)) (σ : St) : St:=ix.map fun o => match o with
 | none => none
 | some i => (σ[i]?).join
structure BlkScope (NX : List Str) (scX : Scope) (N : List Str) (ix : List (Option Nat)) (sc : Scope) : Prop where
 kind : sc.kind = .function
 nd : N.Nodup
 nocell : ∀ y ∈ sc.names,y.2 ≠ .cell
 locs : ∀ y ∈ sc.names,y.2 = .local -> sc.names.lookup y.1 = some .local
 free : ∀ y ∈ sc.names,y.2 = .free -> scX.names.lookup y.1 = some .cell \/ scX.names.lookup y.1 = some .free
 len : ix.length = N.length
 at_ : ∀ p ∈ N.zip ix,∀ i,p.2 = some i -> NX[i]? = some p.1 /\ sc.names.lookup p.1 = some .free
def a8 (X : Cx) (N : List Str) (scope : Scope) (fp : List Addr) (s : Shared) (H : Hp) (C : Addr) : Cx:=
 { prog:=X.prog,w:=X.w,K:=X.K,mg:=X.mg,base:=X.base,A:=X.A,N:=N,s₀:=s,H₀:=H,env:=compEnvC scope (bD X.env.cells scope.names []) C X.env,outer:=X.stack,stack:=X.stack,ex:=fp,fn:=fun _ => false,calm:=X.calm,pn:=X.pn,xe:=fun _ _ => False }
theorem iX {names : List (Str × NameKind)} {x : Str} (h : names.lookup x = some .free) : (x,NameKind.free) ∈ names:=PySem.mem_of_lookup h
section
variable {X : Cx} {pins : List (Addr × Obj)} {σ : St} {H : Hp} {s : Shared} {N : List Str} {ix : List (Option Nat)} {scope : Scope} {fp : List Addr}
theorem BlkScope.clos (S : BlkScope X.N X.env.scope N ix scope) (ok : X.Ok) : ∀ y ∈ scope.names,y.2 = .free -> ∃ c,X.env.cells.lookup y.1 = some c:=fun y hy hf => ok.has y.1 (S.free y hy hf)
theorem kF {D C : Addr} {h' : Heap} {tk : Nat} {m : Str -> Option Value} (I : Inv X pins σ H s) (S : BlkScope X.N X.env.scope N ix scope) (hf : ∀ b ∈ fp,fP X pins H b)
  (hfo : ∀ b ∈ fp,∃ o,s.heap.get? b = some o /\ ∀ v,o.data ≠ .cell v)
  (hD : s.heap.objs.size <= D) (hC : s.heap.objs.size <= C) (hDC : D ≠ C) (hk : ∀ b o,s.heap.get? b = some o -> h'.get? b = some o) (hns : h'.Ns C m)
  (hl : ∃ n,h'.get? D = some { cls:=.type "list",data:=.seq ([] : List Value).toArray n }) :
  Inv (a8 X N scope fp s H C) pins (aJ ix σ) (upd H D (.lst [])) { s with heap:=h',toks:=tk }:=by
 have fresh : ∀ {a : Addr},s.heap.objs.size <= a -> H a = none:=fun h => I.hok.fresh h
 have cl_of : ∀ x c,(bD X.env.cells scope.names []).lookup x = some c -> X.env.cells.lookup x = some c:=fun x c e => by
  rcases fN _ _ _ e with ⟨h1,h2⟩ | h1
  ·obtain ⟨c',e'⟩:=S.clos I.ok _ h1 rfl
   have e'' : X.env.cells.lookup x = some c' := e'
   rw [e''] at h2
   rw [e'']
   exact congrArg some h2
  ·simp at h1
 have ltO : ∀ {b : Addr} {o : Obj},s.heap.get? b = some o -> b < s.heap.objs.size:=fun e => Heap.lt_size e
 have neC : ∀ {b : Addr} {o : Obj},s.heap.get? b = some o -> b ≠ C:=fun e => Nat.ne_of_lt (Nat.lt_of_lt_of_le (ltO e) hC)
 have neD : ∀ {b : Addr} {o : Obj},s.heap.get? b = some o -> b ≠ D:=fun e => Nat.ne_of_lt (Nat.lt_of_lt_of_le (ltO e) hD)
 have cellG : ∀ x c,X.env.cells.lookup x = some c -> ∃ o,s.heap.get? c = some o:=fun x c e => by
  obtain ⟨v,o,ho,_⟩:=I.cell x c e
  exact ⟨o,ho⟩
 refine ⟨⟨I.ok.mod,?_,I.ok.glob,I.ok.blt,hC,fun x y c e1 e2 => I.ok.inj x y c (cl_of x c e1) (cl_of y c e2),fun x hx => ?_,fun x c h _ => ?_,I.ok.hd,I.ok.frames,.inl rfl,fun b hb => ?_,I.bs,Nat.le_trans I.ok.bsz I.sz,fun b o e hb => ?_,fun b hb hb2 => ?_,I.stack,I.stkFree⟩,
  rfl,I.bare,Un.laid hk hD (fresh hD),⟨m,hns,fun j x v e1 e2 e3 => ?_⟩,fun x c e => ?_,?_,fun x c e => ?_,fun p hp => ?_,I.hok.laid hk hD ?_,?_⟩
 ·exact S.kind
 ·have hx' : (x,NameKind.free) ∈ scope.names:=by
   rcases hx with hx | hx
   ·exact eA (.inl rfl) S.nocell hx
   ·exact eA (.inr rfl) S.nocell hx
  obtain ⟨c,e⟩:=S.clos I.ok _ hx' rfl
  exact ⟨c,dX _ e _ _ (.inl hx')⟩
 ·exact absurd (show false = true from h) Bool.false_ne_true
 ·obtain ⟨f0,f1,f2,f3,f4,f5⟩:=hf b hb
  obtain ⟨o,e,_⟩:=hfo b hb
  exact ⟨neC e,fun x c ec => f4 x c (cl_of x c ec)⟩
 ·obtain ⟨f0,f1,f2,f3,f4,f5⟩:=hf b hb
  rcases f3 with z | z
  ·exact I.ok.noex b o e z
  ·exact absurd (Nat.lt_of_lt_of_le (Heap.lt_size (I.ok.bs b o e).1) z) (Nat.lt_irrefl _)
 ·obtain ⟨f0,f1,f2,f3,f4,f5⟩:=hf b hb
  rcases List.mem_cons.mp (I.stkSub b hb2) with z | z
  ·exact f1 z
  ·exact f2 z
 ·-- a name's value
  obtain ⟨mX,hnX,hlX⟩:=id I.loc
  have hj : (aJ ix σ)[j]? = some (some v):=e2
  unfold aJ at hj
  rw [List.getElem?_map] at hj
  cases ej : ix[j]? with
  | none => rw [ej] at hj; cases hj
  | some o =>
   rw [ej] at hj
   cases o with
   | none => cases hj
   | some i =>
    have hj' : (σ[i]?).join = some v:=Option.some.inj hj
    have hz : (x,some i) ∈ N.zip ix:=List.mem_iff_getElem?.mpr ⟨j,by rw [List.getElem?_zip_eq_some]; exact ⟨e1,ej⟩⟩
    obtain ⟨hNi,hfr⟩:=S.at_ _ hz i rfl
    have hmem:=iX hfr
    have hσ : σ[i]? = some (some v):=by
     cases q : σ[i]? with
     | none => rw [q] at hj'; cases hj'
     | some w' =>
      rw [q] at hj'
      have q' : w' = some v:=hj'
      rw [q']
    have hvx : X.env.scope.names.lookup x = some .cell \/ X.env.scope.names.lookup x = some .free:=S.free _ hmem rfl
    obtain ⟨u,r,lk⟩:=hlX i x v hNi hσ (.inr hvx)
    refine ⟨u,r,.inr ⟨?_,?_⟩⟩
    ·exact gM hfr
    ·rcases lk with ⟨k,_⟩ | ⟨k,c,ec,ci⟩
     ·have k' : X.env.scope.names.lookup x = some .local:=k
      rcases hvx with z | z
      ·rw [z] at k'; cases k'
      ·rw [z] at k'; cases k'
     ·obtain ⟨oc,hoc,hocd⟩:=ci
      exact ⟨c,dX _ ec _ _ (.inl hmem),oc,hk c oc hoc,hocd⟩
 ·obtain ⟨v,o,ho,hd⟩:=I.cell x c (cl_of x c e)
  exact ⟨v,o,hk c o ho,hd⟩
 ·show upd H D (.lst []) C = none
  rw [ao (Ne.symm hDC)]
  exact fresh hC
 ·obtain ⟨o,ho⟩:=cellG x c (cl_of x c e)
  rw [ao (neD ho)]
  exact I.freeC x c (cl_of x c e)
 ·obtain ⟨e,n,ne,nf,d⟩:=I.pin p hp
  refine ⟨hk _ _ e,by rw [ao (neD e)]; exact n,neC e,fun z => ?_,d⟩
  rcases List.mem_cons.mp (I.stkSub p.1 z) with q | q
  ·exact ne q
  ·exact nf q
 ·obtain ⟨n,hl⟩:=hl
  exact ⟨Nat.zero_le _,[],n,.nil,hl⟩
 ·show (aJ ix σ).length = N.length
  unfold aJ
  rw [List.length_map]
  exact S.len
end
end L2
set_option Elab.async false
set_option linter.all false
set_option maxRecDepth 100000
namespace L2
open PySem PySem.Spec PyProof.Rows
theorem nh {prog : Program} {w : World} {A : Around} {R : Result -> Shared -> Prop} {s : Shared} {elt target iter : Expr} {scope : Scope} {pos : Pos} {it acc : Value} {env : Env} (I : Nat -> Shared -> Prop)
  (turn : ∀ n s,I n s -> wpAny (model prog w) A (pyNext it) (fun r s₁ => match r with
   | none => R (.ok .next) s₁
   | some v => wpAny (model prog w) A (letOwnedTupleGo target it v) (fun _ s₁' => wpAny (model prog w) A (assign target env v) (fun _ s₂ => wpAny (model prog w) A (eval elt env) (fun x s₃ =>
     wpAny (model prog w) A (call (.builtin "list.append") [acc,x]) (fun _ s₄ => ∃ m,m < n /\ I m s₄) (fun _ _ => False) s₃)
     (fun _ _ => False) s₂) (fun _ _ => False) s₁') (fun _ _ => False) s₁) (fun _ _ => False) s)
  (n : Nat) (h : I n s) :
  codeAny (model prog w) A (.compLoop (.ListComp elt [⟨target,iter,[],0⟩] scope pos) 0 it acc env) R s:=by
 refine codeAny_loop rfl I (fun n s hI => ?_) n h
 show wpAny _ _ ((compTurn (.ListComp elt [⟨target,iter,[],0⟩] scope pos) 0 it acc env).onRaise (fun x => do noteFrame x env; theTreesLotGoes x)) _ _ s
 refine wpAny_noted ?_
 rw [compTurn_list1]
 refine wpAny_bind (wpAny_standAt (wpAny_bind (wpAny_mono (turn n s hI) (fun r s₁ h₁ => ?_) fun _ _ h' => h'.elim)))
 cases r with
 | none => exact wpAny_pure h₁
 | some v =>
  refine wpAny_bind (wpAny_mono h₁ (fun _ s₁' h₁' => ?_) fun _ _ h' => h'.elim)
  exact wpAny_bind (wpAny_mono h₁' (fun _ s₂ h₂ => wpAny_bind (wpAny_bind (wpAny_mono h₂ (fun x s₃ h₃ => wpAny_bind (wpAny_mono h₃
   (fun _ s₄ h₄ => wpAny_pure (wpAny_pure ⟨rfl,h₄⟩)) fun _ _ h' => h'.elim)) fun _ _ h' => h'.elim))) fun _ _ h' => h'.elim)
def pV (J : It) (ix : List (Option Nat)) (g : TG) (te : TE) (σ : St) (H : Hp) (Qd : Addr -> Hp -> Prop) : Prop:=
 ∀ D,H D = none -> ∃ W : Nat -> Nat -> St -> Hp -> Prop,(∃ m,W 0 m (aJ ix σ) (upd H D (.lst []))) /\ ∀ i m σ' H',W i m σ' H' ->
  (J.stop i H' /\ Qd D H') \/ (J.go i H' /\ ∀ x H2,J.yld i H' x H2 -> g x σ' H2 fun σ3 H3 => te σ3 H3 fun y H4 => ∃ ys,H4 D = some (.lst ys) /\ ys.length < sizeLine /\ ∃ m',m' < m /\ W (i + 1) m' σ3 (upd H4 D (.lst (ys ++ [y]))))
section
variable {X : Cx} {pins : List (Addr × Obj)} {σ : St} {H : Hp} {s : Shared} {N : List Str} {ix : List (Option Nat)} {scope : Scope} {fp : List Addr} {tg elt iter : Expr} {pos spos : Pos} {J : It} {it : Addr} {tn : Nat -> Heap -> Prop} {g : TG} {te : TE} {wi : TI}
theorem rF {Qd : Addr -> Hp -> Prop} {RR : Value -> Addr -> Result -> Shared -> Prop} {E : Value -> Shared -> Prop} (I : Inv X pins σ H s) (hc : X.calm = true) (S : BlkScope X.N X.env.scope N ix scope) (T : Turn X.prog X.w X.K tg J fp it tn) (st : tn 0 s.heap) (f2 : ∀ b ∈ fp,fP X pins H b)
  (hg : ∀ C,PG (a8 X N scope fp s H C) tg g) (he : ∀ C,PE (a8 X N scope fp s H C) elt te) (hW : pV J ix g te σ H Qd)
  (hR : ∀ D C s' H' m,Inv X pins σ H' s' -> s'.heap.Ns C m -> fP X pins H' C -> Qd D H' -> RR (.ref D) C (.ok .next) s') :
  wpAny (model X.prog X.w) X.A (newList []) (fun acc s₃ => wpAny (model X.prog X.w) X.A (newFunctionEnv scope X.env.globals (bD X.env.cells scope.names []) [] X.env.qual none .none (some X.env)) (fun cenv s₄ =>
   codeAny (model X.prog X.w) X.A (.compStart (.ListComp elt [⟨tg,iter,[],0⟩] scope pos) 0 (.ref it) acc { cenv with scope:=relabel scope X.env }) (RR acc cenv.locals) s₄) E s₃) E s:=by
 refine wpAny_newObj_type (wpAny_newFunctionEnv S.nocell (by intro y hy; simp at hy) (fun h₁ hns₁ hsb₁ => ?_) S.kind)
 dsimp only at hns₁ hsb₁ ⊢
 generalize hH2 : s.heap.push { cls:=.type "list",dict:=none,data:=.seq ([] : List Value).toArray } = H2 at hns₁ hsb₁ ⊢
 have hC : H2.objs.size = s.heap.objs.size + 1:=by rw [<- hH2,Heap.size_push]
 have hDC : s.heap.objs.size ≠ H2.objs.size:=by rw [hC]; exact Nat.ne_of_lt (Nat.lt_succ_self _)
 have hCle : s.heap.objs.size <= H2.objs.size:=by rw [hC]; exact Nat.le_succ _
 have below : ∀ b,b < s.heap.objs.size -> b ≠ H2.objs.size:=fun b hb => by rw [hC]; exact Nat.ne_of_lt (Nat.lt_succ_of_lt hb)
 have old : ∀ b o,s.heap.get? b = some o -> h₁.get? b = some o:=fun b o e => hsb₁.extBut b o (below b (Heap.lt_size e)) (Heap.get?_push_of_some _ (hH2 ▸ Heap.get?_push_of_some _ e))
 have hacc : ∃ n,h₁.get? s.heap.objs.size = some { cls:=.type "list",data:=.seq ([] : List Value).toArray n }:=⟨_,hsb₁.extBut _ _ hDC (Heap.get?_push_of_some _ (hH2 ▸ Heap.get?_push_size _ rfl))⟩
 have st1 : tn 0 h₁:=T.keep _ _ _ st fun b _ o e => old b o e
 have fo : ∀ b ∈ fp,∃ o,s.heap.get? b = some o /\ ∀ v,o.data ≠ .cell v:=T.obj _ _ st
 have I0 : Inv (a8 X N scope fp s H H2.objs.size) pins (aJ ix σ) (upd H s.heap.objs.size (.lst [])) { s with heap:=h₁,toks:=s.toks + ([] : List (Str × Value)).length }:=
  kF I S f2 fo (Nat.le_refl _) hCle hDC old hns₁ hacc
 have freshD : H s.heap.objs.size = none:=I.hok.fresh (Nat.le_refl _)
 obtain ⟨W,⟨m0,w0⟩,turn⟩:=hW s.heap.objs.size freshD
 have cl_ne : ∀ b ∈ fp,b ≠ H2.objs.size:=fun b hb => by
  obtain ⟨o,e,_⟩:=fo b hb
  exact below b (Heap.lt_size e)
 have stat : ∀ {H' : Hp},(∀ b ∈ fp,H' b = none) -> ∀ b ∈ fp,fP (a8 X N scope fp s H H2.objs.size) pins H' b:=fun hn b hb => by
  obtain ⟨f0,f1,f3,f4,f5,f6⟩:=f2 b hb
  exact ⟨hn b hb,cl_ne b hb,I0.ok.exfs b hb,.inl hb,(I0.ok.exf b hb).2,f6⟩
 have fr0 : ∀ b ∈ fp,(upd H s.heap.objs.size (.lst [])) b = none:=fun b hb => by
  obtain ⟨o,e,_⟩:=fo b hb
  rw [ao (Nat.ne_of_lt (Heap.lt_size e))]
  exact (f2 b hb).1
 have loop : codeAny (model X.prog X.w) X.A (.compLoop (.ListComp elt [⟨tg,iter,[],0⟩] scope pos) 0 (.ref it) (.ref s.heap.objs.size) (compEnvC scope (bD X.env.cells scope.names []) H2.objs.size X.env))
   (RR (.ref s.heap.objs.size) H2.objs.size) { s with heap:=h₁,toks:=s.toks + ([] : List (Str × Value)).length }:=by
  refine nh (fun n s' => ∃ i σ' H',Inv (a8 X N scope fp s H H2.objs.size) pins σ' H' s' /\ tn i s'.heap /\ (∀ b ∈ fp,H' b = none) /\ W i n σ' H') ?_ m0 ⟨0,_,_,I0,st1,fr0,w0⟩
  rintro n s3 ⟨i,σ3,H3,I3,st3,fr3,w3⟩
  rcases turn i n σ3 H3 w3 with ⟨stop,qn⟩ | ⟨go,step⟩
  ·refine thn (T.done (a8 X N scope fp s H H2.objs.size) rfl rfl rfl hc i pins s3 σ3 H3 _ I3 (stat fr3) st3 stop) fun r s4 ⟨hr,I4⟩ => ?_
   subst hr
   obtain ⟨m4,hn4,_⟩:=id I4.loc
   refine hR _ _ s4 H3 m4 ?_ hn4 (I.fpOk hCle I4.free) qn
   exact I.call' (ch:=fp) I4.os I4.base I4.hok I4.bare fun b hb => by
    obtain ⟨f0,f1,f3,f4,f5,f6⟩:=f2 b hb
    exact ⟨f4,f1,f5,f6⟩
  ·refine thn (T.item (a8 X N scope fp s H H2.objs.size) rfl rfl rfl hc i pins s3 σ3 H3 _ I3 (stat fr3) st3 go) fun r s4 ⟨u,hr,h4⟩ => ?_
   subst hr
   refine thn h4 fun _ s5 ⟨x,H5,I5,r5,y5,st5,fr5⟩ => ?_
   have I5' := I5.pinned (stat fr5) (T.obj _ _ st5)
   refine thn (hg _ _ s5 σ3 H5 x u _ I5' r5 (step x H5 y5)) fun _ s6 ⟨σ6,H6,I6,q6⟩ => ?_
   refine thn (he _ _ s6 σ6 H6 _ I6 q6) fun yv s7 ⟨y,H7,I7,r7,ys,hD7,hz7,m',hm,w7⟩ => ?_
   refine thn (aW (X:=a8 X N scope fp s H H2.objs.size) _ s7 σ6 H7 (.ref s.heap.objs.size) [y] (.ref s.heap.objs.size) [yv] (fun _ H8 => W (i + 1) m' σ6 H8) I7 rfl (.cons r7 .nil) ⟨_,ys,y,rfl,rfl,hD7,hz7,w7⟩) fun _ s8 ⟨_,H8,I8,_,w8⟩ => ?_
   refine ⟨m',hm,i + 1,σ6,H8,I8.unpinned,T.keep _ _ _ st5 fun b hb o e => (I8.pin (b,o) (List.mem_append_right _ (List.mem_append_right _ (bK hb e)))).1,fun b hb => ?_,w8⟩
   obtain ⟨o,e,d⟩:=T.obj _ _ st5 b hb
   exact (I8.pin (b,o) (List.mem_append_right _ (List.mem_append_right _ (bK hb e)))).2.1
 exact codeAny_compStart_list loop (T.self _ _ _ _ _ st1 loop)
def vN (ix : List (Option Nat)) (wi : TI) (g : TG) (te : TE) : TE:=fun σ H Q => wi σ H fun J H1 => pV J ix g te σ H1 fun D H' => Q (.ref D) H'
theorem mi (hc : X.calm = true) (S : BlkScope X.N X.env.scope N ix scope) (hi : PI X tg iter wi) (hg : ∀ fp s H C,PG (a8 X N scope fp s H C) tg g) (he : ∀ fp s H C,PE (a8 X N scope fp s H C) elt te)
  (hs : ∀ x,foldedSetIterable iter X.env x = pure x:=by intro _; rfl) : PE X (.ListComp elt [⟨tg,iter,[],0⟩] scope pos) (vN ix wi g te):=by
 intro pins s σ H Q I h
 rw [eval_ListComp]
 refine wpAny_comprehension_free (use:=none) rfl hs (dt (S.clos I.ok)) S.kind S.locs (thn (hi pins s σ H _ I h) fun v s1 h1 => thn h1 fun itv s2 h2 => ?_)
 obtain ⟨it,fp,tn,J,H2,e,I2,T,st2,f2,hW⟩:=h2
 subst e
 refine rF (RR:=fun acc C => compPost (model X.prog X.w) X.A X.xe none (EP X pins σ Q) acc C) I2 hc S T st2 f2 (hg _ _ _) (he _ _ _) hW ?_
 intro D C s' H' m I' hn fC q
 exact ⟨m,hn,fun h' sb => ⟨.ref D,H',I'.turned (t' := s'.toks) (fun b o hb e => (sb.2 b hb).trans e) fC.1 fC.2.1 fC.2.2.2.1 fC.2.2.2.2.1 fC.2.2.2.2.2,rfl,q⟩⟩
end
theorem kx {K : PySem.W.Frag} {a : Addr} {xs : List V} {ix : List (Option Nat)} {te : TE} {σ : St} {H : Hp} {Qd : Addr -> Hp -> Prop} (Pv : Addr -> Nat -> List V -> Hp -> Prop)
  (h0 : ∀ D,H D = none -> Pv D 0 [] (upd H D (.lst [])))
  (hl : ∀ D i ys H',i <= xs.length -> Pv D i ys H' -> SqL K H' a xs)
  (hs : ∀ D i x ys H' (Q' : VK),H D = none -> xs[i]? = some x -> H' D = some (.lst ys) -> Pv D i ys H' -> (∀ y H4,H4 D = some (.lst ys) -> ys.length < sizeLine -> Pv D (i + 1) (ys ++ [y]) (upd H4 D (.lst (ys ++ [y]))) -> Q' y H4) ->
   te ((aJ ix σ).set 0 (some x)) H' Q')
  (hd : ∀ D ys H',H D = none -> H' D = some (.lst ys) -> Pv D xs.length ys H' -> Qd D H') : pV (Itl K a) ix (aG 0) te σ H Qd:=by
 intro D hD
 refine ⟨fun i m σ' H' => m = xs.length - i /\ i <= xs.length /\ (σ' = aJ ix σ \/ ∃ t,σ' = (aJ ix σ).set 0 t) /\ ∃ ys,H' D = some (.lst ys) /\ Pv D i ys H',⟨xs.length,by simp,Nat.zero_le _,.inl rfl,[],af,h0 D hD⟩,?_⟩
 rintro i m σ' H' ⟨rfl,hi,hσ,ys,hy,p⟩
 have q:=hl D i ys H' hi p
 by_cases hlt : i < xs.length
 ·refine .inr ⟨⟨xs,xs[i],q,by simp [hlt]⟩,fun x H2 y => ?_⟩
  obtain ⟨e1,e2⟩:=y
  subst e1
  have ex:=e2 xs q
  have es : σ'.set 0 (some x) = (aJ ix σ).set 0 (some x):=by
   rcases hσ with z | ⟨t,z⟩
   ·rw [z]
   ·rw [z,List.set_set]
  show te (σ'.set 0 (some x)) _ _
  rw [es]
  refine hs D i x ys _ _ hD ex hy p fun y H4 h4 hz p4 => ⟨ys,h4,hz,xs.length - (i + 1),by omega,rfl,hlt,.inr ⟨_,rfl⟩,ys ++ [y],af,p4⟩
 ·have e : i = xs.length:=by omega
  subst e
  exact .inl ⟨⟨xs,q,Nat.le_refl _⟩,hd D ys H' hD hy p⟩
section
variable {X : Cx}
def wq (K : PySem.W.Frag) : List V -> Hp -> VK -> Prop:=fun xs H Q => ∃ x n t b,xs = [x,.ty n] /\ TyOf K H x t /\ PySem.W.kitOne K t (.type n) = some b /\ Q (.bl b) H
theorem gu : c7 X (.builtin "isinstance") (wq X.K):=by
 intro pins s σ H xs us Q I r h
 obtain ⟨x,n,t,b,rfl,ty,e,q⟩:=h
 obtain ⟨u,v,rfl,ru,rv⟩:=r.two
 cases (show v = Value.type n from rv)
 exact qQ I ru ty e fun tk => ⟨.bl b,H,I.tok tk,rfl,q⟩
end
section
variable {prog : Program} {w : World} {A : Around} {E : Value -> Shared -> Prop} {s : Shared}
theorem kB {it t : Addr} {items : Array Value} (hne : t ≠ it) : ∀ (n i : Nat) (s : Shared) (Q : List Value -> Shared -> Prop),s.heap.IsListIter it t i -> s.heap.IsList t items -> i + n <= items.size ->
  (∀ h',h'.IsListIter it t (i + n) -> Heap.SameBut it s.heap h' -> Q ((items.toList.drop i).take n) { s with heap:=h' }) -> wpAny (model prog w) A (draw (.ref it) n) Q E s
 | 0,i,s,Q,hit,_,_,hQ => by
  show wpAny _ _ (pure []) Q E s
  exact wpAny_pure (by simpa using hQ s.heap hit (Heap.SameBut.refl ..))
 | n + 1,i,s,Q,hit,ht,hle,hQ => by
  have hlt : i < items.size:=by omega
  show wpAny _ _ (pyNext (.ref it) >>= _) Q E s
  refine wpAny_bind (wpAny_pyNext_list_item hit ht (x:=items[i]) (by simp [hlt]) fun h₁ hit₁ hs₁ => ?_)
  refine wpAny_bind (wpAny_holding (kB hne n (i + 1) _ _ hit₁ (ht.extBut hs₁.extBut hne) (by omega) fun h₂ hit₂ hs₂ => wpAny_pure ?_))
  have hd : items.toList.drop i = items[i] :: items.toList.drop (i + 1):=by simp [List.drop_eq_getElem_cons,hlt]
  have:=hQ h₂ (by rw [show i + (n + 1) = i + 1 + n by omega]; exact hit₂) (hs₁.trans hs₂)
  rw [hd,List.take_succ_cons] at this
  exact this
theorem iv {t : Addr} {items : Array Value} {Q : List Value -> Shared -> Prop} (hh : A.handled = none) (ht : s.heap.IsList t items)
  (hQ : ∀ h',Heap.ExtBut s.heap.objs.size s.heap h' -> Q items.toList { s with heap:=h' }) : wpAny (model prog w) A (unpackItems (.ref t) items.size none) Q E s:=by
 have hlt : t ≠ s.heap.objs.size:=by obtain ⟨o,ho,_⟩:=ht; exact Nat.ne_of_lt (Heap.lt_size ho)
 unfold unpackItems
 refine wpAny_bind ?_
 ·unfold notIterableAtAll
  refine wpAny_bind (wpAny_specialOf ht.typeIs slot_list_iter.lookup ?_)
  refine wpAny_pure ?_
  simp only [Bool.false_eq_true,if_false]
  refine wpAny_bind (wpAny_holding (wpAny_pyIter_list ht ?_))
  refine wpAny_bind (wpAny_holding (kB hlt items.size 0 _ _ ⟨_,Heap.get?_push_size _ rfl,rfl,rfl⟩ (ht.push _) (by omega) fun h₁ hit₁ hs₁ => ?_))
  have hall : List.take items.size (List.drop 0 items.toList) = items.toList:=by
   rw [List.drop_zero]; exact List.take_of_length_le (by simp)
  rw [hall]
  rw [if_neg (by simp)]
  have ht₁ : h₁.IsList t items:=(ht.push _).extBut hs₁.extBut hlt
  refine wpAny_bind (wpAny_holding (wpAny_pyNext_list_end hh hit₁ ht₁ (by simp) fun h₂ he₂ => ?_))
  simp only [Option.isSome_none,Bool.false_eq_true,if_false]
  refine wpAny_pure (hQ h₂ fun b o hb e => he₂ b o hb (hs₁.extBut b o hb (Heap.get?_push_of_some _ e)))
theorem gq {env : Env} {elts : List Expr} {x1} {pos : Pos} {t : Addr} {items : Array Value} {Q : Unit -> Shared -> Prop} (hh : A.handled = none) (ht : s.heap.IsList t items)
  (hn : (assignEach elts env).length = items.size) (hstar : (assignEach elts env).findIdx? (·.1) = none)
  (h : ∀ h',Heap.ExtBut s.heap.objs.size s.heap h' -> wpAny (model prog w) A (assignInOrder ((assignEach elts env).map (·.2)) items.toList) Q E { s with heap:=h' }) :
  wpAny (model prog w) A (assign (.Tuple elts x1 pos) env (.ref t)) Q E s:=by
 rw [PyProof.Rows.assign_Tuple]
 refine wpAny_bind (wpAny_standAt ?_)
 unfold unpack
 rw [hn,hstar]
 exact wpAny_bind (wpAny_holding (iv hh ht h))
end
section
variable {X : Cx} {pos : Pos}
def we (K : PySem.W.Frag) (n : Nat) (t : TGs) : TG:=fun v σ H Q => ∃ a xs,v = .ref a /\ SqL K H a xs /\ xs.length = n /\ t xs σ H Q
theorem mj {es : List Expr} {k : Nat} {t : TGs} {n : Nat} (hc : X.calm = true) (h : PGs X es t)
  (hn : (assignEach es X.env).length = n:=by rfl) (hst : (assignEach es X.env).findIdx? (·.1) = none:=by rfl) : PG X (.Tuple es k pos) (we X.K n t):=by
 intro pins s σ H v u Q I r hw
 obtain ⟨a,xs,e1,hq,hl,hw⟩:=hw
 subst e1
 cases r
 obtain ⟨its,rv,ht,hz⟩:=I.list hq
 refine gq (I.ok.hd hc) ht.isList (by simp [hn,<- hl,rv.length]) hst fun h' hx => ?_
 have I1 : Inv X pins σ H { s with heap:=h' }:=I.kept (t' := s.toks) fun b o e => hx b o (Nat.ne_of_lt (Heap.lt_size e)) e
 exact h pins _ σ H xs _ Q I1 (by simpa using rv) hw
end
end L2
set_option Elab.async false
set_option linter.all false
set_option maxRecDepth 100000
namespace HT
open PySem PySem.Spec PyProof.Rows
section
variable {prog : Program} {w : World} {A : Around} {E : Value -> Shared -> Prop} {s : Shared}
end
end HT
namespace L2
open PySem PySem.Spec PyProof.Rows
section
variable {X : Cx}
end
structure FunD (K : PySem.W.Frag) (x qual : Str) (st : Stmt) (dV : Value) (f : Addr) (fd : FuncData) : Prop where
 ex : ∃ (oc : Value) (od : Option Addr) (kV doc pm : Value) (an : Option Addr) (cdv ct : Value) (osl : Array (Option Value)),
  fd = PySem.W.fnOf x qual (aL st) (aK st) (aj st) dV kV doc pm an cdv ct /\ K.lookup f = some ⟨oc,od,.func fd,osl⟩ /\ PySem.W.codeIn K cdv qual = true
 kp : PySem.W.keepIn K (.ref f) = true
section
variable {P : Program} {w : World} {K : PySem.W.Frag} {mg : Str -> Option Value} {base : Heap}
theorem FunD.ok {x qual : Str} {st : Stmt} {dV : Value} {f : Addr} {fd : FuncData} {N ps : List Str} {k : Nat} {sp : Sp} (F : FunD K x qual st dV f fd) (S : FnScope N ps (aj st)) (len : ∀ vs H Q E,sp vs H Q E -> vs.length = ps.length)
  (hbody : ∀ (cdv : Value) (A : Around) (outer : List Env) (s : Shared) (H : Hp) (vs : List V) (Q : VK) (E : XK),Room k (A.deeper (envOfC qual (aj st) s.heap.objs.size f cdv)) -> sp vs H Q E ->
   ∃ t,PSs (qM CX0 P w K mg base N qual (aj st) f cdv A outer s H E).nox (aK st) t /\ t { nx:=fun _ H' => Q .non H',rt:=Q } (start N vs) H) : FnOk P w K mg base CX0 (k + 1) f fd ps sp:=by
 obtain ⟨oc,od,kV,doc,pm,an,cdv,ct,osl,rfl,lk,hcd⟩:=F.ex
 refine vv lk hcd S len fun A outer s H vs Q E hr hsp => ?_
 obtain ⟨t,h,q⟩:=hbody cdv A outer s H vs Q E hr hsp
 exact ⟨t,h.nox,q⟩
theorem FunD.binds {x qual : Str} {st : Stmt} {f : Addr} {fd : FuncData} {ps : List Str} (F : FunD K x qual st .none f fd)
  (h : ∀ (kV doc pm : Value) (an : Option Addr) (cdv ct : Value) (us : List Value),us.length = ps.length -> bindArgs (PySem.W.fnOf x qual (aL st) (aK st) (aj st) .none kV doc pm an cdv ct) ⟨us,[]⟩ = pure (ps.zip us)) : Binds K fd ps []:=by
 obtain ⟨oc,od,kV,doc,pm,an,cdv,ct,osl,rfl,lk,hcd⟩:=F.ex
 exact .all (h kV doc pm an cdv ct)
theorem a9 {x qual : Str} {st : Stmt} {f : Addr} {oc : Value} {od an : Option Addr} {osl : Array (Option Value)} {dV kV doc pm cdv ct : Value} (l : K.lookup f = some ⟨oc,od,.func (PySem.W.fnOf x qual (aL st) (aK st) (aj st) dV kV doc pm an cdv ct),osl⟩)
  (c : PySem.W.codeIn K cdv qual = true) (k : PySem.W.keepIn K (.ref f) = true) : FunD K x qual st dV f (PySem.W.fnOf x qual (aL st) (aK st) (aj st) dV kV doc pm an cdv ct):=⟨⟨oc,od,kV,doc,pm,an,cdv,ct,osl,rfl,l,c⟩,k⟩
structure DefOk (P : Program) (w : World) (K : PySem.W.Frag) (mg : Str -> Option Value) (base : Heap) (x : Str) (k : Nat) (ps : List Str) (dvs : List V) (sp : Sp) : Prop where
 ex : ∃ (f : Addr) (fd : FuncData) (ds : List Value),mg x = some (.ref f) /\ PySem.W.keepIn K (.ref f) = true /\ Vals dvs ds /\ Binds K fd ps ds /\ FnOk P w K mg base CX0 k f fd ps sp
end
section
variable {X : Cx} {x : Str} {j k : Nat} {ps : List Str} {dvs : List V} {sp : Sp} {p pos : Pos} {e : Expr} {es : List Expr} {t : TA}
theorem aR (G : DefOk X.prog X.w X.K X.mg X.base x k ps dvs sp) (hr : Room j X.A) (ha : PA X (e :: es) t) (hx : ∀ e s,X.xe e s = False:=by intro _ _; rfl) (hkj : k <= j:=by decide) (hg : Gl X x:=by rfl) (hdb : (x == ("__debug__" : Str)) = false:=by decide)
  (he : starEach (e :: es) X.env = (false,eval e X.env) :: starEach es X.env:=by rfl) (hpl : (backTo pos (starEach es X.env)).any (·.1) = false:=by rfl) :
  PE X (.Call (.Name x p) (e :: es) [] pos) (uJ sp dvs E0 t):=by
 obtain ⟨f,fd,ds,hm,hk,hd,hb,F⟩:=G.ex
 exact uo F (hr.mono hkj) hg hm hk hb hd (fun _ _ _ _ _ _ _ h => h.elim) ha hdb he hpl
end
theorem iC (K : PySem.W.Frag) : PySem.W.kitOne K (.type "int") (.type "int") = some true:=by with_unfolding_all rfl
theorem gD (K : PySem.W.Frag) : PySem.W.kitOne K (.type "int") (.type "bool") = some false:=by with_unfolding_all rfl
theorem ah {H : Hp} {p : Addr} (h : H p = none) (o : HO) : Same H (upd H p o):=fun b u q => by rw [ao (av q h)]; exact q
theorem small {n : Nat} (h : n <= 1000) : n <= sizeLine:=Nat.le_of_lt (cz h)
theorem cE : bootBuiltins "len" = some (.builtin "len"):=by decide +kernel
theorem uS : bootBuiltins "min" = some (.builtin "min"):=by decide +kernel
theorem oB : bootBuiltins "max" = some (.builtin "max"):=by decide +kernel
theorem cA : bootBuiltins "isinstance" = some (.builtin "isinstance"):=by decide +kernel
theorem uU : bootBuiltins "sum" = some (.builtin "sum"):=by decide +kernel
theorem cu : bootBuiltins "sorted" = some (.builtin "sorted"):=by decide +kernel
theorem rD : bootBuiltins "int" = some (.type "int"):=by decide +kernel
theorem tN : bootBuiltins "bool" = some (.type "bool"):=by decide +kernel
theorem gs : bootBuiltins "tuple" = some (.type "tuple"):=by decide +kernel
theorem k4 : bootBuiltins "str" = some (.type "str"):=by decide +kernel
theorem fU : bootBuiltins "set" = some (.type "set"):=by decide +kernel
end L2
set_option Elab.async false
set_option linter.all false
set_option maxRecDepth 100000
namespace L2
open PySem PySem.Spec PyProof.Rows
section
variable {X : Cx}
end
section
variable {X : Cx} {tg : Expr}
end
theorem mU {c : TT} {tb : TS} {D : Ends} {σ : St} {H : Hp} (Pv : Nat -> St -> Hp -> Prop) (h0 : ∃ m,Pv m σ H)
  (hs : ∀ m σ H,Pv m σ H -> c σ H fun b H1 => if b = true then ∃ N : St -> Hp -> Prop,(∀ σ' H',N σ' H' -> ∃ m',m' < m /\ Pv m' σ' H') /\ tb { D with nx:=N,ct:=N,bk:=D.nx } σ H1 else D.nx σ H1) : mT c tb D σ H:=⟨Pv,h0,hs⟩
end L2
set_option Elab.async false
set_option linter.all false
set_option maxRecDepth 100000
namespace L2
open PySem PySem.Spec PyProof.Rows
section
variable {X : Cx} {pins : List (Addr × Obj)} {σ : St} {H : Hp} {s : Shared}
end
section
variable {X : Cx} {tg : Expr}
end
section
variable {X : Cx}
end
end L2
set_option Elab.async false
set_option linter.all false
set_option maxRecDepth 100000
namespace PySem
section
variable {prog : Program} {w : World} {A : Around} {R : Result -> Shared -> Prop} {I : Addr} {fp wr : List Addr} {n : Nat} {P : Nat -> Value -> Prop} {St : Nat -> Heap -> Prop}
theorem qC (a v : Value) : argsOk "max" ⟨[a],[(Str.ofString "default",v)]⟩:=by unfold argsOk; kernel_rfl
theorem qW (W : Walks prog w A.in1 I fp wr n P St) (bt : Nat -> Nat -> Bool) (hcmp : CmpOf prog w A.in1 .Gt P bt) (S : Addr) (hSf : S ∉ fp) (kw : List (Str × Value)) :
  ∀ (k j : Nat) (s : Shared) (vb : Value) (c : Nat),n - (j + 1) = k -> j + 1 <= n -> St (j + 1) s.heap -> P (argBest bt j) vb ->
  s.heap.get? S = some { cls:=.type "list",dict:=none,data:=.seq #[vb,vb] c,slots := #[] } ->
  (∀ v h' tk,P (argBest bt (n - 1)) v -> (∀ b o,b ∉ wr -> b ≠ S -> s.heap.get? b = some o -> h'.get? b = some o) -> R (.ok (.ret v)) { s with heap:=h',toks:=tk }) ->
  codeAny (model prog w) A (.builtin "max.loop" ⟨[.ref I,.none,.ref S],kw⟩) R s:=by
 have hSw : S ∉ wr:=fun h => hSf (W.sub _ h)
 have hname : (toString "max" ++ toString ".loop" : String) = "max.loop" := by decide
 intro k
 induction k with
 | zero =>
  intro j s vb c hk hj hst hPb hS hR
  have hin : j + 1 = n:=by omega
  refine codeAny_builtin F.entry_max_loop ?_
  rw [Around.under_plainId F.plain_max_loop _]
  refine wpAny_bind (m:=seqItems? (.ref S)) (wpAny_seqItems hS rfl ?_)
  refine wpAny_bind (m:=tryCatch (pyNext (.ref I)) _) (wpAny_tryCatch (W.done s _ _ (hin ▸ hst) fun h' tk hk' => ?_))
  have hS' := hk' S _ hSw hS
  refine wpAny_bind (m:=updateSeq S (fun _ => #[])) ?_
  refine wpAny_updateSeq hS' rfl (wpAny_bind (wpAny_letGo (wpAny_pure ?_)))
  refine hR vb _ tk (by rw [<- hin]; exact hPb) fun b o hbw hbS e => (Heap.get?_update_other _ _ (Ne.symm hbS)).trans (hk' b o hbw e)
 | succ k ih =>
  intro j s vb c hk hj hst hPb hS hR
  have hlt : j + 1 < n:=by omega
  refine codeAny_builtin F.entry_max_loop ?_
  rw [Around.under_plainId F.plain_max_loop _]
  refine wpAny_bind (m:=seqItems? (.ref S)) (wpAny_seqItems hS rfl ?_)
  refine wpAny_bind (m:=tryCatch (pyNext (.ref I)) _) (wpAny_tryCatch (W.item (j + 1) s _ _ hlt hst fun v h' tk hP hst' hk' => ?_))
  have hS' := hk' S _ hSw hS
  refine wpAny_bind (m:=tryCatch (holding [v,v] (richCompare .Gt v vb >>= _)) _) (wpAny_tryCatch (wpAny_holding (wpAny_bind (hcmp (j + 1) (argBest bt j) v vb _ _ _ hP hPb ?_))))
  refine wpAny_bind (wpAny_holding (wpAny_truthy_bool ?_))
  refine wpAny_bind (wpAny_letGo (wpAny_pure ?_))
  cases hb : bt (j + 1) (argBest bt j) with
  | true =>
   simp only [if_true]
   refine wpAny_bind ?_
   refine wpAny_updateSeq hS' rfl (wpAny_bind (wpAny_letGo ?_))
   rw [hname]
   refine wpAny_pure ⟨plainId_quiet F.plain_max_loop _,ih (j + 1) _ v _ (by omega) hlt (W.frame _ _ _ hst' fun b hbf o e => ?_) (by simp only [argBest,hb,if_true]; exact hP) (Heap.get?_update_self _ hS' rfl)
    fun v' h'' tk'' hP' hk'' => ?_⟩
   ·exact (Heap.get?_update_other _ _ (fun h : S = b => hSf (by rw [h]; exact hbf))).trans e
   ·exact hR v' h'' tk'' hP' fun b o hbw hbS e => hk'' b o hbw hbS ((Heap.get?_update_other _ _ (Ne.symm hbS)).trans (hk' b o hbw e))
  | false =>
   simp only [Bool.false_eq_true,if_false]
   refine wpAny_bind (wpAny_letGo ?_)
   rw [hname]
   refine wpAny_pure ⟨plainId_quiet F.plain_max_loop _,ih (j + 1) _ vb c (by omega) hlt hst' (by simp only [argBest,hb,Bool.false_eq_true,if_false]; exact hPb) hS' fun v' h'' tk'' hP' hk'' => ?_⟩
   exact hR v' h'' tk'' hP' fun b o hbw hbS e => hk'' b o hbw hbS (hk' b o hbw e)
theorem iW (W : Walks prog w A.in1 I fp wr n P St) (bt : Nat -> Nat -> Bool) (hcmp : CmpOf prog w A.in1 .Gt P bt) (S : Addr) (hSf : S ∉ fp) (d : Value) {s : Shared} {c : Nat} (hst : St 0 s.heap)
  (hS : s.heap.get? S = some { cls:=.type "list",dict:=none,data:=.seq #[] c,slots := #[] })
  (h0 : n = 0 -> ∀ h' tk,(∀ b o,b ∉ wr -> b ≠ S -> s.heap.get? b = some o -> h'.get? b = some o) -> R (.ok (.ret d)) { s with heap:=h',toks:=tk })
  (hR : 0 < n -> ∀ v h' tk,P (argBest bt (n - 1)) v -> (∀ b o,b ∉ wr -> b ≠ S -> s.heap.get? b = some o -> h'.get? b = some o) -> R (.ok (.ret v)) { s with heap:=h',toks:=tk }) :
  codeAny (model prog w) A (.builtin "max.loop" ⟨[.ref I,.none,.ref S],[(Str.ofString "default",d)]⟩) R s:=by
 have hSw : S ∉ wr:=fun h => hSf (W.sub _ h)
 have hname : (toString "max" ++ toString ".loop" : String) = "max.loop" := by decide
 refine codeAny_builtin F.entry_max_loop ?_
 rw [Around.under_plainId F.plain_max_loop _]
 refine wpAny_bind (m:=seqItems? (.ref S)) (wpAny_seqItems hS rfl ?_)
 rcases Nat.eq_zero_or_pos n with hn | hn
 ·refine wpAny_bind (m:=tryCatch (pyNext (.ref I)) _) (wpAny_tryCatch (W.done s _ _ (hn ▸ hst) fun h' tk hk' => ?_))
  refine wpAny_bind (m:=rule _) (wpAny_rule (wpAny_pure ?_))
  exact h0 hn h' tk fun b o hbw _ e => hk' b o hbw e
 refine wpAny_bind (m:=tryCatch (pyNext (.ref I)) _) (wpAny_tryCatch (W.item 0 s _ _ hn hst fun v h' tk hP hst' hk' => ?_))
 have hS' := hk' S _ hSw hS
 refine wpAny_bind (m:=updateSeq S (fun _ => #[v,v])) ?_
 refine wpAny_updateSeq hS' rfl ?_
 rw [hname]
 refine wpAny_pure ⟨plainId_quiet F.plain_max_loop _,qW W bt hcmp S hSf _ _ 0 _ v _ rfl hn (W.frame _ _ _ hst' fun b hbf o e => ?_) hP (Heap.get?_update_self _ hS' rfl) fun v' h'' tk'' hP' hk'' => ?_⟩
 ·exact (Heap.get?_update_other _ _ (fun h : S = b => hSf (by rw [h]; exact hbf))).trans e
 ·exact hR hn v' h'' tk'' hP' fun b o hbw hbS e => hk'' b o hbw hbS ((Heap.get?_update_other _ _ (Ne.symm hbS)).trans (hk' b o hbw e))
end
section
variable {prog : Program} {w : World} {A : Around} {E : Value -> Shared -> Prop} {s : Shared}
theorem ji {x d : Value} {Q : Value -> Shared -> Prop}
  (h : wpAny (model prog w) A.in1 (pyIter x) (fun it s₂ => ∃ I fp wr n P St bt,it = .ref I /\ Walks prog w A.in1 I fp wr n P St /\ St 0 s₂.heap /\ (∀ b ∈ fp,b < s₂.heap.objs.size) /\ CmpOf prog w A.in1 .Gt P bt /\
   (n = 0 -> ∀ h' tk,(∀ b o,b ∉ wr -> s₂.heap.get? b = some o -> h'.get? b = some o) -> Q d { s₂ with heap:=h',toks:=tk }) /\
   (0 < n -> ∀ v h' tk,P (argBest bt (n - 1)) v -> (∀ b o,b ∉ wr -> s₂.heap.get? b = some o -> h'.get? b = some o) -> Q v { s₂ with heap:=h',toks:=tk })) E s) :
  wpAny (model prog w) A (call (.builtin "max") [x] [(Str.ofString "default",d)]) Q E s:=by
 have hname : (toString "max" ++ toString ".loop" : String) = "max.loop" := by decide
 refine PyProof.Rows.kmb_tree F.kind_max F.plain_max F.entry_max (qC _ _) ?_
 refine wpAny_bind (m:=Builtin.Builtins.bindParams "max" ["key","default"] 0 ⟨[],[(Str.ofString "default",d)]⟩) (wpAny_of_eq (show Builtin.Builtins.bindParams "max" ["key","default"] 0 ⟨[],[(Str.ofString "default",d)]⟩ = pure [none,some d] from rfl) ?_)
 refine wpAny_bind (wpAny_pure ?_)
 refine wpAny_bind (wpAny_mono h (fun it s₂ h₂ => ?_) fun _ _ e => e)
 obtain ⟨I,fp,wr,n,P,St,bt,rfl,W,hst,hfp,hcmp,hQ0,hQ⟩:=h₂
 refine wpAny_bind (wpAny_newObj_type ?_)
 have hSf : s₂.heap.objs.size ∉ fp:=fun hm => Nat.lt_irrefl _ (hfp _ hm)
 rw [hname]
 refine wpAny_pure ⟨plainId_quiet F.plain_max_loop _,iW W bt hcmp s₂.heap.objs.size hSf d (W.frame _ _ _ hst fun b _ o e => Heap.get?_push_of_some _ e) (Heap.get?_push_size _ rfl) (fun hn h' tk hk => ?_) fun hn v h' tk hP hk => ?_⟩
 ·exact hQ0 hn h' tk fun b o hbw e => hk b o hbw (Nat.ne_of_lt (Heap.lt_size e)) (Heap.get?_push_of_some _ e)
 ·exact hQ hn v h' tk hP fun b o hbw e => hk b o hbw (Nat.ne_of_lt (Heap.lt_size e)) (Heap.get?_push_of_some _ e)
end
end PySem
namespace L2
open PySem PySem.Spec PyProof.Rows
section
variable {X : Cx}
def uI (K : PySem.W.Frag) : List V -> List V -> Hp -> VK -> Prop:=fun xs zs H Q => ∃ (a : Addr) (ns : List Int) (d : V),xs = [.ref a] /\ zs = [d] /\ SqL K H a (ns.map V.int) /\ (ns = [] -> Q d H) /\ ∀ M,M ∈ ns -> (∀ z ∈ ns,z <= M) -> Q (.int M) H
theorem t8 {pins : List (Addr × Obj)} {σ : St} {H : Hp} {s : Shared} {xs zs : List V} {us ws : List Value} {Q : VK} (hc : X.calm = true) (I : Inv X pins σ H s) (r : Vals xs us) (rz : Vals zs ws) (h : uI X.K xs zs H Q) :
  wpAny (model X.prog X.w) X.A (call (.builtin "max") us (([Str.ofString "default"] : List Str).zip ws)) (EP X pins σ Q) X.xe s:=by
 obtain ⟨a,ns,d,rfl,rfl,hS,h0,h1⟩:=h
 obtain ⟨u,rfl,ru⟩:=r.one
 obtain ⟨dv,rfl,rd⟩:=rz.one
 cases (show u = Value.ref a from ru)
 obtain ⟨its,rv,ht,hz⟩:=I.list hS
 have hlen:=rv.length
 rw [List.length_map] at hlen
 show wpAny _ _ (call (.builtin "max") [.ref a] [(Str.ofString "default",dv)]) _ _ s
 have hlt : a < s.heap.objs.size:=by obtain ⟨_,e,_⟩:=ht.isList; exact Heap.lt_size e
 refine ji (wpAny_pyIter_list ht.isList ?_)
 have W:=Walks.list (prog:=X.prog) (w:=X.w) (A:=X.A.in1) (I.ok.hd hc) s.heap.objs.size a (Nat.ne_of_lt hlt) its.toArray
 have hval : ∀ (i : Nat) (v : Value),its.toArray[i]? = some v -> ∃ t,v = .int (ns.getD i 0) t:=fun i v e => by
  have e' : its[i]? = some v:=by simpa using e
  have hi : i < ns.length:=by rw [hlen]; exact (List.getElem?_eq_some_iff.mp e').1
  obtain ⟨u,hu,ru⟩:=rv.get (i:=i) (x:=.int ns[i]) (by simp [hi])
  rw [e'] at hu
  cases hu
  obtain ⟨t,rfl⟩:=ru
  exact ⟨t,by simp [hi]⟩
 refine ⟨_,_,_,_,_,_,_,rfl,W,⟨⟨_,Heap.get?_push_size _ rfl,rfl,rfl⟩,ht.isList.push _⟩,fun b hb => ?_,CmpOf.ints_gt (fun i => ns.getD i 0) hval,fun hn h' tk hk => ?_,fun hn v h' tk hP hk => ?_⟩
 ·show b < (s.heap.push _).objs.size
  rw [Heap.size_push]
  rcases List.mem_cons.mp hb with rfl | hb
  ·exact Nat.lt_succ_self _
  ·rw [List.mem_singleton.mp hb]; exact Nat.lt_succ_of_lt hlt
 ·have hn' : ns = []:=List.length_eq_zero_iff.mp (by simp at hn; rw [hlen,hn]; rfl)
  have I1 : Inv X pins σ H { s with heap:=h',toks:=tk }:=I.kept (t' := tk) fun b o e => hk b o (fun hm => by
   rw [List.mem_singleton.mp hm] at e
   exact Nat.lt_irrefl _ (Heap.lt_size e)) (Heap.get?_push_of_some _ e)
  exact ⟨d,H,I1,rd,h0 hn'⟩
 ·have hn' : 0 < ns.length:=by rw [hlen]; simpa using hn
  have I1 : Inv X pins σ H { s with heap:=h',toks:=tk }:=I.kept (t' := tk) fun b o e => hk b o (fun hm => by
   rw [List.mem_singleton.mp hm] at e
   exact Nat.lt_irrefl _ (Heap.lt_size e)) (Heap.get?_push_of_some _ e)
  obtain ⟨t,rfl⟩:=hval _ v hP
  have hb:=argBest_gt (fun i => ns.getD i 0) (its.toArray.size - 1)
  have hj : argBest (fun i j => decide (ns.getD i 0 > ns.getD j 0)) (its.toArray.size - 1) < ns.length:=by
   have:=hb.1
   rw [List.size_toArray] at this ⊢
   omega
  refine ⟨.int _,H,I1,⟨t,rfl⟩,h1 _ ?_ fun z hzm => ?_⟩
  ·rw [List.getD_eq_getElem?_getD,List.getElem?_eq_getElem hj,Option.getD_some]; exact List.getElem_mem hj
  ·obtain ⟨i,hi,rfl⟩:=List.getElem_of_mem hzm
   have:=hb.2 i (by rw [List.size_toArray]; omega)
   simpa [List.getD_eq_getElem?_getD,List.getElem?_eq_getElem hi] using this
variable {p pos kpos : Pos} {e d : Expr} {ta : TA} {td : TE}
def vP (K : PySem.W.Frag) (ta : TA) (td : TE) : TE:=fun σ H Q => ta σ H fun xs H1 => td σ H1 fun z H2 => uI K xs [z] H2 Q
theorem ur (hc : X.calm = true) (hg : Gl X "max") (hm : X.mg "max" = none) (ha : PA X [e] ta) (hd : PE X d td) (he : backTo pos (starEach [e] X.env) = (false,eval e X.env) :: backTo pos (starEach [] X.env):=by rfl) (hp : (backTo pos (starEach [e] X.env)).any (·.1) = false:=by rfl) :
  PE X (.Call (.Name "max" p) [e] [⟨some (Str.ofString "default"),d,kpos⟩] pos) (vP X.K ta td):=by
 intro pins s σ H Q I h
 refine wpAny_Call_Name_kw (hV I hg hm oB ?_)
 refine callWith_kw (thn (ha pos pins s σ H _ I h) fun us s1 ⟨vs,H1,I1,r1,q1⟩ => ?_) he hp
 refine kws_cons (thn (hd pins s1 σ H1 _ I1 q1) fun dv s2 ⟨z,H2,I2,r2,q2⟩ => kws_nil ?_)
 exact t8 hc I2 r1 (.cons r2 .nil) q2
end
section
variable {prog : Program} {w : World} {A : Around} {E : Value -> Shared -> Prop} {s : Shared}
end
section
variable {X : Cx} {e : Expr} {te : TE} {lo hi : Option Expr} {st : Expr} {tl th ts : TO} {pos p2 : Pos}
end
section
variable {X : Cx} {tg : Expr}
end
theorem rG {K : PySem.W.Frag} {a : Addr} {xs : List V} {ix : List (Option Nat)} {te : TE} {σ : St} {H : Hp} {Qd : Addr -> Hp -> Prop} (Pv : Addr -> Nat -> List V -> Hp -> Prop)
  (h0 : ∀ D,H D = none -> Pv D 0 [] (upd H D (.lst [])))
  (hl : ∀ D i ys H',i <= xs.length -> Pv D i ys H' -> SqT K H' a xs)
  (hs : ∀ D i x ys H' (Q' : VK),H D = none -> xs[i]? = some x -> H' D = some (.lst ys) -> Pv D i ys H' -> (∀ y H4,H4 D = some (.lst ys) -> ys.length < sizeLine -> Pv D (i + 1) (ys ++ [y]) (upd H4 D (.lst (ys ++ [y]))) -> Q' y H4) ->
   te ((aJ ix σ).set 0 (some x)) H' Q')
  (hd : ∀ D ys H',H D = none -> H' D = some (.lst ys) -> Pv D xs.length ys H' -> Qd D H') : pV (Itt K a) ix (aG 0) te σ H Qd:=by
 intro D hD
 refine ⟨fun i m σ' H' => m = xs.length - i /\ i <= xs.length /\ (σ' = aJ ix σ \/ ∃ t,σ' = (aJ ix σ).set 0 t) /\ ∃ ys,H' D = some (.lst ys) /\ Pv D i ys H',⟨xs.length,by simp,Nat.zero_le _,.inl rfl,[],af,h0 D hD⟩,?_⟩
 rintro i m σ' H' ⟨rfl,hi,hσ,ys,hy,p⟩
 have q:=hl D i ys H' hi p
 by_cases hlt : i < xs.length
 ·refine .inr ⟨⟨xs,xs[i],q,by simp [hlt]⟩,fun x H2 y => ?_⟩
  obtain ⟨e1,e2⟩:=y
  subst e1
  have ex:=e2 xs q
  have es : σ'.set 0 (some x) = (aJ ix σ).set 0 (some x):=by
   rcases hσ with z | ⟨t,z⟩
   ·rw [z]
   ·rw [z,List.set_set]
  show te (σ'.set 0 (some x)) _ _
  rw [es]
  refine hs D i x ys _ _ hD ex hy p fun y H4 h4 hz p4 => ⟨ys,h4,hz,xs.length - (i + 1),by omega,rfl,hlt,.inr ⟨_,rfl⟩,ys ++ [y],af,p4⟩
 ·have e : i = xs.length:=by omega
  subst e
  exact .inl ⟨⟨xs,q,Nat.le_refl _⟩,hd D ys H' hD hy p⟩
section
variable {X : Cx}
theorem nC (K : PySem.W.Frag) (h : X.K = K:=by rfl) : IxR X (vH K):=by subst h; exact aM
theorem lI (K : PySem.W.Frag) (h : X.K = K:=by rfl) : IxR X (vI K):=by subst h; exact bJ
end
end L2
set_option Elab.async false
set_option linter.all false
set_option maxRecDepth 100000
namespace L2
open PySem PySem.Spec PyProof.Rows
section
variable {κ : Type} [DecidableEq κ]
end
section
variable {P : Program} {w : World} {H : Hp} {h : Heap} {a : Addr}
end
section
variable {X : Cx} {pins : List (Addr × Obj)} {σ : St} {H : Hp} {s : Shared} {a : Addr} {y v : V} {u r : Value} {o : Option V} {A : Around} {E : Value -> Shared -> Prop}
end
section
variable {X : Cx} {pins : List (Addr × Obj)} {σ : St} {H : Hp} {s : Shared} {a : Addr} {kvs : List (Key × V)} {k : Key} {u : Value} {A : Around} {E : Value -> Shared -> Prop}
end
section
variable {X : Cx} {o i e value : Expr} {pos pos' tpos : Pos} {td ty tv : TE}
end
section
variable {X : Cx} {pos : Pos}
end
structure M1 (X : Cx) (o : Expr) (m : Str) (apos : Pos) (e : Expr) (cpos : Pos) : Prop where
 base : attributeBase o m X.env (eval o X.env) = eval o X.env
 few : ((backTo cpos (starEach [e] X.env)).all (fun x => !x.1) && (backToKw cpos (keywordEach [] X.env)).all (fun x => x.1.isSome)
  && decide (([e] : List Expr).length + ([] : List Keyword).length + (if ([] : List Keyword).isEmpty then 0 else 1) < 30)) = true
 line : (apos.endLine == cpos.line) = true
 trees : backTo cpos (starEach [e] X.env) = [(false,eval e X.env)]
structure M2 (X : Cx) (o : Expr) (m : Str) (apos : Pos) (e f : Expr) (cpos : Pos) : Prop where
 base : attributeBase o m X.env (eval o X.env) = eval o X.env
 few : ((backTo cpos (starEach [e,f] X.env)).all (fun x => !x.1) && (backToKw cpos (keywordEach [] X.env)).all (fun x => x.1.isSome)
  && decide (([e,f] : List Expr).length + ([] : List Keyword).length + (if ([] : List Keyword).isEmpty then 0 else 1) < 30)) = true
 line : (apos.endLine == cpos.line) = true
 trees : backTo cpos (starEach [e,f] X.env) = [(false,eval e X.env),(false,eval f X.env)]
section
variable {X : Cx} {pins : List (Addr × Obj)} {σ : St} {H : Hp} {s : Shared} {a : Addr} {y d : V} {u r : Value} {o : Option V} {A : Around} {E : Value -> Shared -> Prop}
end
section
variable {X : Cx} {o e f : Expr} {apos cpos : Pos} {td ty tx : TE}
end
section
variable {X : Cx} {pins : List (Addr × Obj)} {σ : St} {H : Hp} {s : Shared} {a : Addr} {kvs : List (Key × V)} {A : Around} {E : Value -> Shared -> Prop}
end
section
variable {X : Cx} {pins : List (Addr × Obj)} {σ : St} {H : Hp} {s : Shared} {a : Addr} {y : V} {u : Value} {A : Around} {E : Value -> Shared -> Prop}
end
end L2
namespace L2
open PySem PySem.Spec PyProof.Rows
section
variable {κ : Type} [DecidableEq κ]
end
end L2
set_option Elab.async false
set_option linter.all false
set_option maxRecDepth 100000
namespace PySem
open Sem (wp)
open Builtin
end PySem
namespace L2
open PySem PySem.Spec PyProof.Rows
section
variable {X : Cx}
end
inductive Pl (H : Hp) : V -> Prop where
 | non : Pl H .non
 | bl (b : Bool) : Pl H (.bl b)
 | int (i : Int) : Pl H (.int i)
 | str (x : Str) : Pl H (.str x)
 | lst {a : Addr} {xs : List V} (e : H a = some (.lst xs)) : Pl H (.ref a)
 | tup {a : Addr} {xs : List V} (e : H a = some (.tup xs)) : Pl H (.ref a)
 | dK {a : Addr} {kvs : List (Key × V)} (e : H a = some (.dK kvs)) : Pl H (.ref a)
structure PEW (X : Cx) (e : Expr) (t : TE) : Prop where
 out : PE X e t
structure PAW (X : Cx) (es : List Expr) (t : TA) : Prop where
 out : PA X es t
structure PTW (X : Cx) (e : Expr) (t : TT) : Prop where
 out : PT X e t
structure PSW (X : Cx) (s : Stmt) (t : TS) : Prop where
 out : PS X s t
structure PSsW (X : Cx) (s : List Stmt) (t : TS) : Prop where
 out : PSs X s t
section
variable {X : Cx} {a b e : Expr} {es : List Expr} {ta tb te : TE} {t : TA} {pos : Pos}
theorem cg : PAW X [] vQ:=⟨ag⟩
theorem ak (ha : PEW X e te) (hr : PAW X es t) (hs : starEach (e :: es) X.env = (false,eval e X.env) :: starEach es X.env:=by rfl) : PAW X (e :: es) (uK te t):=⟨aa ha.out hr.out hs⟩
theorem eG (h : PAW X es t) : PEW X (.List es pos) (vO t):=⟨bS h.out⟩
theorem uM {x1} (h : PAW X es t) : PEW X (.Tuple es x1 pos) (vT t):=⟨bB h.out⟩
theorem uG {r : R2} (hr : IxR X r) (ha : PEW X a ta) (hb : PEW X b tb) (hs : pW b) : PEW X (.Subscript a b pos) (tOp r ta tb):=⟨aI hr ha.out hb.out hs⟩
variable {st : Stmt} {rest : List Stmt} {ts us : TS}
theorem mV : PSsW X [] aO:=⟨bh⟩
theorem aq (h1 : PSW X st ts) (h2 : PSsW X rest us) : PSsW X (st :: rest) (uF ts us):=⟨aA h1.out h2.out⟩
theorem bH (h1 : PSW X st ts) : PSsW X [st] ts:=⟨aw h1.out⟩
theorem iG (he : PEW X e te) : PSW X (.Return (some e) pos) (vR te):=⟨aX he.out⟩
theorem vn (he : PEW X e te) (hs : swapsWith e none pos.line X.env = pure false:=by rfl) : PSW X (.Expr e pos) (uL te):=⟨bu he.out hs⟩
theorem qB {i : Nat} {x : Str} {pos' : Pos} (hN : X.N.Nodup) (hi : X.N[i]? = some x) (hx : Loc X.env.scope x) (he : PEW X e te) (hs : swapsWith e (some (.Name x pos')) pos.line X.env = pure false:=by rfl) (hf : X.fn x = true \/ X.env.scope.names.lookup x = some .local:=by first | exact .inl rfl | exact .inr rfl | assumption) :
  PSW X (.Assign [.Name x pos'] e pos) (mS te (aG i)):=⟨az hN hi hx he.out hs hf⟩
theorem rn {c : Expr} {a b : List Stmt} {tc : TT} {u : TS} (hc : PTW X c tc) (ha : PSsW X a ts) (hb : PSsW X b u) : PSW X (.If c a b pos) (sW tc ts u):=⟨bV hc.out ha.out hb.out⟩
theorem vW {tg iter : Expr} {body : List Stmt} {wi : TI} {g : TG} {tb : TS} (hp : PassesOwn (model X.prog X.w) X.A X.env X.xe) (hc : X.calm = true) (hi : PI X tg iter wi) (hg : PG X tg g) (hb : PSsW X body tb)
  (hs : ∀ x,foldedSetIterable iter X.env x = pure x:=by intro _; rfl) : PSW X (.For tg iter body [] pos) (pP wi g tb):=⟨iq hp hc hi hg hb.out hs⟩
theorem dN {b : List Stmt} {R : TS -> Prop} (h : PSsW X b ts) (r : R ts) : ∃ t,PSs X b t /\ R t:=⟨ts,h.out,r⟩
end
end L2
set_option Elab.async false
set_option linter.all false
set_option maxRecDepth 100000
namespace L2
open PySem PySem.Spec PyProof.Rows
def CX1 (P : Program) (w : World) : CXT:=fun outer H s E e s' => ∃ (ea t C : Addr) (B : Heap) (H' : Hp),e = .ref ea /\ s'.os = s.os /\ AllBare s'.gens /\ Un (frs outer) [] H H' s.heap s'.heap /\ HOk P w H' B /\
 Heap.FlyingW B outer ea (.ref C) (.ref t) s'.heap /\ (∀ b o,s.heap.get? b = some o -> b ∉ frs outer -> ∃ o',B.get? b = some o') /\ H' ea = none /\ E (.ref C) none H'
section
variable {P : Program} {w : World} {K : PySem.W.Frag} {mg : Str -> Option Value} {base : Heap} {N : List Str} {qual : Str} {scope : Scope} {f : Addr} {cd : Value} {A : Around} {outer : List Env} {s : Shared} {H : Hp} {E : XK}
end
end L2
set_option Elab.async false
set_option linter.all false
set_option maxRecDepth 100000
namespace L2
open PySem PySem.Spec PyProof.Rows
abbrev VEm : List Value:=[.type "ValueError",.type "Exception",.type "BaseException",.type "object"]
section
variable {X : Cx} {x : Str} {j k : Nat} {ps : List Str} {dvs : List V} {sp : Sp} {p pos cpos : Pos} {e : Expr} {es : List Expr} {t : TA} {C : Addr} {E : XK}
end
structure DefX (P : Program) (w : World) (K : PySem.W.Frag) (mg : Str -> Option Value) (base : Heap) (x : Str) (k : Nat) (ps : List Str) (dvs : List V) (sp : Sp) : Prop where
 ex : ∃ (f : Addr) (fd : FuncData) (ds : List Value),mg x = some (.ref f) /\ PySem.W.keepIn K (.ref f) = true /\ Vals dvs ds /\ Binds K fd ps ds /\ FnOk P w K mg base (CX1 P w) k f fd ps sp
section
variable {X : Cx} {x : Str} {j k : Nat} {ps : List Str} {dvs : List V} {sp : Sp} {p pos : Pos} {e : Expr} {es : List Expr} {t : TA} {E : XK}
end
section
variable {P : Program} {w : World} {K : PySem.W.Frag} {mg : Str -> Option Value} {base : Heap}
end
section
variable {X : Cx} {e v1 v2 : Expr} {es rest : List Expr} {pos : Pos} {te : TE} {n : Nat}
end
end L2
set_option Elab.async false
set_option linter.all false
set_option maxRecDepth 100000
namespace L2
open PySem PySem.Spec PySem.W PySem.Builtin PySem.Builtin.Getset_descriptor
structure XCls (K : PySem.W.Frag) (C : Addr) : Prop where
 ga : findIn K (.ref C) "__getattribute__" = some (some (.builtin "BaseException.__getattribute__"))
 gt : findIn K (.ref C) "__getattr__" = some none
 cl : findIn K (.ref C) "__class__" = some (some (.builtin "object.__class__"))
 gg : specialIn K (.builtin "object.__class__") "__get__" = some (some (.builtin "getset_descriptor.__get__"))
 tk : takesIn K (.builtin "object.__class__") = some true
 ob : mroIn K C (.type "object") = some true
 be : mroIn K C (.type "BaseException") = some true
 ci : (clsIn K C).isSome = true
section
variable {prog : Program} {w : World} {A : Around} {E : Value -> Shared -> Prop} {s : Shared} {K : PySem.W.Frag} {ea C : Addr} {ob : Obj}
end
end L2
set_option Elab.async false
set_option linter.all false
set_option maxRecDepth 100000
namespace L2
open PySem PySem.Spec PyProof.Rows
section
variable {X : Cx} {pins : List (Addr × Obj)} {σ : St} {H : Hp} {s : Shared} {E : XK} {ea : Addr}
abbrev TXE:=St -> Hp -> VK -> XK -> Prop
abbrev TX:=Ends -> XK -> St -> Hp -> Prop
end
section
variable {X : Cx} {x : Str} {j k : Nat} {ps : List Str} {dvs : List V} {sp : Sp} {p pos : Pos} {e : Expr} {es : List Expr} {t : TA} {E : XK}
end
section
variable {P : Program} {w : World} {fs : List Addr} {H H1 : Hp} {h h1 : Heap} {ea C : Addr} {o : HO}
end
section
variable {X : Cx} {pins : List (Addr × Obj)} {σ : St} {H : Hp} {s : Shared} {E : XK}
end
section
variable {X : Cx} {pins : List (Addr × Obj)} {σ : St} {H : Hp} {s s' : Shared} {E : XK} {C F : Addr} {i : Nat} {x n : Str} {np pos hpos : Pos} {body : List Stmt} {b₀ : Stmt} {suite : List Stmt} {tb : TX} {ts : TS}
end
end L2
set_option Elab.async false
set_option linter.all false
set_option maxRecDepth 100000
namespace L2
open PySem PySem.Spec PyProof.Rows
structure RoomH (k : Nat) (A : Around) : Prop where
 dp : A.depth + 3 * k + 5 < recursionLimit
 un : A.units + 16 * k + 200 < cLine
structure FnOkH (P : Program) (w : World) (K : PySem.W.Frag) (mg : Str -> Option Value) (base : Heap) (CX : CXT) (k : Nat) (f : Addr) (fd : FuncData) (ps : List Str) (sp : Sp) : Prop where
 len : ∀ vs H Q E,sp vs H Q E -> vs.length = ps.length
 run : ∀ (A : Around) (outer : List Env) (s : Shared) (H : Hp) (args : Args) (us : List Value) (vs : List V) (Q : VK) (E : XK),RoomH k A -> Env0 P w K mg base A outer s H -> BindsTo s fd args (ps.zip us) -> Vals vs us -> sp vs H Q E ->
  codeAny (model P w) A (.call (.ref f) args) (CR CX outer P w H s Q E) s
structure DefH (P : Program) (w : World) (K : PySem.W.Frag) (mg : Str -> Option Value) (base : Heap) (x : Str) (k : Nat) (ps : List Str) (dvs : List V) (sp : Sp) : Prop where
 ex : ∃ (f : Addr) (fd : FuncData) (ds : List Value),mg x = some (.ref f) /\ PySem.W.keepIn K (.ref f) = true /\ Vals dvs ds /\ Binds K fd ps ds /\ FnOkH P w K mg base CX0 k f fd ps sp
section
variable {P : Program} {w : World} {K : PySem.W.Frag} {mg : Str -> Option Value} {base : Heap}
end
section
variable {X : Cx} {x : Str} {j k : Nat} {ps : List Str} {dvs : List V} {sp : Sp} {p pos : Pos} {e : Expr} {es : List Expr} {t : TA}
end
section
variable {X : Cx}
end
end L2
set_option Elab.async false
set_option linter.all false
set_option maxRecDepth 100000
namespace L2
open PySem PySem.Spec PyProof.Rows
section
variable {X : Cx}
end
end L2
set_option Elab.async false
set_option linter.all false
set_option maxRecDepth 100000
namespace L2
open PySem PySem.Spec PyProof.Rows
section
variable {prog : Program} {w : World} {A : Around} {E : Value -> Shared -> Prop} {s : Shared} {it l S : Addr} {items : Array Value}
end
section
variable {X : Cx} {a : Expr} {ta : TA} {p p2 pos pos2 : Pos}
end
end L2
set_option Elab.async false
set_option linter.all false
set_option maxRecDepth 100000
namespace L2
open PySem PySem.Spec PyProof.Rows
section
variable {X : Cx}
end
end L2
set_option Elab.async false
set_option linter.all false
set_option maxRecDepth 100000
namespace L2
open PySem PySem.Spec PyProof.Rows
theorem k7 {prog : Program} {w : World} {A : Around} {R : Result -> Shared -> Prop} {s : Shared} {elt target iter cond : Expr} {scope : Scope} {pos : Pos} {it acc : Value} {env : Env} (I : Nat -> Shared -> Prop)
  (turn : ∀ n s,I n s -> wpAny (model prog w) A (pyNext it) (fun r s₁ => match r with
   | none => R (.ok .next) s₁
   | some v => wpAny (model prog w) A (letOwnedTupleGo target it v) (fun _ s₁' => wpAny (model prog w) A (assign target env v) (fun _ s₂ => wpAny (model prog w) A (isTrue cond env (eval cond env)) (fun ok s₂' =>
     if ok = true then wpAny (model prog w) A (eval elt env) (fun x s₃ =>
     wpAny (model prog w) A (call (.builtin "list.append") [acc,x]) (fun _ s₄ => ∃ m,m < n /\ I m s₄) (fun _ _ => False) s₃)
     (fun _ _ => False) s₂' else ∃ m,m < n /\ I m s₂') (fun _ _ => False) s₂) (fun _ _ => False) s₁') (fun _ _ => False) s₁) (fun _ _ => False) s)
  (n : Nat) (h : I n s) :
  codeAny (model prog w) A (.compLoop (.ListComp elt [⟨target,iter,[cond],0⟩] scope pos) 0 it acc env) R s:=by
 refine codeAny_loop rfl I (fun n s hI => ?_) n h
 show wpAny _ _ ((compTurn (.ListComp elt [⟨target,iter,[cond],0⟩] scope pos) 0 it acc env).onRaise (fun x => do noteFrame x env; theTreesLotGoes x)) _ _ s
 refine wpAny_noted ?_
 rw [compTurn_list]
 refine wpAny_bind (wpAny_standAt (wpAny_bind (wpAny_mono (turn n s hI) (fun r s₁ h₁ => ?_) fun _ _ h' => h'.elim)))
 cases r with
 | none => exact wpAny_pure h₁
 | some v =>
  refine wpAny_bind (wpAny_mono h₁ (fun _ s₁' h₁' => ?_) fun _ _ h' => h'.elim)
  refine wpAny_bind (wpAny_mono h₁' (fun _ s₂ h₂ => wpAny_bind (wpAny_mono (wpAny_tests_one h₂) (fun ok s₃ h₃ => ?_) fun _ _ h' => h'.elim)) fun _ _ h' => h'.elim)
  cases ok with
  | false => exact wpAny_pure ⟨rfl,h₃⟩
  | true => exact wpAny_bind (wpAny_bind (wpAny_mono h₃ (fun x s₄ h₄ => wpAny_bind (wpAny_mono h₄ (fun _ s₅ h₅ => wpAny_pure (wpAny_pure ⟨rfl,h₅⟩)) fun _ _ h' => h'.elim)) fun _ _ h' => h'.elim))
def kP (J : It) (ix : List (Option Nat)) (g : TG) (tc : TT) (te : TE) (σ : St) (H : Hp) (Qd : Addr -> Hp -> Prop) : Prop:=
 ∀ D,H D = none -> ∃ W : Nat -> Nat -> St -> Hp -> Prop,(∃ m,W 0 m (aJ ix σ) (upd H D (.lst []))) /\ ∀ i m σ' H',W i m σ' H' ->
  (J.stop i H' /\ Qd D H') \/ (J.go i H' /\ ∀ x H2,J.yld i H' x H2 -> g x σ' H2 fun σ3 H3 => tc σ3 H3 fun b H4 => if b = true then te σ3 H4 fun y H5 => ∃ ys,H5 D = some (.lst ys) /\ ys.length < sizeLine /\ ∃ m',m' < m /\ W (i + 1) m' σ3 (upd H5 D (.lst (ys ++ [y]))) else ∃ m',m' < m /\ W (i + 1) m' σ3 H4)
section
variable {X : Cx} {pins : List (Addr × Obj)} {σ : St} {H : Hp} {s : Shared} {N : List Str} {ix : List (Option Nat)} {scope : Scope} {fp : List Addr} {tg elt iter cond : Expr} {tc : TT} {pos spos : Pos} {J : It} {it : Addr} {tn : Nat -> Heap -> Prop} {g : TG} {te : TE} {wi : TI}
theorem kz {Qd : Addr -> Hp -> Prop} {RR : Value -> Addr -> Result -> Shared -> Prop} {E : Value -> Shared -> Prop} (I : Inv X pins σ H s) (hc : X.calm = true) (S : BlkScope X.N X.env.scope N ix scope) (T : Turn X.prog X.w X.K tg J fp it tn) (st : tn 0 s.heap) (f2 : ∀ b ∈ fp,fP X pins H b)
  (hg : ∀ C,PG (a8 X N scope fp s H C) tg g) (ht : ∀ C,PT (a8 X N scope fp s H C) cond tc) (he : ∀ C,PE (a8 X N scope fp s H C) elt te) (hW : kP J ix g tc te σ H Qd)
  (hR : ∀ D C s' H' m,Inv X pins σ H' s' -> s'.heap.Ns C m -> fP X pins H' C -> Qd D H' -> RR (.ref D) C (.ok .next) s') :
  wpAny (model X.prog X.w) X.A (newList []) (fun acc s₃ => wpAny (model X.prog X.w) X.A (newFunctionEnv scope X.env.globals (bD X.env.cells scope.names []) [] X.env.qual none .none (some X.env)) (fun cenv s₄ =>
   codeAny (model X.prog X.w) X.A (.compStart (.ListComp elt [⟨tg,iter,[cond],0⟩] scope pos) 0 (.ref it) acc { cenv with scope:=relabel scope X.env }) (RR acc cenv.locals) s₄) E s₃) E s:=by
 refine wpAny_newObj_type (wpAny_newFunctionEnv S.nocell (by intro y hy; simp at hy) (fun h₁ hns₁ hsb₁ => ?_) S.kind)
 dsimp only at hns₁ hsb₁ ⊢
 generalize hH2 : s.heap.push { cls:=.type "list",dict:=none,data:=.seq ([] : List Value).toArray } = H2 at hns₁ hsb₁ ⊢
 have hC : H2.objs.size = s.heap.objs.size + 1:=by rw [<- hH2,Heap.size_push]
 have hDC : s.heap.objs.size ≠ H2.objs.size:=by rw [hC]; exact Nat.ne_of_lt (Nat.lt_succ_self _)
 have hCle : s.heap.objs.size <= H2.objs.size:=by rw [hC]; exact Nat.le_succ _
 have below : ∀ b,b < s.heap.objs.size -> b ≠ H2.objs.size:=fun b hb => by rw [hC]; exact Nat.ne_of_lt (Nat.lt_succ_of_lt hb)
 have old : ∀ b o,s.heap.get? b = some o -> h₁.get? b = some o:=fun b o e => hsb₁.extBut b o (below b (Heap.lt_size e)) (Heap.get?_push_of_some _ (hH2 ▸ Heap.get?_push_of_some _ e))
 have hacc : ∃ n,h₁.get? s.heap.objs.size = some { cls:=.type "list",data:=.seq ([] : List Value).toArray n }:=⟨_,hsb₁.extBut _ _ hDC (Heap.get?_push_of_some _ (hH2 ▸ Heap.get?_push_size _ rfl))⟩
 have st1 : tn 0 h₁:=T.keep _ _ _ st fun b _ o e => old b o e
 have fo : ∀ b ∈ fp,∃ o,s.heap.get? b = some o /\ ∀ v,o.data ≠ .cell v:=T.obj _ _ st
 have I0 : Inv (a8 X N scope fp s H H2.objs.size) pins (aJ ix σ) (upd H s.heap.objs.size (.lst [])) { s with heap:=h₁,toks:=s.toks + ([] : List (Str × Value)).length }:=
  kF I S f2 fo (Nat.le_refl _) hCle hDC old hns₁ hacc
 have freshD : H s.heap.objs.size = none:=I.hok.fresh (Nat.le_refl _)
 obtain ⟨W,⟨m0,w0⟩,turn⟩:=hW s.heap.objs.size freshD
 have cl_ne : ∀ b ∈ fp,b ≠ H2.objs.size:=fun b hb => by
  obtain ⟨o,e,_⟩:=fo b hb
  exact below b (Heap.lt_size e)
 have stat : ∀ {H' : Hp},(∀ b ∈ fp,H' b = none) -> ∀ b ∈ fp,fP (a8 X N scope fp s H H2.objs.size) pins H' b:=fun hn b hb => by
  obtain ⟨f0,f1,f3,f4,f5,f6⟩:=f2 b hb
  exact ⟨hn b hb,cl_ne b hb,I0.ok.exfs b hb,.inl hb,(I0.ok.exf b hb).2,f6⟩
 have fr0 : ∀ b ∈ fp,(upd H s.heap.objs.size (.lst [])) b = none:=fun b hb => by
  obtain ⟨o,e,_⟩:=fo b hb
  rw [ao (Nat.ne_of_lt (Heap.lt_size e))]
  exact (f2 b hb).1
 have loop : codeAny (model X.prog X.w) X.A (.compLoop (.ListComp elt [⟨tg,iter,[cond],0⟩] scope pos) 0 (.ref it) (.ref s.heap.objs.size) (compEnvC scope (bD X.env.cells scope.names []) H2.objs.size X.env))
   (RR (.ref s.heap.objs.size) H2.objs.size) { s with heap:=h₁,toks:=s.toks + ([] : List (Str × Value)).length }:=by
  refine k7 (fun n s' => ∃ i σ' H',Inv (a8 X N scope fp s H H2.objs.size) pins σ' H' s' /\ tn i s'.heap /\ (∀ b ∈ fp,H' b = none) /\ W i n σ' H') ?_ m0 ⟨0,_,_,I0,st1,fr0,w0⟩
  rintro n s3 ⟨i,σ3,H3,I3,st3,fr3,w3⟩
  rcases turn i n σ3 H3 w3 with ⟨stop,qn⟩ | ⟨go,step⟩
  ·refine thn (T.done (a8 X N scope fp s H H2.objs.size) rfl rfl rfl hc i pins s3 σ3 H3 _ I3 (stat fr3) st3 stop) fun r s4 ⟨hr,I4⟩ => ?_
   subst hr
   obtain ⟨m4,hn4,_⟩:=id I4.loc
   refine hR _ _ s4 H3 m4 ?_ hn4 (I.fpOk hCle I4.free) qn
   exact I.call' (ch:=fp) I4.os I4.base I4.hok I4.bare fun b hb => by
    obtain ⟨f0,f1,f3,f4,f5,f6⟩:=f2 b hb
    exact ⟨f4,f1,f5,f6⟩
  ·refine thn (T.item (a8 X N scope fp s H H2.objs.size) rfl rfl rfl hc i pins s3 σ3 H3 _ I3 (stat fr3) st3 go) fun r s4 ⟨u,hr,h4⟩ => ?_
   subst hr
   refine thn h4 fun _ s5 ⟨x,H5,I5,r5,y5,st5,fr5⟩ => ?_
   have I5' := I5.pinned (stat fr5) (T.obj _ _ st5)
   refine thn (hg _ _ s5 σ3 H5 x u _ I5' r5 (step x H5 y5)) fun _ s6 ⟨σ6,H6,I6,q6⟩ => ?_
   refine thn (ht _ _ s6 σ6 H6 _ I6 q6) fun ok s6' ⟨H6',I6',q6'⟩ => ?_
   cases ok with
   | false =>
    obtain ⟨m',hm,w7⟩:=q6'
    refine ⟨m',hm,i + 1,σ6,H6',I6'.unpinned,T.keep _ _ _ st5 fun b hb o e => (I6'.pin (b,o) (List.mem_append_right _ (List.mem_append_right _ (bK hb e)))).1,fun b hb => ?_,w7⟩
    obtain ⟨o,e,d⟩:=T.obj _ _ st5 b hb
    exact (I6'.pin (b,o) (List.mem_append_right _ (List.mem_append_right _ (bK hb e)))).2.1
   | true =>
    refine thn (he _ _ s6' σ6 H6' _ I6' q6') fun yv s7 ⟨y,H7,I7,r7,ys,hD7,hz7,m',hm,w7⟩ => ?_
    refine thn (aW (X:=a8 X N scope fp s H H2.objs.size) _ s7 σ6 H7 (.ref s.heap.objs.size) [y] (.ref s.heap.objs.size) [yv] (fun _ H8 => W (i + 1) m' σ6 H8) I7 rfl (.cons r7 .nil) ⟨_,ys,y,rfl,rfl,hD7,hz7,w7⟩) fun _ s8 ⟨_,H8,I8,_,w8⟩ => ?_
    refine ⟨m',hm,i + 1,σ6,H8,I8.unpinned,T.keep _ _ _ st5 fun b hb o e => (I8.pin (b,o) (List.mem_append_right _ (List.mem_append_right _ (bK hb e)))).1,fun b hb => ?_,w8⟩
    obtain ⟨o,e,d⟩:=T.obj _ _ st5 b hb
    exact (I8.pin (b,o) (List.mem_append_right _ (List.mem_append_right _ (bK hb e)))).2.1
 exact codeAny_compStart_list loop (T.self _ _ _ _ _ st1 loop)
def sV (ix : List (Option Nat)) (wi : TI) (g : TG) (tc : TT) (te : TE) : TE:=fun σ H Q => wi σ H fun J H1 => kP J ix g tc te σ H1 fun D H' => Q (.ref D) H'
theorem sx (hc : X.calm = true) (S : BlkScope X.N X.env.scope N ix scope) (hi : PI X tg iter wi) (hg : ∀ fp s H C,PG (a8 X N scope fp s H C) tg g) (ht : ∀ fp s H C,PT (a8 X N scope fp s H C) cond tc) (he : ∀ fp s H C,PE (a8 X N scope fp s H C) elt te)
  (hs : ∀ x,foldedSetIterable iter X.env x = pure x:=by intro _; rfl) : PE X (.ListComp elt [⟨tg,iter,[cond],0⟩] scope pos) (sV ix wi g tc te):=by
 intro pins s σ H Q I h
 rw [eval_ListComp]
 refine wpAny_comprehension_free (use:=none) rfl hs (dt (S.clos I.ok)) S.kind S.locs (thn (hi pins s σ H _ I h) fun v s1 h1 => thn h1 fun itv s2 h2 => ?_)
 obtain ⟨it,fp,tn,J,H2,e,I2,T,st2,f2,hW⟩:=h2
 subst e
 refine kz (RR:=fun acc C => compPost (model X.prog X.w) X.A X.xe none (EP X pins σ Q) acc C) I2 hc S T st2 f2 (hg _ _ _) (ht _ _ _) (he _ _ _) hW ?_
 intro D C s' H' m I' hn fC q
 exact ⟨m,hn,fun h' sb => ⟨.ref D,H',I'.turned (t' := s'.toks) (fun b o hb e => (sb.2 b hb).trans e) fC.1 fC.2.1 fC.2.2.2.1 fC.2.2.2.2.1 fC.2.2.2.2.2,rfl,q⟩⟩
end
theorem jm {K : PySem.W.Frag} {a : Addr} {xs : List V} {ix : List (Option Nat)} {tc : TT} {te : TE} {σ : St} {H : Hp} {Qd : Addr -> Hp -> Prop} (Pv : Addr -> Nat -> List V -> Hp -> Prop)
  (h0 : ∀ D,H D = none -> Pv D 0 [] (upd H D (.lst [])))
  (hl : ∀ D i ys H',i <= xs.length -> Pv D i ys H' -> SqL K H' a xs)
  (hs : ∀ D i x ys H' (Qy : VK) (Qn : Hp -> Prop),H D = none -> xs[i]? = some x -> H' D = some (.lst ys) -> Pv D i ys H' -> (∀ y H4,H4 D = some (.lst ys) -> ys.length < sizeLine -> Pv D (i + 1) (ys ++ [y]) (upd H4 D (.lst (ys ++ [y]))) -> Qy y H4) ->
   (∀ H4,H4 D = some (.lst ys) -> Pv D (i + 1) ys H4 -> Qn H4) -> tc ((aJ ix σ).set 0 (some x)) H' fun b H4 => if b = true then te ((aJ ix σ).set 0 (some x)) H4 Qy else Qn H4)
  (hd : ∀ D ys H',H D = none -> H' D = some (.lst ys) -> Pv D xs.length ys H' -> Qd D H') : kP (Itl K a) ix (aG 0) tc te σ H Qd:=by
 intro D hD
 refine ⟨fun i m σ' H' => m = xs.length - i /\ i <= xs.length /\ (σ' = aJ ix σ \/ ∃ t,σ' = (aJ ix σ).set 0 t) /\ ∃ ys,H' D = some (.lst ys) /\ Pv D i ys H',⟨xs.length,by simp,Nat.zero_le _,.inl rfl,[],af,h0 D hD⟩,?_⟩
 rintro i m σ' H' ⟨rfl,hi,hσ,ys,hy,p⟩
 have q:=hl D i ys H' hi p
 by_cases hlt : i < xs.length
 ·refine .inr ⟨⟨xs,xs[i],q,by simp [hlt]⟩,fun x H2 y => ?_⟩
  obtain ⟨e1,e2⟩:=y
  subst e1
  have ex:=e2 xs q
  have es : σ'.set 0 (some x) = (aJ ix σ).set 0 (some x):=by
   rcases hσ with z | ⟨t,z⟩
   ·rw [z]
   ·rw [z,List.set_set]
  show tc (σ'.set 0 (some x)) _ _
  rw [es]
  exact hs D i x ys _ _ _ hD ex hy p (fun y H4 h4 hz p4 => ⟨ys,h4,hz,xs.length - (i + 1),by omega,rfl,hlt,.inr ⟨_,rfl⟩,ys ++ [y],af,p4⟩) fun H4 h4 p4 => ⟨xs.length - (i + 1),by omega,rfl,hlt,.inr ⟨_,rfl⟩,ys,h4,p4⟩
 ·have e : i = xs.length:=by omega
  subst e
  exact .inl ⟨⟨xs,q,Nat.le_refl _⟩,hd D ys H' hD hy p⟩
theorem qL {K : PySem.W.Frag} {a : Addr} {xs : List V} {ix : List (Option Nat)} {tc : TT} {te : TE} {σ : St} {H : Hp} {Qd : Addr -> Hp -> Prop} (Pv : Addr -> Nat -> List V -> Hp -> Prop)
  (h0 : ∀ D,H D = none -> Pv D 0 [] (upd H D (.lst [])))
  (hl : ∀ D i ys H',i <= xs.length -> Pv D i ys H' -> SqT K H' a xs)
  (hs : ∀ D i x ys H' (Qy : VK) (Qn : Hp -> Prop),H D = none -> xs[i]? = some x -> H' D = some (.lst ys) -> Pv D i ys H' -> (∀ y H4,H4 D = some (.lst ys) -> ys.length < sizeLine -> Pv D (i + 1) (ys ++ [y]) (upd H4 D (.lst (ys ++ [y]))) -> Qy y H4) ->
   (∀ H4,H4 D = some (.lst ys) -> Pv D (i + 1) ys H4 -> Qn H4) -> tc ((aJ ix σ).set 0 (some x)) H' fun b H4 => if b = true then te ((aJ ix σ).set 0 (some x)) H4 Qy else Qn H4)
  (hd : ∀ D ys H',H D = none -> H' D = some (.lst ys) -> Pv D xs.length ys H' -> Qd D H') : kP (Itt K a) ix (aG 0) tc te σ H Qd:=by
 intro D hD
 refine ⟨fun i m σ' H' => m = xs.length - i /\ i <= xs.length /\ (σ' = aJ ix σ \/ ∃ t,σ' = (aJ ix σ).set 0 t) /\ ∃ ys,H' D = some (.lst ys) /\ Pv D i ys H',⟨xs.length,by simp,Nat.zero_le _,.inl rfl,[],af,h0 D hD⟩,?_⟩
 rintro i m σ' H' ⟨rfl,hi,hσ,ys,hy,p⟩
 have q:=hl D i ys H' hi p
 by_cases hlt : i < xs.length
 ·refine .inr ⟨⟨xs,xs[i],q,by simp [hlt]⟩,fun x H2 y => ?_⟩
  obtain ⟨e1,e2⟩:=y
  subst e1
  have ex:=e2 xs q
  have es : σ'.set 0 (some x) = (aJ ix σ).set 0 (some x):=by
   rcases hσ with z | ⟨t,z⟩
   ·rw [z]
   ·rw [z,List.set_set]
  show tc (σ'.set 0 (some x)) _ _
  rw [es]
  exact hs D i x ys _ _ _ hD ex hy p (fun y H4 h4 hz p4 => ⟨ys,h4,hz,xs.length - (i + 1),by omega,rfl,hlt,.inr ⟨_,rfl⟩,ys ++ [y],af,p4⟩) fun H4 h4 p4 => ⟨xs.length - (i + 1),by omega,rfl,hlt,.inr ⟨_,rfl⟩,ys,h4,p4⟩
 ·have e : i = xs.length:=by omega
  subst e
  exact .inl ⟨⟨xs,q,Nat.le_refl _⟩,hd D ys H' hD hy p⟩
end L2
set_option Elab.async false
set_option linter.all false
set_option maxRecDepth 100000
set_option maxHeartbeats 4000000
namespace L2
open PySem PySem.Spec PyProof.Rows
open AutoSeq1 (wpAny_loadPart')
section
variable {prog : Program} {w : World} {A : Around} {E : Value -> Shared -> Prop} {s : Shared}
theorem gE {it t : Addr} {i : Nat} {items : Array Value} {x : Value} {Q : Value -> Shared -> Prop} (hit : s.heap.IsTupleIter it t i) (ht : s.heap.IsTuple t items) (hx : items[i]? = some x)
  (hQ : ∀ h',h'.IsTupleIter it t (i + 1) -> Heap.SameBut it s.heap h' -> Q x { s with heap:=h' }) : wpAny (model prog w) A (Builtin.SmallTypes.nextOf (.ref it)) Q E s:=by
 obtain ⟨o,ho,hc,hd⟩:=id hit
 obtain ⟨ol,hol,_,nl,hdl⟩:=ht
 unfold Builtin.SmallTypes.nextOf
 refine wpAny_bind (wpAny_callSpecial?_slot (name:=Str.ofString "__next__") hit.typeIs F.slot_tuple_iterator_next
  (wpAny_call_entry F.slot_tuple_iterator_next hit.typeIs F.entry_tuple_iterator_next ?_ (F.args_tuple_iterator_next_1 _)))
 show wpAny _ _ (field (.ref it) 0 >>= _) _ _ s
 refine wpAny_bind (wpAny_field ho hd (x:=.ref t) rfl ?_)
 show wpAny _ _ (if (Value.ref t == Value.none) = true then _ else _) _ _ s
 rw [if_neg (show ¬ ((Value.ref t == Value.none) = true) from Bool.false_ne_true)]
 show wpAny _ _ (field (.ref it) 1 >>= _) _ _ s
 refine wpAny_bind (wpAny_field ho hd (x:=.int i 0) rfl ?_)
 show wpAny _ _ (seqItems? (.ref t) >>= _) _ _ s
 refine wpAny_bind (wpAny_seqItems hol hdl ?_)
 simp only [Int.toNat_natCast,hx]
 refine wpAny_bind (wpAny_setField ho hd (by simp) (wpAny_pure ⟨x,rfl,wpAny_pure (hQ _ ?_ (Heap.SameBut.update ..))⟩))
 exact ⟨_,Heap.get?_update_self _ ho (Obj.isFreed_of_fields (Obj.data_mapFields hd _)),(Obj.cls_mapFields ..).trans hc,by
  rw [Obj.data_mapFields hd]; simp [rawInt]⟩
theorem ia {it t : Addr} {i : Nat} {items : Array Value} {Q : Value -> Shared -> Prop} (hh : A.handled = none) (hit : s.heap.IsTupleIter it t i) (ht : s.heap.IsTuple t items) (hx : items[i]? = none)
  (hE : ∀ h' e,Heap.ExtBut it s.heap h' -> (∃ o,h'.get? e = some o /\ o.cls = .type "StopIteration") -> E (.ref e) { s with heap:=h' }) : wpAny (model prog w) A (Builtin.SmallTypes.nextOf (.ref it)) Q E s:=by
 obtain ⟨o,ho,hc,hd⟩:=id hit
 obtain ⟨ol,hol,_,nl,hdl⟩:=ht
 unfold Builtin.SmallTypes.nextOf
 refine wpAny_bind (wpAny_callSpecial?_slot (name:=Str.ofString "__next__") hit.typeIs F.slot_tuple_iterator_next
  (wpAny_call_entry F.slot_tuple_iterator_next hit.typeIs F.entry_tuple_iterator_next ?_ (F.args_tuple_iterator_next_1 _)))
 show wpAny _ _ (field (.ref it) 0 >>= _) _ _ s
 refine wpAny_bind (wpAny_field ho hd (x:=.ref t) rfl ?_)
 show wpAny _ _ (if (Value.ref t == Value.none) = true then _ else _) _ _ s
 rw [if_neg (show ¬ ((Value.ref t == Value.none) = true) from Bool.false_ne_true)]
 show wpAny _ _ (field (.ref it) 1 >>= _) _ _ s
 refine wpAny_bind (wpAny_field ho hd (x:=.int i 0) rfl ?_)
 show wpAny _ _ (seqItems? (.ref t) >>= _) _ _ s
 refine wpAny_bind (wpAny_seqItems hol hdl ?_)
 simp only [Int.toNat_natCast,hx]
 refine wpAny_bind (wpAny_rule (wpAny_bind (wpAny_setField ho hd (by simp) ?_)))
 show wpAny _ _ (newExc (.type "StopIteration") [] >>= _) _ _ _
 refine wpAny_bind ?_
 simp only [newExc,newTuple]
 refine wpAny_bind (wpAny_newObj_type ?_ (by size_fits))
 refine wpAny_bind (m:=firstArgMember _ _) (wpAny_of_eq (a:=Value.none) (by first | rfl | (simp only [firstArgMember]; rfl)) ?_)
 refine wpAny_newObj_type ?_ (by size_fits)
 simp only [raiseNew]
 refine wpAny_bind (wpAny_handled ?_)
 first | rw [show A.in1.handled = none from hh] | rw [hh]
 refine wpAny_bind (wpAny_pure (wpAny_throw ?_))
 exact hE _ _ (((Heap.SameBut.update ..).extBut.push _).push _) ⟨_,Heap.get?_push_size _ rfl,rfl⟩
end
theorem jo {prog : Program} {w : World} {A : Around} (hh : A.handled = none) (it t : Addr) (hne : t ≠ it) (items : Array Value) :
  Draws prog w A it [it,t] items.size (fun i v => items[i]? = some v) (fun i h => h.IsTupleIter it t i /\ h.IsTuple t items) where
 live:=fun _ _ st => let ⟨o,ho,_⟩:=st.1; ⟨o,ho⟩
 frame:=fun _ _ _ st hk => ⟨st.1.at fun o e => hk it (by simp) o e,st.2.at fun o e => hk t (by simp) o e⟩
 item:=fun i s Q E hi st hQ => by
  refine gE st.1 st.2 (x:=items[i]) (by simp [hi]) fun h' hit' hs' => ?_
  exact hQ _ h' s.toks (by simp [hi]) ⟨hit',st.2.at fun o e => (hs'.2 t hne).trans e⟩ hs'
 done:=fun s Q E st hE => ia hh st.1 st.2 (by simp) hE
end L2
set_option Elab.async false
set_option linter.all false
set_option maxRecDepth 100000
set_option maxHeartbeats 4000000
namespace L2
open PySem PySem.Spec PyProof.Rows
section
variable {X : Cx} {pins : List (Addr × Obj)} {σ : St} {H : Hp} {s : Shared} {h' : Heap}
end
section
variable {X : Cx}
end
end L2
set_option Elab.async false
set_option linter.all false
set_option maxRecDepth 100000
set_option maxHeartbeats 4000000
namespace L2
open PySem PySem.Spec PyProof.Rows
section
variable {X : Cx} {a : Expr} {ta : TA} {p p2 pos pos2 : Pos}
end
structure DefMk (P : Program) (w : World) (K : PySem.W.Frag) (mg : Str -> Option Value) (base : Heap) (x : Str) (C : Addr) (k : Nat) (ps : List Str) (sp : Sp) : Prop where
 m : mg x = some (.ref C)
 cl : Cls K C
 ex : ∃ (f : Addr) (fd : FuncData),Mk K C f /\ Binds K fd ps [] /\ FnOk P w K mg base CX0 k f fd ps sp
structure DefMe (P : Program) (w : World) (K : PySem.W.Frag) (mg : Str -> Option Value) (base : Heap) (C : Addr) (m : Str) (k : Nat) (ps : List Str) (sp : Sp) : Prop where
 cl : Cls K C
 ex : ∃ (f : Addr) (fd : FuncData),Meth K C m f /\ Binds K fd ps [] /\ FnOk P w K mg base CX0 k f fd ps sp
end L2
set_option Elab.async false
set_option linter.all false
set_option maxRecDepth 100000
set_option maxHeartbeats 4000000
namespace L2
open PySem PySem.Spec PyProof.Rows
section
variable {prog : Program} {w : World} {A : Around} {E : Value -> Shared -> Prop} {s : Shared}
structure ZipFar (z TI TO i1 i2 : Addr) (fp1 fp2 : List Addr) : Prop where
 TIz : TI ≠ z
 TOz : TO ≠ z
 TITO : TI ≠ TO
 i1z : i1 ≠ z
 i2z : i2 ≠ z
 TIi1 : TI ≠ i1
 TIi2 : TI ≠ i2
 TOi1 : TO ≠ i1
 TOi2 : TO ≠ i2
 i12 : i1 ≠ i2
 z1 : z ∉ fp1
 TO1 : TO ∉ fp1
 i21 : i2 ∉ fp1
 z2 : z ∉ fp2
 TO2 : TO ∉ fp2
 i12' : i1 ∉ fp2
variable {z TI TO i1 i2 : Addr} {fp1 fp2 : List Addr} {n1 n2 k : Nat} {P1 P2 : Nat -> Value -> Prop} {St1 St2 : Nat -> Heap -> Prop} {a b : Value}
theorem ro {Q : Value -> Shared -> Prop} (D1 : Draws prog w A.in1 i1 fp1 n1 P1 St1) (D2 : Draws prog w A.in1 i2 fp2 n2 P2 St2) (F : ZipFar z TI TO i1 i2 fp1 fp2)
  (hz : IsZip s.heap z TI TO .none) (hTI : IsPair s.heap TI (.ref i1) (.ref i2)) (hTO : IsPair s.heap TO a b) (s1 : St1 k s.heap) (s2 : St2 k s.heap) (l1 : k < n1) (l2 : k < n2)
  (hQ : ∀ x y h' tk,P1 k x -> P2 k y -> IsZip h' z TI TO (rawInt s.heap.objs.size) -> IsPair h' TO x y -> St1 (k + 1) h' -> St2 (k + 1) h' -> IsPair h' s.heap.objs.size x y ->
   (∀ c o,c ≠ z -> c ≠ TO -> c ≠ i1 -> c ≠ i2 -> s.heap.get? c = some o -> h'.get? c = some o) -> Q (.ref s.heap.objs.size) { s with heap:=h',toks:=tk }) :
  wpAny (model prog w) A.in1 (Builtin.«zip.__next__» ⟨[.ref z],[]⟩) (fun fin s' => ∃ v,fin = .done (.ret v) /\ Q v s') E s:=by
 obtain ⟨hp,g,d,tk0,os⟩:=s
 show wpAny _ _ (field (.ref z) 2 >>= _) _ _ _
 refine wpAny_bind (wpAny_field hz rfl (x:=.bool false) rfl ?_)
 show wpAny _ _ (field (.ref z) 3 >>= _) _ _ _
 refine wpAny_bind (wpAny_field hz rfl (x:=.ref TI) rfl ?_)
 refine wpAny_bind (wpAny_seqItems hTI rfl ?_)
 show wpAny _ _ (Builtin.SmallTypes.ownedTupleIsFree (.ref z) >>= _) _ _ _
 refine wpAny_bind ?_
 unfold Builtin.SmallTypes.ownedTupleIsFree
 refine wpAny_bind (wpAny_field hz rfl (x:=.none) rfl (wpAny_pure ?_))
 simp only [if_true]
 refine wpAny_bind (wpAny_rule ?_)
 refine wpAny_bind (wpAny_field hz rfl (x:=.ref TO) rfl ?_)
 refine wpAny_bind (wpAny_setField_rec hz (by simp) fun h₁ hz₁ hs₁ => ?_)
 replace hz₁ : IsZip h₁ z TI TO .ellipsis:=hz₁
 replace hs₁ : Heap.SameBut z hp h₁:=hs₁
 refine wpAny_bind ?_
 simp only [List.zipIdx_cons,List.zipIdx_nil,List.forIn_cons,List.forIn_nil]
 refine wpAny_bind (wpAny_bind (wpAny_onRaise ?_))
 show wpAny _ _ (Builtin.SmallTypes.nextOf (.ref i1) >>= _) _ _ _
 have q1 : St1 k h₁:=D1.frame _ _ _ s1 fun c hc o e => hs₁.extBut c o (fun x => F.z1 (x ▸ hc)) e
 refine wpAny_bind (D1.item k _ _ _ l1 q1 fun x h₂ tk1 hx q2 hs₂ => wpAny_pure ?_)
 replace hs₂ : Heap.SameBut i1 h₁ h₂:=hs₂
 have hTO₂ : IsPair h₂ TO a b:=hs₂.extBut _ _ F.TOi1 (hs₁.extBut _ _ F.TOz hTO)
 refine wpAny_bind (wpAny_seqItems (s:=⟨h₂,g,d,tk1,os⟩) hTO₂ rfl ?_)
 refine wpAny_bind (wpAny_updateSeq_pair (s:=⟨h₂,g,d,tk1,os⟩) hTO₂ fun h₃ hTO₃ hs₃ => ?_)
 replace hTO₃ : IsPair h₃ TO x b:=hTO₃
 replace hs₃ : Heap.SameBut TO h₂ h₃:=hs₃
 refine wpAny_bind (wpAny_letGo (wpAny_pure ?_))
 refine wpAny_bind (wpAny_bind (wpAny_onRaise ?_))
 show wpAny _ _ (Builtin.SmallTypes.nextOf (.ref i2) >>= _) _ _ _
 have r3 : St2 k h₃:=D2.frame _ _ _ s2 fun c hc o e => hs₃.extBut c o (fun x => F.TO2 (x ▸ hc)) (hs₂.extBut c o (fun x => F.i12' (x ▸ hc)) (hs₁.extBut c o (fun x => F.z2 (x ▸ hc)) e))
 refine wpAny_bind (D2.item k _ _ _ l2 r3 fun y h₄ tk2 hy r4 hs₄ => wpAny_pure ?_)
 replace hs₄ : Heap.SameBut i2 h₃ h₄:=hs₄
 have hTO₄ : IsPair h₄ TO x b:=hs₄.extBut _ _ F.TOi2 hTO₃
 refine wpAny_bind (wpAny_seqItems (s:=⟨h₄,g,d,tk2,os⟩) hTO₄ rfl ?_)
 refine wpAny_bind (wpAny_updateSeq_pair (s:=⟨h₄,g,d,tk2,os⟩) hTO₄ fun h₅ hTO₅ hs₅ => ?_)
 replace hTO₅ : IsPair h₅ TO x y:=hTO₅
 replace hs₅ : Heap.SameBut TO h₄ h₅:=hs₅
 refine wpAny_bind (wpAny_letGo (wpAny_pure (wpAny_pure ?_)))
 refine wpAny_bind (wpAny_seqItems (s:=⟨h₅,g,d,tk2,os⟩) hTO₅ rfl ?_)
 refine wpAny_bind (wpAny_newTuple ?_)
 have hsz : h₅.objs.size = hp.objs.size:=by rw [hs₅.1,hs₄.1,hs₃.1,hs₂.1,hs₁.1]
 have hz₅ : IsZip h₅ z TI TO .ellipsis:=hs₅.extBut _ _ F.TOz.symm (hs₄.extBut _ _ F.i2z.symm (hs₃.extBut _ _ F.TOz.symm (hs₂.extBut _ _ F.i1z.symm hz₁)))
 have hk₅ : ∀ c o,c ≠ z -> c ≠ TO -> c ≠ i1 -> c ≠ i2 -> hp.get? c = some o -> h₅.get? c = some o:=fun c o c1 c2 c3 c4 e =>
  hs₅.extBut _ _ c2 (hs₄.extBut _ _ c4 (hs₃.extBut _ _ c2 (hs₂.extBut _ _ c3 (hs₁.extBut _ _ c1 e))))
 have q5 : St1 (k + 1) h₅:=D1.frame _ _ _ q2 fun c hc o e => hs₅.extBut c o (fun x => F.TO1 (x ▸ hc)) (hs₄.extBut c o (fun x => F.i21 (x ▸ hc)) (hs₃.extBut c o (fun x => F.TO1 (x ▸ hc)) e))
 have r5 : St2 (k + 1) h₅:=D2.frame _ _ _ r4 fun c hc o e => hs₅.extBut c o (fun x => F.TO2 (x ▸ hc)) e
 have hzlt : z < h₅.objs.size:=Heap.lt_size hz₅
 show wpAny _ _ (Builtin.SmallTypes.ownedTupleHandOut (.ref z) (.ref h₅.objs.size) >>= _) _ _ _
 refine wpAny_bind ?_
 unfold Builtin.SmallTypes.ownedTupleHandOut
 have hz₆ : IsZip (h₅.push { cls:=.type "tuple",data:=.seq #[x,y] }) z TI TO .ellipsis:=Heap.get?_push_of_some _ hz₅
 refine wpAny_bind (wpAny_setField_rec (s:=⟨h₅.push { cls:=.type "tuple",data:=.seq #[x,y] },g,d,tk2,os⟩) hz₆ (by simp) fun h₇ hz₇ hs₇ => ?_)
 replace hz₇ : IsZip h₇ z TI TO (rawInt h₅.objs.size):=hz₇
 replace hs₇ : Heap.SameBut z (h₅.push { cls:=.type "tuple",data:=.seq #[x,y] }) h₇:=hs₇
 refine wpAny_setField_rec (s:=⟨h₇,g,d,tk2,os⟩) hz₇ (by simp) fun h₈ hz₈ hs₈ => ?_
 replace hz₈ : IsZip h₈ z TI TO (rawInt h₅.objs.size):=hz₈
 replace hs₈ : Heap.SameBut z h₇ h₈:=hs₈
 have up : ∀ c o,c ≠ z -> h₅.get? c = some o -> h₈.get? c = some o:=fun c o c1 e => hs₈.extBut _ _ c1 (hs₇.extBut _ _ c1 (Heap.get?_push_of_some _ e))
 have hT₈ : IsPair h₈ h₅.objs.size x y:=hs₈.extBut _ _ (Nat.ne_of_gt hzlt) (hs₇.extBut _ _ (Nat.ne_of_gt hzlt) (Heap.get?_push_size _ rfl))
 rw [hsz] at hz₈ hT₈
 refine wpAny_pure ⟨_,rfl,?_⟩
 show Q (.ref h₅.objs.size) _
 rw [hsz]
 exact hQ x y h₈ tk2 hx hy hz₈ (up _ _ F.TOz hTO₅) (D1.frame _ _ _ q5 fun c hc o e => up c o (fun x => F.z1 (x ▸ hc)) e) (D2.frame _ _ _ r5 fun c hc o e => up c o (fun x => F.z2 (x ▸ hc)) e) hT₈ fun c o c1 c2 c3 c4 e => up c o c1 (hk₅ c o c1 c2 c3 c4 e)
theorem tH {Q : PySem.Fin -> Shared -> Prop} (D1 : Draws prog w A.in1 i1 fp1 n1 P1 St1) (F : ZipFar z TI TO i1 i2 fp1 fp2)
  (hz : IsZip s.heap z TI TO .none) (hTI : IsPair s.heap TI (.ref i1) (.ref i2)) (s1 : St1 n1 s.heap)
  (hE : ∀ h' e,(∀ c o,c ≠ z -> c ≠ TO -> c ≠ i1 -> c ≠ i2 -> s.heap.get? c = some o -> h'.get? c = some o) -> (∃ o,h'.get? e = some o /\ o.cls = .type "StopIteration") -> E (.ref e) { s with heap:=h' }) :
  wpAny (model prog w) A.in1 (Builtin.«zip.__next__» ⟨[.ref z],[]⟩) Q E s:=by
 obtain ⟨hp,g,d,tk0,os⟩:=s
 show wpAny _ _ (field (.ref z) 2 >>= _) _ _ _
 refine wpAny_bind (wpAny_field hz rfl (x:=.bool false) rfl ?_)
 show wpAny _ _ (field (.ref z) 3 >>= _) _ _ _
 refine wpAny_bind (wpAny_field hz rfl (x:=.ref TI) rfl ?_)
 refine wpAny_bind (wpAny_seqItems hTI rfl ?_)
 show wpAny _ _ (Builtin.SmallTypes.ownedTupleIsFree (.ref z) >>= _) _ _ _
 refine wpAny_bind ?_
 unfold Builtin.SmallTypes.ownedTupleIsFree
 refine wpAny_bind (wpAny_field hz rfl (x:=.none) rfl (wpAny_pure ?_))
 simp only [if_true]
 refine wpAny_bind (wpAny_rule ?_)
 refine wpAny_bind (wpAny_field hz rfl (x:=.ref TO) rfl ?_)
 refine wpAny_bind (wpAny_setField_rec hz (by simp) fun h₁ hz₁ hs₁ => ?_)
 replace hz₁ : IsZip h₁ z TI TO .ellipsis:=hz₁
 replace hs₁ : Heap.SameBut z hp h₁:=hs₁
 refine wpAny_bind ?_
 simp only [List.zipIdx_cons,List.zipIdx_nil,List.forIn_cons,List.forIn_nil]
 refine wpAny_bind (wpAny_bind (wpAny_onRaise ?_))
 show wpAny _ _ (Builtin.SmallTypes.nextOf (.ref i1) >>= _) _ _ _
 have q1 : St1 n1 h₁:=D1.frame _ _ _ s1 fun c hc o e => hs₁.extBut c o (fun x => F.z1 (x ▸ hc)) e
 refine wpAny_bind (D1.done _ _ _ q1 fun h₂ e hs₂ he => ?_)
 obtain ⟨oe,hoe,hce⟩:=he
 have hz₂ : IsZip h₂ z TI TO .ellipsis:=hs₂ _ _ F.i1z.symm hz₁
 have hez : e ≠ z:=fun x => by subst x; rw [hz₂] at hoe; cases hoe; simp at hce
 exact wpAny_setField_rec (s:=⟨h₂,g,d,tk0,os⟩) hz₂ (by simp) fun h₃ _ hs₃ => hE h₃ e (fun c o c1 _ c3 _ x => Heap.SameBut.extBut hs₃ _ _ c1 (hs₂ _ _ c3 (hs₁.extBut _ _ c1 x))) ⟨oe,Heap.SameBut.extBut hs₃ _ _ hez hoe,hce⟩
end
end L2
set_option Elab.async false
set_option linter.all false
set_option maxRecDepth 100000
set_option maxHeartbeats 4000000
namespace L2
open PySem PySem.Spec PyProof.Rows
section
variable {X : Cx} {pins : List (Addr × Obj)} {σ : St} {H : Hp} {s : Shared} {h' : Heap}
theorem Inv.turnedL {t' : Nat} {ch : List Addr} (I : Inv X pins σ H s) (k : ∀ b o,b ∉ ch -> s.heap.get? b = some o -> h'.get? b = some o) (fc : ∀ b ∈ ch,fP X pins H b) (hb' : ∀ b ∈ ch,∀ o,s.heap.get? b = some o -> True) : Inv X pins σ H { s with heap:=h',toks:=t' }:=by
 have nn : ∀ b u,H b = some u -> b ∉ ch:=fun b u q z => by
  have:=(fc b z).1
  rw [q] at this
  cases this
 refine I.step (g' := s.gens) (d' := s.drawn) (ch:=ch) (fun b hb => ?_) (fun b o _ _ hc q _ => k b o hc q) (fun b o _ _ hc q _ => ⟨o.slots,k b o hc q⟩) (fun _ _ _ _ n => n)
  (fun b o hc q => ⟨o,k b o hc q⟩) (fun _ _ q => q) (fun _ _ _ q => q) (fun b ps q => ⟨#[],by rw [q]; simp⟩) (fun m hm => ?_) (fun b u q => ?_) I.bare
 ·exact ⟨(fc b hb).2.2.2.1,(fc b hb).2.1,(fc b hb).2.2.2.2.1,(fc b hb).2.2.2.2.2⟩
 ·obtain ⟨o,es,ep,ho,r⟩:=hm
  exact ⟨o,es,ep,k _ o (fun z => (fc _ z).2.1 rfl) ho,r⟩
 ·refine (I.hok b u q).stay (fun c v hc z => k c v ?_ z) (fun _ z => z) fun _ _ z => z
  rcases hc with z | z
  ·rw [z]; exact nn b u q
  ·exact nn c _ z
end
theorem rP {z TI TO i1 i2 a b : Addr} (h1 : TI ≠ z) (h2 : TO ≠ z) (h3 : TI ≠ TO) (h4 : i1 ≠ z) (h5 : i2 ≠ z) (h6 : TI ≠ i1) (h7 : TI ≠ i2) (h8 : TO ≠ i1) (h9 : TO ≠ i2) (h10 : i1 ≠ i2) (ha : ∀ c ∈ [z,TO,i1,i2],a ≠ c) (hb : ∀ c ∈ [z,TO,i1,i2],b ≠ c) :
  ZipFar z TI TO i1 i2 [i1,a] [i2,b]:=by
 have a1:=ha z (by simp)
 have a2:=ha TO (by simp)
 have a3:=ha i2 (by simp)
 have b1:=hb z (by simp)
 have b2:=hb TO (by simp)
 have b3:=hb i1 (by simp)
 exact ⟨h1,h2,h3,h4,h5,h6,h7,h8,h9,h10,by simp [Ne.symm h4,Ne.symm a1],by simp [h8,Ne.symm a2],by simp [Ne.symm h10,Ne.symm a3],by simp [Ne.symm h5,Ne.symm b1],by simp [h9,Ne.symm b2],by simp [h10,Ne.symm b3]⟩
section
variable {X : Cx}
theorem uV : bootBuiltins "zip" = some (.type "zip"):=by decide +kernel
end
end L2
set_option Elab.async false
set_option linter.all false
set_option maxRecDepth 100000
set_option maxHeartbeats 4000000
namespace L2
open PySem PySem.Spec PyProof.Rows
inductive EqN (K : PySem.W.Frag) (H : Hp) : V -> V -> Prop where
 | non : EqN K H .non .non
 | tup {a b : Addr} {ns : List Int} (ha : SqT K H a (ns.map V.int)) (hb : SqT K H b (ns.map V.int)) : EqN K H (.ref a) (.ref b)
section
variable {X : Cx} {pins : List (Addr × Obj)} {σ : St} {H : Hp} {s : Shared}
theorem sY {ns : List Int} {us : List Value} (r : Vals (ns.map V.int) us) : ∀ (j : Nat) (u : Value),us[j]? = some u -> ∃ n t,ns[j]? = some n /\ u = Value.int n t:=by
 intro j u hu
 have hj : j < us.length:=(List.getElem?_eq_some_iff.mp hu).1
 have hl:=r.length
 rw [List.length_map] at hl
 obtain ⟨v,hv,rv⟩:=r.get (i:=j) (x:=V.int (ns[j]'(by omega))) (by rw [List.getElem?_map,List.getElem?_eq_getElem (by omega)]; rfl)
 rw [hu] at hv
 cases hv
 obtain ⟨t,rfl⟩:=(show ∃ t,u = Value.int _ t from rv)
 exact ⟨_,t,List.getElem?_eq_getElem (by omega),rfl⟩
end
end L2
set_option Elab.async false
set_option linter.all false
set_option maxRecDepth 100000
set_option maxHeartbeats 4000000
namespace L2
open PySem PySem.Spec PyProof.Rows
section
variable {X : Cx}
end
end L2
set_option Elab.async false
set_option linter.all false
set_option maxRecDepth 100000
set_option maxHeartbeats 4000000
namespace L2
open PySem PySem.Spec PyProof.Rows
end L2
set_option Elab.async false
set_option linter.all false
set_option maxRecDepth 100000
namespace L2
open PySem PySem.Spec PyProof.Rows
section
variable {X : Cx} {pins : List (Addr × Obj)} {σ : St} {H H' : Hp} {s : Shared} {h' : Heap}
end
section
variable {X : Cx}
def uB (ns : List Int) : Int:=ns.foldl (· + ·) 0
theorem gL (ns : List Int) : ∀ n,n <= ns.length -> preSum (fun i => ns.getD i 0) n = (ns.take n).foldl (· + ·) 0
 | 0,_ => rfl
 | n + 1,h => by
  have hn : n < ns.length:=h
  show preSum _ n + ns.getD n 0 = _
  rw [gL ns n (Nat.le_of_lt hn),List.take_add_one,List.getElem?_eq_getElem hn,List.foldl_append]
  simp [hn]
end
end L2
set_option Elab.async false
set_option linter.all false
set_option maxRecDepth 100000
namespace L2
open PySem PySem.Spec PyProof.Rows
section
variable {X : Cx}
end
end L2
set_option Elab.async false
set_option linter.all false
set_option maxRecDepth 100000
namespace L2
open PySem PySem.Spec PyProof.Rows
section
variable {X : Cx}
end
end L2
namespace PySem
open PyProof.Rows
namespace F
end F
section
variable {prog : Program} {w : World} {A : Around} {E : Value -> Shared -> Prop} {s : Shared}
end
end PySem
namespace L2
open PySem PySem.Spec PyProof.Rows
section
variable {X : Cx} {tg : Expr}
end
end L2
set_option Elab.async false
set_option linter.all false
set_option maxRecDepth 100000
set_option maxHeartbeats 4000000
namespace L2
open PySem PySem.Spec PyProof.Rows
section
variable {X : Cx}
end
section
variable {X : Cx}
def vK (K : PySem.W.Frag) : List V -> Hp -> VK -> Prop:=fun xs H Q => ∃ (a : Addr) (ns : List Int),xs = [.ref a] /\ SqL K H a (ns.map V.int) /\ Q (.int (uB ns)) H
theorem qH (hc : X.calm = true) : c7 X (.builtin "sum") (vK X.K):=by
 intro pins s σ H xs us Q I r h
 obtain ⟨a,ns,rfl,hS,q⟩:=h
 obtain ⟨u,rfl,ru⟩:=r.one
 cases (show u = Value.ref a from ru)
 obtain ⟨its,rv,ht',hz⟩:=I.list hS
 have ht : s.heap.IsList a its.toArray:=ht'.isList
 have hlen:=rv.length
 rw [List.length_map] at hlen
 have hlt : a < s.heap.objs.size:=by obtain ⟨_,e,_⟩:=ht; exact Heap.lt_size e
 refine call_sum_walkG (wpAny_pyIter_list ht ?_)
 have W:=Walks.list (prog:=X.prog) (w:=X.w) (A:=X.A.in1) (I.ok.hd hc) s.heap.objs.size a (Nat.ne_of_lt hlt) its.toArray
 refine ⟨_,_,_,_,_,_,fun i => ns.getD i 0,rfl,W,⟨⟨_,Heap.get?_push_size _ rfl,rfl,rfl⟩,ht.at fun o e => Heap.get?_push_of_some _ e⟩,fun b hb => ?_,fun i v hv => ?_,fun h' tk t' hk => ?_⟩
 ·rcases List.mem_cons.mp hb with z | z
  ·rw [z]; show _ < (Heap.push _ _).objs.size; rw [Heap.size_push]; exact Nat.lt_succ_self _
  ·rw [List.mem_singleton.mp z]; show _ < (Heap.push _ _).objs.size; rw [Heap.size_push]; exact Nat.lt_succ_of_lt hlt
 ·have e' : its[i]? = some v:=by simpa using hv
  obtain ⟨n,t,e1,e2⟩:=sY rv i v e'
  exact ⟨t,by rw [e2]; show Value.int n t = Value.int (ns.getD i 0) t; rw [List.getD_eq_getElem?_getD,e1]; rfl⟩
 ·have I1 : Inv X pins σ H { s with heap:=h',toks:=tk }:=I.kept (t' := tk) fun b o e => hk b o (fun hm => by
   rw [List.mem_singleton.mp hm] at e
   exact Nat.lt_irrefl _ (Heap.lt_size e)) (Heap.get?_push_of_some _ e)
  refine ⟨.int (uB ns),H,I1,⟨t',?_⟩,q⟩
  show Value.int _ _ = Value.int _ _
  rw [List.size_toArray,<- hlen,gL ns _ (Nat.le_refl _),List.take_length]
  rfl
end
end L2
set_option Elab.async false
set_option linter.all false
set_option maxRecDepth 100000
set_option maxHeartbeats 4000000
namespace L2
open PySem PySem.Spec PyProof.Rows
section
variable {prog : Program} {w : World} {A : Around} {E : Value -> Shared -> Prop} {s : Shared}
structure ZipFar3 (z TI TO i1 i2 i3 : Addr) (fp1 fp2 fp3 : List Addr) : Prop where
 TIz : TI ≠ z
 TOz : TO ≠ z
 TITO : TI ≠ TO
 i1z : i1 ≠ z
 i2z : i2 ≠ z
 i3z : i3 ≠ z
 TIi1 : TI ≠ i1
 TIi2 : TI ≠ i2
 TIi3 : TI ≠ i3
 TOi1 : TO ≠ i1
 TOi2 : TO ≠ i2
 TOi3 : TO ≠ i3
 z1 : z ∉ fp1
 TO1 : TO ∉ fp1
 i21 : i2 ∉ fp1
 i31 : i3 ∉ fp1
 z2 : z ∉ fp2
 TO2 : TO ∉ fp2
 i12 : i1 ∉ fp2
 i32 : i3 ∉ fp2
 z3 : z ∉ fp3
 TO3 : TO ∉ fp3
 i13 : i1 ∉ fp3
 i23 : i2 ∉ fp3
variable {z TI TO i1 i2 i3 : Addr} {fp1 fp2 fp3 : List Addr} {n1 n2 n3 k : Nat} {P1 P2 P3 : Nat -> Value -> Prop} {St1 St2 St3 : Nat -> Heap -> Prop} {a b c : Value}
end
section
variable {X : Cx}
end
section
variable {X : Cx}
end
theorem ck {t u : TS} {D : Ends} {σ : St} {H : Hp} (R : St -> Hp -> Prop) (h1 : ∀ σ' H',R σ' H' -> u D σ' H') (h2 : ∀ D' : Ends,(∀ σ' H',R σ' H' -> D'.nx σ' H') -> t D' σ H) : uF t u D σ H:=
 h2 { D with nx:=u D } h1
end L2
set_option Elab.async false
set_option linter.all false
set_option maxRecDepth 100000
set_option maxHeartbeats 4000000
namespace L2
open PySem PySem.Spec PyProof.Rows
structure BlkScope1 (NX : List Str) (scX : Scope) (N : List Str) (ix : List (Option Nat)) (sc : Scope) (x : Str) : Prop where
 kind : sc.kind = .function
 nd : N.Nodup
 cell : sc.names.lookup x = some .cell
 only : ∀ y ∈ sc.names,y.2 = .cell -> y.1 = x
 lay : ∀ n cl,cellsFrom n sc.names cl = (x,n) :: cl
 lays : ∀ h,pushCells h sc.names = h.push { cls:=.type "cell",data:=.cell none }
 locs : ∀ y ∈ sc.names,y.2 = .local -> sc.names.lookup y.1 = some .local
 free : ∀ y ∈ sc.names,y.2 = .free -> scX.names.lookup y.1 = some .cell \/ scX.names.lookup y.1 = some .free
 nofree : ∀ y ∈ sc.names,y.2 = .free -> y.1 ≠ x
 len : ix.length = N.length
 at_ : ∀ p ∈ N.zip ix,∀ i,p.2 = some i -> NX[i]? = some p.1 /\ sc.names.lookup p.1 = some .free
section
variable {X : Cx} {pins : List (Addr × Obj)} {σ : St} {H : Hp} {s : Shared} {N : List Str} {ix : List (Option Nat)} {scope : Scope} {fp : List Addr} {x : Str}
variable {tg elt iter : Expr} {pos spos : Pos} {J : It} {it : Addr} {tn : Nat -> Heap -> Prop} {g : TG} {te : TE} {wi : TI}
end
end L2
set_option Elab.async false
set_option linter.all false
set_option maxRecDepth 100000
namespace L2
open PySem PySem.Spec PyProof.Rows
abbrev Rise (xs : Array Nat) : Prop:=xs.toList.Pairwise (· < ·)
theorem Rise.lt {xs : Array Nat} (r : Rise xs) {i j : Nat} (hi : i < j) (hj : j < xs.size) : xs[i] < xs[j]:=by
 have:=List.pairwise_iff_getElem.mp r i j (by simpa using Nat.lt_trans hi hj) (by simpa using hj) hi
 simpa using this
theorem jg {xs : Array Nat} {j : Nat} (r : Rise xs) : ∀ (fuel lo hi : Nat),hi - lo <= fuel -> lo <= hi -> hi <= xs.size -> (∀ i (h : i < xs.size),i < lo -> xs[i] < j) -> (∀ i (h : i < xs.size),hi <= i -> j <= xs[i]) ->
  (SetTable.below.go xs j fuel lo hi <= xs.size /\ (∀ i (h : i < xs.size),i < SetTable.below.go xs j fuel lo hi -> xs[i] < j) /\ ∀ i (h : i < xs.size),SetTable.below.go xs j fuel lo hi <= i -> j <= xs[i])
 | 0,lo,hi,hf,hl,hs,h1,h2 => by
  have e : lo = hi:=by omega
  subst e
  exact ⟨hs,h1,h2⟩
 | fuel + 1,lo,hi,hf,hl,hs,h1,h2 => by
  unfold SetTable.below.go
  by_cases c : lo < hi
  ·rw [if_pos c]
   dsimp only
   have hm : (lo + hi) / 2 < xs.size:=by omega
   have eg : xs.getD ((lo + hi) / 2) j = xs[(lo + hi) / 2]:=by simp [Array.getD,hm]
   by_cases d : xs.getD ((lo + hi) / 2) j < j
   ·rw [if_pos d]
    refine jg r fuel _ _ (by omega) (by omega) hs (fun i h hi' => ?_) h2
    rcases Nat.lt_or_ge i ((lo + hi) / 2) with z | z
    ·exact Nat.lt_trans (r.lt z hm) (by rw [eg] at d; exact d)
    ·have e : i = (lo + hi) / 2:=by omega
     subst e
     rw [eg] at d
     exact d
   ·rw [if_neg d]
    refine jg r fuel _ _ (by omega) (by omega) (by omega) h1 (fun i h hi' => ?_)
    rw [eg] at d
    rcases Nat.lt_or_ge ((lo + hi) / 2) i with z | z
    ·exact Nat.le_trans (Nat.le_of_not_lt d) (Nat.le_of_lt (r.lt z h))
    ·have e : i = (lo + hi) / 2:=by omega
     subst e
     exact Nat.le_of_not_lt d
  ·rw [if_neg c]
   have e : lo = hi:=by omega
   subst e
   exact ⟨hs,h1,h2⟩
theorem jh {xs : Array Nat} (r : Rise xs) (j : Nat) : SetTable.below xs j <= xs.size /\ (∀ i (h : i < xs.size),i < SetTable.below xs j -> xs[i] < j) /\ ∀ i (h : i < xs.size),SetTable.below xs j <= i -> j <= xs[i]:=
 jg r xs.size 0 xs.size (by omega) (Nat.zero_le _) (Nat.le_refl _) (fun i h z => by omega) (fun i h z => by omega)
theorem oA {xs : Array Nat} (r : Rise xs) : SetTable.below xs 0 = 0:=by
 obtain ⟨h0,h1,_⟩:=jh r 0
 rcases Nat.eq_zero_or_pos (SetTable.below xs 0) with z | z
 ·exact z
 ·exact absurd (h1 0 (Nat.lt_of_lt_of_le z h0) z) (Nat.not_lt_zero _)
theorem oz {xs : Array Nat} (r : Rise xs) {i : Nat} (hi : i < xs.size) : SetTable.below xs (xs[i] + 1) = i + 1:=by
 obtain ⟨h0,h1,h2⟩:=jh r (xs[i] + 1)
 rcases Nat.lt_trichotomy (SetTable.below xs (xs[i] + 1)) (i + 1) with z | z | z
 ·have:=h2 i hi (by omega)
  omega
 ·exact z
 ·have hi2 : i + 1 < xs.size:=by omega
  have a1:=h1 (i + 1) hi2 z
  have a2 : xs[i] < xs[i + 1]:=r.lt (Nat.lt_succ_self i) hi2
  omega
theorem toList_insertAt {α : Type} (xs : Array α) (p : Nat) (x : α) : (SetTable.insertAt xs p x).toList = xs.toList.take p ++ x :: xs.toList.drop p:=by
 unfold SetTable.insertAt
 simp
 rw [List.take_of_length_le (by simp)]
theorem Rise.put {xs : Array Nat} (r : Rise xs) {j : Nat} (hj : xs[SetTable.below xs j]? ≠ some j) : Rise (SetTable.insertAt xs (SetTable.below xs j) j):=by
 obtain ⟨h0,h1,h2⟩:=jh r j
 unfold Rise
 rw [toList_insertAt,List.pairwise_append]
 have tk : ∀ a ∈ xs.toList.take (SetTable.below xs j),a < j:=fun a ha => by
  obtain ⟨i,hi,rfl⟩:=List.mem_take_iff_getElem.mp ha
  have : i < SetTable.below xs j /\ i < xs.size:=by simp at hi; omega
  simpa using h1 i this.2 this.1
 have dr : ∀ b ∈ xs.toList.drop (SetTable.below xs j),j < b:=fun b hb => by
  obtain ⟨i,hi,rfl⟩:=List.mem_drop_iff_getElem.mp hb
  have hs : i + SetTable.below xs j < xs.size:=by simpa using hi
  have hle:=h2 (i + SetTable.below xs j) hs (by omega)
  have hb0 : SetTable.below xs j < xs.size:=by omega
  have hne : xs[SetTable.below xs j] ≠ j:=fun z => hj (by rw [Array.getElem?_eq_getElem hb0,z])
  have h3:=h2 (SetTable.below xs j) hb0 (Nat.le_refl _)
  have : j < xs[i + SetTable.below xs j]:=by
   rcases Nat.eq_zero_or_pos i with z | z
   ·subst z
    simp only [Nat.zero_add]
    omega
   ·have:=r.lt (i:=SetTable.below xs j) (j:=i + SetTable.below xs j) (by omega) hs
    omega
  simpa [Nat.add_comm] using this
 refine ⟨List.Pairwise.sublist (List.take_sublist _ _) r,List.pairwise_cons.mpr ⟨dr,List.Pairwise.sublist (List.drop_sublist _ _) r⟩,fun a ha b hb => ?_⟩
 rcases List.mem_cons.mp hb with e | hb
 ·rw [e]; exact tk a ha
 ·exact Nat.lt_trans (tk a ha) (dr b hb)
theorem pF (n : Nat) : Rise (Array.range n):=by
 unfold Rise
 rw [Array.toList_range]
 exact List.pairwise_lt_range
structure TabOk (t : SetTable) (led : Bool) : Prop where
 rise : Rise t.place
 nod : t.dummies = #[]
 led : t.led = led
theorem TabOk.standIn {t : SetTable} {led : Bool} (k : TabOk t led) (n : Nat) : TabOk (t.standIn n) led:=⟨pF n,rfl,k.led⟩
theorem TabOk.orStandIn {t : SetTable} {led : Bool} (k : TabOk t led) (n : Nat) : TabOk (t.orStandIn n) led:=by
 unfold SetTable.orStandIn
 split
 ·exact k
 ·exact k.standIn n
theorem p9 (j : Nat) : SetTable.has #[] j = false:=by
 unfold SetTable.has
 simp
theorem jA {t : SetTable} {led : Bool} (k : TabOk t led) {h : Int} : ∀ (fuel : Nat) (p : SetTable.Probe) (j : Nat) (dm : Option Nat),p.dummy = none -> SetTable.probe.go t (fun _ => h + 1) h fuel p = some (.empty j dm) -> t.slot j = .empty /\ dm = none
 | 0,p,j,dm,_,e => by cases e
 | fuel + 1,p,j,dm,hp,e => by
  unfold SetTable.probe.go at e
  cases hs : t.slot p.j with
  | empty =>
   rw [hs] at e
   cases e
   exact ⟨hs,hp⟩
  | dummy =>
   exfalso
   unfold SetTable.slot at hs
   dsimp only at hs
   split at hs
   ·cases hs
   ·rw [k.nod,p9] at hs
    simp at hs
  | live i =>
   rw [hs] at e
   dsimp only at e
   rw [if_neg (by simp; omega)] at e
   refine jA k fuel _ j dm ?_ e
   unfold SetTable.advance
   split
   ·exact hp
   ·exact hp
theorem qN {t : SetTable} {led : Bool} (k : TabOk t led) {h : Int} {j : Nat} {b : Bool} (e : t.freeSlot h = some (j,b)) : t.place[SetTable.below t.place j]? ≠ some j /\ b = false:=by
 unfold SetTable.freeSlot SetTable.probe at e
 split at e
 ·rename_i j' dm e'
  obtain ⟨h1,rfl⟩:=jA k _ _ _ _ rfl e'
  simp at e
  obtain ⟨rfl,rfl⟩:=e
  refine ⟨fun z => ?_,rfl⟩
  unfold SetTable.slot at h1
  dsimp only at h1
  rw [if_pos (by rw [z]; simp)] at h1
  cases h1
 ·cases e
theorem o4 {t : SetTable} {led : Bool} (k : TabOk t led) (es : Array (Int × Value)) (h : Int) (x : Value) : TabOk (layNew t es h x).2.1 led:=by
 unfold layNew
 split
 ·rename_i slot wd e
  obtain ⟨hj,rfl⟩:=qN k e
  have k1 : TabOk (t.put slot).1 led:=by
   refine ⟨k.rise.put hj,?_,k.led⟩
   show (if SetTable.has t.dummies slot = true then _ else t.dummies) = #[]
   rw [k.nod,p9]
   rfl
  exact k1.orStandIn _
 ·exact k.standIn _
theorem mC {t : SetTable} {led : Bool} (k : TabOk t led) (es : Array (Int × Value)) (n : Nat) : TabOk (relayAll t es n).2.1 led:=by
 unfold relayAll
 split
 ·rename_i t' order e
  dsimp only
  split
  ·unfold SetTable.relaid SetTable.laid at e
   simp only [Option.bind_eq_bind,Option.bind_eq_some_iff] at e
   obtain ⟨owner,_,e⟩:=e
   cases e
   refine ⟨?_,rfl,k.led⟩
   unfold Rise
   dsimp only
   rw [List.map_filterMap]
   refine List.Pairwise.filterMap _ (fun a a' hr b hb b' hb' => ?_) List.pairwise_lt_range
   simp only [Option.map_map,Option.mem_def,Option.map_eq_some_iff,Function.comp] at hb hb'
   obtain ⟨_,_,rfl⟩:=hb
   obtain ⟨_,_,rfl⟩:=hb'
   exact hr
  ·exact k.standIn _
 ·exact k.standIn _
abbrev byT (w : World) : Bool:=w.params.followText "set-order"
section
variable {P : Program} {w : World} {A : Around} {E : Value -> Shared -> Prop} {s : Shared}
end
end L2
set_option Elab.async false
set_option linter.all false
set_option maxRecDepth 100000
namespace L2
open PySem PySem.Spec PyProof.Rows
section
variable {P : Program} {w : World} {A : Around} {E : Value -> Shared -> Prop} {R : Result -> Shared -> Prop} {I : Addr} {fp wr : List Addr} {G : Array GenState -> Array GenState -> Prop} {n : Nat} {Pz : Nat -> Value -> Prop} {St : Nat -> Shared -> Prop}
end
section
variable {P : Program} {w : World} {A : Around} {E : Value -> Shared -> Prop} {s : Shared}
def bI (w : World) : Obj:={ cls:=.type "set",dict:=none,data:=.set #[] 0 (.fresh 0 0 (!byT w)) }
theorem qJ (a : Value) {Q₁ : Value -> Shared -> Prop} (h : Q₁ (.ref s.heap.objs.size) { s with heap:=s.heap.push (bI w) }) :
  codeAny (model P w) A (.call (.builtin "set.__new__") ⟨[.type "set",a],[]⟩) (wants Q₁ E) s:=by
 refine codeAny_of_tree ?_
 show wpAny _ A.in1 (do checkBuiltinCall "set.__new__" ⟨[.type "set",a],[]⟩; again (.builtin "set.__new__" ⟨[.type "set",a],[]⟩)) _ _ s
 refine wpAny_bind (wpAny_of_eq (F.newCall_set_1 a) (wpAny_pure ⟨plainId_quiet F.plain_set_new _,codeAny_builtin F.entry_set_new ?_⟩))
 rw [Around.under_plainId F.plain_set_new _]
 unfold Builtin.«set.__new__» Builtin.Frozenset.newClass
 have hsub:=sub_set_self
 obtain ⟨hp,g,d,tk,os⟩:=s
 dsimp only
 wp_walk
 refine wpAny_askSetting (wpAny_pure ?_)
 dsimp only
 simp only [newObj]
 exact wpAny_bind (wpAny_alloc (wpAny_pure (wpAny_pure h)))
end
end L2
set_option Elab.async false
set_option linter.all false
set_option maxRecDepth 100000
namespace L2
open PySem PySem.Spec PyProof.Rows
namespace SF
theorem entry_iter : entryFor table "set.__iter__" = some Builtin.«frozenset.__iter__» := entryFor_alias (id' := "frozenset.__iter__") (by kernel_rfl) rfl (by decide +kernel) (by kernel_rfl)
theorem slot_next : Slot "set_iterator" "__next__" "set_iterator.__next__" :=
 .of (owner := "set_iterator") (n := "__next__") (by rw [typeLookup_type,builtinLookup_eq_fast]; kernel_rfl) (by decide +kernel) (by decide +kernel) (by decide +kernel) (by first | exact .inl (by decide +kernel) | exact .inr (by decide +kernel))
  (by rw [isSubtype_type]; kernel_rfl)
theorem entry_next : entryFor table "set_iterator.__next__" = some Builtin.«set_iterator.__next__» := entryFor_of_tree (by kernel_rfl)
theorem args_next (a : Value) : argsOk "set_iterator.__next__" ⟨[a],[]⟩:=by unfold argsOk; kernel_rfl
theorem slot_iter_self : Slot "set_iterator" "__iter__" "set_iterator.__iter__" :=
 .of (owner := "set_iterator") (n := "__iter__") (by rw [typeLookup_type,builtinLookup_eq_fast]; kernel_rfl) (by decide +kernel) (by decide +kernel) (by decide +kernel) (by first | exact .inl (by decide +kernel) | exact .inr (by decide +kernel))
  (by rw [isSubtype_type]; kernel_rfl)
end SF
theorem fZ {α : Type} : ∀ (l : List α) (i : Nat) (h : i < l.length),(l[i] :: l.eraseIdx i).Perm l
 | x :: r,0,_ => List.Perm.refl _
 | x :: r,i + 1,h => (List.Perm.swap _ _ _).trans (List.Perm.cons _ (fZ r i (Nat.lt_of_succ_lt_succ h)))
theorem qq {α : Type} (next : Nat -> Nat) : ∀ (fuel k : Nat) (left : List α) (out : Array α),left.length = fuel -> (pickOrder.go next fuel k left out).toList.Perm (out.toList ++ left)
 | 0,k,left,out,h => by
  rw [List.length_eq_zero_iff.mp h,List.append_nil]
  exact List.Perm.refl _
 | fuel + 1,k,left,out,h => by
  unfold pickOrder.go
  have hlt : next k % left.length < left.length:=Nat.mod_lt _ (by omega)
  rw [List.getElem?_eq_getElem hlt]
  dsimp only
  refine (qq next fuel (k + 1) _ _ (by rw [List.length_eraseIdx_of_lt hlt]; omega)).trans ?_
  rw [Array.toList_push,List.append_assoc]
  refine List.Perm.append_left _ ?_
  exact fZ _ _ hlt
theorem ik {α : Type} (next : Nat -> Nat) (xs : Array α) : (pickOrder next xs).toList.Perm xs.toList:=by
 have q:=qq next xs.size 0 xs.toList #[] (by simp)
 unfold pickOrder
 simpa using q
theorem km {M : Model} {A : Around} {E : Value -> Shared -> Prop} {s : Shared} {src : Source} {n : Nat} {Q : Nat -> Shared -> Prop} (hn : n ≠ 0) (h : ∀ i d',i < n -> Q i { s with drawn:=d' }) : wpAny M A (choose src n) Q E s:=
 fun _ _ _ => ⟨hn,h _ _ (Nat.mod_lt _ (Nat.pos_of_ne_zero hn))⟩
theorem kC {M : Model} {A : Around} {E : Value -> Shared -> Prop} {α : Type} : ∀ (n : Nat) (xs : List α) (s : Shared) (Q : List α -> Shared -> Prop),xs.length = n -> (∀ ys d',ys.Perm xs -> Q ys { s with drawn:=d' }) -> wpAny M A (drawOrder n xs) Q E s
 | 0,xs,s,Q,hl,h => by
  have e : xs = []:=List.length_eq_zero_iff.mp hl
  subst e
  unfold drawOrder
  exact wpAny_pure (h [] s.drawn (List.Perm.refl _))
 | n + 1,[],s,Q,hl,h => by cases hl
 | n + 1,x :: r,s,Q,hl,h => by
  unfold drawOrder
  refine wpAny_bind (km (by simp) fun i d' hi => ?_)
  rw [List.getElem?_eq_getElem hi]
  dsimp only
  refine wpAny_bind (kC n _ _ _ (by rw [List.length_eraseIdx_of_lt hi]; omega) fun ys d2 p => wpAny_pure ?_)
  exact h _ _ ((List.Perm.cons _ p).trans (fZ _ _ hi))
def IsSetIter (h : Heap) (I S : Addr) (first : Value) (i n ep : Nat) : Prop := ∃ o,h.get? I = some o /\ o.cls = .type "set_iterator" /\ o.data = .fields #[first,.int i 0,.ref S,.int n 0,.int ep 0]
theorem IsSetIter.typeIs {s : Shared} {I S : Addr} {first : Value} {i n ep : Nat} (x : IsSetIter s.heap I S first i n ep) : s.TypeIs (.ref I) "set_iterator" := let ⟨o,ho,hc,_⟩:=x; ⟨o,ho,hc⟩
def uQ (w : World) (es : Array (Int × Value)) (ep : Nat) (t : SetTable) (S T : Addr) (L : List Value) (h : Heap) (i : Nat) (first : Value) : Prop:=
 (byT w = true /\ (∃ z : Nat,first = .int z 0) /\ L = (pickOrder (w.params.setOrder S ep) es).toList.map (·.2)) \/
 (byT w = false /\ (t.plain = true \/ es.size <= 1) /\ (∃ z : Nat,first = .int z 0 /\ SetTable.below t.place z = i) /\ L = es.toList.map (·.2)) \/
 (byT w = false /\ first = .ref T /\ ∃ pl : List Nat,pl.Perm (List.range es.size) /\ (∃ o e,h.get? T = some o /\ o.data = .seq (pl.map fun p : Nat => Value.int (p : Int) 0).toArray e) /\ L = pl.map fun p => (es.getD p (0,.none)).2)
structure SetSt (w : World) (es : Array (Int × Value)) (ep : Nat) (t : SetTable) (S T I : Addr) (L : List Value) (i : Nat) (h : Heap) : Prop where
 set : ∃ o,h.get? S = some o /\ o.data = .set es ep t
 it : ∃ first,IsSetIter h I S first i es.size ep /\ uQ w es ep t S T L h i first
section
variable {P : Program} {w : World} {A : Around} {E : Value -> Shared -> Prop} {s : Shared} {es : Array (Int × Value)} {ep : Nat} {t : SetTable} {S T I : Addr} {L : List Value} {i : Nat}
theorem next_item (hf : t.fits es.size = true) (hk : TabOk t (!byT w)) (hL : L.length = es.size) (hTI : T ≠ I) (hSI : S ≠ I) (st : SetSt w es ep t S T I L i s.heap) (hi : i < es.size) {Q : Option Value -> Shared -> Prop}
  (h : ∀ h',Heap.SameBut I s.heap h' -> SetSt w es ep t S T I L (i + 1) h' -> Q (some (L.getD i .none)) { s with heap:=h' }) : wpAny (model P w) A (pyNext (.ref I)) Q E s:=by
 obtain ⟨⟨oS,hS,hSd⟩,first,hit,by_⟩:=st
 obtain ⟨o,ho,hc,hd⟩:=id hit
 have hLi : L.getD i .none = L[i]'(by omega):=by simp [List.getD,hL,hi]
 unfold pyNext
 refine wpAny_bind (wpAny_attempt (wpAny_callSpecial?_slot (name:=Str.ofString "__next__") hit.typeIs SF.slot_next (wpAny_call_entry SF.slot_next hit.typeIs SF.entry_next ?_ (SF.args_next _))))
 unfold Builtin.«set_iterator.__next__»
 refine wpAny_bind (m:=slotArgs "__next__" 0 _) (wpAny_pure ?_)
 refine wpAny_bind (wpAny_fieldsOf ho hd ?_)
 dsimp only
 unfold setEntries
 refine wpAny_bind (wpAny_bind (wpAny_setState_of hS hSd hf (wpAny_pure ?_)))
 rw [if_neg (by simp)]
 have upI : ∀ (f : Array Value -> Array Value),(s.heap.update I (Obj.mapFields f)).get? I = some (Obj.mapFields f o):=fun f => Heap.get?_update_self _ ho (Obj.isFreed_of_fields (Obj.data_mapFields hd _))
 have other : ∀ (f : Array Value -> Array Value) b,b ≠ I -> (s.heap.update I (Obj.mapFields f)).get? b = s.heap.get? b:=fun f b hb => Heap.get?_update_other _ _ (Ne.symm hb)
 have put1 : ∀ (h1 : Heap) (fi : Value),IsSetIter h1 I S fi i es.size ep -> IsSetIter (h1.update I (Obj.mapFields (·.setIfInBounds 1 (rawInt ((i : Int) + 1))))) I S fi (i + 1) es.size ep:=by
  rintro h1 fi ⟨o1,ho1,hc1,hd1⟩
  exact ⟨_,Heap.get?_update_self _ ho1 (Obj.isFreed_of_fields (Obj.data_mapFields hd1 _)),(Obj.cls_mapFields ..).trans hc1,by rw [Obj.data_mapFields hd1]; simp [rawInt]⟩
 have put0 : ∀ (h1 : Heap) (fi : Value) (nx : Nat),IsSetIter h1 I S fi i es.size ep -> IsSetIter (h1.update I (Obj.mapFields (·.setIfInBounds 0 (rawInt nx)))) I S (.int nx 0) i es.size ep:=by
  rintro h1 fi nx ⟨o1,ho1,hc1,hd1⟩
  exact ⟨_,Heap.get?_update_self _ ho1 (Obj.isFreed_of_fields (Obj.data_mapFields hd1 _)),(Obj.cls_mapFields ..).trans hc1,by rw [Obj.data_mapFields hd1]; simp [rawInt]⟩
 have keepS : ∀ h1,Heap.SameBut I s.heap h1 -> ∃ o,h1.get? S = some o /\ o.data = .set es ep t:=fun h1 sb => ⟨oS,(sb.2 S hSI).trans hS,hSd⟩
 rcases by_ with ⟨bt,⟨z,rfl⟩,eL⟩ | ⟨bt,pl,⟨z,rfl,hz⟩,eL⟩ | ⟨bt,rfl,pl,pp,⟨oT,eT,hT,hTd⟩,eL⟩
 ·have px:=ik (w.params.setOrder S ep) es
  have hx : i < (pickOrder (w.params.setOrder S ep) es).size:=by rw [<- Array.length_toList,px.length_eq,Array.length_toList]; exact hi
  refine wpAny_bind ?_
  unfold setNext
  refine wpAny_bind (wpAny_setState_of hS hSd hf ?_)
  unfold setsByText
  refine wpAny_bind (wpAny_bind (wpAny_askSetting (wpAny_pure ?_)))
  rw [if_pos (show (model P w).w.params.followText "set-order" = true from bt),if_neg (by simp)]
  unfold setWalk setsByText
  refine wpAny_bind (wpAny_bind (wpAny_setState_of hS hSd hf ?_))
  refine wpAny_bind (wpAny_bind (wpAny_askSetting (wpAny_pure ?_)))
  rw [if_pos (show (model P w).w.params.followText "set-order" = true from bt)]
  refine wpAny_bind (wpAny_askSetting (wpAny_pure (wpAny_pure ?_)))
  have ex : (pickOrder ((model P w).w.params.setOrder S ep) es)[((i : Nat) : Int).toNat]? = some (pickOrder (w.params.setOrder S ep) es)[i]:=by
   rw [Int.toNat_natCast]
   exact Array.getElem?_eq_getElem hx
  rw [ex]
  dsimp only [Option.map]
  refine wpAny_bind (wpAny_setField ho hd (by simp) ?_)
  obtain ⟨o1,ho1,hc1,hd1⟩:=put0 _ _ z hit
  rw [show ((z : Nat) : Int).toNat = z from Int.toNat_natCast z]
  refine wpAny_bind (wpAny_setField ho1 hd1 (by simp) (wpAny_pure ⟨_,rfl,wpAny_pure ?_⟩))
  have sb : Heap.SameBut I s.heap ((s.heap.update I (Obj.mapFields (·.setIfInBounds 0 (rawInt z)))).update I (Obj.mapFields (·.setIfInBounds 1 (rawInt ((i : Int) + 1))))):=(Heap.SameBut.update ..).trans (Heap.SameBut.update ..)
  have q:=h _ sb ⟨keepS _ sb,_,put1 _ _ (put0 _ _ z hit),.inl ⟨bt,⟨z,rfl⟩,eL⟩⟩
  rw [hLi] at q
  have eLi : L[i]'(by omega) = (pickOrder (w.params.setOrder S ep) es)[i].2:=by simp [eL]
  rw [eLi] at q
  exact q
 ·have hpz : t.place.size = es.size:=by
   simp only [SetTable.fits,Bool.and_eq_true,beq_iff_eq,decide_eq_true_eq] at hf
   exact hf.1
  have hip : i < t.place.size:=by omega
  refine wpAny_bind ?_
  unfold setNext
  refine wpAny_bind (wpAny_setState_of hS hSd hf ?_)
  unfold setsByText
  refine wpAny_bind (wpAny_bind (wpAny_askSetting (wpAny_pure ?_)))
  rw [if_neg (show ¬ ((model P w).w.params.followText "set-order" = true) from by rw [show (model P w).w.params.followText "set-order" = false from bt]; exact Bool.false_ne_true)]
  show wpAny _ _ (if (!t.plain && decide (es.size > 1)) = true then _ else _) _ _ _
  rw [if_neg (by
   rcases pl with q | q
   ·rw [q]; simp
   ·simp; omega)]
  show wpAny _ _ ((if (!t.led && !es.isEmpty) = true then _ else pure ()) >>= _) _ _ _
  rw [if_neg (by rw [hk.led,bt]; simp)]
  refine wpAny_bind (wpAny_pure (wpAny_pure ?_))
  rw [Int.toNat_natCast,hz,Array.getElem?_eq_getElem hi,Array.getElem?_eq_getElem hip]
  dsimp only
  refine wpAny_bind (wpAny_setField ho hd (by simp) ?_)
  obtain ⟨o1,ho1,hc1,hd1⟩:=put0 _ _ (t.place[i] + 1) hit
  refine wpAny_bind (wpAny_setField ho1 hd1 (by simp) (wpAny_pure ⟨_,rfl,wpAny_pure ?_⟩))
  have sb : Heap.SameBut I s.heap ((s.heap.update I (Obj.mapFields (·.setIfInBounds 0 (rawInt (t.place[i] + 1 : Nat))))).update I (Obj.mapFields (·.setIfInBounds 1 (rawInt ((i : Int) + 1))))):=(Heap.SameBut.update ..).trans (Heap.SameBut.update ..)
  have q:=h _ sb ⟨keepS _ sb,_,put1 _ _ (put0 _ _ (t.place[i] + 1) hit),.inr (.inl ⟨bt,pl,⟨_,rfl,oz hk.rise hip⟩,eL⟩)⟩
  rw [hLi] at q
  have eLi : L[i]'(by omega) = es[i].2:=by simp [eL]
  rw [eLi] at q
  exact q
 ·have lpl : pl.length = es.size:=by rw [pp.length_eq,List.length_range]
  have hpl : pl[i]'(by omega) < es.size:=List.mem_range.mp (pp.mem_iff.mp (List.getElem_mem _))
  show wpAny _ _ (seqItems? (.ref T) >>= _) _ _ _
  unfold seqItems?
  refine wpAny_bind (wpAny_bind (wpAny_load hT ?_))
  rw [hTd]
  refine wpAny_pure ?_
  dsimp only
  have ep1 : (pl.map fun p : Nat => Value.int (p : Int) 0).toArray[((i : Nat) : Int).toNat]? = some (Value.int ((pl[i]'(by omega) : Nat) : Int) 0):=by
   rw [Int.toNat_natCast]
   simp [lpl,hi]
  rw [ep1]
  dsimp only
  unfold setNextDrawn
  refine wpAny_bind (wpAny_bind (wpAny_setState_of hS hSd hf ?_))
  dsimp only
  rw [if_neg (by simp),Int.toNat_natCast,Array.getElem?_eq_getElem hpl]
  dsimp only
  refine wpAny_pure (wpAny_bind (wpAny_setField ho hd (by simp) (wpAny_pure ⟨_,rfl,wpAny_pure ?_⟩)))
  have sb : Heap.SameBut I s.heap (s.heap.update I (Obj.mapFields (·.setIfInBounds 1 (rawInt ((i : Int) + 1))))):=Heap.SameBut.update ..
  have q:=h _ sb ⟨keepS _ sb,_,put1 _ _ hit,.inr (.inr ⟨bt,rfl,pl,pp,⟨oT,eT,(sb.2 T hTI).trans hT,hTd⟩,eL⟩)⟩
  rw [hLi] at q
  have eLi : L[i]'(by omega) = es[pl[i]'(by omega)].2:=by simp [eL,Array.getD,hpl]
  rw [eLi] at q
  exact q
theorem next_end (hh : A.handled = none) (hf : t.fits es.size = true) (hk : TabOk t (!byT w)) (hSI : S ≠ I) (st : SetSt w es ep t S T I L es.size s.heap) {Q : Option Value -> Shared -> Prop}
  (h : ∀ h',Heap.ExtBut I s.heap h' -> Q none { s with heap:=h' }) : wpAny (model P w) A (pyNext (.ref I)) Q E s:=by
 obtain ⟨⟨oS,hS,hSd⟩,first,hit,by_⟩:=st
 obtain ⟨o,ho,hc,hd⟩:=id hit
 unfold pyNext
 refine wpAny_bind (wpAny_attempt (wpAny_callSpecial?_slot (name:=Str.ofString "__next__") hit.typeIs SF.slot_next (wpAny_call_entry SF.slot_next hit.typeIs SF.entry_next ?_ (SF.args_next _))))
 unfold Builtin.«set_iterator.__next__»
 refine wpAny_bind (m:=slotArgs "__next__" 0 _) (wpAny_pure ?_)
 refine wpAny_bind (wpAny_fieldsOf ho hd ?_)
 dsimp only
 unfold setEntries
 refine wpAny_bind (wpAny_bind (wpAny_setState_of hS hSd hf (wpAny_pure ?_)))
 rw [if_neg (by simp)]
 have stop : ∀ h1,Heap.ExtBut I s.heap h1 -> wpAny (model P w) A.in1 (do let e <- newExc (.type "StopIteration") []; raiseNew e : Sem Fin) (fun fin s' => ∃ v,fin = Fin.done (Flow.ret v) /\ wpAny (model P w) A (pure (some v)) Q E s')
   (fun e s' => wpAny (model P w) A (do if <- isInstance e (.type "StopIteration") then pure none else throw e) Q E s') { s with heap:=h1 }:=by
  intro h1 e1
  refine wpAny_bind ?_
  simp only [newExc,newTuple]
  refine wpAny_bind (wpAny_newObj_type ?_ (by size_fits))
  refine wpAny_bind (m:=firstArgMember _ _) (wpAny_of_eq (a:=Value.none) (by first | rfl | (simp only [firstArgMember]; rfl)) ?_)
  refine wpAny_newObj_type ?_ (by size_fits)
  simp only [raiseNew]
  refine wpAny_bind (wpAny_handled ?_)
  rw [show A.in1.handled = none from hh]
  refine wpAny_bind (wpAny_pure (wpAny_throw ?_))
  refine wpAny_bind (wpAny_isInstance (T := "StopIteration") (b:=true) ⟨_,Heap.get?_push_size _ rfl,rfl⟩ isSubtype_stop ?_)
  exact wpAny_pure (h _ ((e1.push _).push _))
 rcases by_ with ⟨bt,⟨z,rfl⟩,eL⟩ | ⟨bt,pl,⟨z,rfl,hz⟩,eL⟩ | ⟨bt,rfl,pl,pp,⟨oT,eT,hT,hTd⟩,eL⟩
 ·have px:=ik (w.params.setOrder S ep) es
  have hx : (pickOrder (w.params.setOrder S ep) es).size = es.size:=by rw [<- Array.length_toList,px.length_eq,Array.length_toList]
  refine wpAny_bind ?_
  unfold setNext
  refine wpAny_bind (wpAny_setState_of hS hSd hf ?_)
  unfold setsByText
  refine wpAny_bind (wpAny_bind (wpAny_askSetting (wpAny_pure ?_)))
  rw [if_pos (show (model P w).w.params.followText "set-order" = true from bt),if_neg (by simp)]
  unfold setWalk setsByText
  refine wpAny_bind (wpAny_bind (wpAny_setState_of hS hSd hf ?_))
  refine wpAny_bind (wpAny_bind (wpAny_askSetting (wpAny_pure ?_)))
  rw [if_pos (show (model P w).w.params.followText "set-order" = true from bt)]
  refine wpAny_bind (wpAny_askSetting (wpAny_pure (wpAny_pure ?_)))
  have ex : (pickOrder ((model P w).w.params.setOrder S ep) es)[((es.size : Nat) : Int).toNat]? = none:=by
   rw [Int.toNat_natCast]
   exact Array.getElem?_eq_none (Nat.le_of_eq hx)
  rw [ex]
  dsimp only [Option.map]
  refine wpAny_bind (wpAny_setField ho hd (by simp) ?_)
  exact stop _ (Heap.SameBut.update ..).extBut
 ·have hpz : t.place.size = es.size:=by
   simp only [SetTable.fits,Bool.and_eq_true,beq_iff_eq,decide_eq_true_eq] at hf
   exact hf.1
  refine wpAny_bind ?_
  unfold setNext
  refine wpAny_bind (wpAny_setState_of hS hSd hf ?_)
  unfold setsByText
  refine wpAny_bind (wpAny_bind (wpAny_askSetting (wpAny_pure ?_)))
  rw [if_neg (show ¬ ((model P w).w.params.followText "set-order" = true) from by rw [show (model P w).w.params.followText "set-order" = false from bt]; exact Bool.false_ne_true)]
  show wpAny _ _ (if (!t.plain && decide (es.size > 1)) = true then _ else _) _ _ _
  rw [if_neg (by
   rcases pl with q | q
   ·rw [q]; simp
   ·simp; omega)]
  show wpAny _ _ ((if (!t.led && !es.isEmpty) = true then _ else pure ()) >>= _) _ _ _
  rw [if_neg (by rw [hk.led,bt]; simp)]
  refine wpAny_bind (wpAny_pure (wpAny_pure ?_))
  rw [Int.toNat_natCast,hz,Array.getElem?_eq_none (Nat.le_refl _)]
  dsimp only
  refine wpAny_bind (wpAny_setField ho hd (by simp) ?_)
  exact stop _ (Heap.SameBut.update ..).extBut
 ·have lpl : pl.length = es.size:=by rw [pp.length_eq,List.length_range]
  show wpAny _ _ (seqItems? (.ref T) >>= _) _ _ _
  unfold seqItems?
  refine wpAny_bind (wpAny_bind (wpAny_load hT ?_))
  rw [hTd]
  refine wpAny_pure ?_
  dsimp only
  have ep1 : (pl.map fun p : Nat => Value.int (p : Int) 0).toArray[((es.size : Nat) : Int).toNat]? = none:=by
   rw [Int.toNat_natCast]
   simp [lpl]
  rw [ep1]
  dsimp only
  refine wpAny_bind (wpAny_setField ho hd (by simp) ?_)
  have hd0:=Obj.data_mapFields hd (·.setIfInBounds 0 (rawInt 0))
  refine wpAny_bind (wpAny_setField (Heap.get?_update_self _ ho (Obj.isFreed_of_fields hd0)) hd0 (by simp) ?_)
  exact stop _ ((Heap.SameBut.update ..).trans (Heap.SameBut.update ..)).extBut
end
end L2
set_option Elab.async false
set_option linter.all false
set_option maxRecDepth 100000
namespace L2
open PySem PySem.Spec PyProof.Rows
namespace SF
theorem entry_iter_self : entryFor table "set_iterator.__iter__" = some Builtin.«dict_keyiterator.__iter__» := entryFor_alias (id' := "dict_keyiterator.__iter__") (by kernel_rfl) rfl (by decide +kernel) (by kernel_rfl)
theorem args_iter_self (a : Value) : argsOk "set_iterator.__iter__" ⟨[a],[]⟩:=by unfold argsOk; kernel_rfl
end SF
section
variable {P : Program} {w : World} {A : Around} {E : Value -> Shared -> Prop} {s : Shared} {es : Array (Int × Value)} {ep : Nat} {t : SetTable} {S T I : Addr} {L : List Value}
theorem vX (hh : A.handled = none) (hf : t.fits es.size = true) (hk : TabOk t (!byT w)) (hL : L.length = es.size) (hTI : T ≠ I) (hSI : S ≠ I) :
  WalksS P w A I [I,S,T] [I] (fun a b => b = a) es.size (fun i v => v = L.getD i .none) (fun i s => SetSt w es ep t S T I L i s.heap) where
 sub:=fun b hb => by simp at hb; simp [hb]
 grefl:=fun _ => rfl
 gtrans:=fun _ _ _ h1 h2 => h2.trans h1
 frame:=fun i s h' tk st _ k => by
  obtain ⟨⟨oS,hS,hSd⟩,first,⟨o,ho,r⟩,by_⟩:=st
  refine ⟨⟨oS,k S (by simp) _ hS,hSd⟩,first,⟨o,k I (by simp) _ ho,r⟩,?_⟩
  rcases by_ with z | z | ⟨b,e,pl,pp,⟨oT,eT,hT,hTd⟩,eL⟩
  ·exact .inl z
  ·exact .inr (.inl z)
  ·exact .inr (.inr ⟨b,e,pl,pp,⟨oT,eT,k T (by simp) _ hT,hTd⟩,eL⟩)
 item:=fun i s Q E hi st hQ => next_item hf hk hL hTI hSI st hi fun h' sb st' => hQ _ _ rfl st' ⟨fun b o hb e => (sb.2 b fun z => hb (by simp [z])).trans e,rfl,rfl,rfl,Nat.le_refl _⟩
 done:=fun s Q E st hQ => next_end hh hf hk hSI st fun h' eb => hQ _ ⟨fun b o hb e => eb b o (fun z => hb (by simp [z])) e,rfl,rfl,rfl,Nat.le_refl _⟩
 self:=fun i s Q E st hQ => by
  obtain ⟨_,first,hit,_⟩:=st
  refine wpAny_pyIter_slot hit.typeIs SF.slot_iter_self (wpAny_call_entry SF.slot_iter_self hit.typeIs SF.entry_iter_self ?_ (SF.args_iter_self _))
  show wpAny _ _ (ret (.ref I)) _ _ s
  exact wpAny_pure ⟨_,rfl,"set_iterator",_,hit.typeIs,SF.slot_next.lookup,hQ⟩
theorem vA {o : Obj} {Q : Value -> Shared -> Prop} (ho : s.heap.get? S = some o) (hex : o.ExactSet) (hd : o.data = .set es ep t) (hb : es.size < scanBound) (hf : t.fits es.size = true) (hk : TabOk t (!byT w))
  (h : ∀ (h' : Heap) (d' : Drawn) (I T : Addr) (L : List Value),L.Perm (es.toList.map (·.2)) -> SetSt w es ep t S T I L 0 h' -> (∀ b u,s.heap.get? b = some u -> h'.get? b = some u) -> s.heap.objs.size <= I -> I < h'.objs.size -> T ≠ I -> (T = S \/ s.heap.objs.size <= T) -> Q (.ref I) { s with heap:=h',drawn:=d' }) :
  wpAny (model P w) A (pyIter (.ref S)) Q E s:=by
 have hT : s.TypeIs (.ref S) "set" := ⟨o,ho,hex.1⟩
 have hSl : S < s.heap.objs.size:=Heap.lt_size ho
 refine wpAny_pyIter_slot hT F.slot_set_iter (wpAny_call_entry F.slot_set_iter hT SF.entry_iter ?_ (F.args_set_iter_1 _))
 unfold Builtin.«frozenset.__iter__» Builtin.Frozenset.slot0 Builtin.Frozenset.sizeOf setEntries
 refine wpAny_bind (wpAny_bind (m:=slotArgs "__iter__" 0 _) (wpAny_pure (wpAny_pure ?_)))
 refine wpAny_bind (wpAny_bind (wpAny_bind (wpAny_setState_of ho hd hf (wpAny_pure (wpAny_pure ?_)))))
 refine wpAny_bind ?_
 unfold setDrawn setsByText
 refine wpAny_bind (wpAny_setState_of ho hd hf ?_)
 refine wpAny_bind (wpAny_bind (wpAny_askSetting (wpAny_pure (wpAny_pure ?_))))
 show wpAny _ _ (if (!byT w && (!t.plain && decide (es.size > 1))) = true then _ else _) _ _ _
 by_cases c : (!byT w && (!t.plain && decide (es.size > 1))) = true
 ·rw [if_pos c]
  have bt : byT w = false:=by
   cases b : byT w with
   | false => rfl
   | true => rw [b] at c; simp at c
  refine wpAny_bind (kC _ _ _ _ (by simp) fun pl d' pp => wpAny_bind ?_)
  have lpl0 : pl.length = es.size:=by rw [pp.length_eq,List.length_range]
  refine wpAny_newTuple (hsz:=by rw [List.length_map,lpl0]; exact fits_of_scanBound hb) ?_
  have lpl : pl.length = es.size:=by rw [pp.length_eq,List.length_range]
  have ho1 : (s.heap.push (seqObj "tuple" (pl.map fun i : Nat => rawInt i).toArray 0)).get? S = some o:=Heap.get?_push_of_some _ ho
  unfold setEpoch
  refine wpAny_bind (wpAny_bind (wpAny_setState_of (s:={ s with heap:=s.heap.push (seqObj "tuple" (pl.map fun i : Nat => rawInt i).toArray 0),drawn:=d' }) ho1 hd hf (wpAny_pure ?_)))
  unfold newFields
  refine wpAny_bind (wpAny_newObj_type (wpAny_pure ⟨_,rfl,"set_iterator",_,⟨_,Heap.get?_push_size _ rfl,rfl⟩,SF.slot_next.lookup,?_⟩) (by size_fits))
  refine h _ d' _ s.heap.objs.size (pl.map fun p => (es.getD p (0,.none)).2) ?_ ⟨⟨o,Heap.get?_push_of_some _ ho1,hd⟩,_,⟨_,Heap.get?_push_size _ rfl,rfl,rfl⟩,.inr (.inr ⟨bt,rfl,pl,pp,⟨_,0,Heap.get?_push_of_some _ (Heap.get?_push_size _ rfl),rfl⟩,rfl⟩)⟩
   (fun b u q => Heap.get?_push_of_some _ (Heap.get?_push_of_some _ q)) ?_ ?_ ?_ ?_
  ·refine (pp.map _).trans ?_
   rw [show (List.range es.size).map (fun p => (es.getD p (0,.none)).2) = es.toList.map (·.2) from by
    refine List.ext_getElem (by simp) fun i h1 h2 => ?_
    have hi : i < es.size:=by simpa using h1
    simp [Array.getD,hi]]
  ·rw [Heap.size_push]; exact Nat.le_succ _
  ·exact Heap.lt_size (Heap.get?_push_size _ rfl)
  ·rw [Heap.size_push]; exact Nat.ne_of_lt (Nat.lt_succ_self _)
  ·exact .inr (Nat.le_refl _)
 ·rw [if_neg c]
  refine wpAny_bind (wpAny_pure ?_)
  unfold setEpoch
  refine wpAny_bind (wpAny_bind (wpAny_setState_of ho hd hf (wpAny_pure ?_)))
  unfold newFields
  refine wpAny_bind (wpAny_newObj_type (wpAny_pure ⟨_,rfl,"set_iterator",_,⟨_,Heap.get?_push_size _ rfl,rfl⟩,SF.slot_next.lookup,?_⟩) (by size_fits))
  cases bt : byT w with
  | true =>
   refine h _ s.drawn _ S ((pickOrder (w.params.setOrder S ep) es).toList.map (·.2)) ((ik _ es).map _) ⟨⟨o,Heap.get?_push_of_some _ ho,hd⟩,_,⟨_,Heap.get?_push_size _ rfl,rfl,rfl⟩,.inl ⟨bt,⟨0,rfl⟩,rfl⟩⟩
    (fun b u q => Heap.get?_push_of_some _ q) (Nat.le_refl _) ?_ (Nat.ne_of_lt hSl) ?_
   ·rw [Heap.size_push]; exact Nat.lt_succ_self _
   ·exact .inl rfl
  | false =>
   rw [bt] at c
   have pl : t.plain = true \/ es.size <= 1:=by
    cases q : t.plain with
    | true => exact .inl rfl
    | false =>
     rw [q] at c
     simp at c
     exact .inr c
   refine h _ s.drawn _ S (es.toList.map (·.2)) (List.Perm.refl _) ⟨⟨o,Heap.get?_push_of_some _ ho,hd⟩,_,⟨_,Heap.get?_push_size _ rfl,rfl,rfl⟩,.inr (.inl ⟨bt,pl,⟨0,rfl,oA hk.rise⟩,rfl⟩)⟩
    (fun b u q => Heap.get?_push_of_some _ q) (Nat.le_refl _) ?_ (Nat.ne_of_lt hSl) ?_
   ·rw [Heap.size_push]; exact Nat.lt_succ_self _
   ·exact .inl rfl
end
end L2
set_option Elab.async false
set_option linter.all false
set_option maxRecDepth 100000
namespace L2
open PySem PySem.Spec PyProof.Rows
section
variable {P : Program} {w : World} {A : Around} {E : Value -> Shared -> Prop} {s : Shared} {S : Addr} {ns : List Int}
end
end L2
set_option Elab.async false
set_option linter.all false
set_option maxRecDepth 100000
namespace L2
open PySem PySem.Spec PyProof.Rows
section
variable {X : Cx}
end
end L2
set_option Elab.async false
set_option linter.all false
set_option maxRecDepth 100000
namespace PySem
open PyProof.Rows
section
variable {prog : Program} {w : World} {K : Type} [DecidableEq K] {knd : KeyKind prog w K} {A : Around} {E : Value -> Shared -> Prop} {s : Shared} {R : Result -> Shared -> Prop}
end
end PySem
namespace L2
open PySem PySem.Spec PyProof.Rows
section
variable {X : Cx}
end
section
variable {X : Cx} {pins : List (Addr × Obj)} {σ : St} {H : Hp} {s : Shared} {a : Addr} {z : V} {u r : Value} {A : Around} {E : Value -> Shared -> Prop} {kvs : List (Key × V)} {k : Key}
end
section
variable {X : Cx} {o e f : Expr} {apos cpos : Pos} {td ty tx : TE}
end
end L2
set_option Elab.async false
set_option linter.all false
set_option maxRecDepth 100000
namespace L2
open PySem PySem.Spec PyProof.Rows
section
variable {X : Cx} {pins : List (Addr × Obj)} {σ : St} {H : Hp} {s : Shared} {a : Addr} {o : Obj} {kvs : List (Key × V)}
end
section
variable {X : Cx} {tg : Expr}
end
section
variable {X : Cx}
end
end L2
set_option Elab.async false
set_option linter.all false
set_option maxRecDepth 100000
namespace L2
open PySem PySem.Spec PyProof.Rows
section
variable {P : Program} {w : World} {A : Around} {E : Value -> Shared -> Prop} {s : Shared}
end
end L2
set_option Elab.async false
set_option linter.all false
set_option maxRecDepth 100000
namespace L2
open PySem PySem.Spec PyProof.Rows
section
variable {X : Cx}
end
end L2
set_option Elab.async false
set_option linter.all false
set_option maxRecDepth 100000
namespace PySem
open PyProof.Rows
section
variable {prog : Program} {w : World} {A : Around} {E : Value -> Shared -> Prop} {s : Shared}
end
end PySem
namespace L2
open PySem PySem.Spec PyProof.Rows
section
variable {X : Cx} {a : Expr} {ta : TA} {p p2 pos pos2 : Pos}
end
end L2
namespace L2
open PySem PySem.Spec PyProof.Rows
section
variable {X : Cx} {N : List Str} {scope : Scope} {ix : List (Option Nat)} {elt iter cond tg : Expr} {pos spos : Pos} {te : TE} {g : TG} {wi : TI} {tc : TT}
theorem iE {i : Nat} {y : Str} {py : Pos} (hc : X.calm = true) (hN : X.N.Nodup) (hyi : X.N[i]? = some y) (hy : Loc X.env.scope y) (S : BlkScope X.N X.env.scope N ix scope) (hi : PI X tg iter wi) (hg : ∀ fp s H C,PG (a8 X N scope fp s H C) tg g) (ht : ∀ fp s H C,PT (a8 X N scope fp s H C) cond tc) (he : ∀ fp s H C,PE (a8 X N scope fp s H C) elt te)
  (hsw : swapsWith (.ListComp elt [⟨tg,iter,[cond],0⟩] scope pos) (some (.Name y py)) spos.line X.env = pure true:=by rfl)
  (hf : X.fn y = true \/ X.env.scope.names.lookup y = some .local:=by first | exact .inl rfl | exact .inr rfl | assumption)
  (hs : ∀ x,foldedSetIterable iter X.env x = pure x:=by intro _; rfl) : PS X (.Assign [.Name y py] (.ListComp elt [⟨tg,iter,[cond],0⟩] scope pos) spos) (mS (sV ix wi g tc te) (aG i)):=by
 intro pins s σ H D I h
 rw [exec_Assign_Name_used _ _ _ _ hsw]
 refine wpAny_bind (wpAny_standAt (wpAny_bind ?_))
 show wpAny _ X.A (do let _ <- comprehension (.ListComp elt [⟨tg,iter,[cond],0⟩] scope pos) scope X.env _ (newList []) false (eval iter X.env) (some (assign (.Name y py) X.env))) _ _ s
 refine wpAny_bind (wpAny_mono (wpAny_comprehension_free (use:=some (assign (.Name y py) X.env)) (Q:=fun _ s' => SP X pins D .next s') rfl hs (dt (S.clos I.ok)) S.kind S.locs
  (thn (hi pins s σ H _ I h) fun v s1 h1 => thn h1 fun itv s2 h2 => ?_)) (fun _ s' hq => wpAny_pure (wpAny_pure hq)) fun _ _ e => e)
 obtain ⟨it,fp,tn,J,H2,e,I2,T,st2,f2,hW⟩:=h2
 subst e
 refine kz (RR:=fun acc C => compPost (model X.prog X.w) X.A X.xe (some (assign (.Name y py) X.env)) (fun _ s' => SP X pins D .next s') acc C) I2 hc S T st2 f2 (hg _ _ _) (ht _ _ _) (he _ _ _) hW ?_
 intro Dl C s' H' m I' hn fC q
 show wpAny _ X.A (assign (.Name y py) X.env (.ref Dl)) _ _ s'
 refine wpAny_assign_Name (kK I' hN hyi hy (v:=.ref Dl) rfl (fun s2 I2' hsb => ?_) hf)
 obtain ⟨a,sb,ha⟩:=hsb
 refine ⟨m,hn.sameBut sb ?_,fun h3 sb3 => ⟨_,H',I2'.turned (t' := s2.toks) (fun b o hb e => (sb3.2 b hb).trans e) fC.1 fC.2.1 fC.2.2.2.1 fC.2.2.2.2.1 fC.2.2.2.2.2,q⟩⟩
 rcases ha with z | z
 ·rw [z]; exact fC.2.1
 ·exact Ne.symm (fC.2.2.2.2.1 _ _ z)
end
end L2
set_option Elab.async false
set_option linter.all false
set_option maxRecDepth 100000
namespace L2
open PySem PySem.Spec PyProof.Rows
section
variable {X : Cx} {tg : Expr}
end
section
variable {X : Cx} {a b c : Expr} {ta : TA} {p p2 pos pos2 : Pos}
end
end L2
set_option Elab.async false
set_option linter.all false
set_option maxRecDepth 100000
set_option maxHeartbeats 4000000
namespace L2
open PySem PySem.Spec PyProof.Rows
end L2
set_option Elab.async false
set_option linter.all false
set_option maxRecDepth 100000
set_option maxHeartbeats 4000000
namespace L2
open PySem PySem.Spec PyProof.Rows
theorem jY (l b : Addr) (items items2 : Array Value) (n n2 : Nat) (dc : Option Addr) (sl : Array (Option Value)) (h0 : ¬(!items.isEmpty && Builtin.List.listTooLong (items.size + items2.size)) = true) (h1 : items.size <= sizeLine) (h2 : items.size + items2.size <= sizeLine + 1) :
  Meets (Builtin.«list.extend» ⟨[.ref l,.ref b],[]⟩) (fun _ R s => s.heap.get? l = some { cls:=.type "list",dict:=none,data:=.seq items n,slots := #[] } /\ s.heap.get? b = some { cls:=.type "tuple",dict:=dc,data:=.seq items2 n2,slots:=sl } /\ R (.ok (.ret Value.none)) { s with heap:=s.heap.update l (Obj.mapSeq (· ++ items2)) }):=
 .of_wp fun prog w A R s h => by
  obtain ⟨hp,g,d,tk,os⟩:=s
  obtain ⟨hl,hb,h⟩:=h
  have f1:=AutoSeq1.idx_int
  have f2:=AutoSeq1.sub_tuple_tuple
  have f3:=AutoSeq1.sub_list_list
  have f4:=AutoSeq1.sub_tuple_list
  have f5:=AutoSeq1.sub_list_tuple
  have hz' : (items ++ items2).size <= sizeLine + 1:=by rw [Array.size_append]; exact h2
  wp_walk using (wpAny_updateSeq hl rfl (hz:=h1) (_hz' := hz')),wpAny_loadPart' hl,wpAny_loadPart' hb
  exact ⟨_,rfl,h⟩
section
variable {X : Cx}
def og : V -> List V -> Hp -> VK -> Prop:=fun x vs H Q => ∃ l b xs zs,x = .ref l /\ vs = [.ref b] /\ H l = some (.lst xs) /\ H b = some (.tup zs) /\ xs.length + zs.length <= sizeLine /\ Q .non (upd H l (.lst (xs ++ zs)))
theorem gi : MtM X "list.extend" og:=by
 intro pins s σ H x vs v us Q I rx rv h
 obtain ⟨l,b,xs,zs,rfl,rfl,hH,hB,hz,q⟩:=h
 cases rx
 obtain ⟨u,rfl,ru⟩:=rv.one
 cases ru
 obtain ⟨z,its,n,r,hl,e⟩:=I.lstM hH
 obtain ⟨its2,r2,ht,hz2⟩:=I.tuple (SqT.of (K:=X.K) hB)
 have hl2:=r2.length
 obtain ⟨⟨c,dc,da,sl⟩,e2,c2,n2,d2⟩:=ht
 cases c2
 cases d2
 have hsz : its.toArray.size + its2.toArray.size <= sizeLine:=by rw [List.size_toArray,List.size_toArray]; omega
 have hlong : ¬ (!its.toArray.isEmpty && Builtin.List.listTooLong (its.toArray.size + its2.toArray.size)) = true:=by
  rw [nQ hsz,Bool.and_false]
  exact Bool.false_ne_true
 refine call_meets F.slot_list_extend ⟨_,e,rfl⟩ F.entry_list_extend (F.args_list_extend_2 _ _)
  (jY l b its.toArray its2.toArray n n2 dc sl hlong (by rw [List.size_toArray]; omega) (by omega)) ⟨e,e2,?_⟩
 refine ⟨.non,_,I.lset (its' := its ++ its2) hH e (by simp) (r.append r2) ?_,rfl,q⟩
 rw [List.length_append]
 omega
def sG : V -> List V -> Hp -> VK -> Prop:=fun x vs H Q => qs x vs H Q \/ og x vs H Q
theorem jz : MtM X "list.extend" sG:=by
 intro pins s σ H x vs v us Q I rx rv h
 rcases h with h | h
 ·exact qX pins s σ H x vs v us Q I rx rv h
 ·exact gi pins s σ H x vs v us Q I rx rv h
end
end L2
set_option Elab.async false
set_option linter.all false
set_option maxRecDepth 100000
set_option maxHeartbeats 4000000
namespace L2
open PySem PySem.Spec PyProof.Rows
end L2
set_option Elab.async false
set_option linter.all false
set_option maxRecDepth 100000
set_option maxHeartbeats 4000000
namespace PySem
open PyProof.Rows
section
variable {prog : Program} {w : World} {K : Type} [DecidableEq K] {knd : KeyKind prog w K} {A : Around} {E : Value -> Shared -> Prop} {s : Shared} {R : Result -> Shared -> Prop}
end
end PySem
namespace L2
open PySem PySem.Spec PyProof.Rows
section
variable {X : Cx}
end
end L2
set_option Elab.async false
set_option linter.all false
set_option maxRecDepth 100000
set_option maxHeartbeats 4000000
namespace PySem
section
variable {prog : Program} {w : World} {A : Around} {E : Value -> Shared -> Prop} {s : Shared}
end
end PySem
namespace L2
open PySem PySem.Spec PyProof.Rows
section
variable {X : Cx}
end
end L2
set_option Elab.async false
set_option linter.all false
set_option maxRecDepth 100000
set_option maxHeartbeats 4000000
namespace L2
open PySem PySem.Spec PyProof.Rows
end L2
set_option Elab.async false
set_option linter.all false
set_option maxRecDepth 100000
set_option maxHeartbeats 4000000
namespace L2
open PySem PySem.Spec PyProof.Rows
section
variable {X : Cx} {pins : List (Addr × Obj)} {σ : St} {H : Hp} {s : Shared}
end
end L2
set_option Elab.async false
set_option linter.all false
set_option maxRecDepth 100000
set_option maxHeartbeats 4000000
namespace L2
open PySem PySem.Spec PyProof.Rows
section
variable {X : Cx} {pins : List (Addr × Obj)} {σ : St} {H : Hp} {s : Shared}
open Classical in
noncomputable def isR (H : Hp) (ns : List Int) (u : Value) : Bool:=decide (∃ b,u = Value.ref b /\ H b = some (.tup (ns.map V.int)))
end
end L2
set_option Elab.async false
set_option linter.all false
set_option maxRecDepth 100000
set_option maxHeartbeats 4000000
namespace L2
open PySem PySem.Spec PyProof.Rows
section
variable {X : Cx}
end
end L2
set_option Elab.async false
set_option linter.all false
set_option maxRecDepth 100000
set_option maxHeartbeats 4000000
namespace L2
open PySem PySem.Spec PyProof.Rows
section
variable {X : Cx} {pins : List (Addr × Obj)} {σ : St} {H : Hp} {s : Shared} {a : Addr} {o : Obj} {kvs : List (List Key × V)}
end
section
variable {X : Cx} {tg : Expr}
end
end L2
set_option Elab.async false
set_option linter.all false
set_option maxRecDepth 100000
set_option maxHeartbeats 4000000
namespace L2
open PySem PySem.Spec PyProof.Rows
end L2
set_option Elab.async false
set_option linter.all false
set_option maxRecDepth 100000
namespace PySem
end PySem
namespace L2
open PySem PySem.Spec PyProof.Rows
end L2
set_option Elab.async false
set_option linter.all false
set_option maxRecDepth 100000
set_option maxHeartbeats 4000000
namespace L2
open PySem PySem.Spec PyProof.Rows
theorem jx (l1 l2 : Addr) (xs ys : Array Value) :
  Meets (Builtin.«zip.__new__» ⟨[.type "zip",.ref l1,.ref l2],[]⟩) (fun _ R s => s.heap.IsTuple l1 xs /\ s.heap.IsList l2 ys /\
   R (.ok (.ret (.ref (s.heap.objs.size + 4)))) { s with heap:=((((s.heap.push { cls:=.type "tuple_iterator",data:=.fields #[.ref l1,.int 0 0] }).push { cls:=.type "list_iterator",data:=.fields #[.ref l2,.int 0 0] }).push { cls:=.type "tuple",data:=.seq #[.ref s.heap.objs.size,.ref (s.heap.objs.size + 1)] }).push { cls:=.type "tuple",data:=.seq #[.none,.none] }).push { cls:=.type "zip",data:=.fields #[.none,.bool false,.bool false,.ref (s.heap.objs.size + 2),.ref (s.heap.objs.size + 3)] } }):=
 .of_wp fun prog w A R s h => by
  obtain ⟨hp,g,d,tk,os⟩:=s; obtain ⟨hl1,hl2,h⟩:=h
  have hsub:=sub_zip
  have hL1 : Heap.IsTuple (Shared.heap ⟨hp,g,d,tk,os⟩) l1 xs:=hl1
  have hL2 : Heap.IsList (Shared.heap ⟨hp.push { cls:=.type "tuple_iterator",data:=.fields #[.ref l1,.int 0 0] },g,d,tk,os⟩) l2 ys:=hl2.at fun o e => Heap.get?_push_of_some _ e
  wp_walk using wpAny_pyIter_tuple hL1,wpAny_pyIter_list hL2
  refine ⟨_,rfl,?_⟩
  simp only [Heap.size_push] at h ⊢
  exact h
theorem qI {prog : Program} {w : World} {A : Around} {E : Value -> Shared -> Prop} {s : Shared} {l1 l2 : Addr} {xs ys : Array Value} {Q : Value -> Shared -> Prop} (hl1 : s.heap.IsTuple l1 xs) (hl2 : s.heap.IsList l2 ys)
  (h : ∀ h',IsZip h' (s.heap.objs.size + 4) (s.heap.objs.size + 2) (s.heap.objs.size + 3) .none -> IsPair h' (s.heap.objs.size + 2) (.ref s.heap.objs.size) (.ref (s.heap.objs.size + 1)) ->
   IsPair h' (s.heap.objs.size + 3) .none .none -> h'.IsTupleIter s.heap.objs.size l1 0 -> h'.IsListIter (s.heap.objs.size + 1) l2 0 ->
   (∀ c o,s.heap.get? c = some o -> h'.get? c = some o) -> Q (.ref (s.heap.objs.size + 4)) { s with heap:=h' }) :
  wpAny (model prog w) A (call (.type "zip") [.ref l1,.ref l2]) Q E s:=by
 refine callType_new F.called_zip (by decide) (F.typeCall_zip_2 _ _) (F.newCall_zip_2 _ _) (fun obj => F.args_object_init_3 obj _ _) F.entry_zip_new
  (jx l1 l2 xs ys) ⟨hl1,hl2,?_⟩
 obtain ⟨h1,e1⟩ : ∃ h1,s.heap.push { cls:=.type "tuple_iterator",data:=.fields #[.ref l1,.int 0 0] } = h1:=⟨_,rfl⟩
 obtain ⟨h2,e2⟩ : ∃ h2,h1.push { cls:=.type "list_iterator",data:=.fields #[.ref l2,.int 0 0] } = h2:=⟨_,rfl⟩
 obtain ⟨h3,e3⟩ : ∃ h3,h2.push { cls:=.type "tuple",data:=.seq #[.ref s.heap.objs.size,.ref (s.heap.objs.size + 1)] } = h3:=⟨_,rfl⟩
 obtain ⟨h4,e4⟩ : ∃ h4,h3.push { cls:=.type "tuple",data:=.seq #[.none,.none] } = h4:=⟨_,rfl⟩
 obtain ⟨h5,e5⟩ : ∃ h5,h4.push { cls:=.type "zip",data:=.fields #[.none,.bool false,.bool false,.ref (s.heap.objs.size + 2),.ref (s.heap.objs.size + 3)] } = h5:=⟨_,rfl⟩
 have z1 : h1.objs.size = s.heap.objs.size + 1:=by rw [<- e1]; exact Heap.size_push ..
 have z2 : h2.objs.size = s.heap.objs.size + 2:=by rw [<- e2,Heap.size_push,z1]
 have z3 : h3.objs.size = s.heap.objs.size + 3:=by rw [<- e3,Heap.size_push,z2]
 have z4 : h4.objs.size = s.heap.objs.size + 4:=by rw [<- e4,Heap.size_push,z3]
 have u5 : ∀ {c o},h4.get? c = some o -> h5.get? c = some o:=fun e => by rw [<- e5]; exact Heap.get?_push_of_some _ e
 have u4 : ∀ {c o},h3.get? c = some o -> h5.get? c = some o:=fun e => u5 (by rw [<- e4]; exact Heap.get?_push_of_some _ e)
 have u3 : ∀ {c o},h2.get? c = some o -> h5.get? c = some o:=fun e => u4 (by rw [<- e3]; exact Heap.get?_push_of_some _ e)
 have u2 : ∀ {c o},h1.get? c = some o -> h5.get? c = some o:=fun e => u3 (by rw [<- e2]; exact Heap.get?_push_of_some _ e)
 have g5 : IsZip h5 (s.heap.objs.size + 4) (s.heap.objs.size + 2) (s.heap.objs.size + 3) .none:=by
  rw [<- z4,<- e5]; exact Heap.get?_push_size _ rfl
 have g4 : IsPair h5 (s.heap.objs.size + 3) .none .none:=u5 (by rw [<- z3,<- e4]; exact Heap.get?_push_size _ rfl)
 have g3 : IsPair h5 (s.heap.objs.size + 2) (.ref s.heap.objs.size) (.ref (s.heap.objs.size + 1)):=u4 (by rw [<- z2,<- e3]; exact Heap.get?_push_size _ rfl)
 have g2 : h5.IsListIter (s.heap.objs.size + 1) l2 0:=⟨_,u3 (by rw [<- z1,<- e2]; exact Heap.get?_push_size _ rfl),rfl,rfl⟩
 have g1 : h5.IsTupleIter s.heap.objs.size l1 0:=⟨_,u2 (by rw [<- e1]; exact Heap.get?_push_size _ rfl),rfl,rfl⟩
 show _ /\ _
 rw [e1,e2,e3,e4,e5]
 exact ⟨⟨_,g5,rfl⟩,h _ g5 g3 g4 g1 g2 fun c o x => u2 (by rw [<- e1]; exact Heap.get?_push_of_some _ x)⟩
def rA (K : PySem.W.Frag) (a b : Addr) : It:=
 ⟨fun i H => ∃ xs ys x y,SqT K H a xs /\ SqL K H b ys /\ xs[i]? = some x /\ ys[i]? = some y,
  fun i H v H' => ∃ T x y,v = .ref T /\ H T = none /\ H' = upd H T (.tup [x,y]) /\ (∀ xs,SqT K H a xs -> xs[i]? = some x) /\ ∀ ys,SqL K H b ys -> ys[i]? = some y,
  fun i H => ∃ xs,SqT K H a xs /\ xs.length = i⟩
theorem rm {P : Program} {w : World} {K : PySem.W.Frag} {elts : List Expr} {x1 : _} {pos : Pos} (a b z TI TO i1 i2 : Addr) (h1 : TI ≠ z) (h2 : TO ≠ z) (h3 : TI ≠ TO) (h4 : i1 ≠ z) (h5 : i2 ≠ z) (h6 : TI ≠ i1) (h7 : TI ≠ i2) (h8 : TO ≠ i1) (h9 : TO ≠ i2) (h10 : i1 ≠ i2)
  (ha : ∀ c ∈ [z,TI,TO,i1,i2],a ≠ c) (hb : ∀ c ∈ [z,TI,TO,i1,i2],b ≠ c) :
  Turn P w K (.Tuple elts x1 pos) (rA K a b) [z,TI,TO,i1,i2] z (fun i h => IsZip h z TI TO .none /\ IsPair h TI (.ref i1) (.ref i2) /\ (∃ u v,IsPair h TO u v) /\ h.IsTupleIter i1 a i /\ h.IsListIter i2 b i) where
 mem:=by simp
 obj:=fun i h st c hc => by
  obtain ⟨hz,hTI,⟨u,v,hTO⟩,hi1,hi2⟩:=st
  simp only [List.mem_cons,List.not_mem_nil,or_false] at hc
  rcases hc with rfl | rfl | rfl | rfl | rfl
  ·exact ⟨_,hz,fun v z => by have z' : Data.fields _ = Data.cell v:=z; cases z'⟩
  ·exact ⟨_,hTI,fun v z => by have z' : Data.seq _ _ = Data.cell v:=z; cases z'⟩
  ·exact ⟨_,hTO,fun v z => by have z' : Data.seq _ _ = Data.cell v:=z; cases z'⟩
  ·obtain ⟨o,e,c,d⟩:=hi1
   exact ⟨o,e,fun v z => by rw [d] at z; cases z⟩
  ·obtain ⟨o,e,c,d⟩:=hi2
   exact ⟨o,e,fun v z => by rw [d] at z; cases z⟩
 keep:=fun i h h' st k => by
  obtain ⟨hz,hTI,⟨u,v,hTO⟩,hi1,hi2⟩:=st
  exact ⟨k z (by simp) _ hz,k TI (by simp) _ hTI,⟨u,v,k TO (by simp) _ hTO⟩,hi1.at fun o e => k i1 (by simp) o e,hi2.at fun o e => k i2 (by simp) o e⟩
 item:=by
  intro X hP hw hK hc i pins s σ H E I hf st hg
  subst hP hw hK
  obtain ⟨xs,ys,x,y,hq1,hq2,hx,hy⟩:=hg
  obtain ⟨its,rv,p1,_⟩:=I.tuple hq1
  obtain ⟨jts,rw',p2',_⟩:=I.list hq2
  have p2 : s.heap.IsList b jts.toArray:=p2'.isList
  obtain ⟨u,hu,ru⟩:=rv.get hx
  obtain ⟨v,hv,rv2⟩:=rw'.get hy
  obtain ⟨hz,hTI,⟨o1,o2,hTO⟩,hi1,hi2⟩:=st
  have FF:=rP (a:=a) (b:=b) h1 h2 h3 h4 h5 h6 h7 h8 h9 h10 (fun c hc => ha c (by simp only [List.mem_cons,List.not_mem_nil,or_false] at hc ⊢; rcases hc with h | h | h | h <;> simp [h])) (fun c hc => hb c (by simp only [List.mem_cons,List.not_mem_nil,or_false] at hc ⊢; rcases hc with h | h | h | h <;> simp [h]))
  have l1 : i < its.toArray.size:=by have : i < its.length:=(List.getElem?_eq_some_iff.mp hu).1; simpa using this
  have l2 : i < jts.toArray.size:=by have : i < jts.length:=(List.getElem?_eq_some_iff.mp hv).1; simpa using this
  have hh : X.A.in1.handled = none:=I.ok.hd hc
  have D1:=jo (prog:=X.prog) (w:=X.w) (A:=X.A.in1) hh i1 a (ha i1 (by simp)) its.toArray
  have D2:=Draws.list (prog:=X.prog) (w:=X.w) (A:=X.A.in1) hh i2 b (hb i2 (by simp)) jts.toArray
  have hT : s.TypeIs (.ref z) "zip" := ⟨_,hz,rfl⟩
  unfold pyNext
  refine wpAny_bind (wpAny_attempt (wpAny_callSpecial?_slot (name:=Str.ofString "__next__") hT F.slot_zip_next (wpAny_call_entry F.slot_zip_next hT F.entry_zip_next ?_ (F.args_zip_next_1 _))))
  refine ro D1 D2 FF hz hTI hTO ⟨hi1,p1⟩ ⟨hi2,p2⟩ l1 l2 fun x' y' h' tk hx' hy' a1 a2 a3 a4 a5 a7 => wpAny_pure ?_
  have ex : x' = u:=by
   have : its.toArray[i]? = some u:=by simpa using hu
   rw [this] at hx'
   exact (Option.some.inj hx').symm
  have ey : y' = v:=by
   have : jts.toArray[i]? = some v:=by simpa using hv
   rw [this] at hy'
   exact (Option.some.inj hy').symm
  subst ex ey
  refine ⟨_,rfl,wpAny_letOwnedTupleGo_zip (s:={ s with heap:=h',toks:=tk }) a1 fun h2' hz' hs' => ?_⟩
  have fr : H s.heap.objs.size = none:=I.hok.fresh (Nat.le_refl _)
  have I1 : Inv X pins σ (upd H s.heap.objs.size (.tup [x,y])) { s with heap:=s.heap.push { cls:=.type "tuple",data:=.seq #[x',y'] },toks:=tk }:=
   I.laid (o:=.tup [x,y]) (fun b ob q => Heap.get?_push_of_some _ q) (Nat.le_refl _) ⟨by show 2 <= sizeLine; decide,[x',y'],.cons ru (.cons rv2 .nil),⟨_,Heap.get?_push_size _ rfl,rfl,_,rfl⟩⟩
  have lt : ∀ c ∈ [z,TI,TO,i1,i2],c < s.heap.objs.size:=fun c hc => by
   simp only [List.mem_cons,List.not_mem_nil,or_false] at hc
   rcases hc with rfl | rfl | rfl | rfl | rfl
   ·exact Heap.lt_size hz
   ·exact Heap.lt_size hTI
   ·exact Heap.lt_size hTO
   ·obtain ⟨o,e1,_⟩:=hi1; exact Heap.lt_size e1
   ·obtain ⟨o,e1,_⟩:=hi2; exact Heap.lt_size e1
  have f2 : ∀ c ∈ [z,TI,TO,i1,i2],fP X pins (upd H s.heap.objs.size (.tup [x,y])) c:=fun c hc => by
   refine ⟨?_,(hf c hc).2⟩
   rw [ao (Nat.ne_of_lt (lt c hc))]
   exact (hf c hc).1
  have I2 : Inv X pins σ (upd H s.heap.objs.size (.tup [x,y])) { s with heap:=h2',toks:=tk }:=by
   refine Inv.turnedL (s:={ s with heap:=s.heap.push { cls:=.type "tuple",data:=.seq #[x',y'] },toks:=tk }) (t' := tk) (h' := h2') (ch:=[z,TI,TO,i1,i2]) I1 (fun c o hc q => ?_) f2 (fun _ _ _ _ => trivial)
   simp only [List.mem_cons,List.not_mem_nil,or_false,not_or] at hc
   refine (hs'.2 c hc.1).trans ?_
   rcases Heap.get?_push_cases (show (s.heap.push { cls:=.type "tuple",data:=.seq #[x',y'] }).get? c = some o from q) with ⟨rfl,rfl⟩ | q
   ·exact a5
   ·exact a7 c o hc.1 hc.2.2.1 hc.2.2.2.1 hc.2.2.2.2 q
  refine ⟨.ref s.heap.objs.size,_,I2,rfl,⟨s.heap.objs.size,x,y,rfl,fr,rfl,fun ys hy => by rw [I.tuple_inj hy hq1]; exact hx,fun ys hy' => by rw [I.list_inj hy' hq2]; exact hy⟩,⟨hz',?_,⟨x',y',?_⟩,?_,?_⟩,fun b hb => (f2 b hb).1⟩
  ·exact (hs'.2 TI h1).trans (a7 _ _ h1 h3 h6 h7 hTI)
  ·exact (hs'.2 TO h2).trans a2
  ·exact a3.1.at fun o e => (hs'.2 i1 h4).trans e
  ·exact a4.1.at fun o e => (hs'.2 i2 h5).trans e
 done:=by
  intro X hP hw hK hc i pins s σ H E I hf st hg
  subst hP hw hK
  obtain ⟨xs,hq,hx⟩:=hg
  obtain ⟨its,rv,p1,_⟩:=I.tuple hq
  obtain ⟨hz,hTI,⟨o1,o2,hTO⟩,hi1,hi2⟩:=st
  have FF:=rP (a:=a) (b:=b) h1 h2 h3 h4 h5 h6 h7 h8 h9 h10 (fun c hc => ha c (by simp only [List.mem_cons,List.not_mem_nil,or_false] at hc ⊢; rcases hc with h | h | h | h <;> simp [h])) (fun c hc => hb c (by simp only [List.mem_cons,List.not_mem_nil,or_false] at hc ⊢; rcases hc with h | h | h | h <;> simp [h]))
  have hh : X.A.in1.handled = none:=I.ok.hd hc
  have D1:=jo (prog:=X.prog) (w:=X.w) (A:=X.A.in1) hh i1 a (ha i1 (by simp)) its.toArray
  have hl:=rv.length
  have ei : i = its.toArray.size:=by simp; omega
  rw [ei] at hi1
  have hT : s.TypeIs (.ref z) "zip" := ⟨_,hz,rfl⟩
  unfold pyNext
  refine wpAny_bind (wpAny_attempt (wpAny_callSpecial?_slot (name:=Str.ofString "__next__") hT F.slot_zip_next (wpAny_call_entry F.slot_zip_next hT F.entry_zip_next ?_ (F.args_zip_next_1 _))))
  refine tH D1 FF hz hTI ⟨hi1,p1⟩ fun h' e hk he => ?_
  obtain ⟨o,ho,hcl⟩:=he
  refine wpAny_bind (wpAny_isInstance (T := "StopIteration") (b:=true) ⟨o,ho,hcl⟩ isSubtype_stop ?_)
  refine wpAny_pure ⟨rfl,I.turnedL (t' := s.toks) (ch:=[z,TI,TO,i1,i2]) (fun c o hc q => ?_) hf (fun _ _ _ _ => trivial)⟩
  simp only [List.mem_cons,List.not_mem_nil,or_false,not_or] at hc
  exact hk c o hc.1 hc.2.2.1 hc.2.2.2.1 hc.2.2.2.2 q
 self:=fun _ _ _ _ _ st h => wpAny_pyIter_zip st.1 h
section
variable {X : Cx}
def vz (K : PySem.W.Frag) (tl : TA) : TI:=fun σ H R => tl σ H fun vs H1 => ∃ a b,vs = [.ref a,.ref b] /\ (∃ xs,SqT K H1 a xs) /\ (∃ ys,SqL K H1 b ys) /\ R (rA K a b) H1
theorem uu {elts : List Expr} {x1 : _} {tpos : Pos} {l r : Expr} {tl : TA} {p pos : Pos} (hg : Gl X "zip") (hm : X.mg "zip" = none) (hl : PA X [l,r] tl) (hs : starEach [l,r] X.env = [(false,eval l X.env),(false,eval r X.env)]:=by rfl) (hs2 : starEach [r] X.env = [(false,eval r X.env)]:=by rfl) :
  PI X (.Tuple elts x1 tpos) (.Call (.Name "zip" p) [l,r] [] pos) (vz X.K tl):=by
 intro pins s σ H R I h
 refine Call_ (hV I hg hm uV (PyProof.Rows.callWith_type1 (thn (hl pos pins s σ H _ I h) fun us s1 ⟨vs,H1,I1,r1,q1⟩ => ?_) (by rw [hs,hs2]) (by rw [hs2]; rfl)))
 obtain ⟨a,b,e,⟨xs,hq1⟩,⟨ys,hq2⟩,q⟩:=q1
 subst e
 cases r1 with
 | cons ra rr =>
  cases rr with
  | cons rb rr =>
   cases rr
   cases ra
   cases rb
   obtain ⟨its,rv,p1,_⟩:=I1.tuple hq1
   obtain ⟨jts,rv2,p2',_⟩:=I1.list hq2
   have p2 : s1.heap.IsList b jts.toArray:=p2'.isList
   have la : a < s1.heap.objs.size:=by obtain ⟨o,e,_⟩:=p1; exact Heap.lt_size e
   have lb : b < s1.heap.objs.size:=by obtain ⟨o,e,_⟩:=p2; exact Heap.lt_size e
   refine qI (show s1.heap.IsTuple a its.toArray from p1) p2 fun h' g5 g3 g4 g1 g2 hk => ?_
   refine wpAny_pyIter_zip g5 ?_
   have le : ∀ c ∈ [s1.heap.objs.size + 4,s1.heap.objs.size + 2,s1.heap.objs.size + 3,s1.heap.objs.size,s1.heap.objs.size + 1],s1.heap.objs.size <= c:=fun c hc => by
    simp only [List.mem_cons,List.not_mem_nil,or_false] at hc
    rcases hc with rfl | rfl | rfl | rfl | rfl <;> first | exact Nat.le_refl _ | exact Nat.le_add_right _ _
   have ad : ∀ {i j : Nat},i ≠ j -> s1.heap.objs.size + i ≠ s1.heap.objs.size + j:=fun h z => h (Nat.add_left_cancel z)
   have a0 : ∀ {j : Nat},0 ≠ j -> s1.heap.objs.size ≠ s1.heap.objs.size + j:=fun h z => h (Nat.add_left_cancel (show s1.heap.objs.size + 0 = _ from z))
   refine ⟨s1.heap.objs.size + 4,[s1.heap.objs.size + 4,s1.heap.objs.size + 2,s1.heap.objs.size + 3,s1.heap.objs.size,s1.heap.objs.size + 1],_,_,H1,rfl,I1.kept (t' := s1.toks) hk,
    rm a b (s1.heap.objs.size + 4) (s1.heap.objs.size + 2) (s1.heap.objs.size + 3) s1.heap.objs.size (s1.heap.objs.size + 1) (ad (by decide)) (ad (by decide)) (ad (by decide)) (a0 (by decide)) (ad (by decide)) (Ne.symm (a0 (by decide))) (ad (by decide)) (Ne.symm (a0 (by decide))) (ad (by decide)) (a0 (by decide))
     (fun c hc => Nat.ne_of_lt (Nat.lt_of_lt_of_le la (le c hc))) (fun c hc => Nat.ne_of_lt (Nat.lt_of_lt_of_le lb (le c hc))),⟨g5,g3,⟨_,_,g4⟩,g1,g2⟩,fun c hc => I1.fpOk (le c hc) (I1.hok.fresh (le c hc)),q⟩
end
theorem rS {K : PySem.W.Frag} {a b : Addr} {xs ys : List V} {g : TG} {tb : TS} {D : Ends} {σ : St} {H : Hp} (hlen : xs.length = ys.length) (Pv : Nat -> St -> Hp -> Prop) (h0 : Pv 0 σ H) (hl : ∀ i σ H,i <= xs.length -> Pv i σ H -> SqT K H a xs /\ SqL K H b ys)
  (hs : ∀ i x y σ H T,xs[i]? = some x -> ys[i]? = some y -> Pv i σ H -> H T = none -> g (.ref T) σ (upd H T (.tup [x,y])) fun σ2 H2 => tb { D with nx:=Pv (i + 1),ct:=Pv (i + 1),bk:=D.nx } σ2 H2) (hd : ∀ σ H,Pv xs.length σ H -> D.nx σ H) :
  ∃ W : Nat -> Nat -> St -> Hp -> Prop,(∃ m,W 0 m σ H) /\ ∀ i m σ H,W i m σ H ->
   ((rA K a b).stop i H /\ D.nx σ H) \/ ((rA K a b).go i H /\ ∃ N : St -> Hp -> Prop,(∀ σ' H',N σ' H' -> ∃ m',m' < m /\ W (i + 1) m' σ' H') /\ ∀ x H',(rA K a b).yld i H x H' -> g x σ H' fun σ2 H2 => tb { D with nx:=N,ct:=N,bk:=D.nx } σ2 H2):=by
 refine ⟨fun i m σ H => m = xs.length - i /\ i <= xs.length /\ Pv i σ H,⟨xs.length,by simp,Nat.zero_le _,h0⟩,?_⟩
 rintro i m σ H ⟨rfl,hi,p⟩
 have q:=hl i σ H hi p
 by_cases hlt : i < xs.length
 ·refine .inr ⟨⟨xs,ys,xs[i],ys[i]'(by omega),q.1,q.2,by simp [hlt],by rw [List.getElem?_eq_getElem (by omega)]⟩,Pv (i + 1),fun σ' H' p' => ⟨xs.length - (i + 1),by omega,rfl,hlt,p'⟩,fun x H' y => ?_⟩
  obtain ⟨T,x0,y0,rfl,hT,rfl,y1,y2⟩:=y
  exact hs i x0 y0 σ _ T (y1 xs q.1) (y2 ys q.2) p hT
 ·have e : i = xs.length:=by omega
  subst e
  exact .inl ⟨⟨xs,q.1,rfl⟩,hd σ H p⟩
end L2
set_option Elab.async false
set_option linter.all false
set_option maxRecDepth 100000
set_option maxHeartbeats 4000000
namespace PySem
section
variable {prog : Program} {w : World} {A : Around} {E : Value -> Shared -> Prop} {s : Shared}
end
end PySem
namespace L2
open PySem PySem.Spec PyProof.Rows
end L2
set_option Elab.async false
set_option linter.all false
set_option maxRecDepth 100000
set_option maxHeartbeats 4000000
namespace L2
open PySem PySem.Spec PyProof.Rows
abbrev NK:=Int × List Int
section
variable {X : Cx} {pins : List (Addr × Obj)} {σ : St} {H : Hp} {s : Shared} {d : Addr} {ks : List (NK × Addr)}
end
section
variable {X : Cx} {pos pos' : Pos} {o i value : Expr} {td ty tv : TE}
end
end L2
set_option Elab.async false
set_option linter.all false
set_option maxRecDepth 100000
namespace L2
open PySem PySem.Spec PyProof.Rows
structure Aloft (base : Heap) (l : List Env) (e : Addr) (cls a0 : Value) (fl : Value) (h : Heap) : Prop where
 stays : base.StaysIn h
 new : base.get? e = none
 fun_ : h.FunFrames base l
 tr : h.TracedAtW base e cls a0 fl
section
variable {P : Program} {w : World} {K : PySem.W.Frag} {mg : Str -> Option Value} {base : Heap} {N : List Str} {qual : Str} {scope : Scope} {f : Addr} {cd : Value} {A : Around} {outer : List Env} {s : Shared} {H : Hp} {E : XK}
end
section
variable {X : Cx} {pins : List (Addr × Obj)} {σ : St} {H : Hp} {s : Shared} {N : List Str} {ix : List (Option Nat)} {scope : Scope} {fp : List Addr} {tg elt iter : Expr} {pos spos : Pos} {J : It} {it : Addr} {tn : Nat -> Heap -> Prop} {g : TG} {te : TXE} {wi : TI} {Ex : XK}
end
end L2
set_option Elab.async false
set_option linter.all false
set_option maxRecDepth 100000
namespace L2
open PySem PySem.Spec PySem.W PySem.Builtin PySem.Builtin.ObjectAttr PyProof.Rows
def mroIs (K : PySem.W.Frag) (C : Addr) (as : List Addr) : Bool:=(clsIn K C).any fun cd => cd.mro == as.map Value.ref ++ VEm
section
variable {prog : Program} {w : World} {A : Around} {E : Value -> Shared -> Prop} {s : Shared} {K : PySem.W.Frag} {x C : Addr} {vs : Array Value} {name : Str} {v : Value} {as : List Addr}
end
end L2
set_option Elab.async false
set_option linter.all false
set_option maxRecDepth 100000
namespace L2
open PySem PySem.Spec PySem.W PySem.Builtin PySem.Builtin.ObjectAttr PyProof.Rows
def uX (K : PySem.W.Frag) (C : Addr) (f : Addr) : Bool:=match K.lookup C with
 | some ⟨.type "type",_,.cls cd,sl⟩ => (match cd.mro,sl.toList with
  | .ref C' :: tl,[_,_,_,_,some (.builtin n),_] => C' == C && n == "ValueError.__new__" && !cd.hasDel && tailIn K VEm tl && nsOkIn K cd.ns && nsIn K cd.ns "__init__" == some (some (.ref f))
  | _,_ => false)
 | _ => false
section
variable {prog : Program} {w : World} {A : Around} {E : Value -> Shared -> Prop} {h : Heap} {g : Array GenState} {d : Drawn} {t : Nat} {os : OsState}
variable {nm q : Str} {C N : Addr} {bs bm : List Value} {hdct : Bool} {sn : List Str} {sub : List Value} {ab : Bool} {col : Option Bool} {dd : Option Addr} {k0 k1 k2 k3 k5 : Option Value}
end
section
variable {prog : Program} {w : World} {A : Around} {E : Value -> Shared -> Prop} {s : Shared} {K : PySem.W.Frag} {x C f : Addr} {vs : Array Value}
end
end L2
set_option Elab.async false
set_option linter.all false
set_option maxRecDepth 100000
namespace L2
open PySem PySem.Spec PyProof.Rows
structure XInit (K : PySem.W.Frag) (C f : Addr) : Prop where
 ex : uX K C f = true
 fn : PySem.W.isFn K (.ref f) = true
 kp : PySem.W.keepIn K (.ref C) = true
 sa : PySem.W.findIn K (.ref C) "__setattr__" = some (some (.builtin "object.__setattr__"))
 hd : PySem.W.hasDictIn K C = true
 mr : ∃ as,mroIs K C as = true
 xc : XCls K C
section
variable {X : Cx} {k : Nat} {f C B : Addr} {fd : FuncData} {ps : List Str} {sp : Sp} {dvs : List V} {ds : List Value} {x y fl : Str} {p pos apos : Pos} {e o value : Expr} {es : List Expr} {t : TA} {ta tv : TE}
end
structure DefI (P : Program) (w : World) (K : PySem.W.Frag) (mg : Str -> Option Value) (base : Heap) (x : Str) (C f : Addr) (k : Nat) (ps : List Str) (sp : Sp) : Prop where
 m : mg x = some (.ref C)
 M : XInit K C f
 F : ∃ fd,Binds K fd ps [] /\ FnOk P w K mg base CX0 k f fd ps sp
end L2
set_option Elab.async false
set_option linter.all false
set_option maxRecDepth 100000
set_option maxHeartbeats 4000000
namespace L2
open PySem PySem.Spec PyProof.Rows
def vY (h : Heap) (mg : Str -> Option Value) : Prop := ∃ bm o,mg "__builtins__" = some (.ref bm) /\ bm ≠ builtinsNs /\ bm ≠ mainGlobals /\ h.get? bm = some o /\ o.cls = .type "module" /\ o.dict = some builtinsNs /\ o.data = .plain
end L2
set_option Elab.async false
set_option linter.all false
set_option maxRecDepth 100000
set_option maxHeartbeats 4000000
namespace L2
open PySem PySem.Spec PyProof.Rows
def uN (c : Addr) (qual : Str) (h : Heap) : Prop := ∃ o vs t,h.get? c = some o /\ o.data = .fields vs /\ vs[1]? = some (.str qual t)
def vo (f : Addr) (qual : Str) (params : Arguments) (body : Expr) (scope : Scope) (clos : List (Str × Addr)) (c' : Addr) (h : Heap) : Prop := ∃ pm ctv,h.get? f = some (PySem.W.kla_obj "<lambda>" qual params body scope clos pm c' ctv)
structure LamK (K : PySem.W.Frag) (mg : Str -> Option Value) (base : Heap) (c Pt : Addr) : Prop where
 hd : PySem.W.codeHdIn K c Pt = true
 bm : vY base mg
section
variable {X : Cx} {params : Arguments} {body : Expr} {scope : Scope} {pos : Pos} {clos : List (Str × Addr)} {c Pt : Addr}
end
end L2
set_option Elab.async false
set_option linter.all false
set_option maxRecDepth 100000
set_option maxHeartbeats 4000000
namespace L2
open PySem PySem.Spec PyProof.Rows
def rq (c : Addr) (o : Obj) (h : Heap) : Prop:=h.get? c = some o
def wa (H : Hp) (c : Addr) (v : V) : Prop := ∃ o u,H c = some (.ext (rq c o)) /\ o.data = .cell (some u) /\ RelV v u
structure LamHas (H : Hp) (f c' : Addr) (qual : Str) (params : Arguments) (body : Expr) (scope : Scope) (clos : List (Str × Addr)) (cvs : List V) : Prop where
 fn : H f = some (.ext (vo f qual params body scope clos c'))
 cd : H c' = some (.ext (uN c' qual))
 cl : Paired (fun (p : Str × Addr) v => wa H p.2 v) clos cvs
 nd : (clos.map (·.2)).Nodup
section
variable {P : Program} {w : World} {H H' : Hp} {h h' : Heap} {cs : List Addr} {fs : List Addr}
end
structure LamScope (ps fr : List Str) (sc : Scope) : Prop where
 kind : sc.kind = .function
 co : sc.isCoroutine = false
 gen : sc.isGenerator = false
 nd : (ps ++ fr).Nodup
 par : ∀ x ∈ ps,sc.names.lookup x = some .local
 fre : ∀ x ∈ fr,sc.names.lookup x = some .free
 nocell : ∀ y ∈ sc.names,y.2 ≠ .cell
 all : ∀ y ∈ sc.names,y.2 = .free -> y.1 ∈ fr
section
variable {P : Program} {w : World} {K : PySem.W.Frag} {mg : Str -> Option Value} {base : Heap} {k : Nat} {f c' : Addr} {qual : Str} {params : Arguments} {body : Expr} {scope : Scope} {clos : List (Str × Addr)} {cvs : List V} {ps : List Str} {A : Around} {outer : List Env} {s : Shared} {H : Hp} {us : List Value} {vs : List V} {Q : VK} {t : TE}
end
end L2
set_option Elab.async false
set_option linter.all false
set_option maxRecDepth 100000
set_option maxHeartbeats 4000000
namespace L2
open PySem PySem.Spec PyProof.Rows
section
variable {X : Cx} {x : Str} {p pos : Pos} {e : Expr} {es : List Expr} {t : TA} {tf : TE} {R : V -> List V -> Hp -> VK -> Prop}
end
section
variable {X : Cx} {x y : Str} {i j k : Nat} {c : Addr} {ps : List Str} {dvs : List V} {sp : Sp} {p pos : Pos} {e : Expr} {es : List Expr} {t : TA} {CX : CXT} {f : Addr} {fd : FuncData} {ds : List Value}
end
end L2
set_option Elab.async false
set_option linter.all false
set_option maxRecDepth 100000
set_option maxHeartbeats 4000000
namespace L2
open PySem PySem.Spec PyProof.Rows
open Classical in
noncomputable def wA (cells : List (Str × Addr)) (h : Heap) (H : Hp) : Hp:=fun b => if ∃ y,cells.lookup y = some b then (h.get? b).map fun o => .ext (rq b o) else H b
structure Mk0 (K : PySem.W.Frag) (C : Addr) : Prop where
 makes : PySem.W.makesIn K C = true
 init : PySem.W.findIn K (.ref C) "__init__" = some (some (.builtin "object.__init__"))
 kp : PySem.W.keepIn K (.ref C) = true
end L2
set_option Elab.async false
set_option linter.all false
set_option maxRecDepth 100000
set_option maxHeartbeats 4000000
namespace L2
open PySem PySem.Spec PyProof.Rows
structure LamScope1 (x : Str) (fr : List Str) (sc : Scope) : Prop where
 kind : sc.kind = .function
 co : sc.isCoroutine = false
 gen : sc.isGenerator = false
 nd : (x :: fr).Nodup
 cell : sc.names.lookup x = some .cell
 only : ∀ y ∈ sc.names,y.2 = .cell -> y.1 = x
 lay : ∀ n cl,cellsFrom n sc.names cl = (x,n) :: cl
 lays : ∀ h,pushCells h sc.names = h.push { cls:=.type "cell",data:=.cell none }
 fre : ∀ y ∈ fr,sc.names.lookup y = some .free
 all : ∀ y ∈ sc.names,y.2 = .free -> y.1 ∈ fr
section
variable {P : Program} {w : World} {K : PySem.W.Frag} {mg : Str -> Option Value} {base : Heap} {k : Nat} {f c' : Addr} {qual : Str} {params : Arguments} {body : Expr} {scope : Scope} {clos : List (Str × Addr)} {cvs : List V} {x : Str} {A : Around} {outer : List Env} {s : Shared} {H : Hp} {u : Value} {v : V} {Q : VK} {t : TE}
end
end L2
set_option Elab.async false
set_option linter.all false
set_option maxRecDepth 100000
set_option maxHeartbeats 4000000
namespace L2
open PySem PySem.Spec PyProof.Rows
section
variable {X : Cx}
def vJ (K : PySem.W.Frag) : List V -> Hp -> VK -> Prop:=fun xs H Q => ∃ (a : Addr) (ns : List Int),xs = [.ref a] /\ SqL K H a (ns.map V.int) /\ ns ≠ [] /\ ∀ M,M ∈ ns -> (∀ z ∈ ns,z <= M) -> Q (.int M) H
theorem qF (hc : X.calm = true) : c7 X (.builtin "max") (vJ X.K):=by
 intro pins s σ H xs us Q I r h
 obtain ⟨a,ns,rfl,hS,h0,h1⟩:=h
 obtain ⟨u,rfl,ru⟩:=r.one
 cases (show u = Value.ref a from ru)
 obtain ⟨its,rv,ht,hz⟩:=I.list hS
 have hlen:=rv.length
 rw [List.length_map] at hlen
 have hn' : 0 < ns.length:=List.length_pos_iff.mpr h0
 have hlt : a < s.heap.objs.size:=by obtain ⟨_,e,_⟩:=ht.isList; exact Heap.lt_size e
 refine call_max_walk (wpAny_pyIter_list ht.isList ?_)
 have W:=Walks.list (prog:=X.prog) (w:=X.w) (A:=X.A.in1) (I.ok.hd hc) s.heap.objs.size a (Nat.ne_of_lt hlt) its.toArray
 have hval : ∀ (i : Nat) (v : Value),its.toArray[i]? = some v -> ∃ t,v = .int (ns.getD i 0) t:=fun i v e => by
  have e' : its[i]? = some v:=by simpa using e
  have hi : i < ns.length:=by rw [hlen]; exact (List.getElem?_eq_some_iff.mp e').1
  obtain ⟨u,hu,ru⟩:=rv.get (i:=i) (x:=.int ns[i]) (by simp [hi])
  rw [e'] at hu
  cases hu
  obtain ⟨t,rfl⟩:=ru
  exact ⟨t,by simp [hi]⟩
 refine ⟨_,_,_,_,_,_,_,rfl,W,⟨⟨_,Heap.get?_push_size _ rfl,rfl,rfl⟩,ht.isList.push _⟩,fun b hb => ?_,by simp; omega,CmpOf.ints_gt (fun i => ns.getD i 0) hval,fun v h' tk hP hk => ?_⟩
 ·show b < (s.heap.push _).objs.size
  rw [Heap.size_push]
  rcases List.mem_cons.mp hb with rfl | hb
  ·exact Nat.lt_succ_self _
  ·rw [List.mem_singleton.mp hb]; exact Nat.lt_succ_of_lt hlt
 ·have I1 : Inv X pins σ H { s with heap:=h',toks:=tk }:=I.kept (t' := tk) fun b o e => hk b o (fun hm => by
   rw [List.mem_singleton.mp hm] at e
   exact Nat.lt_irrefl _ (Heap.lt_size e)) (Heap.get?_push_of_some _ e)
  obtain ⟨t,rfl⟩:=hval _ v hP
  have hb:=argBest_gt (fun i => ns.getD i 0) (its.toArray.size - 1)
  have hj : argBest (fun i j => decide (ns.getD i 0 > ns.getD j 0)) (its.toArray.size - 1) < ns.length:=by
   have:=hb.1
   rw [List.size_toArray] at this ⊢
   omega
  refine ⟨.int _,H,I1,⟨t,rfl⟩,h1 _ ?_ fun z hzm => ?_⟩
  ·rw [List.getD_eq_getElem?_getD,List.getElem?_eq_getElem hj,Option.getD_some]; exact List.getElem_mem hj
  ·obtain ⟨i,hi,rfl⟩:=List.getElem_of_mem hzm
   have:=hb.2 i (by rw [List.size_toArray]; omega)
   simpa [List.getD_eq_getElem?_getD,List.getElem?_eq_getElem hi] using this
end
end L2
set_option Elab.async false
set_option linter.all false
set_option maxRecDepth 100000
set_option maxHeartbeats 4000000
namespace L2
open PySem PySem.Spec PyProof.Rows
theorem jF : ∀ {ns : List Str} {us : List Value},Vals (ns.map V.str) us -> StrsAre us ns
 | [],_,h => by cases h; exact .nil
 | n :: ns,_,h => by
  cases h with
  | cons r t =>
   obtain ⟨tk,rfl⟩:=r
   exact .cons n tk (jF t)
theorem ou : ∀ {ns : List Str} {us : List Value},StrsAre us ns -> Vals (ns.map V.str) us
 | _,_,.nil => .nil
 | _,_,.cons n t r => .cons ⟨t,rfl⟩ (ou r)
section
variable {X : Cx}
theorem qm : OpR X (binaryOp .Mult) (fun x y H Q => ∃ z n,x = .str z /\ y = .int n /\ MulOk z n /\ Q (.str (Txt.mul z n)) H):=by
 intro pins s σ H x y v u Q I rx ry h
 obtain ⟨z,n,rfl,rfl,ok,q⟩:=h
 obtain ⟨t,rfl⟩:=rx
 obtain ⟨t',rfl⟩:=ry
 exact SB.mul ok fun t' k => ⟨.str _,H,I.tok _,⟨_,rfl⟩,q⟩
def rJoin : V -> List V -> Hp -> VK -> Prop:=fun x vs H Q => ∃ (z : Str) (l : Addr) (ys : List Str),x = .str z /\ vs = [.ref l] /\ H l = some (.lst (ys.map V.str)) /\ (ys.map (·.length)).sum + ys.length * z.length <= 16777216 /\ Q (.str (Txt.join z ys)) H
theorem ua : MtM X "str.join" rJoin:=by
 intro pins s σ H x vs v us Q I rx rv h
 obtain ⟨z,l,ys,rfl,rfl,hH,ok,q⟩:=h
 obtain ⟨t,rfl⟩:=rx
 obtain ⟨u,rfl,ru⟩:=rv.one
 cases ru
 obtain ⟨zz,its,n,r,hl,e⟩:=I.lstM hH
 exact join_list ⟨_,e,rfl,n,rfl⟩ (by simpa using jF r) ok fun t' k => ⟨.str _,H,I.tok _,⟨_,rfl⟩,q⟩
end
section
variable {X : Cx} {e v1 v2 : Expr} {es rest : List Expr} {pos : Pos} {n : Nat}
end
theorem tT (x : Str) : Str.empty ++ x = x:=by
 show Str.mk (#[] ++ x.cps) = x
 rw [Array.empty_append]
end L2
set_option Elab.async false
set_option linter.all false
set_option maxRecDepth 100000
set_option maxHeartbeats 4000000
namespace L2
open PySem PySem.Spec PyProof.Rows
def bc (val : Nat -> Str) (i : Nat) : List Str:=((List.range i).map val).foldl step_dedup []
theorem fe (val : Nat -> Str) (i : Nat) : bc val (i + 1) = step_dedup (bc val i) (val i):=by
 unfold bc; rw [List.range_succ,List.map_append,List.foldl_append]; rfl
theorem oO (s : List Str) (v : Str) : (step_dedup s v).length <= s.length + 1:=by
 unfold step_dedup
 split
 ·omega
 ·rw [List.length_append]; exact Nat.le_refl _
theorem cI (val : Nat -> Str) : ∀ i,(bc val i).length <= i
 | 0 => Nat.le_refl _
 | i + 1 => by
  rw [fe]
  have:=cI val i
  have:=oO (bc val i) (val i)
  omega
theorem StrsAre.str_at : ∀ {vs : List Value} {ns : List Str},StrsAre vs ns -> ∀ (i : Nat) (v : Value),vs[i]? = some v -> ∃ t,v = .str (ns.getD i Str.empty) t
 | _,_,.nil,i,v,h => by simp at h
 | _,_,.cons y t r,0,v,h => ⟨t,(Option.some.inj h).symm⟩
 | _,_,.cons y t r,i + 1,v,h => by
  obtain ⟨t',e⟩:=StrsAre.str_at r i v (by simpa using h)
  exact ⟨t',by simpa using e⟩
theorem StrsAre.lengthS : ∀ {vs : List Value} {ns : List Str},StrsAre vs ns -> vs.length = ns.length
 | _,_,.nil => rfl
 | _,_,.cons _ _ r => by simp [StrsAre.lengthS r]
def leS (a b : Str) : Prop := ¬ b.cps.toList < a.cps.toList
theorem leS.trans {a b c : Str} (h : leS a b) (h' : leS b c) : leS a c:=List.not_lt.mpr (List.le_trans (List.not_lt.mp h) (List.not_lt.mp h'))
theorem kJ : ∀ (l : List Str) (p : Str),risingS p l = true -> (p :: l).Pairwise leS
 | [],p,_ => List.pairwise_singleton ..
 | x :: r,p,h => by
  have h' : (!ltCps x.cps.toList p.cps.toList && risingS x r) = true:=h
  obtain ⟨h1,h2⟩:=Bool.and_eq_true_iff.mp h'
  have px : leS p x:=by
   intro z
   rw [ltCps_eq,decide_eq_true z] at h1
   cases h1
  have ih:=kJ r x h2
  refine List.pairwise_cons.mpr ⟨fun y hy => ?_,ih⟩
  rcases List.mem_cons.mp hy with z | z
  ·rw [z]; exact px
  ·exact px.trans ((List.pairwise_cons.mp ih).1 y z)
theorem rj : ∀ (l : List Str),sortedS l = true -> l.Pairwise leS
 | [],_ => List.Pairwise.nil
 | x :: r,h => kJ r x h
theorem iU {prog : Program} {w : World} {A : Around} {E : Value -> Shared -> Prop} {s : Shared} {a : Addr} {vs : List Value} {ss : List Str} {n : Nat} {P : Fin -> Shared -> Prop} (ho : s.heap.get? a = some (seqObj "list" vs.toArray n)) (hS : StrsAre vs ss) (h64 : vs.length < 64)
  (h : ∀ (out : Array Value) (ss' : List Str),StrsAre out.toList ss' -> ss'.Perm ss -> ss'.Pairwise leS -> P (.done (.ret .none)) { s with heap:=sortedHeap s.heap a vs out }) : wpAny (model prog w) A (Builtin.«list.sort» ⟨[.ref a],[]⟩) P E s:=
 list_sort_treeK strKind_oneLt ho hS.keysOf (fun v₁ v₂ rest e => keyKind_strs (by rw [<- e]; exact hS)) h64 fun st' hp hs => by
  obtain ⟨ss',h1,h2,h3⟩:=sorted_out_str hS hp hs
  exact h _ ss' h1 h2 (rj _ h3)
def SetWS (P : Program) (w : World) (h : Heap) (a : Addr) (ns : List Str) : Prop:=
 ∃ o es ep t,h.get? a = some o /\ o.ExactSet /\ o.data = .set es ep t /\ ElemsOf (PySem.strKind P w) es.toList /\ (∀ e ∈ es.toList,∃ n u,e.2 = .str n u) /\ (es.toList.map fun e => strOf e.2).Perm ns /\ es.size < scanBound /\ t.fits es.size = true /\ TabOk t (!byT w)
theorem SetWS.keep {P : Program} {w : World} {h h' : Heap} {a : Addr} {ns : List Str} (x : SetWS P w h a ns) (k : ∀ o,h.get? a = some o -> h'.get? a = some o) : SetWS P w h' a ns:=by
 obtain ⟨o,es,ep,t,ho,r⟩:=x
 exact ⟨o,es,ep,t,k o ho,r⟩
section
variable {P : Program} {w : World} {A : Around} {E : Value -> Shared -> Prop} {s : Shared}
theorem qa {k n : Str} {u : Tok} : (PySem.strKind P w).is k (.str n u) = decide (k = n):=KeyKind.is_eq_decide (strKind_is P w n u) k
theorem qx {h : Heap} {a : Addr} {o : Obj} {es es' : Array (Int × Value)} {ep : Nat} {t t' : SetTable} {ns : List Str} (ho : h.get? a = some o) (hex : o.ExactSet) (hd : o.data = .set es ep t) (hel : ElemsOf (PySem.strKind P w) es'.toList)
  (hi : ∀ e ∈ es'.toList,∃ n u,e.2 = .str n u) (hp : (es'.toList.map fun e => strOf e.2).Perm ns) (hb : es'.size < scanBound) (hf : t'.fits es'.size = true) (hk : TabOk t' (!byT w)) :
  (h.update a (Obj.putSet es' t')).get? a = some { o with data:=.set es' (ep + 1) t' } /\ SetWS P w (h.update a (Obj.putSet es' t')) a ns:=by
 have hg : (h.update a (Obj.putSet es' t')).get? a = some { o with data:=.set es' (ep + 1) t' }:=by
  have q:=Heap.get?_update_self (Obj.putSet es' t') ho (by rw [putSet_of es' t' hd]; rfl)
  rw [putSet_of es' t' hd] at q
  exact q
 exact ⟨hg,_,es',ep + 1,t',hg,hex,rfl,hel,hi,hp,hb,hf,hk⟩
theorem mZ {g : Bool -> Sem Unit} (hg : ∀ (b : Bool) (s₁ : Shared) (Q' : Unit -> Shared -> Prop),Q' () s₁ -> wpAny (model P w) A (g b) Q' E s₁) {a : Addr} {o : Obj} {es es1 : Array (Int × Value)} {ep : Nat} {t t2 : SetTable} {ns : List Str} {R : Option Bool -> Shared -> Prop} {wd : Bool}
  (ho : s.heap.get? a = some o) (hex : o.ExactSet) (hd : o.data = .set es ep t) (hel : ElemsOf (PySem.strKind P w) es1.toList) (hi : ∀ e ∈ es1.toList,∃ n u,e.2 = .str n u) (hp : (es1.toList.map fun e => strOf e.2).Perm ns) (hb : es1.size < scanBound)
  (hf : t2.fits es1.size = true) (hk : TabOk t2 (!byT w)) (h : ∀ h',Heap.SameBut a s.heap h' -> SetWS P w h' a ns -> R (some true) { s with heap:=h' }) :
  wpAny (model P w) A (do
    storeSet a es1 t2
    if (!wd && t2.tooFull) = true then do
      g (relayAll t2 es1 (SetTable.grown es1.size)).2.2
      storeSet a (relayAll t2 es1 (SetTable.grown es1.size)).1 (relayAll t2 es1 (SetTable.grown es1.size)).2.1
      pure (some true)
     else pure (some true)) R E s:=by
 refine wpAny_bind (wpAny_storeSet_of ho hd ?_ (fits_of_scanBound hb))
 obtain ⟨ho1,hS1⟩:=qx (P:=P) (w:=w) ho hex hd hel hi hp hb hf hk
 have sb1:=Heap.SameBut.update s.heap a (Obj.putSet es1 t2)
 split
 ·have rp:=relayAll_perm t2 es1 (SetTable.grown es1.size)
  have rf:=relayAll_fits t2 es1 (SetTable.grown es1.size)
  have rt:=mC hk es1 (SetTable.grown es1.size)
  generalize relayAll t2 es1 (SetTable.grown es1.size) = Rl at rp rf rt ⊢
  obtain ⟨es2,t3,gave⟩:=Rl
  dsimp only at rp rf rt ⊢
  have sz : es2.size = es1.size:=by rw [<- Array.length_toList,rp.length_eq,Array.length_toList]
  have hb2 : es2.size < scanBound:=by rw [sz]; exact hb
  refine wpAny_bind (hg _ _ _ ?_)
  refine wpAny_bind (wpAny_storeSet_of ho1 rfl ?_ (fits_of_scanBound hb2))
  obtain ⟨_,hS2⟩:=qx (P:=P) (w:=w) (ns:=ns) ho1 hex rfl (hel.perm rp) (fun e he => hi e (rp.mem_iff.mp he)) ((rp.map _).trans hp) hb2 rf rt
  exact wpAny_pure (h _ (sb1.trans (Heap.SameBut.update _ a _)) hS2)
 ·exact wpAny_pure (h _ sb1 hS1)
theorem oi {a : Addr} {ns : List Str} {k : Str} {u : Tok} {Q : Bool -> Shared -> Prop} (hS : SetWS P w s.heap a ns) (hroom : ns.length + 1 < scanBound)
  (h : ∀ h' b,Heap.SameBut a s.heap h' -> SetWS P w h' a (step_dedup ns k) -> Q b { s with heap:=h' }) : wpAny (model P w) A (setAddHashed a (.str k u) ((PySem.strKind P w).hash k)) Q E s:=by
 obtain ⟨o,es,ep,t,ho,hex,hd,hel,hi,hp,hb,hf,hk⟩:=hS
 have hsz : es.size = ns.length:=by rw [<- hp.length_eq,List.length_map,Array.length_toList]
 have mem : ∀ z : Str,z ∈ ns ↔ ∃ e ∈ es.toList,(PySem.strKind P w).is z e.2 = true:=fun z => by
  rw [<- hp.mem_iff,List.mem_map]
  constructor
  ·rintro ⟨e,he,rfl⟩
   obtain ⟨n,v,e2⟩:=hi e he
   exact ⟨e,he,by rw [e2,qa]; simp [strOf]⟩
  ·rintro ⟨e,he,q⟩
   obtain ⟨n,v,e2⟩:=hi e he
   rw [e2,qa] at q
   exact ⟨e,he,by rw [e2]; exact (of_decide_eq_true q).symm⟩
 unfold setAddHashed setAddHashedIn
 refine wpAny_holding (wpAny_bind (wpAny_setState_of ho hd hf ?_))
 dsimp only
 rw [byScan_of (x:=.str k u) rfl hb hel]
 simp only [↓reduceIte]
 unfold setAddByScan
 refine wpAny_bind (wpAny_bind (wpAny_rule ?_))
 refine wpAny_bind (wpAny_setScan_of (strKind_is P w k u) ho hd hf hel ?_)
 cases hr : List.findIdx? (fun e => (PySem.strKind P w).is k e.2) es.toList with
 | some j =>
  dsimp only
  obtain ⟨hj,pj,_⟩:=List.findIdx?_eq_some_iff_getElem.mp hr
  have kin : k ∈ ns:=(mem k).mpr ⟨es.toList[j],List.getElem_mem hj,pj⟩
  refine wpAny_pure (wpAny_pure ?_)
  have q:=h s.heap false (Heap.SameBut.refl a s.heap) ⟨o,es,ep,t,ho,hex,hd,hel,hi,by
   unfold step_dedup
   rw [if_pos (by simpa using kin)]
   exact hp,hb,hf,hk⟩
  cases s
  exact q
 | none =>
  dsimp only
  have nin : k ∉ ns:=fun z => by
   obtain ⟨e,he,q⟩:=(mem k).mp z
   have:=List.findIdx?_eq_none_iff.mp hr e he
   rw [q] at this
   cases this
  have gw : ∀ (b : Bool) (s₁ : Shared) (Q' : Unit -> Shared -> Prop),Q' () s₁ -> wpAny (model P w) A (match b with | true => rule "set.scan.the-table-gave-way" | false => pure ()) Q' E s₁:=fun b s₁ Q' q => by
   cases b
   ·exact wpAny_pure q
   ·exact wpAny_rule q
  have lp:=layNew_perm t es ((PySem.strKind P w).hash k) (.str k u)
  have lf:=layNew_fits t es ((PySem.strKind P w).hash k) (.str k u)
  have lt:=o4 hk es ((PySem.strKind P w).hash k) (.str k u)
  generalize layNew t es ((PySem.strKind P w).hash k) (.str k u) = L at lp lf lt ⊢
  obtain ⟨es1,t1,wd,gave⟩:=L
  dsimp only at lp lf lt ⊢
  rw [Array.toList_push] at lp
  have hel1 : ElemsOf (PySem.strKind P w) es1.toList:=(hel.push (strKind_is P w k u) rfl).perm lp
  have hi1 : ∀ e ∈ es1.toList,∃ n v,e.2 = .str n v:=fun e he => by
   rcases List.mem_append.mp (lp.mem_iff.mp he) with z | z
   ·exact hi e z
   ·rw [List.mem_singleton.mp z]; exact ⟨k,u,rfl⟩
  have hp1 : (es1.toList.map fun e => strOf e.2).Perm (step_dedup ns k):=by
   unfold step_dedup
   rw [if_neg (by simpa using nin)]
   refine (lp.map _).trans ?_
   rw [List.map_append]
   exact hp.append (List.Perm.refl _)
  have hb1 : es1.size < scanBound:=by rw [<- Array.length_toList,lp.length_eq,List.length_append,Array.length_toList,hsz]; exact hroom
  refine wpAny_bind (gw _ _ _ ?_)
  split
  ·refine wpAny_bind ?_
   rw [hashByValue_scannable 8 (x:=.str k u) rfl]
   refine wpAny_pure ?_
   exact mZ (fun b s₁ Q' q => gw b s₁ Q' q) ho hex hd hel1 hi1 hp1 hb1 (by split <;> first | exact lf | exact SetTable.fits_plain_off lf) (by split <;> first | exact lt | exact ⟨lt.1,lt.2,lt.3⟩) fun h' sb S => wpAny_pure (h h' true sb S)
  ·refine wpAny_bind (wpAny_pure ?_)
   simp only [↓reduceIte]
   exact mZ (fun b s₁ Q' q => gw b s₁ Q' q) ho hex hd hel1 hi1 hp1 hb1 lf lt fun h' sb S => wpAny_pure (h h' true sb S)
end
section
variable {P : Program} {w : World} {A : Around} {E : Value -> Shared -> Prop} {R : Result -> Shared -> Prop} {I : Addr} {fp wr : List Addr} {G : Array GenState -> Array GenState -> Prop} {n : Nat} {Pz : Nat -> Value -> Prop} {St : Nat -> Shared -> Prop}
theorem kj (W : WalksS P w A.in1 I fp wr G n Pz St) (S : Addr) (hSf : S ∉ fp) (val : Nat -> Str) (hval : ∀ i v,Pz i v -> ∃ t,v = .str (val i) t) (hb : n + 1 < scanBound) :
  ∀ (k i : Nat) (s : Shared),n - i = k -> i <= n -> St i s -> SetWS P w s.heap S (bc val i) -> (∀ s',Moved (S :: wr) G s s' -> SetWS P w s'.heap S (bc val n) -> R (.ok (.ret .none)) s') ->
   codeAny (model P w) A (.builtin "set.update.loop" ⟨[.ref S,.ref I],[]⟩) R s:=by
 have nw : S ∉ wr:=fun z => hSf (W.sub _ z)
 have up : ∀ b ∈ wr,b ∈ S :: wr:=fun b z => List.mem_cons_of_mem _ z
 intro k
 induction k with
 | zero =>
  intro i s hk hi hst hS hR
  obtain rfl : i = n:=by omega
  refine codeAny_builtin F.entry_set_update_loop ?_
  rw [Around.under_plainId F.plain_set_update_loop _]
  refine wpAny_bind (m:=pyNext (.ref I)) (W.done s _ _ hst fun s' hm => ?_)
  exact wpAny_pure (hR s' (hm.mono up) (hS.keep fun o q => hm.heap S o nw q))
 | succ k ih =>
  intro i s hk hi hst hS hR
  have hlt : i < n:=by omega
  refine codeAny_builtin F.entry_set_update_loop ?_
  rw [Around.under_plainId F.plain_set_update_loop _]
  refine wpAny_bind (m:=pyNext (.ref I)) (W.item i s _ _ hlt hst fun v s' hP hst' hm => ?_)
  obtain ⟨t,rfl⟩:=hval i v hP
  have hS' : SetWS P w s'.heap S (bc val i):=hS.keep fun o q => hm.heap S o nw q
  refine wpAny_bind (m:=holding [Value.str (val i) t] (setAdd S (.str (val i) t))) (wpAny_holding ?_)
  unfold setAdd
  refine wpAny_holding (wpAny_bind ((PySem.strKind P w).pyHash (k:=val i) (strKind_is _ _ _ _) ?_))
  have room : (bc val i).length + 1 < scanBound:=by
   have:=cI val i
   omega
  refine oi (s:={ s' with toks:=s'.toks + 1 }) hS' room fun h' b sb S2 => ?_
  rw [<- fe] at S2
  refine wpAny_pure ⟨plainId_quiet F.plain_set_update_loop _,ih (i + 1) _ (by omega) hlt (W.frame _ s' _ _ hst' (Nat.le_succ _) fun b hb o e => ?_) S2 fun s2 m2 S3 => ?_⟩
  ·rw [sb.2 b (fun z : b = S => hSf (z ▸ hb))]; exact e
  ·refine hR s2 (Moved.trans W.gtrans ((hm.mono up).then_heap (Nat.le_succ _) fun b o hb e => ?_) m2) S3
   rw [sb.2 b (fun z : b = S => hb (by rw [z]; exact List.mem_cons_self))]; exact e
end
section
variable {P : Program} {w : World} {A : Around} {E : Value -> Shared -> Prop} {s : Shared}
theorem vD (h : Heap) (hg : h.get? a = some (bI w)) : SetWS P w h a []:=
 ⟨_,#[],0,_,hg,⟨rfl,rfl,rfl⟩,rfl,(fun e he => by cases he),(fun e he => by cases he),List.Perm.refl _,by decide,rfl,⟨List.Pairwise.nil,rfl,rfl⟩⟩
set_option maxHeartbeats 3200000 in
theorem oD {l : Addr} {items : Array Value} {ns : List Str} {Q : Value -> Shared -> Prop} (hh : A.handled = none) (hl : s.heap.IsList l items) (hi : StrsAre items.toList ns) (hb : items.size + 1 < scanBound)
  (h : ∀ (h' : Heap) (tk : Nat),SetWS P w h' s.heap.objs.size (bc (fun i => ns.getD i Str.empty) items.size) -> (∀ b o,b < s.heap.objs.size -> s.heap.get? b = some o -> h'.get? b = some o) -> Q (.ref s.heap.objs.size) { s with heap:=h',toks:=tk }) :
  wpAny (model P w) A (call (.type "set") [.ref l]) Q E s:=by
 obtain ⟨c,tl,hmro⟩:=F.called_set.mro
 have hmade:=F.called_set.made
 have hsub:=F.called_set.sub
 refine wpAny_call (codeAny_of_tree ?_)
 show wpAny _ _ (callAny (.type "set") _) _ _ _
 refine wpAny_pure ⟨Code.quiet_builtin _ (by decide +kernel),codeAny_builtin F.entry_type_call ?_⟩
 rw [Around.under_plain (weight_type_call_type "set" [.ref l] []) rfl]
 have h1:=F.called_set.notType
 have h2:=F.called_set.canCreate
 have hct:=F.typeCall_set_1 (.ref l)
 repeat (any_goals (first | assumption | wp_step))
 refine codeAny_mono (qJ (.ref l) (E:=E) (Q₁:=fun obj s₁ => obj = .ref s.heap.objs.size /\ s₁ = { s with heap:=s.heap.push (bI w) }) ⟨rfl,rfl⟩) fun r s₁ hr => ?_
 cases r with
 | error e => exact hr
 | ok fl =>
  cases fl with
  | ret obj =>
   obtain ⟨rfl,rfl⟩:=hr
   have hS : (s.heap.push (bI w)).get? s.heap.objs.size = some (bI w):=Heap.get?_push_size _ rfl
   have hT : Shared.TypeIs { s with heap:=s.heap.push (bI w) } (.ref s.heap.objs.size) "set" := ⟨_,hS,rfl⟩
   have hli:=F.called_set.init.lookup
   have hbi:=F.called_set.init.bind (.ref s.heap.objs.size)
   repeat (any_goals (first | assumption | wp_step))
   refine codeAny_mono (codeAny_call_builtin (R:=wants (fun r s₂ => r = .none /\ ∃ h' tk,s₂ = { s with heap:=h',toks:=tk } /\ SetWS P w h' s.heap.objs.size (bc (fun i => ns.getD i Str.empty) items.size) /\
     (∀ b o,b < s.heap.objs.size -> s.heap.get? b = some o -> h'.get? b = some o)) E) F.called_set.init.plain F.entry_set_init (check_set_init_1 hT ?_)) fun r₂ s₂ hr₂ => ?_
   ·obtain ⟨ol,hol,hcl,nl,hdl⟩:=hl
    obtain ⟨ocls,odict,odata,oslots⟩:=ol
    simp only at hcl hdl
    subst hcl; subst hdl
    have hol' : (s.heap.push (bI w)).get? l = some { cls:=.type "list",dict:=odict,data:=.seq items nl,slots:=oslots }:=Heap.get?_push_of_some _ hol
    have hsls:=F.sub_list_set
    have hslf:=F.sub_list_frozenset
    have hl1 : (s.heap.push (bI w)).IsList l items:=⟨_,hol',rfl,nl,rfl⟩
    have hne : (Value.type "list" == Value.type "dict") = false:=by decide
    have hS0 : (s.heap.push (bI w)).get? s.heap.objs.size = some { cls:=.type "set",dict:=none,data:=.set #[] 0 (.fresh 0 0 (!byT w)) }:=hS
    unfold Builtin.«set.__init__» noKeywords Builtin.Frozenset.updateFrom
    generalize hPI : pyIter = PI
    wp_walk
    subst hPI
    refine wpAny_pyIter_list hl1 (wpAny_bind (wpAny_runValue ?_))
    have hlS : l < s.heap.objs.size:=Heap.lt_size hol
    have hh3 : A.in1.in1.in1.handled = none:=by simp [hh]
    have neI : l ≠ (s.heap.push (bI w)).objs.size:=by rw [Heap.size_push]; exact Nat.ne_of_lt (Nat.lt_succ_of_lt hlS)
    have nS : s.heap.objs.size ∉ [(s.heap.push (bI w)).objs.size,l]:=by
     rw [Heap.size_push]
     simp only [List.mem_cons,List.mem_singleton,List.not_mem_nil,or_false,not_or]
     exact ⟨Nat.ne_of_lt (Nat.lt_succ_self _),Nat.ne_of_gt hlS⟩
    refine kj ((Walks.list hh3 _ l neI items).toS) s.heap.objs.size nS (fun i => ns.getD i Str.empty) (fun i v hv => StrsAre.str_at hi i v (by rw [Array.getElem?_toList]; exact hv)) hb (items.size - 0) 0 _ (by omega) (Nat.zero_le _)
     ⟨⟨_,Heap.get?_push_size _ rfl,rfl,rfl⟩,(hl1.push _)⟩ ?_ ?_
    ·exact vD (w:=w) _ (Heap.get?_push_of_some _ hS)
    ·rintro ⟨h',g',d',tk',os'⟩ hm hS'
     have eg : g' = s.gens:=hm.gens
     have ed : d' = s.drawn:=hm.drawn
     have eo : os' = s.os:=hm.os
     subst eg ed eo
     refine wpAny_pure ?_
     show wpAny _ _ (ret Value.none) _ _ _
     refine wpAny_pure ⟨rfl,h',tk',rfl,hS',fun b o hb e => ?_⟩
     refine hm.heap b o ?_ (Heap.get?_push_of_some _ (Heap.get?_push_of_some _ e))
     rw [Heap.size_push]
     simp only [List.mem_cons,List.mem_singleton,List.not_mem_nil,or_false,not_or]
     exact ⟨Nat.ne_of_lt hb,Nat.ne_of_lt (Nat.lt_succ_of_lt hb)⟩
   ·cases r₂ with
    | error e => exact hr₂
    | ok fl₂ =>
     cases fl₂ with
     | ret r =>
      obtain ⟨rfl,h',tk,rfl,hS',hk'⟩:=hr₂
      repeat (any_goals (first | assumption | wp_step))
      exact h _ _ hS' hk'
     | next => exact hr₂
     | brk => exact hr₂
     | cont => exact hr₂
  | next => exact hr
  | brk => exact hr
  | cont => exact hr
end
section
variable {P : Program} {w : World} {A : Around} {E : Value -> Shared -> Prop} {s : Shared} {S : Addr} {ns : List Str}
theorem qK {Q : List Value -> Shared -> Prop} (hh : A.handled = none) (hS : SetWS P w s.heap S ns)
  (hQ : ∀ (vs : List Value) (ms : List Str) (h' : Heap) (d' : Drawn) (tk : Nat),StrsAre vs ms -> ms.Perm ns -> (∀ b u,s.heap.get? b = some u -> h'.get? b = some u) -> s.heap.objs.size <= h'.objs.size -> Q vs { s with heap:=h',drawn:=d',toks:=tk }) :
  wpAny (model P w) A (collect (.ref S)) Q E s:=by
 obtain ⟨o,es,ep,t,ho,hex,hd,hel,hi,hp,hb,hf,hk⟩:=hS
 have hSl : S < s.heap.objs.size:=Heap.lt_size ho
 unfold collect
 refine wpAny_bind (wpAny_runValue (codeAny_builtin F.entry_proto_collect ?_))
 rw [Around.under_plainId F.plain_proto_collect _]
 show wpAny _ A.in1 (newList [] >>= fun l => again (.builtin "list.__iadd__" ⟨[l,.ref S],[]⟩)) _ _ s
 refine wpAny_bind (wpAny_newObj_type ?_)
 refine wpAny_pure ⟨plainId_quiet F.plain_list_iadd _,codeAny_builtin F.entry_list_iadd ?_⟩
 rw [Around.under_plainId F.plain_list_iadd _]
 generalize hN : ({ cls:=.type "list",data:=.seq ([] : List Value).toArray } : Obj) = oN
 have ho1 : (s.heap.push oN).get? S = some o:=Heap.get?_push_of_some _ ho
 have hN1 : (s.heap.push oN).get? s.heap.objs.size = some oN:=Heap.get?_push_size _ (by rw [<- hN]; rfl)
 have ne : s.heap.objs.size ≠ S:=Nat.ne_of_gt hSl
 have hT : (⟨s.heap.push oN,s.gens,s.drawn,s.toks,s.os⟩ : Shared).TypeIs (.ref S) "set" := ⟨o,ho1,hex.1⟩
 show wpAny _ A.in1 (Builtin.List.listExtendWith (.ref s.heap.objs.size) (.ref S) (.ref s.heap.objs.size)) _ _ ⟨s.heap.push oN,s.gens,s.drawn,s.toks,s.os⟩
 unfold Builtin.List.listExtendWith
 refine wpAny_bind (wpAny_typeOf hT ?_)
 rw [if_neg (by
  have h1 : Builtin.List.listSameRef (.ref s.heap.objs.size) (.ref S) = false:=by simp [Builtin.List.listSameRef,ne]
  rw [h1]
  decide)]
 refine wpAny_bind (vA ho1 hex hd hb hf hk fun h1 d1 I T L pL st keep hI1 hI2 hTI hT2 => ?_)
 have ho2 : h1.get? S = some o:=keep S o ho1
 have hT2' : (⟨h1,s.gens,d1,s.toks,s.os⟩ : Shared).TypeIs (.ref S) "set" := ⟨o,ho2,hex.1⟩
 refine wpAny_bind (wpAny_holding ?_)
 unfold Builtin.List.listLengthHint
 refine wpAny_bind (wpAny_specialOf hT2' F.slot_set_len.lookup ?_)
 (generalize hid : ("set.__len__" : String) = id0; wp_delta; rw [show splitId id0 = some ("set","__len__") from by subst hid; decide +kernel]; subst hid)
 refine wpAny_bind (wpAny_isInstance (b:=true) hT2' sub_set_self ?_)
 show wpAny _ _ (typeOf (.ref S) >>= _) _ _ _
 refine wpAny_bind (wpAny_typeOf hT2' (wpAny_pure ?_))
 show wpAny _ A.in1 (rule "list.extend.makes-room" >>= fun _ => Builtin.List.listTouch (.ref s.heap.objs.size) >>= fun _ =>
  again (.builtin "list.extend.loop" ⟨[.ref s.heap.objs.size,.ref I,.ref s.heap.objs.size],[]⟩)) _ _ _
 refine wpAny_bind (wpAny_rule ?_)
 have hN2 : h1.get? s.heap.objs.size = some { cls:=.type "list",data:=.seq ([] : List Value).toArray }:=by rw [hN]; exact keep _ _ hN1
 refine wpAny_bind ?_
 show wpAny _ A.in1 (updateSeq s.heap.objs.size (·.push .none) >>= fun _ => updateSeq s.heap.objs.size (·.pop)) _ _ _
 refine wpAny_bind (wpAny_updateSeq hN2 rfl ?_)
 have hN3:=Heap.get?_update_self (Obj.mapSeq (·.push Value.none)) hN2 rfl
 refine wpAny_updateSeq hN3 rfl ?_
 have hN4:=Heap.get?_update_self (Obj.mapSeq (·.pop)) hN3 rfl
 have oth : ∀ b u,b ≠ s.heap.objs.size -> h1.get? b = some u -> ((h1.update s.heap.objs.size (Obj.mapSeq (·.push Value.none))).update s.heap.objs.size (Obj.mapSeq (·.pop))).get? b = some u:=
  fun b u hb q => (Heap.get?_update_other _ _ (Ne.symm hb)).trans ((Heap.get?_update_other _ _ (Ne.symm hb)).trans q)
 have lL : L.length = es.size:=by rw [pL.length_eq,List.length_map,Array.length_toList]
 have nI : s.heap.objs.size ≠ I:=by
  rw [Heap.size_push] at hI1
  exact Nat.ne_of_lt hI1
 have nT : s.heap.objs.size ≠ T:=by
  rcases hT2 with z | z
  ·rw [z]; exact ne
  ·rw [Heap.size_push] at z
   exact Nat.ne_of_lt z
 have SI : S ≠ I:=by
  rw [Heap.size_push] at hI1
  exact Nat.ne_of_lt (Nat.lt_of_lt_of_le hSl (Nat.le_trans (Nat.le_succ _) hI1))
 have W : WalksS P w A.in1 I [I,S,T] [I] (fun a b => b = a) es.size (fun i v => v = L.getD i .none) (fun i s => SetSt w es ep t S T I L i s.heap):=vX (A:=A.in1) (by simp [hh]) hf hk lL hTI SI
 have nfp : s.heap.objs.size ∉ [I,S,T]:=by
  simp only [List.mem_cons,List.not_mem_nil,or_false,not_or]
  exact ⟨nI,ne,nT⟩
 refine wpAny_pure ⟨plainId_quiet F.plain_extend_loop _,codeAny_extend_loopS W (fits_of_scanBound hb) _ nfp _ es.size 0 _ _ _ rfl (Nat.zero_le _)
  (W.frame 0 ⟨h1,s.gens,d1,s.toks,s.os⟩ _ s.toks st (Nat.le_refl _) fun b hb' u q => oth b u (fun z => nfp (z ▸ hb')) q) hN4 (ItemsOf.nil _) fun s' acc' c' hm hS' hacc => ?_⟩
 show wpAny _ A (load s.heap.objs.size >>= _) _ _ s'
 refine wpAny_bind (wpAny_load hS' (wpAny_pure ?_))
 obtain ⟨h',g',d',tk',os'⟩:=s'
 have eg : g' = s.gens:=hm.gens
 have eo : os' = s.os:=hm.os
 subst eg eo
 have eacc : acc'.toList = L:=by
  refine List.ext_getElem (by rw [Array.length_toList,hacc.1,lL]) fun i h1' h2' => ?_
  have:=hacc.2 i acc'[i] (by simp at h1'; simp [h1'])
  simp [this,h2']
 rw [eacc]
 have allI : ∀ vs : List Value,(∀ v ∈ vs,∃ n u,v = Value.str n u) -> StrsAre vs (vs.map strOf):=by
  intro vs
  induction vs with
  | nil => intro _; exact .nil
  | cons v r ih =>
   intro al
   obtain ⟨n,u,rfl⟩:=al v List.mem_cons_self
   exact .cons n u (ih fun x hx => al x (List.mem_cons_of_mem _ hx))
 refine hQ L (L.map strOf) h' d' tk' (allI L fun v hv => ?_) ?_ (fun b u q => ?_) (Nat.le_of_lt (Heap.lt_size hS'))
 ·obtain ⟨e,he,rfl⟩:=List.mem_map.mp (pL.mem_iff.mp hv)
  exact hi e he
 ·refine (pL.map _).trans ?_
  rw [List.map_map]
  exact hp
 ·have hbn : b ≠ s.heap.objs.size:=Nat.ne_of_lt (Heap.lt_size q)
  refine hm.heap b u ?_ (oth b u hbn (keep b u (Heap.get?_push_of_some _ q)))
  simp only [List.mem_cons,List.not_mem_nil,or_false,not_or]
  refine ⟨hbn,Nat.ne_of_lt (Nat.lt_of_lt_of_le (Heap.lt_size q) ?_)⟩
  rw [Heap.size_push] at hI1
  exact Nat.le_trans (Nat.le_succ _) hI1
theorem sO {Q : Value -> Shared -> Prop} (hh : A.handled = none) (hS : SetWS P w s.heap S ns) (h64 : ns.length < 64)
  (h : ∀ (l : Addr) (out : List Value) (ms : List Str) (e : Nat) (h' : Heap) (d' : Drawn) (tk : Nat),StrsAre out ms -> ms.Perm ns -> ms.Pairwise leS -> s.heap.objs.size <= l -> h'.get? l = some (seqObj "list" out.toArray e) -> (∀ b u,s.heap.get? b = some u -> h'.get? b = some u) ->
   Q (.ref l) { s with heap:=h',drawn:=d',toks:=tk }) : wpAny (model P w) A (call (.builtin "sorted") [.ref S]) Q E s:=by
 refine Calls.call_function_entry kind_sorted plain_sorted entry_sorted (args_sorted1 _) ?_
 unfold Builtin.«sorted»
 refine wpAny_bind (m:=checkCount "sorted" 1 1 _) (wpAny_pure ?_)
 refine wpAny_bind (qK (by simp [hh]) hS fun vs ms h1 d1 tk1 hI hp keep hsz1 => ?_)
 have l64 : vs.length < 64:=by
  have e1 : vs.length = ms.length:=(StrsAre.lengthS hI)
  have e2:=hp.length_eq
  omega
 refine wpAny_bind (wpAny_newList (hsz:=Nat.le_trans (Nat.le_of_lt l64) (by decide)) ?_)
 have hoL : (h1.push (seqObj "list" vs.toArray 0)).get? h1.objs.size = some (seqObj "list" vs.toArray 0):=Heap.get?_push_size _ rfl
 refine wpAny_bind (wpAny_holding (wpAny_call_entry slot_list_sort ⟨_,hoL,rfl⟩ entry_list_sort (iU hoL hI l64 fun out ns' a1 a2 a3 => ⟨_,rfl,?_⟩) (args_list_sort _)))
 obtain ⟨e,he⟩:=sortedHeap_at (vs:=vs) (out:=out) hoL
 refine wpAny_pure ⟨_,rfl,?_⟩
 refine h h1.objs.size out.toList ns' e _ d1 tk1 a1 (a2.trans hp) a3 ?_ (by simpa using he) fun b u q => ?_
 ·exact hsz1
 ·have q1:=keep b u q
  have lt:=Heap.lt_size q1
  rw [sortedHeap_old (Nat.ne_of_lt lt) (by rw [Heap.size_push]; exact Nat.lt_succ_of_lt lt)]
  exact Heap.get?_push_of_some _ q1
end
end L2
set_option Elab.async false
set_option linter.all false
set_option maxRecDepth 100000
set_option maxHeartbeats 4000000
namespace L2
open PySem PySem.Spec PyProof.Rows
abbrev cT (P : Program) (w : World) (S : Addr) (ns : List Str) : HO:=.ext fun h => SetWS P w h S ns
def bL (ns : List Str) : List Str:=ns.foldl step_dedup []
theorem jq (ns : List Str) : bc (fun i => ns.getD i Str.empty) ns.length = bL ns:=by
 unfold bc bL
 congr 1
 refine List.ext_getElem (by simp) fun i h1 h2 => ?_
 simp [List.getD,h2]
theorem oP {s : List Str} {v k : Str} : k ∈ step_dedup s v ↔ k ∈ s \/ k = v:=by
 unfold step_dedup
 split
 ·rename_i h
  have hv : v ∈ s:=by simpa using h
  exact ⟨.inl,fun z => z.elim id fun e => e ▸ hv⟩
 ·simp
theorem lF {s : List Str} {v : Str} (h : s.Nodup) : (step_dedup s v).Nodup:=by
 unfold step_dedup
 split
 ·exact h
 ·rename_i c
  have hv : v ∉ s:=by simpa using c
  exact List.nodup_append.mpr ⟨h,by simp,fun a ha b hb e => hv (by rw [<- List.mem_singleton.mp hb,<- e]; exact ha)⟩
theorem gH : ∀ (ns s : List Str) (k : Str),k ∈ ns.foldl step_dedup s ↔ k ∈ s \/ k ∈ ns
 | [],s,k => by simp
 | n :: r,s,k => by
  rw [List.foldl_cons,gH r,oP,List.mem_cons]
  constructor
  ·rintro ((h | h) | h)
   ·exact .inl h
   ·exact .inr (.inl h)
   ·exact .inr (.inr h)
  ·rintro (h | h | h)
   ·exact .inl (.inl h)
   ·exact .inl (.inr h)
   ·exact .inr h
theorem once_memS {ns : List Str} {k : Str} : k ∈ bL ns ↔ k ∈ ns:=by
 unfold bL
 rw [gH]
 simp
theorem fv : ∀ (ns s : List Str),s.Nodup -> (ns.foldl step_dedup s).Nodup
 | [],s,h => h
 | n :: r,s,h => fv r _ (lF h)
theorem fu (ns : List Str) : (bL ns).Nodup:=fv ns [] List.Pairwise.nil
theorem gG : ∀ (ns s : List Str),(ns.foldl step_dedup s).length <= s.length + ns.length
 | [],s => Nat.le_refl _
 | n :: r,s => by
  refine Nat.le_trans (gG r _) ?_
  have : (step_dedup s n).length <= s.length + 1:=by
   unfold step_dedup
   split
   ·exact Nat.le_succ _
   ·rw [List.length_append]; exact Nat.le_refl _
  rw [List.length_cons]
  omega
theorem dw (ns : List Str) : (bL ns).length <= ns.length:=by
 have q:=gG ns []
 unfold bL
 simpa using q
section
variable {X : Cx}
theorem bR (hc : X.calm = true) : c7 X (.type "set") (fun xs H Q => ∃ (a : Addr) (ns : List Str),xs = [.ref a] /\ H a = some (.lst (ns.map V.str)) /\ ns.length < 4000 /\ ∀ S,H S = none -> Q (.ref S) (upd H S (cT X.prog X.w S (bL ns)))):=by
 intro pins s σ H xs us Q I r h
 obtain ⟨a,ns,rfl,ha,hz,q⟩:=h
 obtain ⟨u,rfl,rx⟩:=vals1 r
 cases rx
 obtain ⟨_,its,n,rv,hl,e⟩:=I.lstM ha
 have hln : its.length = ns.length:=by rw [<- hl,List.length_map]
 refine oD (I.ok.hd hc) ⟨_,e,rfl,n,rfl⟩ (ns:=ns) (by simpa using jF rv) (by simp only [List.size_toArray]; unfold scanBound; omega) fun h' tk hS keep => ?_
 have k2 : ∀ b o,s.heap.get? b = some o -> h'.get? b = some o:=fun b o z => keep b o (Heap.lt_size z) z
 have hS' : SetWS X.prog X.w h' s.heap.objs.size (bL ns):=by
  simp only [List.size_toArray] at hS
  rw [hln,jq] at hS
  exact hS
 refine ⟨.ref s.heap.objs.size,_,I.laid (o:=cT X.prog X.w s.heap.objs.size (bL ns)) (t' := tk) k2 (Nat.le_refl _) (show SetWS X.prog X.w h' s.heap.objs.size (bL ns) /\ (∃ o,h'.get? s.heap.objs.size = some o) /\ ∀ h1 h2 : Heap,SetWS X.prog X.w h1 s.heap.objs.size (bL ns) -> (∀ o,h1.get? s.heap.objs.size = some o -> h2.get? s.heap.objs.size = some o) -> SetWS X.prog X.w h2 s.heap.objs.size (bL ns) from ⟨hS',?_,fun h1 h2 p kp => p.keep kp⟩),rfl,q _ (I.hok.fresh (Nat.le_refl _))⟩
 obtain ⟨o,es,ep,t,ho,_⟩:=hS'
 exact ⟨o,ho⟩
theorem bz (hc : X.calm = true) : c7 X (.builtin "sorted") (fun xs H Q => ∃ (S : Addr) (ns : List Str),xs = [.ref S] /\ H S = some (cT X.prog X.w S ns) /\ ns.length < 64 /\
  ∀ (l : Addr) (ms : List Str),H l = none -> ms.Perm ns -> ms.Pairwise leS -> Q (.ref l) (upd H l (.lst (ms.map V.str)))):=by
 intro pins s σ H xs us Q I r h
 obtain ⟨S,ns,rfl,hS,h64,q⟩:=h
 obtain ⟨u,rfl,rx⟩:=vals1 r
 cases rx
 obtain ⟨p,_,_⟩:=(show ObjOk X.prog X.w H s.heap S (cT X.prog X.w S ns) from I.hok S _ hS)
 refine sO (I.ok.hd hc) p h64 fun l out ms e h' d' tk hI hp hs hle hg keep => ?_
 have I1 : Inv X pins σ (upd H l (.lst (ms.map V.str))) { s with heap:=h',toks:=tk }:=I.laid (t' := tk) keep hle ⟨by
  rw [List.length_map,hp.length_eq]
  exact Nat.le_trans (Nat.le_of_lt h64) (by decide),out,e,ou hI,hg⟩
 exact ⟨.ref l,_,⟨I1.ok,I1.os,I1.bare,I1.base,I1.loc,I1.cell,I1.free,I1.freeC,I1.pin,I1.hok,I1.len⟩,rfl,q l ms (I.hok.fresh hle) hp hs⟩
end
end L2
set_option Elab.async false
set_option linter.all false
set_option maxRecDepth 100000
set_option maxHeartbeats 8000000
namespace My
open PySem L2
abbrev LL:=List (List Int)
abbrev LI:=List Int
abbrev OV:=Option V
theorem gi_ {α : Type} {l : List α} {i : Nat} {a : α} (h : l[i]? = some a) : ∃ h : i < l.length,l[i] = a:=List.getElem?_eq_some_iff.mp h
theorem mq_ {α : Type} {l : List α} {i : Nat} {a : α} (h : l[i]? = some a) : a ∈ l:=List.mem_of_getElem? h
theorem ma_ {α : Type} {a : α} {s t : List α} : a ∈ s ++ t ↔ a ∈ s \/ a ∈ t:=List.mem_append
theorem lm_ {α β : Type} {f : α -> β} {l : List α} : (l.map f).length = l.length:=List.length_map f
theorem qT_ {K : PySem.W.Frag} {H : Hp} {a : Addr} {xs : List V} (h : H a = some (.tup xs)) : SqT K H a xs:=SqT.of h
theorem qL_ {K : PySem.W.Frag} {H : Hp} {a : Addr} {xs : List V} (h : H a = some (.lst xs)) : SqL K H a xs:=SqL.of h
def top (i : Nat) : Stmt:=PySem.Challenge.pw_figuretell_k51_free_and_depth.main.body.getD i (.Pass ⟨0,0,0,0⟩)
abbrev eB : Stmt:=top 4
abbrev cP : Stmt:=top 5
abbrev di : Stmt:=top 6
abbrev b6 : Stmt:=top 7
abbrev bq : Stmt:=top 8
abbrev cQ : Stmt:=top 9
abbrev bF : Stmt:=top 10
abbrev bW : Stmt:=top 12
abbrev b4 : Stmt:=top 13
abbrev bX : Stmt:=top 14
abbrev cw : Stmt:=top 15
abbrev cx : Stmt:=top 16
abbrev bN : Stmt:=top 17
abbrev bg : Stmt:=top 18
abbrev cy : Stmt:=top 19
abbrev bw : Stmt:=top 20
abbrev bM : Stmt:=top 21
abbrev bO : Stmt:=top 22
abbrev bZ : Stmt:=top 23
abbrev gN : Stmt:=top 24
theorem uY {c A B : Prop} [Decidable c] (h1 : c -> A) (h2 : ¬ c -> B) : if decide c = true then A else B:=nB (fun h => h1 (of_decide_eq_true h)) fun h => h2 fun z => h (decide_eq_true z)
theorem rV {c A B : Prop} [Decidable c] (h1 : ¬ c -> A) (h2 : c -> B) : if (!decide c) = true then A else B:=nB (fun h => h1 fun z => by rw [decide_eq_true z] at h; cases h) fun h => h2 (Decidable.byContradiction fun z => h (by rw [decide_eq_false z]; rfl))
theorem qR {a b : Int} {A B : Prop} (h1 : a = b -> A) (h2 : a ≠ b -> B) : if decide (V.int a = V.int b) = true then A else B:=uY (fun h => h1 (V.int.inj h)) fun h => h2 fun z => h (congrArg V.int z)
theorem bE {a b : Int} (h : 0 < b) : 0 <= a % b /\ a % b < b:=⟨Int.emod_nonneg a (by omega),Int.emod_lt_of_pos a h⟩
theorem ck {t u : TS} {D : Ends} {σ : St} {H : Hp} (R : St -> Hp -> Prop) (h1 : ∀ σ' H',R σ' H' -> u D σ' H') (h2 : ∀ D' : Ends,(∀ σ' H',R σ' H' -> D'.nx σ' H') -> t D' σ H) : uF t u D σ H:=h2 { D with nx:=u D } h1
theorem aF {H H' : Hp} {p : Addr} {o : HO} (h : Same H H') (hp : H p = none) : Same H (upd H' p o):=fun b u e => by rw [ao (av e hp)]; exact h b u e
theorem u9 {x : Int} (h : 0 <= x) : ∃ n : Nat,x = (n : Int):=⟨x.toNat,by omega⟩
theorem getD_at {α : Type} {xs : List α} {i : Nat} {d : α} (h : i < xs.length) : xs.getD i d = xs[i]:=by simp [h]
theorem gr {ns : LI} {k : Int} (h0 : 0 <= k) (h : k < (ns.length : Int)) : atI (ns.map V.int) k = some (.int (ns.getD k.toNat 0)):=by
 have hk : k.toNat < ns.length:=by omega
 have ek : k = ((k.toNat : Nat) : Int):=by omega
 have q : atI (ns.map V.int) ((k.toNat : Nat) : Int) = some (.int ns[k.toNat]):=pY (by rw [List.getElem?_map,List.getElem?_eq_getElem hk] <;> rfl)
 rw [<- ek] at q
 rw [q,getD_at hk]
theorem iT (K : PySem.W.Frag) : PySem.W.kitOne K (.type "tuple") (.type "tuple") = some true:=by with_unfolding_all rfl
abbrev Prt:=Int × Str
inductive Stt where
 | cmp (k : Str) (a b : List Prt)
 | sg (r : Str) (a : List Prt) (s : Int)
 | lk (r : Str) (a : List Prt) (q : Str) (b : List Prt)
 | no (s : Stt)
 | jn (k : Str) (s t : Stt)
 | ch (k n : Str) (s : Stt)
def gj (i : Int) : Str:=Str.ofString (toString i)
def bp (p : Prt) : Str:=if p.2 = ("" : Str) then gj p.1 else if p.1 = 1 then p.2 else gj p.1 ++ ("*" : Str) ++ p.2
def dB (ps : List Prt) : Str:=Txt.join (" + " : Str) (ps.map bp)
def fD (r : Str) (a : List Prt) : Str:=r ++ ("[" : Str) ++ dB a ++ ("]" : Str)
def ax : Stt -> Str
 | .cmp k a b => dB a ++ ((" " : Str) ++ k ++ (" " : Str)) ++ dB b
 | .sg r a s => fD r a ++ (" = " : Str) ++ gj s
 | .lk r a q b => fD r a ++ (" = " : Str) ++ fD q b
 | .no s => ("not " : Str) ++ ax s
 | .jn k s t => ("(" : Str) ++ ax s ++ ((" " : Str) ++ k ++ (" " : Str)) ++ ax t ++ (")" : Str)
 | .ch k n s => (k ++ (" " : Str) ++ n ++ (": " : Str)) ++ ax s
def aD : Stt -> Nat
 | .cmp .. => 0
 | .sg .. => 0
 | .lk .. => 0
 | .no s => 1 + aD s
 | .jn _ s t => 1 + max (aD s) (aD t)
 | .ch _ _ s => 1 + aD s
def gp (ps : List Prt) : Prop:=ps.length <= 20 /\ ∀ p ∈ ps,(0 <= p.1 /\ p.1 < 10000000) /\ p.2.length <= 20
def Wf : Stt -> Prop
 | .cmp k a b => (k = ("=" : Str) \/ k = ("<=" : Str) \/ k = ("<" : Str)) /\ gp a /\ gp b
 | .sg r a s => r.length <= 20 /\ gp a /\ 0 <= s /\ s < 10000000
 | .lk r a q b => r.length <= 20 /\ gp a /\ q.length <= 20 /\ gp b
 | .no s => Wf s
 | .jn k s t => (k = ("and" : Str) \/ k = ("or" : Str)) /\ Wf s /\ Wf t
 | .ch k n s => (k = ("some" : Str) \/ k = ("all" : Str)) /\ n.length <= 20 /\ Wf s
def ov (H : Hp) (a : Addr) (p : Prt) : Prop:=H a = some (.tup [.int p.1,.str p.2])
def SumAt (H : Hp) (v : V) (ps : List Prt) : Prop := ∃ (a : Addr) (as : List Addr),v = .ref a /\ H a = some (.tup (as.map V.ref)) /\ Paired (ov H) as ps
def StAt (H : Hp) : V -> Stt -> Prop
 | v,.cmp k a b => ∃ (x : Addr) (va vb : V),v = .ref x /\ H x = some (.tup [.str k,va,vb]) /\ SumAt H va a /\ SumAt H vb b
 | v,.sg r a s => ∃ (x : Addr) (va : V),v = .ref x /\ H x = some (.tup [.str "is",.str r,va,.int s]) /\ SumAt H va a
 | v,.lk r a q b => ∃ (x : Addr) (va vb : V),v = .ref x /\ H x = some (.tup [.str "like",.str r,va,.str q,vb]) /\ SumAt H va a /\ SumAt H vb b
 | v,.no s => ∃ (x : Addr) (vs : V),v = .ref x /\ H x = some (.tup [.str "not",vs]) /\ StAt H vs s
 | v,.jn k s t => ∃ (x : Addr) (vs vt : V),v = .ref x /\ H x = some (.tup [.str k,vs,vt]) /\ StAt H vs s /\ StAt H vt t
 | v,.ch k n s => ∃ (x : Addr) (vs : V),v = .ref x /\ H x = some (.tup [.str k,.str n,vs]) /\ StAt H vs s
abbrev cK (H H' : Hp) : Prop := ∀ (b : Addr) (xs : List V),H b = some (.tup xs) -> H' b = some (.tup xs)
theorem tkS {H H' : Hp} (s : Same H H') : cK H H' := fun b xs e => s _ _ e
theorem SumAt.same {H H' : Hp} {v : V} {ps : List Prt} (h : SumAt H v ps) (s : cK H H') : SumAt H' v ps:=by
 obtain ⟨a,as,e,h1,h2⟩:=h
 exact ⟨a,as,e,s _ _ h1,Paired.mapP h2 fun _ _ q => s _ _ q⟩
theorem StAt.same {H H' : Hp} (s : cK H H') : ∀ {st : Stt} {v : V},StAt H v st -> StAt H' v st
 | .cmp k a b,v,⟨x,va,vb,e,h,h1,h2⟩ => ⟨x,va,vb,e,s _ _ h,h1.same s,h2.same s⟩
 | .sg r a n,v,⟨x,va,e,h,h1⟩ => ⟨x,va,e,s _ _ h,h1.same s⟩
 | .lk r a q b,v,⟨x,va,vb,e,h,h1,h2⟩ => ⟨x,va,vb,e,s _ _ h,h1.same s,h2.same s⟩
 | .no t,v,⟨x,vs,e,h,h1⟩ => ⟨x,vs,e,s _ _ h,StAt.same s h1⟩
 | .jn k t u,v,⟨x,vs,vt,e,h,h1,h2⟩ => ⟨x,vs,vt,e,s _ _ h,StAt.same s h1,StAt.same s h2⟩
 | .ch k n t,v,⟨x,vs,e,h,h1⟩ => ⟨x,vs,e,s _ _ h,StAt.same s h1⟩
theorem len_app (a b : Str) : (a ++ b).length = a.length + b.length:=strLen_append a b
theorem gF {i : Int} (h0 : 0 <= i) (h1 : i < 10000000) : (gj i).length <= 20 /\ i.natAbs.log2 < 1920:=by
 have hn : i.natAbs < 10 ^ 8:=by omega
 constructor
 ·have q:=int_text_length_le10 (a:=i) (k:=8) (by decide) hn
  unfold gj
  rw [ofString_length]
  omega
 ·rcases Nat.eq_zero_or_pos i.natAbs with z | z
  ·rw [z]; decide
  ·exact (Nat.log2_lt (by omega)).mpr (Nat.lt_trans hn (by decide))
theorem kH {p : Prt} (h : (0 <= p.1 /\ p.1 < 10000000) /\ p.2.length <= 20) : (bp p).length <= 41:=by
 have n:=(gF h.1.1 h.1.2).1
 unfold bp
 split
 ·omega
 ·split
  ·omega
  ·rw [len_app,len_app]
   have : (("*" : Str)).length = 1:=by decide
   omega
theorem pO {B : Nat} : ∀ (xs : List Nat),(∀ x ∈ xs,x <= B) -> xs.sum <= xs.length * B
 | [],_ => Nat.zero_le _
 | x :: r,h => by
  have h1:=h x List.mem_cons_self
  have h2:=pO r fun y hy => h y (List.mem_cons_of_mem _ hy)
  rw [List.sum_cons,List.length_cons,Nat.succ_mul]
  omega
theorem q9 {ps : List Prt} (h : gp ps) : ((ps.map bp).map (·.length)).sum + (ps.map bp).length * ((" + " : Str)).length <= 16777216:=by
 have l:=pO (B:=41) ((ps.map bp).map (·.length)) fun x hx => by
  obtain ⟨y,hy,rfl⟩:=List.mem_map.mp hx
  obtain ⟨p,hp,rfl⟩:=List.mem_map.mp hy
  exact kH (h.2 p hp)
 have e : ((" + " : Str)).length = 3:=by decide
 rw [lm_,lm_] at l
 rw [e,lm_]
 have:=h.1
 omega
end My
set_option Elab.async false
set_option linter.all false
set_option maxRecDepth 100000
set_option maxHeartbeats 8000000
namespace My
open PySem L2
theorem V_str {a b : Str} : (V.str a = V.str b) ↔ a = b:=⟨fun h => V.str.inj h,fun h => by rw [h]⟩
theorem qo {R : Addr -> Prt -> Prop} : ∀ {as : List Addr} {ps : List Prt} {i : Nat} {y : V},Paired R as ps -> (as.map V.ref)[i]? = some y -> ∃ (a : Addr) (p : Prt),y = .ref a /\ R a p /\ ps[i]? = some p
 | _,_,_,_,.nil,h => by simp at h
 | _,_,0,_,.cons (a:=a) (b:=p) r _,h => ⟨a,p,(Option.some.inj h).symm,r,rfl⟩
 | _,_,i + 1,_,.cons _ t,h => by
  obtain ⟨a,p,e,r,q⟩:=qo (i:=i) t (by simpa using h)
  exact ⟨a,p,e,r,by simpa using q⟩
theorem ifT {b : Bool} {A B : Prop} (h : b = true) (a : A) : if b = true then A else B:=by rw [if_pos h]; exact a
theorem ifF {b : Bool} {A B : Prop} (h : b = false) (a : B) : if b = true then A else B:=by rw [if_neg (by rw [h]; decide)]; exact a
theorem sc__law_draw : FnScope ["_law_script","_law_k","_law_cell"] ["_law_script","_law_k"] (aj bW):=⟨rfl,rfl,rfl,by decide +kernel,rfl,by decide +kernel,by decide +kernel⟩
def p6 (ns : LI) (k : Int) : Int:=if (0 : Int) < (((ns.map V.int).length : Nat) : Int) then ns.getD (k % (((ns.map V.int).length : Nat) : Int)).toNat 0 % 2147483629 + k / (((ns.map V.int).length : Nat) : Int) * 7349 + 1 else 2 * k + 1
def eY (ns : LI) (k : Int) : Int:=((p6 ns k * 48271 + k * k * 16807 + 3) % 2147483647) * ((p6 ns k * 48271 + k * k * 16807 + 3) % 2147483647) % 2147483629
theorem cC (ns : LI) (k : Int) : 0 <= eY ns k /\ eY ns k < 2147483629:=⟨Int.emod_nonneg _ (by decide),Int.emod_lt_of_pos _ (by decide)⟩
def dn (K : PySem.W.Frag) : Sp:=fun vs H Q _ => ∃ (a : Addr) (k : Int) (ns : LI),vs = [.ref a,.int k] /\ SqL K H a (ns.map V.int) /\ ns.length <= 63 /\ 0 <= k /\ k < 2147483648 /\ Q (.int (eY ns k)) H
section
variable {P : Program} {w : World} {K : PySem.W.Frag} {mg : Str -> Option Value} {base : Heap} {f : Addr} {fd : FuncData} {dV : Value}
theorem sj (F : FunD K "_law_draw" "_law_draw" bW dV f fd) (b9 : mg "len" = none) : FnOk P w K mg base CX0 1 f fd ["_law_script","_law_k"] (dn K):=by
 refine F.ok sc__law_draw (fun vs H Q E h => ?_) (fun cdv A outer s H vs Q E hr h => ?_)
 ·obtain ⟨a,k,ns,rfl,_⟩:=h
  rfl
 obtain ⟨a,k,ns,rfl,hS,h63,h0,h1,q⟩:=h
 have hl : (ns.map V.int).length = ns.length:=List.length_map _
 refine ⟨_,(aA (az (i:=2) sc__law_draw.nd rfl (Or.inl rfl) (ai bf (ai gk ae (pv 1)) ae))
   (aA (bV (aB su (aE aZ (by rfl) b9 cE (aa (pv 0) ag)) ae (aN _)) (aw (az (i:=2) sc__law_draw.nd rfl (Or.inl rfl) (ai bf (ai bf (ai aQ (aI aM (pv 0) (ai aQ (pv 1) (aE aZ (by rfl) b9 cE (aa (pv 0) ag))) (fun _ _ => rfl)) ae) (ai gk (ai ba (pv 1) (aE aZ (by rfl) b9 cE (aa (pv 0) ag))) ae)) ae))) bh)
   (aA (az (i:=2) sc__law_draw.nd rfl (Or.inl rfl) (ai aQ (ai bf (ai bf (ai gk (pv 2) ae) (ai gk (ai gk (pv 1) (pv 1)) ae)) ae) ae))
   (aw (aX (ai aQ (ai gk (pv 2) (pv 2)) ae)))))),?_⟩
 have hk : -(2 ^ 64) < k /\ k < 2 ^ 64:=⟨by omega,by omega⟩
 have hc : ∀ c : Int,-(2 ^ 64) < (c * 48271 + k * k * 16807 + 3) % 2147483647 /\ (c * 48271 + k * k * 16807 + 3) % 2147483647 < 2 ^ 64:=fun c => by
  have a1:=Int.emod_nonneg (c * 48271 + k * k * 16807 + 3) (show (2147483647 : Int) ≠ 0 by decide)
  have a2:=Int.emod_lt_of_pos (c * 48271 + k * k * 16807 + 3) (show (0 : Int) < 2147483647 by decide)
  exact ⟨by omega,by omega⟩
 refine ⟨_,rfl,_,_,rfl,rfl,.inl ⟨by decide,by decide⟩,_,_,rfl,rfl,?_⟩
 refine ⟨_,rfl,a,_,rfl,.inl hS,_,_,rfl,rfl,_,rfl,?_⟩
 refine nB (fun c => ?_) (fun c => ?_)
 ·have c' : (0 : Int) < (((ns.map V.int).length : Nat) : Int):=of_decide_eq_true c
  rw [hl] at c'
  have c2 : (0 : Int) < (((ns.map V.int).length : Nat) : Int):=by rw [hl]; exact c'
  have c3 : (((ns.map V.int).length : Nat) : Int) < 1073741824:=by rw [hl]; omega
  have m0:=Int.emod_nonneg k (show (((ns.map V.int).length : Nat) : Int) ≠ 0 by omega)
  have m1:=Int.emod_lt_of_pos k c2
  refine ⟨_,rfl,_,rfl,_,rfl,a,_,rfl,.inl hS,_,_,rfl,rfl,c2,a,_,_,_,rfl,rfl,hS,gr m0 (by rw [hl] at m1; rw [hl]; exact m1),_,_,rfl,rfl,(by show (0 : Int) < 2147483629; decide),
   _,rfl,_,rfl,a,_,rfl,.inl hS,_,_,rfl,rfl,⟨c2,c3⟩,_,_,rfl,rfl,.inr ⟨by decide,by decide⟩,_,_,rfl,rfl,_,_,rfl,rfl,?_⟩
  refine ⟨_,rfl,_,_,rfl,rfl,.inr ⟨by decide,by decide⟩,_,rfl,_,rfl,_,_,rfl,rfl,.inl hk,_,_,rfl,rfl,.inr ⟨by decide,by decide⟩,_,_,rfl,rfl,_,_,rfl,rfl,_,_,rfl,rfl,(by show (0 : Int) < 2147483647; decide),?_⟩
  exact ⟨_,rfl,_,rfl,_,_,rfl,rfl,.inl (hc _),_,_,rfl,rfl,(by show (0 : Int) < 2147483629; decide),by unfold eY p6 at q; rw [if_pos c2] at q; exact q⟩
 ·refine ⟨_,rfl,_,_,rfl,rfl,.inr ⟨by decide,by decide⟩,_,rfl,_,rfl,_,_,rfl,rfl,.inl hk,_,_,rfl,rfl,.inr ⟨by decide,by decide⟩,_,_,rfl,rfl,_,_,rfl,rfl,_,_,rfl,rfl,(by show (0 : Int) < 2147483647; decide),?_⟩
  exact ⟨_,rfl,_,rfl,_,_,rfl,rfl,.inl (hc _),_,_,rfl,rfl,(by show (0 : Int) < 2147483629; decide),by unfold eY p6 at q; rw [if_neg (fun z => c (decide_eq_true z))] at q; exact q⟩
end
def ltr (L : Str) (i : Int) : Str:=⟨#[L.cps.toList.getD i.toNat 0]⟩
def cv (n : Int) (L : Str) : Str:=if n / 26 % 2 = 0 then ltr L (n / 52 % 3) else ltr L (n % 26)
def dj (n : Int) : Int:=1 + n / 156 % 6
def jG (n : Int) : Int:=n / 936 % dj n
def gO (n : Int) (L : Str) : Str:=Txt.mul (cv n L) (jG n) ++ ltr L (n / 5616 % 26) ++ Txt.mul (cv n L) (dj n - jG n - 1)
def tU : List V:=[.str "and",.str "or",.str "not",.str "some",.str "all"]
def gP (n : Int) (L : Str) : Str:=if inV (.str (gO n L)) tU = true then gO n L ++ ("x" : Str) else gO n L
theorem kD (c : Array Nat) : ∀ (n : Nat) (acc : Array Nat),((List.replicate n c).foldl (· ++ ·) acc).size = acc.size + n * c.size
 | 0,acc => by simp
 | n + 1,acc => by
  rw [List.replicate_succ,List.foldl_cons,kD c n,Array.size_append,Nat.succ_mul]
  omega
theorem qg {x : Str} {k : Int} (h : x.length = 1) (h0 : 0 <= k) : (Txt.mul x k).length = k.toNat:=by
 unfold Txt.mul
 split
 ·have : k = 0:=by omega
  rw [this]
  rfl
 ·split
  ·rename_i c
   have : k = 1:=by
    rcases Bool.or_eq_true_iff.mp c with z | z
    ·exact beq_iff_eq.mp z
    ·rw [h] at z; cases z
   rw [this]
   exact h
  ·show (Array.size _) = _
   rw [kD]
   have e : x.cps.size = 1:=h
   rw [e]
   show 0 + k.toNat * 1 = _
   omega
theorem sd {x : Str} {k : Int} (h : x.length = 1) (h0 : 0 <= k) (h6 : k <= 6) : MulOk x k:=by
 unfold MulOk
 rw [h]
 have c : k = 0 \/ k = 1 \/ k = 2 \/ k = 3 \/ k = 4 \/ k = 5 \/ k = 6:=by omega
 rcases c with c | c | c | c | c | c | c
 ·subst c
  exact ⟨by decide,fun z => absurd (by decide) z,fun z => absurd (by decide) z⟩
 all_goals (subst c; refine ⟨by decide,fun _ _ => by decide,fun _ _ => by decide +kernel⟩)
theorem tZ (L : Str) (i : Int) : (ltr L i).length = 1:=rfl
theorem g6 (n : Int) (L : Str) : (cv n L).length = 1:=by
 unfold cv
 split <;> rfl
theorem sZ {n : Int} (h : 0 <= n) : (1 <= dj n /\ dj n <= 6) /\ 0 <= jG n /\ jG n < dj n:=by
 have m:=bE (a:=n / 156) (b:=6) (by decide)
 have hs : 1 <= dj n /\ dj n <= 6:=by unfold dj; omega
 have m2:=bE (a:=n / 936) (b:=dj n) (by omega)
 exact ⟨hs,m2⟩
theorem kM {n : Int} (h : 0 <= n) (L : Str) : 1 <= (gO n L).length /\ (gO n L).length <= 6:=by
 obtain ⟨hs,w0,w1⟩:=sZ h
 unfold gO
 rw [len_app,len_app,tZ,qg (g6 n L) w0,qg (g6 n L) (by omega)]
 omega
theorem kN {n : Int} (h : 0 <= n) (L : Str) : 1 <= (gP n L).length /\ (gP n L).length <= 7:=by
 have:=kM h L
 unfold gP
 split
 ·rw [len_app]
  have : (("x" : Str)).length = 1:=by decide
  omega
 ·omega
def vC : Str := "abcdefghijklmnopqrstuvwxyz"
def vV : Str := "ABCDEFGHIJKLMNOPQRSTUVWXYZ"
def nmF (ns : LI) (i : Int) : Str:=gP (eY ns (900 + i % 4)) vC
def rwF (ns : LI) (i : Int) : Str:=gP (eY ns (920 + i % 3)) vV
def nm4 (ns : LI) : List Str:=[nmF ns 0,nmF ns 1,nmF ns 2,nmF ns 3]
def rw3 (ns : LI) : List Str:=[rwF ns 0,rwF ns 1,rwF ns 2]
theorem qh (ns : LI) (i : Int) : 1 <= (nmF ns i).length /\ (nmF ns i).length <= 7:=kN (cC _ _).1 _
theorem qt (ns : LI) (i : Int) : 1 <= (rwF ns i).length /\ (rwF ns i).length <= 7:=kN (cC _ _).1 _
theorem vc (ns : LI) (i : Int) : nmF ns i ∈ nm4 ns:=by
 have m:=bE (a:=i) (b:=4) (by decide)
 unfold nm4 nmF
 have c : i % 4 = 0 \/ i % 4 = 1 \/ i % 4 = 2 \/ i % 4 = 3:=by omega
 rcases c with c | c | c | c <;> rw [c] <;> simp
theorem sJ (ns : LI) (i : Int) : rwF ns i ∈ rw3 ns:=by
 have m:=bE (a:=i) (b:=3) (by decide)
 unfold rw3 rwF
 have c : i % 3 = 0 \/ i % 3 = 1 \/ i % 3 = 2:=by omega
 rcases c with c | c | c <;> rw [c] <;> simp
theorem kZ {L : Str} {i : Int} (h : L.length = 26) (h0 : 0 <= i) (h1 : i < 26) : ∃ c,atI L.cps.toList i = some c /\ ltr L i = ⟨#[c]⟩:=by
 have l : L.cps.toList.length = 26:=by rw [Array.length_toList]; exact h
 have hi : i.toNat < L.cps.toList.length:=by omega
 refine ⟨L.cps.toList[i.toNat],?_,?_⟩
 ·have:=pY (List.getElem?_eq_getElem hi)
  rw [Int.toNat_of_nonneg h0] at this
  exact this
 ·unfold ltr
  rw [getD_at hi]
def mP : Sp:=fun vs H Q _ => ∃ (n : Int) (L : Str),vs = [.int n,.str L] /\ 0 <= n /\ L.length = 26 /\ ∀ H',Same H H' -> Q (.str (gP n L)) H'
def mM (K : PySem.W.Frag) : Sp:=fun vs H Q _ => ∃ (a : Addr) (i : Int) (ns : LI),vs = [.ref a,.int i] /\ SqL K H a (ns.map V.int) /\ ns.length <= 63 /\ ∀ H',Same H H' -> Q (.str (nmF ns i)) H'
def pJ (K : PySem.W.Frag) : Sp:=fun vs H Q _ => ∃ (a : Addr) (i : Int) (ns : LI),vs = [.ref a,.int i] /\ SqL K H a (ns.map V.int) /\ ns.length <= 63 /\ ∀ H',Same H H' -> Q (.str (rwF ns i)) H'
section
variable {P : Program} {w : World} {K : PySem.W.Frag} {mg : Str -> Option Value} {base : Heap} {f : Addr} {fd : FuncData} {dV : Value}
theorem sc__law_word : FnScope ["_law_number","_law_letters","_law_first","_law_size","_law_at","_law_found"] ["_law_number","_law_letters"] (aj b4):=⟨rfl,rfl,rfl,by decide +kernel,rfl,by decide +kernel,by decide +kernel⟩
theorem mD : FnScope ["_law_script","_law_number"] ["_law_script","_law_number"] (aj bX):=⟨rfl,rfl,rfl,by decide +kernel,rfl,by decide +kernel,by decide +kernel⟩
theorem oh : FnScope ["_law_script","_law_number"] ["_law_script","_law_number"] (aj cw):=⟨rfl,rfl,rfl,by decide +kernel,rfl,by decide +kernel,by decide +kernel⟩
theorem uk (F : FunD K "_law_word" "_law_word" b4 dV f fd) : FnOk P w K mg base CX0 1 f fd ["_law_number","_law_letters"] mP:=by
 refine F.ok sc__law_word (fun vs H Q E h => ?_) (fun cdv A outer s H vs Q E hr h => ?_)
 ·obtain ⟨n,L,rfl,_⟩:=h
  rfl
 obtain ⟨n,L,rfl,n0,l26,q⟩:=h
 have lz : L.length <= sizeLine:=by rw [l26]; decide
 obtain ⟨hs,w0,w1⟩:=sZ n0
 have wl:=kM n0 L
 refine dN (aq (PSW.mk (az (i:=2) sc__law_word.nd rfl (Or.inl rfl) (aI oX (pv 1) (ai aQ (pv 0) ae) (fun _ _ => rfl))))
   (aq (PSW.mk (bV (aB dh (ai aQ (ai ba (pv 0) ae) ae) ae (aN _)) (aw (az (i:=2) sc__law_word.nd rfl (Or.inl rfl) (aI oX (pv 1) (ai aQ (ai ba (pv 0) ae) ae) (fun _ _ => rfl)))) bh))
   (aq (PSW.mk (az (i:=3) sc__law_word.nd rfl (Or.inl rfl) (ai bf ae (ai aQ (ai ba (pv 0) ae) ae))))
   (aq (PSW.mk (az (i:=4) sc__law_word.nd rfl (Or.inl rfl) (ai aQ (ai ba (pv 0) ae) (pv 3))))
   (aq (PSW.mk (az (i:=5) sc__law_word.nd rfl (Or.inl rfl) (ai ar (ai ar (ai qm (pv 2) (pv 4)) (aI oX (pv 1) (ai aQ (ai ba (pv 0) ae) ae) (fun _ _ => rfl))) (ai qm (pv 2) (ai pw (ai pw (pv 3) (pv 4)) ae)))))
   (aq (rn (PTW.mk (aB dy (pv 5) (bB (aa ay (aa ay (aa ay (aa ay (aa ay ag)))))) (by with_unfolding_all rfl))) (bH (PSW.mk (az (i:=5) sc__law_word.nd rfl (Or.inl rfl) (ai ar (pv 5) ay)))) mV)
   (bH (PSW.mk (aX (pv 5)))))))))) ?_
 have m26:=bE (a:=n) (b:=26) (by decide)
 obtain ⟨c0,e0,f0⟩:=kZ l26 m26.1 m26.2
 refine ⟨_,rfl,_,rfl,_,_,rfl,rfl,(by show (0 : Int) < 26; decide),_,_,_,rfl,rfl,lz,e0,?_⟩
 rw [<- f0]
 try dsimp only [aG,aO,List.set]
 refine ck (fun σ' H' => σ' = [some (.int n),some (.str L),some (.str (cv n L)),none,none,none] /\ H' = H) ?_ (fun D' nxt => ?_)
 rotate_left
 ·refine ⟨_,rfl,_,_,rfl,rfl,⟨by decide,by decide⟩,_,_,rfl,rfl,(by show (0 : Int) < 2; decide),rfl,_,rfl,qR (fun c => ?_) (fun c => ?_)⟩
  ·have m3:=bE (a:=n / 52) (b:=3) (by decide)
   obtain ⟨c1,e1,f1⟩:=kZ l26 m3.1 (show n / 52 % 3 < 26 by omega)
   refine ⟨_,rfl,_,rfl,_,_,rfl,rfl,⟨by decide,by decide⟩,_,_,rfl,rfl,(by show (0 : Int) < 3; decide),_,_,_,rfl,rfl,lz,e1,nxt _ _ ⟨?_,rfl⟩⟩
   unfold cv
   rw [if_pos c,f1]
   rfl
  ·refine nxt _ _ ⟨?_,rfl⟩
   unfold cv
   rw [if_neg c]
   rfl
 rintro σ' H' ⟨rfl,rfl⟩
 refine ⟨_,rfl,_,_,rfl,rfl,⟨by decide,by decide⟩,_,_,rfl,rfl,(by show (0 : Int) < 6; decide),_,_,rfl,rfl,?_⟩
 try dsimp only [aG,aO,List.set]
 refine ⟨_,rfl,_,_,rfl,rfl,⟨by decide,by decide⟩,_,rfl,_,_,rfl,rfl,(show 0 < dj n by omega),?_⟩
 try dsimp only [aG,aO,List.set]
 have m5:=bE (a:=n / 5616) (b:=26) (by decide)
 obtain ⟨c2,e2,f2⟩:=kZ l26 m5.1 m5.2
 have fl:=g6 n L
 have wl0:=wl.2
 unfold gO at wl0
 rw [len_app,len_app] at wl0
 have z6 : (100 : Nat) <= sizeLine:=by decide
 have x1 : (Str.ofString "x").length = 1:=by decide
 refine ⟨_,rfl,_,rfl,_,_,rfl,rfl,sd fl w0 (show jG n <= 6 by omega),_,rfl,_,rfl,_,_,rfl,rfl,⟨by decide,by decide⟩,_,_,rfl,rfl,(by show (0 : Int) < 26; decide),_,_,_,rfl,rfl,lz,e2,?_⟩
 rw [<- f2]
 refine ⟨_,_,rfl,rfl,(show (Txt.mul (cv n L) (jG n)).length + (ltr L (n / 5616 % 26)).length <= sizeLine by omega),?_⟩
 refine ⟨_,rfl,_,rfl,_,rfl,_,_,rfl,rfl,_,_,rfl,rfl,_,_,rfl,rfl,sd fl (show 0 <= dj n - jG n - 1 by omega) (show dj n - jG n - 1 <= 6 by omega),?_⟩
 refine ⟨_,_,rfl,rfl,(show (Txt.mul (cv n L) (jG n) ++ ltr L (n / 5616 % 26)).length + (Txt.mul (cv n L) (dj n - jG n - 1)).length <= sizeLine by rw [len_app]; omega),?_⟩
 have ew : (Txt.mul (cv n L) (n / 936 % (1 + n / 156 % 6)) ++ ltr L (n / 5616 % 26) ++ Txt.mul (cv n L) (1 + n / 156 % 6 - n / 936 % (1 + n / 156 % 6) - 1)) = gO n L:=rfl
 rw [ew]
 dsimp only [aG,aO,List.set]
 refine ck (fun σ' H1 => σ' = [some (.int n),some (.str L),some (.str (cv n L)),some (.int (dj n)),some (.int (jG n)),some (.str (gP n L))] /\ Same H' H1) ?_ (fun D' nxt => ?_)
 rotate_left
 ·refine ⟨_,rfl,(by show 5 <= sizeLine; decide),fun t ht => ?_⟩
  have st:=ah ht (HO.tup tU)
  refine ⟨t,tU,rfl,.inr (qT_ af),rfl,rfl,_,rfl,?_⟩
  cases c : inV (.str (gO n L)) tU with
  | true =>
   refine oW ⟨_,rfl,_,_,rfl,rfl,by omega,nxt _ _ ⟨?_,st⟩⟩
   unfold gP
   rw [if_pos c]
   rfl
  | false =>
   refine iP (nxt _ _ ⟨?_,st⟩)
   unfold gP
   rw [if_neg (by rw [c]; decide)]
   rfl
 rintro σ' H1 ⟨rfl,s1⟩
 exact ⟨_,rfl,q _ s1⟩
theorem uf (F : FunD K "_law_name" "_law_name" bX dV f fd) (aC : DefOk P w K mg base "_law_draw" 1 ["_law_script","_law_k"] [] (dn K)) (bU : DefOk P w K mg base "_law_word" 1 ["_law_number","_law_letters"] [] mP) : FnOk P w K mg base CX0 2 f fd ["_law_script","_law_number"] (mM K):=by
 refine F.ok mD (fun vs H Q E h => ?_) (fun cdv A outer s H vs Q E hr h => ?_)
 ·obtain ⟨a,i,ns,rfl,_⟩:=h
  rfl
 obtain ⟨a,i,ns,rfl,hS,h63,q⟩:=h
 have m:=bE (a:=i) (b:=4) (by decide)
 refine ⟨_,(aw (aX (aR bU hr (aa (aR aC hr (aa (pv 0) (aa (ai bf ae (ai aQ (pv 1) ae)) ag))) (aa ay ag))))),?_⟩
 exact ⟨_,rfl,_,rfl,_,_,rfl,rfl,(by show (0 : Int) < 4; decide),_,_,rfl,rfl,a,_,ns,rfl,hS,h63,(show (0 : Int) <= 900 + i % 4 by omega),(show 900 + i % 4 < 2147483648 by omega),_,vC,rfl,(cC _ _).1,by decide +kernel,fun H' s' => q _ s'⟩
theorem ug (F : FunD K "_law_row" "_law_row" cw dV f fd) (aC : DefOk P w K mg base "_law_draw" 1 ["_law_script","_law_k"] [] (dn K)) (bU : DefOk P w K mg base "_law_word" 1 ["_law_number","_law_letters"] [] mP) : FnOk P w K mg base CX0 2 f fd ["_law_script","_law_number"] (pJ K):=by
 refine F.ok oh (fun vs H Q E h => ?_) (fun cdv A outer s H vs Q E hr h => ?_)
 ·obtain ⟨a,i,ns,rfl,_⟩:=h
  rfl
 obtain ⟨a,i,ns,rfl,hS,h63,q⟩:=h
 have m:=bE (a:=i) (b:=3) (by decide)
 refine ⟨_,(aw (aX (aR bU hr (aa (aR aC hr (aa (pv 0) (aa (ai bf ae (ai aQ (pv 1) ae)) ag))) (aa ay ag))))),?_⟩
 exact ⟨_,rfl,_,rfl,_,_,rfl,rfl,(by show (0 : Int) < 3; decide),_,_,rfl,rfl,a,_,ns,rfl,hS,h63,(show (0 : Int) <= 920 + i % 3 by omega),(show 920 + i % 3 < 2147483648 by omega),_,vV,rfl,(cC _ _).1,by decide +kernel,fun H' s' => q _ s'⟩
end
def bo (ps : List Prt) : List Str:=(ps.filter fun p => decide (p.2 ≠ ("" : Str))).map (·.2)
def aY : Stt -> List Str
 | .cmp _ a b => bo a ++ bo b
 | .sg _ a _ => bo a
 | .lk _ a _ b => bo a ++ bo b
 | .no s => aY s
 | .jn _ s t => aY s ++ aY t
 | .ch _ n s => (aY s).filter fun x => decide (x ≠ n)
def aV : Stt -> List Str
 | .cmp .. => []
 | .sg r _ _ => [r]
 | .lk r _ q _ => [r,q]
 | .no s => aV s
 | .jn _ s t => aV s ++ aV t
 | .ch _ _ s => aV s
structure IsNm (zs xs : List Str) : Prop where
 so : zs.Pairwise leS
 nd : zs.Nodup
 mem : ∀ x,x ∈ zs ↔ x ∈ xs
theorem IsNm.of_sorted {ms ns : List Str} (p : ms.Perm (bL ns)) (so : ms.Pairwise leS) : IsNm ms ns:=
 ⟨so,p.nodup_iff.mpr (fu ns),fun x => by rw [p.mem_iff,once_memS]⟩
theorem IsNm.congr {zs xs ys : List Str} (h : IsNm zs xs) (e : ∀ x,x ∈ xs ↔ x ∈ ys) : IsNm zs ys:=⟨h.so,h.nd,fun x => (h.mem x).trans (e x)⟩
theorem fG (ps : List Prt) (p : Prt) : bo (ps ++ [p]) = bo ps ++ (if p.2 = ("" : Str) then [] else [p.2]):=by
 unfold bo
 rw [List.filter_append,List.map_append]
 congr 1
 by_cases c : p.2 = ("" : Str)
 ·rw [if_pos c,List.filter_cons_of_neg (by simp [c])]; rfl
 ·rw [if_neg c,List.filter_cons_of_pos (by simp [c])]; rfl
theorem se {x : Str} (h : 1 <= x.length) : x ≠ ("" : Str):=fun z => by
 rw [z] at h
 exact absurd h (by decide)
theorem Paired.snocP : ∀ {R : Addr -> Prt -> Prop} {as : List Addr} {ps : List Prt} {a : Addr} {p : Prt},Paired R as ps -> R a p -> Paired R (as ++ [a]) (ps ++ [p])
 | _,_,_,_,_,.nil,h => .cons h .nil
 | _,_,_,_,_,.cons q t,h => .cons q (Paired.snocP t h)
structure SmOk (ns : LI) (ps : List Prt) : Prop where
 ok : gp ps
 le : ps.length <= 8
 nm : ∀ x ∈ bo ps,x ∈ nm4 ns
theorem SmOk.nlen {ns : LI} {ps : List Prt} (h : SmOk ns ps) : (bo ps).length <= 8:=by
 unfold bo
 rw [lm_]
 exact Nat.le_trans (List.length_filter_le ..) h.le
theorem SmOk.tlen {ns : LI} {ps : List Prt} (h : SmOk ns ps) : (dB ps).length <= 400:=by
 unfold dB Txt.join
 rw [size_glued]
 have l:=pO (B:=41) ((ps.map bp).map (·.length)) fun x hx => by
  obtain ⟨y,hy,rfl⟩:=List.mem_map.mp hx
  obtain ⟨p,hp,rfl⟩:=List.mem_map.mp hy
  exact kH (h.ok.2 p hp)
 have e : ((" + " : Str)).length = 3:=by decide
 rw [lm_,lm_] at l
 rw [e,lm_]
 have:=h.le
 omega
theorem SmOk.snoc {ns : LI} {ps : List Prt} {p : Prt} (h : SmOk ns ps) (l : ps.length < 8) (hp : (0 <= p.1 /\ p.1 < 10000000) /\ p.2.length <= 20) (hn : p.2 = ("" : Str) \/ p.2 ∈ nm4 ns) : SmOk ns (ps ++ [p]):=by
 refine ⟨⟨by rw [List.length_append,List.length_singleton]; omega,fun q hq => ?_⟩,by rw [List.length_append,List.length_singleton]; omega,fun x hx => ?_⟩
 ·rcases ma_.mp hq with z | z
  ·exact h.ok.2 q z
  ·rw [List.mem_singleton.mp z]; exact hp
 ·rw [fG] at hx
  rcases ma_.mp hx with z | z
  ·exact h.nm x z
  ·by_cases c : p.2 = ("" : Str)
   ·rw [if_pos c] at z; cases z
   ·rw [if_neg c] at z
    rw [List.mem_singleton.mp z]
    exact hn.resolve_left c
theorem SmOk.nil (ns : LI) : SmOk ns []:=⟨⟨Nat.zero_le _,fun p h => by cases h⟩,Nat.zero_le _,fun x h => by cases h⟩
def pI (K : PySem.W.Frag) : Sp:=fun vs H Q _ => ∃ (a : Addr) (i : Int) (ns : LI),vs = [.ref a,.int i] /\ SqL K H a (ns.map V.int) /\ ns.length <= 63 /\ (0 <= i /\ i < 1000000) /\
 ∀ (l nl : Addr) (v : V) (ps : List Prt) (H' : Hp),Same H H' -> H' l = some (.lst [v,.str (dB ps),.ref nl]) -> SumAt H' v ps -> SmOk ns ps -> H' nl = some (.lst ((bo ps).map V.str)) -> H nl = none -> Q (.ref l) H'
structure LsI (H0 : Hp) (ns : LI) (Lp Lt Ln : Addr) (ps : List Prt) (H : Hp) : Prop where
 s : Same H0 H
 p : ∃ as : List Addr,H Lp = some (.lst (as.map V.ref)) /\ Paired (ov H) as ps
 t : H Lt = some (.lst ((ps.map bp).map V.str))
 n : H Ln = some (.lst ((bo ps).map V.str))
 ok : SmOk ns ps
structure Three3 (H0 : Hp) (Lp Lt Ln : Addr) : Prop where
 pt : Lp ≠ Lt
 pn : Lp ≠ Ln
 tn : Lt ≠ Ln
 fp : H0 Lp = none
 ft : H0 Lt = none
 fn : H0 Ln = none
theorem LsI.same {H0 H H' : Hp} {ns : LI} {Lp Lt Ln : Addr} {ps : List Prt} (h : LsI H0 ns Lp Lt Ln ps H) (s : Same H H') : LsI H0 ns Lp Lt Ln ps H' := by
 obtain ⟨as,h1,h2⟩:=h.p
 exact ⟨h.s.trans s,⟨as,s _ _ h1,Paired.mapP h2 fun _ _ q => s _ _ q⟩,s _ _ h.t,s _ _ h.n,h.ok⟩
theorem LsI.add {H0 H : Hp} {ns : LI} {Lp Lt Ln T : Addr} {ps : List Prt} {p : Prt} {as : List Addr} (h : LsI H0 ns Lp Lt Ln ps H) (d : Three3 H0 Lp Lt Ln) (ha : H Lp = some (.lst (as.map V.ref))) (hT : H T = none) (ok : SmOk ns (ps ++ [p])) :
  (p.2 = ("" : Str) -> LsI H0 ns Lp Lt Ln (ps ++ [p]) (upd (upd (upd H T (.tup [.int p.1,.str p.2])) Lp (.lst (as.map V.ref ++ [.ref T]))) Lt (.lst ((ps.map bp).map V.str ++ [.str (bp p)])))) /\
  (p.2 ≠ ("" : Str) -> LsI H0 ns Lp Lt Ln (ps ++ [p]) (upd (upd (upd (upd H T (.tup [.int p.1,.str p.2])) Lp (.lst (as.map V.ref ++ [.ref T]))) Lt (.lst ((ps.map bp).map V.str ++ [.str (bp p)]))) Ln (.lst ((bo ps).map V.str ++ [.str p.2])))):=by
 obtain ⟨as',h1,h2⟩:=h.p
 rw [ha] at h1
 have ea : as' = as:=by
  have e:=HO.lst.inj (Option.some.inj h1)
  have e' := congrArg (List.map fun v : V => match v with | .ref a => a | _ => 0) e
  rw [List.map_map,List.map_map] at e'
  have id1 : ∀ l : List Addr,l.map ((fun v : V => match v with | .ref a => a | _ => 0) ∘ V.ref) = l:=fun l => List.map_id' l
  rw [id1,id1] at e'
  exact e'.symm
 subst ea
 have nTp : Lp ≠ T:=av ha hT
 have nTt : Lt ≠ T:=av h.t hT
 have nTn : Ln ≠ T:=av h.n hT
 have fT : H0 T = none:=h.s.free hT
 have et : (ps.map bp).map V.str ++ [V.str (bp p)] = ((ps ++ [p]).map bp).map V.str:=by rw [List.map_append,List.map_append]; rfl
 obtain ⟨H3,e3⟩ : ∃ H3,upd (upd (upd H T (.tup [.int p.1,.str p.2])) Lp (.lst (as'.map V.ref ++ [.ref T]))) Lt (.lst ((ps.map bp).map V.str ++ [.str (bp p)])) = H3:=⟨_,rfl⟩
 have s3 : Same H0 H3:=by rw [<- e3]; exact aF (aF (aF h.s fT) d.fp) d.ft
 have k3 : ∀ b o,b ≠ Lp -> b ≠ Lt -> H b = some o -> H3 b = some o:=fun b o n1 n2 e => by
  rw [<- e3,ao n2,ao n1,ao (av e hT)]; exact e
 have tk : cK H H3:=fun b xs e => k3 b _ (eF e ha (by intro z; cases z)) (eF e h.t (by intro z; cases z)) e
 have hp3 : H3 Lp = some (.lst ((as' ++ [T]).map V.ref)):=by rw [<- e3,ao d.pt,af,List.map_append]; rfl
 have hT3 : H3 T = some (.tup [.int p.1,.str p.2]):=by rw [<- e3,ao (Ne.symm nTt),ao (Ne.symm nTp),af]
 have ht3 : H3 Lt = some (.lst (((ps ++ [p]).map bp).map V.str)):=by rw [<- e3,af,et]
 have hn3:=k3 _ _ (Ne.symm d.pn) (Ne.symm d.tn) h.n
 have P3 : Paired (ov H3) (as' ++ [T]) (ps ++ [p]):=Paired.snocP (Paired.mapP h2 fun _ _ q => tk _ _ q) hT3
 rw [e3]
 refine ⟨fun c => ⟨s3,⟨_,hp3,P3⟩,ht3,?_,ok⟩,fun c => ?_⟩
 ·rw [fG,if_pos c,List.append_nil]
  exact hn3
 ·refine ⟨aF s3 d.fn,⟨_,by rw [ao d.pn]; exact hp3,Paired.mapP P3 fun b q e => ?_⟩,by rw [ao d.tn]; exact ht3,?_,ok⟩
  ·show (upd H3 Ln _) b = _
   rw [ao (eF e hn3 (by intro z; cases z))]
   exact e
  ·rw [af,fG,if_neg c,List.map_append]
   rfl
theorem getD_in {xs : LI} {i : Int} {lo hi : Int} (h0 : 0 <= i) (h1 : i < (xs.length : Int)) (h : ∀ x ∈ xs,lo <= x /\ x < hi) : lo <= xs.getD i.toNat 0 /\ xs.getD i.toNat 0 < hi:=by
 have hi : i.toNat < xs.length:=by omega
 rw [getD_at hi]
 exact h _ (List.getElem_mem hi)
section
variable {P : Program} {w : World} {K : PySem.W.Frag} {mg : Str -> Option Value} {base : Heap} {f : Addr} {fd : FuncData} {dV : Value}
theorem sc__law_sum : FnScope ["_law_script","_law_at","_law_number","_law_many","_law_parts","_law_texts_here","_law_names","_law_k","_law_name_here","_law_one"] ["_law_script","_law_at"] (aj cx):=⟨rfl,rfl,rfl,by decide +kernel,rfl,by decide +kernel,by decide +kernel⟩
theorem ue (F : FunD K "_law_sum" "_law_sum" cx dV f fd) (aC : DefOk P w K mg base "_law_draw" 1 ["_law_script","_law_k"] [] (dn K)) (bT : DefOk P w K mg base "_law_name" 2 ["_law_script","_law_number"] [] (mM K)) (fH : mg "range" = none) (fO : mg "str" = none) (kO : mg "int" = none) (bC : mg "tuple" = none) : FnOk P w K mg base CX0 3 f fd ["_law_script","_law_at"] (pI K):=by
 refine F.ok sc__law_sum (fun vs H Q E h => ?_) (fun cdv A outer s H vs Q E hr h => ?_)
 ·obtain ⟨a,i,ns,rfl,_⟩:=h
  rfl
 obtain ⟨a,i,ns,rfl,hS,h63,⟨i0,i1⟩,k⟩:=h
 refine dN (aq (PSW.mk (az (i:=2) sc__law_sum.nd rfl (Or.inl rfl) (aR aC hr (aa (pv 0) (aa (pv 1) ag)))))
   (aq (PSW.mk (az (i:=3) sc__law_sum.nd rfl (Or.inl rfl) (ai bf ae (ai aQ (pv 2) ae))))
   (aq (PSW.mk (bV (aB dh (ai aQ (ai ba (pv 2) ae) ae) ae (aN _)) (aw (az (i:=3) sc__law_sum.nd rfl (Or.inl rfl) ae)) bh))
   (aq (PSW.mk (az (i:=4) sc__law_sum.nd rfl (Or.inl rfl) (bS ag)))
   (aq (PSW.mk (az (i:=5) sc__law_sum.nd rfl (Or.inl rfl) (bS ag)))
   (aq (PSW.mk (az (i:=6) sc__law_sum.nd rfl (Or.inl rfl) (bS ag)))
   (aq (vW PassesOwn.never rfl (kI rfl fH (aa (pv 3) ag)) (aH (i:=7) sc__law_sum.nd rfl (Or.inl rfl)) (aq (PSW.mk (az (i:=2) sc__law_sum.nd rfl (Or.inl rfl) (aR aC hr (aa (pv 0) (aa (ai bf (ai bf (pv 1) ae) (pv 7)) ag)))))
   (aq (PSW.mk (az (i:=8) sc__law_sum.nd rfl (Or.inl rfl) (aR bT hr (aa (pv 0) (aa (ai ba (pv 2) ae) ag)))))
   (bH (rn (PTW.mk (aB dh (ai aQ (pv 2) ae) ae (aN _))) (aq (qB (i:=9) sc__law_sum.nd rfl (Or.inl rfl) (uG aM (eG (ak (PEW.mk ae) (ak (PEW.mk ae) (ak (PEW.mk (ai aQ (ai ba (pv 2) ae) ae)) (ak (PEW.mk (ai aQ (ai ba (pv 2) ae) ae)) cg))))) (PEW.mk (ai aQ (ai ba (pv 2) ae) ae)) (fun _ _ => rfl)))
   (aq (PSW.mk (bu (cm PySem.F.plainAttrs_list PySem.F.slot_list_append PySem.F.type_list_append aW (pv 4) (aa (bB (aa (pv 9) (aa ay ag))) ag))))
   (bH (PSW.mk (bu (cm PySem.F.plainAttrs_list PySem.F.slot_list_append PySem.F.type_list_append aW (pv 5) (aa (bb dU (by rfl) fO k4 (aa (pv 9) ag)) ag))))))) (bH (rn (PTW.mk (aB dh (ai aQ (pv 2) ae) ae (aN _))) (aq (PSW.mk (bu (cm PySem.F.plainAttrs_list PySem.F.slot_list_append PySem.F.type_list_append aW (pv 4) (aa (bB (aa ae (aa (pv 8) ag))) ag))))
   (aq (PSW.mk (bu (cm PySem.F.plainAttrs_list PySem.F.slot_list_append PySem.F.type_list_append aW (pv 5) (aa (pv 8) ag))))
   (bH (PSW.mk (bu (cm PySem.F.plainAttrs_list PySem.F.slot_list_append PySem.F.type_list_append aW (pv 6) (aa (pv 8) ag))))))) (aq (qB (i:=9) sc__law_sum.nd rfl (Or.inl rfl) (uG aM (eG (ak (PEW.mk ae) (ak (PEW.mk ae) (ak (PEW.mk (ai bf ae (ai aQ (ai ba (pv 2) ae) ae))) cg)))) (PEW.mk (ai aQ (ai ba (pv 2) ae) ae)) (fun _ _ => rfl)))
   (aq (PSW.mk (bu (cm PySem.F.plainAttrs_list PySem.F.slot_list_append PySem.F.type_list_append aW (pv 4) (aa (bB (aa (pv 9) (aa (pv 8) ag))) ag))))
   (aq (vn (PEW.mk (cm PySem.F.plainAttrs_list PySem.F.slot_list_append PySem.F.type_list_append aW (pv 5) (aa (ai ar (aI aM (bS (aa (ai ar (bb dU (by rfl) fO k4 (aa (pv 9) ag)) ay) (aa ay ag))) (bb qD (by rfl) kO rD (aa (uq dh (pv 9) ae (aN _)) ag)) (fun _ _ => rfl)) (pv 8)) ag))))
   (bH (PSW.mk (bu (cm PySem.F.plainAttrs_list PySem.F.slot_list_append PySem.F.type_list_append aW (pv 6) (aa (pv 8) ag)))))))))))))))
   (bH (iG (eG (ak (PEW.mk (bb dq (by rfl) bC gs (aa (pv 4) ag))) (ak (PEW.mk (cm PySem.F.plainAttrs_str PySem.F.slot_str_join PySem.F.type_str_join ua ay (aa (pv 5) ag))) (ak (PEW.mk (pv 6)) cg))))))))))))) ?_
 refine ⟨_,rfl,_,rfl,a,i,ns,rfl,hS,h63,i0,by omega,?_⟩
 try dsimp only [aG,aO,List.set]
 obtain ⟨d0,ed0⟩ : ∃ d0,eY ns i = d0:=⟨_,rfl⟩
 have d00:=cC ns i
 rw [ed0] at d00 ⊢
 refine ⟨_,rfl,_,_,rfl,rfl,(by show (0 : Int) < 3; decide),_,_,rfl,rfl,?_⟩
 try dsimp only [aG,aO,List.set]
 refine ck (t:=sW _ _ _) (fun σ' H' => ∃ (many : Nat) (v2 : OV),many <= 8 /\ σ' = [some (.ref a),some (.int i),v2,some (.int many),none,none,none,none,none,none] /\ H' = H) ?_ (fun D' nxt => ?_)
 rotate_left
 ·have m3:=bE (a:=d0) (b:=3) (by decide)
  refine ⟨_,rfl,_,_,rfl,rfl,⟨by decide,by decide⟩,_,_,rfl,rfl,(by show (0 : Int) < 6; decide),rfl,_,rfl,qR (fun c => ?_) (fun c => ?_)⟩
  ·exact nxt _ _ ⟨8,_,by decide,rfl,rfl⟩
  ·obtain ⟨m,em⟩:=u9 (x:=1 + d0 % 3) (by omega)
   refine nxt _ _ ⟨m,some (.int d0),by omega,?_,rfl⟩
   show [some (V.ref a),some (V.int i),some (V.int d0),some (V.int (1 + d0 % 3)),none,none,none,none,none,none] = _
   rw [em]
 rintro σ' H' ⟨many,v2,m8,rfl,rfl⟩
 refine ⟨(by show 0 <= sizeLine; decide),fun Lp hLp => ?_⟩
 refine ⟨(by show 0 <= sizeLine; decide),fun Lt hLt => ?_⟩
 refine ⟨(by show 0 <= sizeLine; decide),fun Ln hLn => ?_⟩
 have u1:=ah hLp (HO.lst [])
 have u2:=ah hLt (HO.lst [])
 have u3:=ah hLn (HO.lst [])
 have d3 : Three3 H' Lp Lt Ln:=⟨av af hLt,av (u2 _ _ af) hLn,av af hLn,hLp,u1.free hLt,(u1.trans u2).free hLn⟩
 have I0 : LsI H' ns Lp Lt Ln [] (upd (upd (upd H' Lp (.lst [])) Lt (.lst [])) Ln (.lst [])):=⟨u1.trans (u2.trans u3),⟨[],(u2.trans u3) _ _ af,.nil⟩,u3 _ _ af,af,SmOk.nil ns⟩
 try dsimp only [aG,aO,List.set]
 refine ck (t:=pP _ _ _) (fun σ' H1 => ∃ (ps : List Prt) (v2 v7 v8 v9 : OV),σ' = [some (.ref a),some (.int i),v2,some (.int many),some (.ref Lp),some (.ref Lt),some (.ref Ln),v7,v8,v9] /\ LsI H' ns Lp Lt Ln ps H1) ?_ (fun D' nxt => ?_)
 rotate_left
 ·refine ⟨_,rfl,(many : Int),rfl,by omega,by omega,?_⟩
  refine kE (fun j σ' H1 => ∃ (ps : List Prt) (v2 v7 v8 v9 : OV),σ' = [some (.ref a),some (.int i),v2,some (.int many),some (.ref Lp),some (.ref Lt),some (.ref Ln),v7,v8,v9] /\ LsI H' ns Lp Lt Ln ps H1 /\ ps.length = j) ⟨[],v2,none,none,none,rfl,I0,rfl⟩ ?_ ?_
  ·rintro j σ' H1 hj ⟨ps,v2,v7,v8,v9,rfl,I1,lp⟩
   rw [Int.toNat_natCast] at hj
   have hS1:=I1.s.seq hS
   refine ⟨_,rfl,_,rfl,_,_,rfl,rfl,_,rfl,_,_,rfl,rfl,a,i + 1 + (0 + (j : Int)),ns,rfl,hS1,h63,by omega,by omega,?_⟩
   try dsimp only [aG,aO,List.set]
   obtain ⟨n,en⟩ : ∃ n,eY ns (i + 1 + (0 + (j : Int))) = n:=⟨_,rfl⟩
   have nb:=cC ns (i + 1 + (0 + (j : Int)))
   rw [en] at nb ⊢
   refine ⟨_,rfl,_,rfl,_,_,rfl,rfl,⟨by decide,by decide⟩,a,n / 3,ns,rfl,hS1,h63,fun H2 s2 => ?_⟩
   try dsimp only [aG,aO,List.set]
   obtain ⟨nm,enm⟩ : ∃ nm,nmF ns (n / 3) = nm:=⟨_,rfl⟩
   have nl:=qh ns (n / 3)
   have nin:=vc ns (n / 3)
   rw [enm] at nl nin ⊢
   have nne:=se nl.1
   have I2:=I1.same s2
   obtain ⟨as,ha,hA⟩:=I2.p
   have las : as.length = ps.length:=Paired.length hA
   have lsn:=I2.ok.nlen
   have z20 : ∀ m : Nat,m <= 100 -> m <= sizeLine:=fun m h => Nat.le_trans h (by decide)
   refine ⟨_,rfl,_,_,rfl,rfl,(by show (0 : Int) < 3; decide),rfl,_,rfl,qR (fun c => ?_) (fun c => ?_)⟩
   ·have q1:=bE (a:=n / 9) (b:=1000000) (by decide)
    have q2:=bE (a:=n / 9) (b:=30) (by decide)
    have q4:=bE (a:=n / 3) (b:=4) (by decide)
    refine ⟨_,rfl,_,_,rfl,rfl,⟨by decide,by decide⟩,_,_,rfl,rfl,(by show (0 : Int) < 1000000; decide),_,rfl,_,_,rfl,rfl,⟨by decide,by decide⟩,_,_,rfl,rfl,(by show (0 : Int) < 30; decide),(by show 4 <= sizeLine; decide),fun Lx hLx => ?_⟩
    have ux:=ah hLx (HO.lst ([0,999999,n / 9 % 1000000,n / 9 % 30].map V.int))
    obtain ⟨one,eo⟩ : ∃ one,([0,999999,n / 9 % 1000000,n / 9 % 30] : LI).getD (n / 3 % 4).toNat 0 = one:=⟨_,rfl⟩
    have ob : 0 <= one /\ one < 10000000:=by
     rw [<- eo]
     refine getD_in q4.1 q4.2 fun x hx => ?_
     simp only [List.mem_cons,List.not_mem_nil,or_false] at hx
     rcases hx with rfl | rfl | rfl | rfl <;> omega
    refine ⟨_,rfl,_,_,rfl,rfl,⟨by decide,by decide⟩,_,_,rfl,rfl,(by show (0 : Int) < 4; decide),Lx,_,_,_,rfl,rfl,qL_ af,gr (ns:=[0,999999,n / 9 % 1000000,n / 9 % 30]) q4.1 q4.2,?_⟩
    try dsimp only [aG,aO,List.set]
    rw [eo]
    obtain ⟨H3,e3⟩ : ∃ H3,upd H2 Lx (HO.lst [V.int 0,V.int 999999,V.int (n / 9 % 1000000),V.int (n / 9 % 30)]) = H3:=⟨_,rfl⟩
    have ux' : Same H2 H3:=by rw [<- e3]; exact ux
    rw [e3]
    have I3:=I2.same ux'
    have ha3:=ux' _ _ ha
    refine ⟨_,rfl,.inl ⟨rfl,_,qL_ ha3⟩,_,rfl,(by show 2 <= sizeLine; decide),fun T hT => ?_⟩
    have nTp : Lp ≠ T:=av ha3 hT
    have add:=(I3.add (p:=(one,("" : Str))) d3 ha3 hT (I3.ok.snoc (by omega) ⟨ob,by show 0 <= 20; decide⟩ (.inl rfl))).1 rfl
    refine ⟨Lp,_,_,rfl,rfl,by rw [ao nTp]; exact ha3,z20 _ (by rw [lm_]; omega),?_⟩
    have nTt : Lt ≠ T:=av I3.t hT
    have ht4 : (upd (upd H3 T (HO.tup [V.int one,V.str ("" : Str)])) Lp (HO.lst (as.map V.ref ++ [V.ref T]))) Lt = some (.lst ((ps.map bp).map V.str)):=by rw [ao (Ne.symm d3.pt),ao nTt]; exact I3.t
    refine ⟨_,rfl,.inl ⟨rfl,_,qL_ ht4⟩,_,rfl,_,rfl,(gF ob.1 ob.2).2,Lt,_,_,rfl,rfl,ht4,z20 _ (by rw [lm_,lm_]; omega),?_⟩
    have ep : bp (one,("" : Str)) = gj one:=if_pos rfl
    rw [ep] at add
    exact ⟨ps ++ [(one,("" : Str))],_,_,_,_,rfl,add,by rw [List.length_append,List.length_singleton,lp]⟩
   ·refine ⟨_,rfl,_,_,rfl,rfl,(by show (0 : Int) < 3; decide),rfl,_,rfl,qR (fun c1 => ?_) (fun c1 => ?_)⟩
    ·have add:=fun T hT => (I2.add (T:=T) (p:=(1,nm)) d3 ha hT (I2.ok.snoc (by omega) ⟨(show (0 : Int) <= 1 /\ (1 : Int) < 10000000 by decide),(show nm.length <= 20 by omega)⟩ (.inr nin))).2 nne
     refine ⟨_,rfl,.inl ⟨rfl,_,qL_ ha⟩,_,rfl,(by show 2 <= sizeLine; decide),fun T hT => ?_⟩
     have nTp : Lp ≠ T:=av ha hT
     have nTt : Lt ≠ T:=av I2.t hT
     have nTn : Ln ≠ T:=av I2.n hT
     refine ⟨Lp,_,_,rfl,rfl,by rw [ao nTp]; exact ha,z20 _ (by rw [lm_]; omega),?_⟩
     have ht4 : (upd (upd H2 T (HO.tup [V.int 1,V.str nm])) Lp (HO.lst (as.map V.ref ++ [V.ref T]))) Lt = some (.lst ((ps.map bp).map V.str)):=by rw [ao (Ne.symm d3.pt),ao nTt]; exact I2.t
     refine ⟨_,rfl,.inl ⟨rfl,_,qL_ ht4⟩,_,rfl,Lt,_,_,rfl,rfl,ht4,z20 _ (by rw [lm_,lm_]; omega),?_⟩
     have hn5 : (upd (upd (upd H2 T (HO.tup [V.int 1,V.str nm])) Lp (HO.lst (as.map V.ref ++ [V.ref T]))) Lt (HO.lst ((ps.map bp).map V.str ++ [V.str nm]))) Ln = some (.lst ((bo ps).map V.str)):=by rw [ao (Ne.symm d3.tn),ao (Ne.symm d3.pn),ao nTn]; exact I2.n
     refine ⟨_,rfl,.inl ⟨rfl,_,qL_ hn5⟩,_,rfl,Ln,_,_,rfl,rfl,hn5,z20 _ (by rw [lm_]; omega),?_⟩
     have ep : bp (1,nm) = nm:=(if_neg nne).trans (if_pos rfl)
     have ad:=add T hT
     rw [ep] at ad
     exact ⟨ps ++ [(1,nm)],_,_,_,_,rfl,ad,by rw [List.length_append,List.length_singleton,lp]⟩
    ·have q1:=bE (a:=n / 12) (b:=20) (by decide)
     have q3:=bE (a:=n / 36) (b:=3) (by decide)
     refine ⟨_,rfl,_,_,rfl,rfl,⟨by decide,by decide⟩,_,_,rfl,rfl,(by show (0 : Int) < 20; decide),_,_,rfl,rfl,(by show 3 <= sizeLine; decide),fun Lx hLx => ?_⟩
     have ux:=ah hLx (HO.lst ([20,2,1 + n / 12 % 20].map V.int))
     obtain ⟨one,eo⟩ : ∃ one,([20,2,1 + n / 12 % 20] : LI).getD (n / 36 % 3).toNat 0 = one:=⟨_,rfl⟩
     have ob : 1 <= one /\ one < 10000000:=by
      rw [<- eo]
      refine getD_in q3.1 q3.2 fun x hx => ?_
      simp only [List.mem_cons,List.not_mem_nil,or_false] at hx
      rcases hx with rfl | rfl | rfl <;> omega
     refine ⟨_,rfl,_,_,rfl,rfl,⟨by decide,by decide⟩,_,_,rfl,rfl,(by show (0 : Int) < 3; decide),Lx,_,_,_,rfl,rfl,qL_ af,gr (ns:=[20,2,1 + n / 12 % 20]) q3.1 q3.2,?_⟩
     try dsimp only [aG,aO,List.set]
     rw [eo]
     obtain ⟨H3,e3⟩ : ∃ H3,upd H2 Lx (HO.lst [V.int 20,V.int 2,V.int (1 + n / 12 % 20)]) = H3:=⟨_,rfl⟩
     have ux' : Same H2 H3:=by rw [<- e3]; exact ux
     rw [e3]
     have I3:=I2.same ux'
     have ha3:=ux' _ _ ha
     have ob0 : (0 : Int) <= one:=by omega
     have nsl:=gF ob0 ob.2
     have st1 : ((Str.ofString "*")).length = 1:=by decide
     refine ⟨_,rfl,.inl ⟨rfl,_,qL_ ha3⟩,_,rfl,_,rfl,(by show 2 <= sizeLine; decide),fun T hT => ?_⟩
     have nTp : Lp ≠ T:=av ha3 hT
     have nTt : Lt ≠ T:=av I3.t hT
     have nTn : Ln ≠ T:=av I3.n hT
     have add:=(I3.add (T:=T) (p:=(one,nm)) d3 ha3 hT (I3.ok.snoc (by omega) ⟨(show 0 <= one /\ one < 10000000 from ⟨ob0,ob.2⟩),(show nm.length <= 20 by omega)⟩ (.inr nin))).2 nne
     refine ⟨Lp,_,_,rfl,rfl,by rw [ao nTp]; exact ha3,z20 _ (by rw [lm_]; omega),?_⟩
     obtain ⟨H4,e4⟩ : ∃ H4,upd (upd H3 T (HO.tup [V.int one,V.str nm])) Lp (HO.lst (as.map V.ref ++ [V.ref T])) = H4:=⟨_,rfl⟩
     have ht4 : H4 Lt = some (.lst ((ps.map bp).map V.str)):=by rw [<- e4,ao (Ne.symm d3.pt),ao nTt]; exact I3.t
     have hn4 : H4 Ln = some (.lst ((bo ps).map V.str)):=by rw [<- e4,ao (Ne.symm d3.pn),ao nTn]; exact I3.n
     rw [e4] at add ⊢
     refine ⟨_,rfl,.inl ⟨rfl,_,qL_ ht4⟩,_,rfl,_,rfl,nsl.2,_,_,rfl,rfl,z20 _ (show (gj one).length + _ <= 100 by omega),(by show 2 <= sizeLine; decide),fun Ly hLy => ?_⟩
     have uy:=ah hLy (HO.lst [V.str (gj one ++ Str.ofString "*"),V.str (Str.ofString "")])
     have nyt : Lt ≠ Ly:=av ht4 hLy
     have nyn : Ln ≠ Ly:=av hn4 hLy
     obtain ⟨x,ex1,ex2,ex3⟩ : ∃ x : Str,atI [V.str (gj one ++ Str.ofString "*"),V.str (Str.ofString "")] (if decide (V.int one = V.int 1) = true then 1 else 0) = some (.str x) /\ bp (one,nm) = x ++ nm /\ x.length <= 40:=by
      by_cases c2 : one = 1
      ·refine ⟨Str.ofString "",by rw [decide_eq_true (congrArg V.int c2)]; rfl,?_,by decide⟩
       have e1 : bp (one,nm) = nm:=(if_neg nne).trans (if_pos c2)
       rw [e1]
       exact (tT nm).symm
      ·refine ⟨gj one ++ Str.ofString "*",by rw [decide_eq_false fun z => c2 (V.int.inj z)]; rfl,(if_neg nne).trans (if_neg c2),by rw [len_app]; omega⟩
     refine ⟨_,rfl,rfl,.inr ⟨_,rfl,Ly,_,_,_,rfl,rfl,qL_ af,ex1,_,rfl,_,_,rfl,rfl,z20 _ (by omega),?_⟩⟩
     rw [<- ex2]
     refine ⟨Lt,_,_,rfl,rfl,by rw [ao nyt]; exact ht4,z20 _ (by rw [lm_,lm_]; omega),?_⟩
     have hn6 : (upd (upd H4 Ly (HO.lst [V.str (gj one ++ Str.ofString "*"),V.str (Str.ofString "")])) Lt (HO.lst ((ps.map bp).map V.str ++ [V.str (bp (one,nm))]))) Ln = some (.lst ((bo ps).map V.str)):=by rw [ao (Ne.symm d3.tn),ao nyn]; exact hn4
     refine ⟨_,rfl,.inl ⟨rfl,_,qL_ hn6⟩,_,rfl,Ln,_,_,rfl,rfl,hn6,z20 _ (by rw [lm_]; omega),?_⟩
     refine ⟨ps ++ [(one,nm)],_,_,_,_,rfl,add.same fun b o e => ?_,by rw [List.length_append,List.length_singleton,lp]⟩
     have nb : b ≠ Ly:=fun z => by rw [z,ao (Ne.symm nyn),ao (Ne.symm nyt),hLy] at e; cases e
     by_cases c1 : b = Ln
     ·rw [c1,af] at e ⊢; exact e
     ·rw [ao c1] at e ⊢
      by_cases c2 : b = Lt
      ·rw [c2,af] at e ⊢; exact e
      ·rw [ao c2] at e ⊢
       rw [ao nb]; exact e
  ·rintro σ' H1 ⟨ps,v2,v7,v8,v9,rfl,I1,lp⟩
   exact nxt _ _ ⟨ps,v2,v7,v8,v9,rfl,I1⟩
 rintro σ' H1 ⟨ps,v2,v7,v8,v9,rfl,I1⟩
 obtain ⟨as,ha,hA⟩:=I1.p
 refine ⟨_,rfl,Lp,_,rfl,.inl ⟨qL_ ha,fun T hT => ?_⟩⟩
 have uT:=ah hT (HO.tup (as.map V.ref))
 refine ⟨rfl,_,rfl,_,Lt,ps.map bp,rfl,rfl,uT _ _ I1.t,q9 I1.ok.ok,_,rfl,(by show 3 <= sizeLine; decide),fun l hl => ?_⟩
 have ul:=ah hl (HO.lst [V.ref T,V.str (Txt.join (" + " : Str) (ps.map bp)),V.ref Ln])
 exact k l Ln (.ref T) ps _ (I1.s.trans (uT.trans ul)) af ⟨T,as,rfl,ul _ _ af,Paired.mapP hA fun _ _ q => (uT.trans ul) _ _ q⟩ I1.ok ((uT.trans ul) _ _ I1.n) d3.fn
end
structure It where
 st : Stt
 v : V
 nl : Addr
 rl : Addr
 names : List Str
 rows : List Str
structure ItAt (ns : LI) (H : Hp) (a : Addr) (it : It) : Prop where
 li : H a = some (.lst [it.v,.str (ax it.st),.int (aD it.st : Int),.ref it.nl,.ref it.rl])
 sv : StAt H it.v it.st
 hn : H it.nl = some (.lst (it.names.map V.str))
 hr : H it.rl = some (.lst (it.rows.map V.str))
 wf : Wf it.st
 nm : IsNm it.names (aY it.st)
 rs : IsNm it.rows (aV it.st)
 ni : ∀ x ∈ it.names,x ∈ nm4 ns
 ri : ∀ x ∈ it.rows,x ∈ rw3 ns
theorem ItAt.same {ns : LI} {H H' : Hp} {a : Addr} {it : It} (h : ItAt ns H a it) (s : Same H H') : ItAt ns H' a it:=
 ⟨s _ _ h.li,StAt.same (tkS s) h.sv,s _ _ h.hn,s _ _ h.hr,h.wf,h.nm,h.rs,h.ni,h.ri⟩
def Off (L a : Addr) (it : It) : Prop:=a ≠ L /\ it.nl ≠ L /\ it.rl ≠ L
theorem ItAt.off {ns : LI} {H : Hp} {a L : Addr} {it : It} {xs ys : List V} (h : ItAt ns H a it) (o : Off L a it) (hL : H L = some (.lst xs)) : ItAt ns (upd H L (.lst ys)) a it:=
 ⟨by rw [ao o.1]; exact h.li,StAt.same (fun b zs e => by rw [ao (eF e hL (by intro z; cases z))]; exact e) h.sv,by rw [ao o.2.1]; exact h.hn,by rw [ao o.2.2]; exact h.hr,h.wf,h.nm,h.rs,h.ni,h.ri⟩
theorem dA : ∀ {ps vs : List Str},ps.Nodup -> (∀ p ∈ ps,p ∈ vs) -> ps.length <= vs.length
 | [],_,_,_ => Nat.zero_le _
 | p :: ps,vs,nd,h => by
  have nd' := List.nodup_cons.mp nd
  have hp:=h p List.mem_cons_self
  have:=dA (vs:=vs.erase p) nd'.2 fun q hq => (List.mem_erase_of_ne (show q ≠ p from fun z => nd'.1 (by rw [<- z]; exact hq))).mpr (h q (List.mem_cons_of_mem _ hq))
  rw [List.length_erase_of_mem hp] at this
  have:=List.length_pos_of_mem hp
  rw [List.length_cons]
  omega
theorem ItAt.few {ns : LI} {H : Hp} {a : Addr} {it : It} (h : ItAt ns H a it) : it.names.length <= 4 /\ it.rows.length <= 3:=⟨dA h.nm.nd h.ni,dA h.rs.nd h.ri⟩
theorem tK (a b c : Str) : a ++ b ++ c = a ++ (b ++ c):=Str.append_assoc a b c
theorem qe (r f n : Str) : r ++ ("[" : Str) ++ f ++ ("] = " : Str) ++ n = r ++ ("[" : Str) ++ f ++ ("]" : Str) ++ (" = " : Str) ++ n:=by
 rw [show ("] = " : Str) = ("]" : Str) ++ (" = " : Str) from by decide +kernel]
 simp only [tK]
theorem qd (r f q g : Str) : r ++ ("[" : Str) ++ f ++ ("] = " : Str) ++ q ++ ("[" : Str) ++ g ++ ("]" : Str) = r ++ ("[" : Str) ++ f ++ ("]" : Str) ++ (" = " : Str) ++ (q ++ ("[" : Str) ++ g ++ ("]" : Str)):=by
 rw [show ("] = " : Str) = ("]" : Str) ++ (" = " : Str) from by decide +kernel]
 simp only [tK]
theorem nJ (f k g : Str) : f ++ (" " : Str) ++ k ++ (" " : Str) ++ g = f ++ ((" " : Str) ++ k ++ (" " : Str)) ++ g:=by simp only [tK]
def jd (K : PySem.W.Frag) : Sp:=fun vs H Q _ => ∃ (a : Addr) (i : Int) (ns : LI),vs = [.ref a,.int i] /\ SqL K H a (ns.map V.int) /\ ns.length <= 63 /\ (0 <= i /\ i < 100000) /\
 ∀ (l : Addr) (it : It) (H' : Hp),Same H H' -> ItAt ns H' l it -> H l = none -> H it.nl = none -> H it.rl = none -> aD it.st = 0 -> (ax it.st).length <= 900 -> Q (.ref l) H'
theorem qS {j : Int} (j0 : 0 <= j) (j1 : j < 5) : ∃ κ : Str,atI [V.str (Str.ofString "="),V.str (Str.ofString "<="),V.str (Str.ofString "<"),V.str (Str.ofString "is"),V.str (Str.ofString "like")] j = some (.str κ) /\ κ.length <= 4 /\ (κ = Str.ofString "is" \/ κ = Str.ofString "like" \/ ((κ = Str.ofString "=" \/ κ = Str.ofString "<=" \/ κ = Str.ofString "<") /\ κ ≠ Str.ofString "is" /\ κ ≠ Str.ofString "like")):=by
 have c : j = 0 \/ j = 1 \/ j = 2 \/ j = 3 \/ j = 4:=by omega
 rcases c with c | c | c | c | c <;> subst c
 ·exact ⟨_,rfl,by decide +kernel,.inr (.inr ⟨.inl rfl,by decide +kernel⟩)⟩
 ·exact ⟨_,rfl,by decide +kernel,.inr (.inr ⟨.inr (.inl rfl),by decide +kernel⟩)⟩
 ·exact ⟨_,rfl,by decide +kernel,.inr (.inr ⟨.inr (.inr rfl),by decide +kernel⟩)⟩
 ·exact ⟨_,rfl,by decide +kernel,.inl rfl⟩
 ·exact ⟨_,rfl,by decide +kernel,.inr (.inl rfl)⟩
section
variable {P : Program} {w : World} {K : PySem.W.Frag} {mg : Str -> Option Value} {base : Heap} {f : Addr} {fd : FuncData} {dV : Value}
theorem sc__law_plain : FnScope ["_law_script","_law_at","_law_number","_law_one","_law_first","_law_names","_law_other","_law_second","_law_more","_law_row_here","_law_last","_law_kind","_law_sign","_law_shown_one"] ["_law_script","_law_at"] (aj bN):=⟨rfl,rfl,rfl,by decide +kernel,rfl,by decide +kernel,by decide +kernel⟩
theorem sq (F : FunD K "_law_plain" "_law_plain" bN dV f fd) (aC : DefOk P w K mg base "_law_draw" 1 ["_law_script","_law_k"] [] (dn K)) (dG : DefOk P w K mg base "_law_sum" 3 ["_law_script","_law_at"] [] (pI K)) (dF : DefOk P w K mg base "_law_row" 2 ["_law_script","_law_number"] [] (pJ K)) (fO : mg "str" = none) (aS : mg "sorted" = none) (cj : mg "set" = none) : FnOk P w K mg base CX0 4 f fd ["_law_script","_law_at"] (jd K):=by
 refine F.ok sc__law_plain (fun vs H Q E h => ?_) (fun cdv A outer s H vs Q E hr h => ?_)
 ·obtain ⟨a,i,ns,rfl,_⟩:=h
  rfl
 obtain ⟨a,i,ns,rfl,hS,h63,⟨i0,i1⟩,k⟩:=h
 refine dN (aq (PSW.mk (az (i:=2) sc__law_plain.nd rfl (Or.inl rfl) (aR aC hr (aa (pv 0) (aa (pv 1) ag)))))
   (aq (PSW.mk (mz (aR dG hr (aa (pv 0) (aa (ai bf (pv 1) ae) ag))) (mj rfl (aU (aH (i:=3) sc__law_plain.nd rfl (Or.inl rfl)) (aU (aH (i:=4) sc__law_plain.nd rfl (Or.inl rfl)) (aU (aH (i:=5) sc__law_plain.nd rfl (Or.inl rfl)) gJ))))))
   (aq (PSW.mk (mz (aR dG hr (aa (pv 0) (aa (ai bf (pv 1) ae) ag))) (mj rfl (aU (aH (i:=6) sc__law_plain.nd rfl (Or.inl rfl)) (aU (aH (i:=7) sc__law_plain.nd rfl (Or.inl rfl)) (aU (aH (i:=8) sc__law_plain.nd rfl (Or.inl rfl)) gJ))))))
   (aq (PSW.mk (az (i:=9) sc__law_plain.nd rfl (Or.inl rfl) (aR dF hr (aa (pv 0) (aa (ai ba (pv 2) ae) ag)))))
   (aq (PSW.mk (az (i:=10) sc__law_plain.nd rfl (Or.inl rfl) (aR dF hr (aa (pv 0) (aa (ai ba (pv 2) ae) ag)))))
   (aq (qB (i:=11) sc__law_plain.nd rfl (Or.inl rfl) (uG aM (eG (ak (PEW.mk ay) (ak (PEW.mk ay) (ak (PEW.mk ay) (ak (PEW.mk ay) (ak (PEW.mk ay) cg)))))) (PEW.mk (ai aQ (pv 2) ae)) (fun _ _ => rfl)))
   (aq (rn (PTW.mk (aB dh (pv 11) ay (aN _))) (aq (qB (i:=12) sc__law_plain.nd rfl (Or.inl rfl) (uG aM (eG (ak (PEW.mk ae) (ak (PEW.mk ae) (ak (PEW.mk ae) (ak (PEW.mk (ai aQ (ai ba (pv 2) ae) ae)) cg))))) (PEW.mk (ai aQ (ai ba (pv 2) ae) ae)) (fun _ _ => rfl)))
   (bH (iG (eG (ak (PEW.mk (bB (aa ay (aa (pv 9) (aa (pv 3) (aa (pv 12) ag)))))) (ak (PEW.mk (ai ar (ai ar (ai ar (ai ar (pv 9) ay) (pv 4)) ay) (bb dU (by rfl) fO k4 (aa (pv 12) ag)))) (ak (PEW.mk ae) (ak (PEW.mk (aE ((bz rfl)) (by rfl) aS cu (aa (bb ((bR rfl)) (by rfl) cj fU (aa (pv 5) ag)) ag))) (ak (PEW.mk (bS (aa (pv 9) ag))) cg))))))))) mV)
   (aq (PSW.mk (az (i:=5) sc__law_plain.nd rfl (Or.inl rfl) (aE ((bz rfl)) (by rfl) aS cu (aa (bb ((bR rfl)) (by rfl) cj fU (aa (ai pq (pv 5) (pv 8)) ag)) ag))))
   (aq (rn (PTW.mk (aB dh (pv 11) ay (aN _))) (aq (PSW.mk (az (i:=13) sc__law_plain.nd rfl (Or.inl rfl) (ai ar (ai ar (ai ar (ai ar (ai ar (ai ar (ai ar (pv 9) ay) (pv 4)) ay) (pv 10)) ay) (pv 7)) ay)))
   (bH (iG (eG (ak (uM (ak (PEW.mk ay) (ak (PEW.mk (pv 9)) (ak (PEW.mk (pv 3)) (ak (PEW.mk (pv 10)) (ak (PEW.mk (pv 6)) cg)))))) (ak (PEW.mk (pv 13)) (ak (PEW.mk ae) (ak (PEW.mk (pv 5)) (ak (PEW.mk (aE ((bz rfl)) (by rfl) aS cu (aa (bb ((bR rfl)) (by rfl) cj fU (aa (bS (aa (pv 9) (aa (pv 10) ag))) ag)) ag))) cg))))))))) mV)
   (bH (iG (eG (ak (PEW.mk (bB (aa (pv 11) (aa (pv 3) (aa (pv 6) ag))))) (ak (PEW.mk (ai ar (ai ar (ai ar (ai ar (pv 4) ay) (pv 11)) ay) (pv 7))) (ak (PEW.mk ae) (ak (PEW.mk (pv 5)) (ak (PEW.mk (bS ag)) cg))))))))))))))))) ?_
 refine ⟨_,rfl,_,rfl,a,i,ns,rfl,hS,h63,i0,by omega,?_⟩
 try dsimp only [aG,aO,List.set]
 obtain ⟨n,en⟩ : ∃ n,eY ns i = n:=⟨_,rfl⟩
 have n0:=cC ns i
 rw [en] at n0 ⊢
 refine ⟨_,rfl,_,rfl,_,_,rfl,rfl,a,i + 1,ns,rfl,hS,h63,⟨by omega,by omega⟩,fun l1 nl1 va pa H1 s1 hl1 ha oa hn1 f1 => ?_⟩
 refine ⟨l1,_,rfl,qL_ hl1,rfl,_,_,rfl,_,_,rfl,_,_,rfl,rfl,?_⟩
 try dsimp only [aG,aO,List.set]
 refine ⟨_,rfl,_,rfl,_,_,rfl,rfl,a,i + 10,ns,rfl,s1.seq hS,h63,⟨by omega,by omega⟩,fun l2 nl2 vb pb H2 s2 hl2 hb ob hn2 f2 => ?_⟩
 refine ⟨l2,_,rfl,qL_ hl2,rfl,_,_,rfl,_,_,rfl,_,_,rfl,rfl,?_⟩
 try dsimp only [aG,aO,List.set]
 have s02:=s1.trans s2
 have ha2:=ha.same (tkS s2)
 have hn1' := s2 _ _ hn1
 refine ⟨_,rfl,_,rfl,_,_,rfl,rfl,⟨by decide,by decide⟩,a,n / 5,ns,rfl,s02.seq hS,h63,fun H3 s3 => ?_⟩
 try dsimp only [aG,aO,List.set]
 have s03:=s02.trans s3
 refine ⟨_,rfl,_,rfl,_,_,rfl,rfl,⟨by decide,by decide⟩,a,n / 15,ns,rfl,s03.seq hS,h63,fun H4 s4 => ?_⟩
 try dsimp only [aG,aO,List.set]
 have s24:=s3.trans s4
 have s04:=s02.trans s24
 obtain ⟨r,er⟩ : ∃ r,rwF ns (n / 5) = r:=⟨_,rfl⟩
 obtain ⟨q,eq⟩ : ∃ q,rwF ns (n / 15) = q:=⟨_,rfl⟩
 have rl:=qt ns (n / 5)
 have ri:=sJ ns (n / 5)
 have ql:=qt ns (n / 15)
 have qi:=sJ ns (n / 15)
 rw [er] at rl ri ⊢
 rw [eq] at ql qi ⊢
 refine ⟨(by show 5 <= sizeLine; decide),fun lk hlk => ?_⟩
 have m5:=bE (a:=n) (b:=5) (by decide)
 obtain ⟨κ,ek,kl,kc⟩:=qS m5.1 m5.2
 have s5:=ah hlk (HO.lst [V.str (Str.ofString "="),V.str (Str.ofString "<="),V.str (Str.ofString "<"),V.str (Str.ofString "is"),V.str (Str.ofString "like")])
 refine ⟨_,rfl,_,_,rfl,rfl,(by show (0 : Int) < 5; decide),lk,_,_,_,rfl,rfl,qL_ af,ek,?_⟩
 obtain ⟨H5,e5⟩ : ∃ H5,upd H4 lk (HO.lst [V.str (Str.ofString "="),V.str (Str.ofString "<="),V.str (Str.ofString "<"),V.str (Str.ofString "is"),V.str (Str.ofString "like")]) = H5:=⟨_,rfl⟩
 rw [e5] at s5 ⊢
 try dsimp only [aG,aO,List.set]
 have s25:=s24.trans s5
 have s05:=s02.trans s25
 have ha5:=ha2.same (tkS s25)
 have hb5:=hb.same (tkS s25)
 have hn1'' := s25 _ _ hn1'
 have hn2'' := s25 _ _ hn2
 have la:=oa.tlen
 have lb:=ob.tlen
 have na:=oa.nlen
 have nb:=ob.nlen
 have zz : ∀ m : Nat,m <= 10000 -> m <= sizeLine:=fun m h => Nat.le_trans h (by decide)
 have c1 : (Str.ofString "[").length = 1:=by decide
 have c2 : (Str.ofString "] = ").length = 4:=by decide
 have c3 : (Str.ofString "]").length = 1:=by decide
 have c4 : (Str.ofString " ").length = 1:=by decide
 refine ⟨_,rfl,rfl,_,rfl,uY (fun c => ?_) (fun c => ?_)⟩
 ·have c' : κ = Str.ofString "is" := V_str.mp c
  have q4:=bE (a:=n / 45) (b:=4) (by decide)
  have q1:=bE (a:=n / 45) (b:=1000000) (by decide)
  refine ⟨_,rfl,_,_,rfl,rfl,⟨by decide,by decide⟩,_,_,rfl,rfl,(by show (0 : Int) < 1000000; decide),(by show 4 <= sizeLine; decide),fun lx hlx => ?_⟩
  have s6:=ah hlx (HO.lst ([0,1,999999,n / 45 % 1000000].map V.int))
  obtain ⟨sg,es⟩ : ∃ sg,([0,1,999999,n / 45 % 1000000] : LI).getD (n / 45 % 4).toNat 0 = sg:=⟨_,rfl⟩
  have sb : 0 <= sg /\ sg < 10000000:=by
   rw [<- es]
   refine getD_in q4.1 q4.2 fun x hx => ?_
   simp only [List.mem_cons,List.not_mem_nil,or_false] at hx
   rcases hx with rfl | rfl | rfl | rfl <;> omega
  refine ⟨_,rfl,_,_,rfl,rfl,⟨by decide,by decide⟩,_,_,rfl,rfl,(by show (0 : Int) < 4; decide),lx,_,_,_,rfl,rfl,qL_ af,gr (ns:=[0,1,999999,n / 45 % 1000000]) q4.1 q4.2,?_⟩
  rw [es]
  obtain ⟨H6,e6⟩ : ∃ H6,upd H5 lx (HO.lst [V.int 0,V.int 1,V.int 999999,V.int (n / 45 % 1000000)]) = H6:=⟨_,rfl⟩
  have s6' : Same H5 H6:=by rw [<- e6]; exact s6
  rw [e6]
  try dsimp only [aG,aO,List.set]
  have nsl:=gF sb.1 sb.2
  refine ⟨_,rfl,_,rfl,_,rfl,(by show 4 <= sizeLine; decide),fun T hT => ?_⟩
  have s7:=ah hT (HO.tup [V.str (Str.ofString "is"),V.str r,va,V.int sg])
  refine ⟨_,rfl,_,_,rfl,rfl,zz _ (by omega),_,rfl,_,_,rfl,rfl,zz _ (by rw [len_app]; omega),_,_,rfl,rfl,zz _ (by rw [len_app,len_app]; omega),_,rfl,_,rfl,nsl.2,_,_,rfl,rfl,zz _ (by rw [len_app,len_app,len_app]; show _ + (gj sg).length <= 10000; omega),?_⟩
  have s57:=s6'.trans s7
  refine ⟨_,rfl,nl1,bo pa,rfl,s57 _ _ hn1'',by omega,fun S hS' => ?_⟩
  have s8:=ah hS' (cT P w S (bL (bo pa)))
  have ol:=dw (bo pa)
  refine ⟨S,_,rfl,af,by omega,fun lz ms hlz pz so => ?_⟩
  have s9:=ah hlz (HO.lst (ms.map V.str))
  refine ⟨_,rfl,(by show 1 <= sizeLine; decide),fun lr hlr => ?_⟩
  have s10:=ah hlr (HO.lst [V.str r])
  refine ⟨(by show 5 <= sizeLine; decide),fun l hl => ?_⟩
  have s11:=ah hl (HO.lst [V.ref T,V.str (r ++ Str.ofString "[" ++ dB pa ++ Str.ofString "] = " ++ gj sg),V.int 0,V.ref lz,V.ref lr])
  have t7:=s8.trans (s9.trans (s10.trans s11))
  have g7:=s05.trans s57
  refine k l ⟨.sg r pa sg,.ref T,lz,lr,ms,[r]⟩ _ (g7.trans t7) ⟨?_,⟨T,va,rfl,t7 _ _ af,ha5.same (tkS (s57.trans t7))⟩,(s10.trans s11) _ _ af,s11 _ _ af,⟨by omega,oa.ok,sb.1,sb.2⟩,IsNm.of_sorted pz so,⟨List.pairwise_singleton ..,List.nodup_cons.mpr ⟨by simp,List.nodup_nil⟩,fun x => Iff.rfl⟩,fun x hx => ?_,fun x hx => by rw [List.mem_singleton.mp hx]; exact ri⟩ ((g7.trans (s8.trans (s9.trans s10))).free hl) ((g7.trans s8).free hlz) ((g7.trans (s8.trans s9)).free hlr) rfl ?_
  ·rw [af]
   show some (HO.lst [V.ref T,V.str (r ++ Str.ofString "[" ++ dB pa ++ Str.ofString "] = " ++ gj sg),V.int 0,V.ref lz,V.ref lr]) = _
   rw [qe]
   rfl
  ·exact oa.nm x (once_memS.mp (pz.mem_iff.mp hx))
  ·show (fD r pa ++ (" = " : Str) ++ gj sg).length <= 900
   unfold fD
   rw [<- qe,len_app,len_app,len_app,len_app]
   have : (("] = " : Str)).length = 4:=by decide
   have : (("[" : Str)).length = 1:=by decide
   omega
 ·have nis : κ ≠ Str.ofString "is" := fun z => c (V_str.mpr z)
  try dsimp only [aG,aO,List.set]
  refine ck (t:=mS _ _) (fun σ' H8 => ∃ (lz : Addr) (ms : List Str),σ' = [some (.ref a),some (.int i),some (.int n),some va,some (.str (dB pa)),some (.ref lz),some vb,some (.str (dB pb)),some (.ref nl2),some (.str r),some (.str q),some (.str κ),none,none] /\ Same H5 H8 /\ H8 lz = some (.lst (ms.map V.str)) /\ H lz = none /\ IsNm ms (bo pa ++ bo pb)) ?_ (fun D' nxt => ?_)
  rotate_left
  ·refine ⟨_,rfl,_,rfl,nl1,nl2,_,_,rfl,rfl,hn1'',hn2'',zz _ (by rw [lm_,lm_]; omega),fun lc hlc => ?_⟩
   have s6:=ah hlc (HO.lst ((bo pa).map V.str ++ (bo pb).map V.str))
   refine ⟨lc,bo pa ++ bo pb,rfl,by rw [af,List.map_append],by rw [List.length_append]; omega,fun S hS' => ?_⟩
   have s7:=ah hS' (cT P w S (bL (bo pa ++ bo pb)))
   have ol:=dw (bo pa ++ bo pb)
   rw [List.length_append] at ol
   refine ⟨S,_,rfl,af,by omega,fun lz ms hlz pz so => ?_⟩
   exact nxt _ _ ⟨lz,ms,rfl,s6.trans (s7.trans (ah hlz (HO.lst (ms.map V.str)))),af,(s05.trans (s6.trans s7)).free hlz,IsNm.of_sorted pz so⟩
  rintro σ' H8 ⟨lz,ms,rfl,s58,hz8,fz,isn⟩
  have isi : ∀ x ∈ ms,x ∈ nm4 ns:=fun x hx => by
   rcases ma_.mp ((isn.mem x).mp hx) with z | z
   ·exact oa.nm x z
   ·exact ob.nm x z
  have g8:=s05.trans s58
  have ha8:=ha5.same (tkS s58)
  have hb8:=hb5.same (tkS s58)
  refine ⟨_,rfl,rfl,_,rfl,uY (fun c => ?_) (fun c => ?_)⟩
  ·refine ⟨_,rfl,_,_,rfl,rfl,zz _ (by omega),_,rfl,_,_,rfl,rfl,zz _ (by rw [len_app]; omega),_,_,rfl,rfl,zz _ (by rw [len_app,len_app]; omega),_,rfl,_,_,rfl,rfl,zz _ (by rw [len_app,len_app,len_app]; omega),_,_,rfl,rfl,zz _ (by rw [len_app,len_app,len_app,len_app]; omega),_,rfl,_,_,rfl,rfl,zz _ (by rw [len_app,len_app,len_app,len_app,len_app]; omega),_,_,rfl,rfl,zz _ (by rw [len_app,len_app,len_app,len_app,len_app,len_app]; omega),?_⟩
   try dsimp only [aG,aO,List.set]
   refine ⟨_,rfl,_,rfl,_,rfl,_,rfl,(by show 5 <= sizeLine; decide),fun T hT => ?_⟩
   have s9:=ah hT (HO.tup [V.str (Str.ofString "like"),V.str r,va,V.str q,vb])
   refine ⟨_,rfl,_,rfl,_,rfl,_,rfl,(by show 2 <= sizeLine; decide),fun ly hly => ?_⟩
   have s10:=ah hly (HO.lst [V.str r,V.str q])
   refine ⟨ly,[r,q],rfl,af,(by show 2 < 4000; decide),fun S2 hS2 => ?_⟩
   have s11:=ah hS2 (cT P w S2 (bL [r,q]))
   have ol2:=dw [r,q]
   refine ⟨S2,_,rfl,af,Nat.lt_of_le_of_lt ol2 (by show 2 < 64; decide),fun lr mr hlr pr sor => ?_⟩
   have s12:=ah hlr (HO.lst (mr.map V.str))
   refine ⟨(by show 5 <= sizeLine; decide),fun l hl => ?_⟩
   have s13:=ah hl (HO.lst [V.ref T,V.str (r ++ Str.ofString "[" ++ dB pa ++ Str.ofString "] = " ++ q ++ Str.ofString "[" ++ dB pb ++ Str.ofString "]"),V.int 0,V.ref lz,V.ref lr])
   have t9:=s10.trans (s11.trans (s12.trans s13))
   have isr : IsNm mr [r,q]:=IsNm.of_sorted pr sor
   refine k l ⟨.lk r pa q pb,.ref T,lz,lr,ms,mr⟩ _ (g8.trans (s9.trans t9)) ⟨?_,⟨T,va,vb,rfl,t9 _ _ af,ha8.same (tkS (s9.trans t9)),hb8.same (tkS (s9.trans t9))⟩,(s9.trans t9) _ _ hz8,s13 _ _ af,⟨by omega,oa.ok,by omega,ob.ok⟩,isn,isr,isi,fun x hx => ?_⟩ ((g8.trans (s9.trans (s10.trans (s11.trans s12)))).free hl) fz ((g8.trans (s9.trans (s10.trans s11))).free hlr) rfl ?_
   ·rw [af]
    show some (HO.lst [V.ref T,V.str (r ++ Str.ofString "[" ++ dB pa ++ Str.ofString "] = " ++ q ++ Str.ofString "[" ++ dB pb ++ Str.ofString "]"),V.int 0,V.ref lz,V.ref lr]) = _
    rw [qd]
    rfl
   ·have:=(isr.mem x).mp hx
    simp only [List.mem_cons,List.not_mem_nil,or_false] at this
    rcases this with rfl | rfl
    ·exact ri
    ·exact qi
   ·show (fD r pa ++ (" = " : Str) ++ fD q pb).length <= 900
    unfold fD
    rw [<- qd,len_app,len_app,len_app,len_app,len_app,len_app,len_app]
    have : (("] = " : Str)).length = 4:=by decide
    have : (("[" : Str)).length = 1:=by decide
    have : (("]" : Str)).length = 1:=by decide
    omega
  ·have nlk : κ ≠ Str.ofString "like" := fun z => c (V_str.mpr z)
   have kc' : κ = Str.ofString "=" \/ κ = Str.ofString "<=" \/ κ = Str.ofString "<" := by
    rcases kc with z | z | z
    ·exact absurd z nis
    ·exact absurd z nlk
    ·exact z.1
   refine ⟨_,rfl,_,rfl,_,rfl,(by show 3 <= sizeLine; decide),fun T hT => ?_⟩
   have s9:=ah hT (HO.tup [V.str κ,va,vb])
   refine ⟨_,rfl,_,_,rfl,rfl,zz _ (by omega),_,rfl,_,_,rfl,rfl,zz _ (by rw [len_app]; omega),_,_,rfl,rfl,zz _ (by rw [len_app,len_app]; omega),_,rfl,_,_,rfl,rfl,zz _ (by rw [len_app,len_app,len_app]; omega),?_⟩
   refine ⟨_,rfl,(by show 0 <= sizeLine; decide),fun lr hlr => ?_⟩
   have s10:=ah hlr (HO.lst [])
   refine ⟨(by show 5 <= sizeLine; decide),fun l hl => ?_⟩
   have s11:=ah hl (HO.lst [V.ref T,V.str (dB pa ++ Str.ofString " " ++ κ ++ Str.ofString " " ++ dB pb),V.int 0,V.ref lz,V.ref lr])
   have t9:=s10.trans s11
   refine k l ⟨.cmp κ pa pb,.ref T,lz,lr,ms,[]⟩ _ (g8.trans (s9.trans t9)) ⟨?_,⟨T,va,vb,rfl,t9 _ _ af,ha8.same (tkS (s9.trans t9)),hb8.same (tkS (s9.trans t9))⟩,(s9.trans t9) _ _ hz8,s11 _ _ af,⟨kc',oa.ok,ob.ok⟩,isn,⟨List.Pairwise.nil,List.nodup_nil,fun x => Iff.rfl⟩,isi,fun x hx => by cases hx⟩ ((g8.trans (s9.trans s10)).free hl) fz ((g8.trans s9).free hlr) rfl ?_
   ·rw [af]
    show some (HO.lst [V.ref T,V.str (dB pa ++ Str.ofString " " ++ κ ++ Str.ofString " " ++ dB pb),V.int 0,V.ref lz,V.ref lr]) = _
    rw [nJ]
    rfl
   ·show (dB pa ++ ((" " : Str) ++ κ ++ (" " : Str)) ++ dB pb).length <= 900
    rw [<- nJ,len_app,len_app,len_app,len_app]
    have : ((" " : Str)).length = 1:=by decide
    omega
end
def pM (K : PySem.W.Frag) : Sp:=fun vs H Q _ => ∃ (a b : Addr) (n : Int) (ns : LI) (it : It),vs = [.ref a,.ref b,.int n] /\ SqL K H a (ns.map V.int) /\ ns.length <= 63 /\ 0 <= n /\ ItAt ns H b it /\ (ax it.st).length <= 100000 /\
 ∀ (l : Addr) (it' : It) (H' : Hp),Same H H' -> ItAt ns H' l it' -> H l = none -> (it'.nl = it.nl \/ H it'.nl = none) -> it'.rl = it.rl -> aD it'.st = 1 + aD it.st -> (ax it'.st).length <= (ax it.st).length + 30 -> Q (.ref l) H'
def qw : Sp:=fun vs H Q _ => ∃ (b c : Addr) (n : Int) (ns : LI) (it jt : It),vs = [.ref b,.ref c,.int n] /\ ItAt ns H b it /\ ItAt ns H c jt /\ (ax it.st).length <= 100000 /\ (ax jt.st).length <= 100000 /\
 ∀ (l : Addr) (it' : It) (H' : Hp),Same H H' -> ItAt ns H' l it' -> H l = none -> H it'.nl = none -> H it'.rl = none -> aD it'.st = 1 + max (aD it.st) (aD jt.st) -> (ax it'.st).length <= (ax it.st).length + (ax jt.st).length + 7 -> Q (.ref l) H'
theorem IsNm.filter {zs xs : List Str} (h : IsNm zs xs) (p : Str -> Bool) : IsNm (zs.filter p) (xs.filter p):=
 ⟨h.so.filter _,h.nd.filter _,fun x => by rw [List.mem_filter,List.mem_filter,h.mem]⟩
theorem mQ {ns : List Str} {i : Nat} {y : V} (h : (ns.map V.str)[i]? = some y) : ∃ z,y = V.str z /\ ns[i]? = some z:=by
 rw [List.getElem?_map] at h
 cases e : ns[i]? with
 | none => rw [e] at h; cases h
 | some z => rw [e] at h; exact ⟨z,(Option.some.inj h).symm,rfl⟩
theorem p7 {xs : List Str} {i : Nat} {x : Str} {p : Str -> Bool} (h : xs[i]? = some x) : (xs.take (i + 1)).filter p = (xs.take i).filter p ++ (if p x = true then [x] else []):=by
 rw [List.take_add_one,h,List.filter_append]
 congr 1
 by_cases c : p x = true
 ·rw [if_pos c]; exact List.filter_cons_of_pos c
 ·rw [if_neg c]; exact List.filter_cons_of_neg c
theorem tY (a k b : Str) : ("(" : Str) ++ a ++ (" " : Str) ++ k ++ (" " : Str) ++ b ++ (")" : Str) = ("(" : Str) ++ a ++ ((" " : Str) ++ k ++ (" " : Str)) ++ b ++ (")" : Str):=by simp only [tK]
theorem t6 {a b : Nat} : (if (b : Int) > (a : Int) then (b : Int) else (a : Int)) = ((max a b : Nat) : Int):=by
 split <;> omega
section
variable {P : Program} {w : World} {K : PySem.W.Frag} {mg : Str -> Option Value} {base : Heap} {f : Addr} {fd : FuncData} {dV : Value}
theorem sc__law_wrapped : FnScope ["_law_script","_law_item","_law_number","_law_statement","_law_line","_law_deep","_law_names","_law_rows","_law_kind","_law_name_here","_law_left"] ["_law_script","_law_item","_law_number"] (aj bg):=⟨rfl,rfl,rfl,by decide +kernel,rfl,by decide +kernel,by decide +kernel⟩
theorem bk__law_wrapped_0 : BlkScope ["_law_script","_law_item","_law_number","_law_statement","_law_line","_law_deep","_law_names","_law_rows","_law_kind","_law_name_here","_law_left"] (aj bg) ["_law_one","_law_name_here"] [none,some 9] { kind:=ScopeKind.function,names:=[(".0",NameKind.local),("_law_one",NameKind.local),("_law_name_here",NameKind.free)],isGenerator:=false,isCoroutine:=false,more:=[] }:=⟨rfl,by decide +kernel,by decide +kernel,by decide +kernel,by decide +kernel,rfl,by decide +kernel⟩
theorem sc__law_two : FnScope ["_law_one","_law_other","_law_number","_law_kind","_law_line","_law_names"] ["_law_one","_law_other","_law_number"] (aj cy):=⟨rfl,rfl,rfl,by decide +kernel,rfl,by decide +kernel,by decide +kernel⟩
theorem um (F : FunD K "_law_wrapped" "_law_wrapped" bg dV f fd) (bT : DefOk P w K mg base "_law_name" 2 ["_law_script","_law_number"] [] (mM K)) : FnOk P w K mg base CX0 3 f fd ["_law_script","_law_item","_law_number"] (pM K):=by
 refine F.ok sc__law_wrapped (fun vs H Q E h => ?_) (fun cdv A outer s H vs Q E hr h => ?_)
 ·obtain ⟨a,b,n,ns,it,rfl,_⟩:=h
  rfl
 obtain ⟨a,b,n,ns,it,rfl,hS,h63,n0,I,bd,k⟩:=h
 obtain ⟨st,v,nl,rl,names,rows⟩:=it
 have few : names.length <= 4:=I.few.1
 have zz : ∀ m : Nat,m <= 200000 -> m <= sizeLine:=fun m h => Nat.le_trans h (by decide)
 refine dN (aq (PSW.mk (mz (pv 1) (mj rfl (aU (aH (i:=3) sc__law_wrapped.nd rfl (Or.inl rfl)) (aU (aH (i:=4) sc__law_wrapped.nd rfl (Or.inl rfl)) (aU (aH (i:=5) sc__law_wrapped.nd rfl (Or.inl rfl)) (aU (aH (i:=6) sc__law_wrapped.nd rfl (Or.inl rfl)) (aU (aH (i:=7) sc__law_wrapped.nd rfl (Or.inl rfl)) gJ))))))))
   (aq (rn (PTW.mk (aB dh (ai aQ (pv 2) ae) ae (aN _))) (bH (iG (eG (ak (PEW.mk (bB (aa ay (aa (pv 3) ag)))) (ak (PEW.mk (ai ar ay (pv 4))) (ak (PEW.mk (ai bf (pv 5) ae)) (ak (PEW.mk (pv 6)) (ak (PEW.mk (pv 7)) cg)))))))) mV)
   (aq (PSW.mk (az (i:=8) sc__law_wrapped.nd rfl (Or.inl rfl) (aI aM (bS (aa ay (aa ay ag))) (ai pw (ai aQ (pv 2) ae) ae) (fun _ _ => rfl))))
   (aq (PSW.mk (az (i:=9) sc__law_wrapped.nd rfl (Or.inr rfl) (aR bT hr (aa (pv 0) (aa (ai ba (pv 2) ae) ag)))))
   (aq (PSW.mk (iE (i:=10) rfl sc__law_wrapped.nd rfl (Or.inl rfl) bk__law_wrapped_0 (gK (pv 6)) (fun _ _ _ _ => (aH (i:=0) bk__law_wrapped_0.nd rfl (Or.inl rfl))) (fun _ _ _ _ => (aB kG (pv 0) (pv 1) (aN _))) (fun _ _ _ _ => (pv 0))))
   (bH (iG (eG (ak (PEW.mk (bB (aa (pv 8) (aa (pv 9) (aa (pv 3) ag))))) (ak (PEW.mk (ai ar (ai ar (ai ar (ai ar (pv 8) ay) (pv 9)) ay) (pv 4))) (ak (PEW.mk (ai bf (pv 5) ae)) (ak (PEW.mk (pv 10)) (ak (PEW.mk (pv 7)) cg))))))))))))) ?_
 refine ⟨_,rfl,b,_,rfl,qL_ I.li,rfl,_,_,rfl,_,_,rfl,_,_,rfl,_,_,rfl,_,_,rfl,rfl,?_⟩
 try dsimp only [aG,aO,List.set]
 have dd : ((aD st : Nat) : Int) + 1 = ((1 + aD st : Nat) : Int):=by omega
 refine ⟨_,rfl,_,_,rfl,rfl,(by show (0 : Int) < 3; decide),rfl,_,rfl,qR (fun c => ?_) (fun c => ?_)⟩
 ·refine ⟨_,rfl,(by show 2 <= sizeLine; decide),fun T hT => ?_⟩
  have s1:=ah hT (HO.tup [V.str (Str.ofString "not"),v])
  have l4 : (Str.ofString "not ").length = 4:=by decide
  have l4' : (("not " : Str)).length = 4:=by decide
  refine ⟨_,rfl,_,_,rfl,rfl,zz _ (by show _ + (ax st).length <= _; have : (ax st).length <= 100000:=bd; omega),_,rfl,_,_,rfl,rfl,_,rfl,_,rfl,(by show 5 <= sizeLine; decide),fun l hl => ?_⟩
  have s2:=ah hl (HO.lst [V.ref T,V.str (Str.ofString "not " ++ ax st),V.int ((aD st : Int) + 1),V.ref nl,V.ref rl])
  have s12:=s1.trans s2
  refine k l ⟨.no st,.ref T,nl,rl,names,rows⟩ _ s12 ⟨?_,⟨T,v,rfl,s2 _ _ af,StAt.same (tkS s12) I.sv⟩,s12 _ _ I.hn,s12 _ _ I.hr,I.wf,I.nm,I.rs,I.ni,I.ri⟩ (s1.free hl) (.inl rfl) rfl rfl ?_
  ·rw [af]
   show some (HO.lst [V.ref T,V.str (Str.ofString "not " ++ ax st),V.int ((aD st : Int) + 1),V.ref nl,V.ref rl]) = _
   rw [dd]
   rfl
  ·show (("not " : Str) ++ ax st).length <= _
   rw [len_app]
   show _ <= (ax st).length + 30
   omega
 ·have m3:=bE (a:=n) (b:=3) (by decide)
  refine ⟨(by show 2 <= sizeLine; decide),fun Lk hLk => ?_⟩
  have s1:=ah hLk (HO.lst [V.str (Str.ofString "some"),V.str (Str.ofString "all")])
  obtain ⟨κ,ek,kl,kc⟩ : ∃ κ : Str,atI [V.str (Str.ofString "some"),V.str (Str.ofString "all")] (n % 3 - 1) = some (.str κ) /\ κ.length <= 4 /\ (κ = ("some" : Str) \/ κ = ("all" : Str)):=by
   have e : n % 3 = 1 \/ n % 3 = 2:=by omega
   rcases e with e | e <;> rw [e]
   ·exact ⟨_,rfl,by decide +kernel,.inl rfl⟩
   ·exact ⟨_,rfl,by decide +kernel,.inr rfl⟩
  refine ⟨_,rfl,_,_,rfl,rfl,(by show (0 : Int) < 3; decide),_,_,rfl,rfl,Lk,_,_,_,rfl,rfl,qL_ af,ek,?_⟩
  try dsimp only [aG,aO,List.set]
  obtain ⟨H1,e1⟩ : ∃ H1,upd H Lk (HO.lst [V.str (Str.ofString "some"),V.str (Str.ofString "all")]) = H1:=⟨_,rfl⟩
  rw [e1] at s1 ⊢
  refine ⟨_,rfl,_,rfl,_,_,rfl,rfl,⟨by decide,by decide⟩,a,n / 3,ns,rfl,s1.seq hS,h63,fun H2 s2 => ?_⟩
  try dsimp only [aG,aO,List.set]
  obtain ⟨nm,enm⟩ : ∃ nm,nmF ns (n / 3) = nm:=⟨_,rfl⟩
  have nml:=qh ns (n / 3)
  rw [enm] at nml ⊢
  have s02:=s1.trans s2
  have hn2 : H2 nl = some (.lst (names.map V.str)):=s02 _ _ I.hn
  refine ck (t:=mS _ _) (fun σ' H3 => ∃ lf : Addr,σ' = [some (.ref a),some (.ref b),some (.int n),some v,some (.str (ax st)),some (.int (aD st : Int)),some (.ref nl),some (.ref rl),some (.str κ),some (.str nm),some (.ref lf)] /\ Same H2 H3 /\ H lf = none /\ H3 lf = some (.lst ((names.filter fun x => decide (x ≠ nm)).map V.str))) ?_ (fun D' nxt => ?_)
  rotate_left
  ·refine ⟨_,rfl,nl,rfl,⟨_,qL_ hn2⟩,?_⟩
   refine jm (K:=K) (xs:=names.map V.str) (fun D j ys H' => Same H2 H' /\ ys = ((names.take j).filter fun x => decide (x ≠ nm)).map V.str) (fun D hD => ⟨ah hD _,rfl⟩) (fun D j ys H' _ ⟨e,_⟩ => qL_ (e _ _ hn2)) ?_ ?_
   ·rintro D j y ys H' Qy Qn hD hj hy ⟨hs,rfl⟩ ky kn
    obtain ⟨x,rfl,hx⟩:=mQ hj
    have fl:=List.length_filter_le (fun x => decide (x ≠ nm)) (names.take j)
    rw [List.length_take] at fl
    refine ⟨_,rfl,_,rfl,rfl,_,rfl,rV (fun c => ?_) (fun c => ?_)⟩
    ·have c' : x ≠ nm:=fun z => c (V_str.mpr z)
     refine ⟨_,rfl,ky _ _ hy (cz (by rw [lm_]; omega)) ⟨aF hs hD,?_⟩⟩
     rw [p7 hx,if_pos (decide_eq_true c'),List.map_append]
     rfl
    ·have c' : ¬ x ≠ nm:=fun z => z (V_str.mp c)
     refine kn _ hy ⟨hs,?_⟩
     rw [p7 hx,if_neg (fun z => c' (of_decide_eq_true z)),List.append_nil]
   ·rintro lf ys H3 fl hy ⟨s3,rfl⟩
    rw [lm_,List.take_length] at hy
    exact nxt _ _ ⟨lf,rfl,s3,s02.free fl,hy⟩
  rintro σ' H3 ⟨lf,rfl,s3,ff,hlf⟩
  have s03:=s02.trans s3
  have l1 : (Str.ofString " ").length = 1:=by decide
  have l2 : (Str.ofString ": ").length = 2:=by decide
  have bd' : (ax st).length <= 100000:=bd
  refine ⟨_,rfl,_,rfl,_,rfl,(by show 3 <= sizeLine; decide),fun T hT => ?_⟩
  have s4:=ah hT (HO.tup [V.str κ,V.str nm,v])
  refine ⟨_,rfl,_,_,rfl,rfl,zz _ (by omega),_,rfl,_,_,rfl,rfl,zz _ (by rw [len_app]; omega),_,_,rfl,rfl,zz _ (by rw [len_app,len_app]; omega),_,rfl,_,_,rfl,rfl,zz _ (by rw [len_app,len_app,len_app]; omega),?_⟩
  refine ⟨_,rfl,_,_,rfl,rfl,_,rfl,_,rfl,(by show 5 <= sizeLine; decide),fun l hl => ?_⟩
  have s5:=ah hl (HO.lst [V.ref T,V.str (κ ++ Str.ofString " " ++ nm ++ Str.ofString ": " ++ ax st),V.int ((aD st : Int) + 1),V.ref lf,V.ref rl])
  have s05:=s03.trans (s4.trans s5)
  refine k l ⟨.ch κ nm st,.ref T,lf,rl,names.filter fun x => decide (x ≠ nm),rows⟩ _ s05 ⟨?_,⟨T,v,rfl,s5 _ _ af,StAt.same (tkS s05) I.sv⟩,(s4.trans s5) _ _ hlf,s05 _ _ I.hr,⟨kc,by omega,I.wf⟩,I.nm.filter _,I.rs,fun x hx => I.ni x (List.mem_filter.mp hx).1,I.ri⟩ ((s03.trans s4).free hl) (.inr ff) rfl rfl ?_
  ·rw [af]
   show some (HO.lst [V.ref T,V.str (κ ++ Str.ofString " " ++ nm ++ Str.ofString ": " ++ ax st),V.int ((aD st : Int) + 1),V.ref lf,V.ref rl]) = _
   rw [dd]
   rfl
  ·show (κ ++ (" " : Str) ++ nm ++ (": " : Str) ++ ax st).length <= (ax st).length + 30
   rw [len_app,len_app,len_app,len_app]
   have : ((" " : Str)).length = 1:=by decide
   have : ((": " : Str)).length = 2:=by decide
   omega
theorem vg (F : FunD K "_law_two" "_law_two" cy dV f fd) (dC : mg "max" = none) (aS : mg "sorted" = none) (cj : mg "set" = none) : FnOk P w K mg base CX0 1 f fd ["_law_one","_law_other","_law_number"] qw:=by
 refine F.ok sc__law_two (fun vs H Q E h => ?_) (fun cdv A outer s H vs Q E hr h => ?_)
 ·obtain ⟨b,c,n,ns,it,jt,rfl,_⟩:=h
  rfl
 obtain ⟨b,c,n,ns,it,jt,rfl,I,J,bi,bj,k⟩:=h
 obtain ⟨st,v,nl,rl,names,rows⟩:=it
 obtain ⟨st2,v2,nl2,rl2,names2,rows2⟩:=jt
 have few : names.length <= 4 /\ rows.length <= 3:=I.few
 have few2 : names2.length <= 4 /\ rows2.length <= 3:=J.few
 have zz : ∀ m : Nat,m <= 300000 -> m <= sizeLine:=fun m h => Nat.le_trans h (by decide)
 have bi' : (ax st).length <= 100000:=bi
 have bj' : (ax st2).length <= 100000:=bj
 refine dN (aq (PSW.mk (az (i:=3) sc__law_two.nd rfl (Or.inl rfl) (aI aM (bS (aa ay (aa ay ag))) (ai aQ (pv 2) ae) (fun _ _ => rfl))))
   (aq (PSW.mk (az (i:=4) sc__law_two.nd rfl (Or.inl rfl) (ai ar (ai ar (ai ar (ai ar (ai ar (ai ar ay (aI aM (pv 0) ae (fun _ _ => rfl))) ay) (pv 3)) ay) (aI aM (pv 1) ae (fun _ _ => rfl))) ay)))
   (aq (PSW.mk (az (i:=5) sc__law_two.nd rfl (Or.inl rfl) (aE ((bz rfl)) (by rfl) aS cu (aa (bb ((bR rfl)) (by rfl) cj fU (aa (ai pq (aI aM (pv 0) ae (fun _ _ => rfl)) (aI aM (pv 1) ae (fun _ _ => rfl))) ag)) ag))))
   (bH (iG (eG (ak (uM (ak (PEW.mk (pv 3)) (ak (PEW.mk (aI aM (pv 0) ae (fun _ _ => rfl))) (ak (PEW.mk (aI aM (pv 1) ae (fun _ _ => rfl))) cg)))) (ak (PEW.mk (pv 4)) (ak (PEW.mk (ai bf ae (aE (qE rfl) (by rfl) dC oB (aa (aI aM (pv 0) ae (fun _ _ => rfl)) (aa (aI aM (pv 1) ae (fun _ _ => rfl)) ag))))) (ak (PEW.mk (pv 5)) (ak (PEW.mk (aE ((bz rfl)) (by rfl) aS cu (aa (bb ((bR rfl)) (by rfl) cj fU (aa (ai pq (aI aM (pv 0) ae (fun _ _ => rfl)) (aI aM (pv 1) ae (fun _ _ => rfl))) ag)) ag))) cg))))))))))) ?_
 refine ⟨(by show 2 <= sizeLine; decide),fun Lk hLk => ?_⟩
 have s1:=ah hLk (HO.lst [V.str (Str.ofString "and"),V.str (Str.ofString "or")])
 have m2:=bE (a:=n) (b:=2) (by decide)
 obtain ⟨κ,ek,kl,kc⟩ : ∃ κ : Str,atI [V.str (Str.ofString "and"),V.str (Str.ofString "or")] (n % 2) = some (.str κ) /\ κ.length <= 3 /\ (κ = ("and" : Str) \/ κ = ("or" : Str)):=by
  have e : n % 2 = 0 \/ n % 2 = 1:=by omega
  rcases e with e | e <;> rw [e]
  ·exact ⟨_,rfl,by decide +kernel,.inl rfl⟩
  ·exact ⟨_,rfl,by decide +kernel,.inr rfl⟩
 refine ⟨_,rfl,_,_,rfl,rfl,(by show (0 : Int) < 2; decide),Lk,_,_,_,rfl,rfl,qL_ af,ek,?_⟩
 try dsimp only [aG,aO,List.set]
 obtain ⟨H1,e1⟩ : ∃ H1,upd H Lk (HO.lst [V.str (Str.ofString "and"),V.str (Str.ofString "or")]) = H1:=⟨_,rfl⟩
 rw [e1] at s1 ⊢
 have I1:=I.same s1
 have J1:=J.same s1
 have l1 : (Str.ofString "(").length = 1:=by decide
 have l2 : (Str.ofString " ").length = 1:=by decide
 have l3 : (Str.ofString ")").length = 1:=by decide
 refine ⟨_,rfl,b,_,_,_,rfl,rfl,qL_ I1.li,rfl,_,_,rfl,rfl,zz _ (by show _ + (ax st).length <= _; omega),_,_,rfl,rfl,zz _ (by rw [len_app]; show _ + (ax st).length + _ <= _; omega),_,rfl,_,_,rfl,rfl,zz _ (by rw [len_app,len_app]; show _ + (ax st).length + _ + _ <= _; omega),_,_,rfl,rfl,zz _ (by rw [len_app,len_app,len_app]; show _ + (ax st).length + _ + _ + _ <= _; omega),_,rfl,c,_,_,_,rfl,rfl,qL_ J1.li,rfl,_,_,rfl,rfl,zz _ (by rw [len_app,len_app,len_app,len_app]; show _ + (ax st).length + _ + _ + _ + (ax st2).length <= _; omega),_,_,rfl,rfl,zz _ (by rw [len_app,len_app,len_app,len_app,len_app]; show _ + (ax st).length + _ + _ + _ + (ax st2).length + _ <= _; omega),?_⟩
 try dsimp only [aG,aO,List.set]
 obtain ⟨ln,eln⟩ : ∃ ln,Str.ofString "(" ++ ax st ++ Str.ofString " " ++ κ ++ Str.ofString " " ++ ax st2 ++ Str.ofString ")" = ln:=⟨_,rfl⟩
 have eln2 : ln = ax (.jn κ st st2):=by rw [<- eln]; exact tY _ _ _
 rw [eln]
 refine ck (t:=mS _ _) (fun σ' H2 => ∃ (lz : Addr) (ms : List Str),σ' = [some (.ref b),some (.ref c),some (.int n),some (.str κ),some (.str ln),some (.ref lz)] /\ Same H1 H2 /\ H2 lz = some (.lst (ms.map V.str)) /\ H lz = none /\ IsNm ms (names ++ names2)) ?_ (fun D' nxt => ?_)
 rotate_left
 ·refine ⟨_,rfl,b,_,_,_,rfl,rfl,qL_ I1.li,rfl,_,rfl,c,_,_,_,rfl,rfl,qL_ J1.li,rfl,nl,nl2,_,_,rfl,rfl,I1.hn,J1.hn,zz _ (by rw [lm_,lm_]; show names.length + names2.length <= _; omega),fun lc hlc => ?_⟩
  have s6:=ah hlc (HO.lst (names.map V.str ++ names2.map V.str))
  refine ⟨lc,names ++ names2,rfl,by rw [af,List.map_append],by rw [List.length_append]; omega,fun S hS' => ?_⟩
  have s7:=ah hS' (cT P w S (bL (names ++ names2)))
  have ol:=dw (names ++ names2)
  rw [List.length_append] at ol
  refine ⟨S,_,rfl,af,by omega,fun lz ms hlz pz so => ?_⟩
  exact nxt _ _ ⟨lz,ms,rfl,s6.trans (s7.trans (ah hlz (HO.lst (ms.map V.str)))),af,(s1.trans (s6.trans s7)).free hlz,IsNm.of_sorted pz so⟩
 rintro σ' H2 ⟨lz,ms,rfl,s2,hz,fz,isn⟩
 have s02:=s1.trans s2
 have I2:=I.same s02
 have J2:=J.same s02
 refine ⟨_,rfl,_,rfl,b,_,_,_,rfl,rfl,qL_ I2.li,rfl,_,rfl,c,_,_,_,rfl,rfl,qL_ J2.li,rfl,(by show 3 <= sizeLine; decide),fun T hT => ?_⟩
 have s3:=ah hT (HO.tup [V.str κ,v,v2])
 have s03:=s02.trans s3
 have I3:=I.same s03
 have J3:=J.same s03
 refine ⟨_,rfl,_,rfl,b,_,_,_,rfl,rfl,qL_ I3.li,rfl,_,rfl,c,_,_,_,rfl,rfl,qL_ J3.li,rfl,_,_,rfl,_,_,rfl,rfl,_,rfl,?_⟩
 refine ⟨_,rfl,b,_,_,_,rfl,rfl,qL_ I3.li,rfl,_,rfl,c,_,_,_,rfl,rfl,qL_ J3.li,rfl,rl,rl2,_,_,rfl,rfl,I3.hr,J3.hr,zz _ (by rw [lm_,lm_]; show rows.length + rows2.length <= _; omega),fun lc hlc => ?_⟩
 have s4:=ah hlc (HO.lst (rows.map V.str ++ rows2.map V.str))
 refine ⟨lc,rows ++ rows2,rfl,by rw [af,List.map_append],by rw [List.length_append]; omega,fun S hS' => ?_⟩
 have s5:=ah hS' (cT P w S (bL (rows ++ rows2)))
 have ol:=dw (rows ++ rows2)
 rw [List.length_append] at ol
 refine ⟨S,_,rfl,af,by omega,fun lr mr hlr pr sor => ?_⟩
 have s6:=ah hlr (HO.lst (mr.map V.str))
 have isr : IsNm mr (rows ++ rows2):=IsNm.of_sorted pr sor
 refine ⟨(by show 5 <= sizeLine; decide),fun l hl => ?_⟩
 have s7:=ah hl (HO.lst [V.ref T,V.str ln,V.int (1 + (if (aD st2 : Int) > (aD st : Int) then (aD st2 : Int) else (aD st : Int))),V.ref lz,V.ref lr])
 have t4:=s4.trans (s5.trans (s6.trans s7))
 have s07:=s03.trans t4
 refine k l ⟨.jn κ st st2,.ref T,lz,lr,ms,mr⟩ _ s07 ⟨?_,⟨T,v,v2,rfl,t4 _ _ af,StAt.same (tkS s07) I.sv,StAt.same (tkS s07) J.sv⟩,(s3.trans t4) _ _ hz,s7 _ _ af,⟨kc,I.wf,J.wf⟩,isn.congr fun x => ?_,isr.congr fun x => ?_,fun x hx => ?_,fun x hx => ?_⟩ ((s03.trans (s4.trans (s5.trans s6))).free hl) fz ((s03.trans (s4.trans s5)).free hlr) rfl ?_
 ·rw [af]
  show some (HO.lst [V.ref T,V.str ln,V.int (1 + (if (aD st2 : Int) > (aD st : Int) then (aD st2 : Int) else (aD st : Int))),V.ref lz,V.ref lr]) = _
  rw [t6,eln2]
  have : (1 : Int) + ((max (aD st) (aD st2) : Nat) : Int) = ((1 + max (aD st) (aD st2) : Nat) : Int):=by omega
  rw [this]
  rfl
 ·show x ∈ names ++ names2 ↔ x ∈ aY st ++ aY st2
  rw [List.mem_append,List.mem_append,I.nm.mem,J.nm.mem]
 ·show x ∈ rows ++ rows2 ↔ x ∈ aV st ++ aV st2
  rw [List.mem_append,List.mem_append,I.rs.mem,J.rs.mem]
 ·rcases ma_.mp ((isn.mem x).mp hx) with z | z
  ·exact I.ni x z
  ·exact J.ni x z
 ·rcases ma_.mp ((isr.mem x).mp hx) with z | z
  ·exact I.ri x z
  ·exact J.ri x z
 ·show (ax (.jn κ st st2)).length <= (ax st).length + (ax st2).length + 7
  rw [<- eln2,<- eln,len_app,len_app,len_app,len_app,len_app,len_app]
  omega
end
def IR (ns : LI) (L : Addr) (H : Hp) (a : Addr) (it : It) : Prop:=ItAt ns H a it /\ Off L a it
def LIa (ns : LI) (L : Addr) (as : List Addr) (its : List It) (H : Hp) : Prop:=H L = some (.lst (as.map V.ref)) /\ Paired (IR ns L H) as its
def szI (it : It) : Nat:=(ax it.st).length + 7
def tot (its : List It) : Nat:=(its.map szI).sum
theorem LIa.same {ns : LI} {L : Addr} {as : List Addr} {its : List It} {H H' : Hp} (h : LIa ns L as its H) (s : Same H H') : LIa ns L as its H' := ⟨s _ _ h.1,Paired.mapP h.2 fun _ _ q => ⟨q.1.same s,q.2⟩⟩
theorem LIa.upd {ns : LI} {L : Addr} {as : List Addr} {its : List It} {H : Hp} {xs ys : List V} (h : Paired (IR ns L H) as its) (hL : H L = some (.lst xs)) : Paired (IR ns L (upd H L (.lst ys))) as its:=Paired.mapP h fun _ _ q => ⟨q.1.off q.2 hL,q.2⟩
theorem ig {α β : Type} {R : α -> β -> Prop} : ∀ {as : List α} {bs : List β} {a : α} {b : β},Paired R as bs -> R a b -> Paired R (as ++ [a]) (bs ++ [b])
 | _,_,_,_,.nil,h => .cons h .nil
 | _,_,_,_,.cons q t,h => .cons q (ig t h)
theorem fB {α β : Type} {R : α -> β -> Prop} : ∀ {bs : List β} {as : List α} {b : β},Paired R as (bs ++ [b]) -> ∃ as' a,as = as' ++ [a] /\ Paired R as' bs /\ R a b
 | [],_,_,.cons (a:=a) q .nil => ⟨[],a,rfl,.nil,q⟩
 | _ :: bs,_,_,.cons (a:=a) q t => by
  obtain ⟨as',a',e,h,r⟩:=fB (bs:=bs) t
  exact ⟨a :: as',a',by rw [e]; rfl,.cons q h,r⟩
theorem dk {α : Type} {xs : List α} (h : xs ≠ []) : ∃ ys y,xs = ys ++ [y]:=⟨xs.dropLast,xs.getLast h,(List.dropLast_concat_getLast h).symm⟩
theorem LIa.pop {ns : LI} {L : Addr} {as : List Addr} {its : List It} {it : It} {H : Hp} (h : LIa ns L as (its ++ [it]) H) : ∃ as' a,as = as' ++ [a] /\ LIa ns L as' its (L2.upd H L (.lst (as'.map V.ref))) /\ ItAt ns (L2.upd H L (.lst (as'.map V.ref))) a it /\ Off L a it:=by
 obtain ⟨as',a,e,h2,r⟩:=fB h.2
 exact ⟨as',a,e,⟨af,LIa.upd h2 h.1⟩,r.1.off r.2 h.1,r.2⟩
theorem LIa.push {ns : LI} {L a : Addr} {as : List Addr} {its : List It} {it : It} {H : Hp} (h : LIa ns L as its H) (i : ItAt ns H a it) (o : Off L a it) : LIa ns L (as ++ [a]) (its ++ [it]) (L2.upd H L (.lst (as.map V.ref ++ [V.ref a]))):=
 ⟨by rw [af,List.map_append]; rfl,ig (LIa.upd h.2 h.1) ⟨i.off o h.1,o⟩⟩
theorem pop_at {as : List Addr} {a : Addr} : ((as ++ [a]).map V.ref)[((as ++ [a]).map V.ref).length - 1]? = some (V.ref a) /\ ((as ++ [a]).map V.ref).dropLast = as.map V.ref:=by
 rw [List.map_append]
 constructor
 ·rw [List.length_append]
  show (as.map V.ref ++ [V.ref a])[(as.map V.ref).length + 1 - 1]? = _
  rw [Nat.add_sub_cancel,List.getElem?_append_right (Nat.le_refl _),Nat.sub_self]
  rfl
 ·exact List.dropLast_concat
theorem cf (its : List It) (it : It) : tot (its ++ [it]) = tot its + szI it:=by
 unfold tot
 rw [List.map_append,List.sum_append]
 show _ + (szI it + 0) = _
 rw [Nat.add_zero]
theorem qA : ∀ {its : List It} {it : It},it ∈ its -> szI it <= tot its
 | x :: its,it,h => by
  have e : tot (x :: its) = szI x + tot its:=by unfold tot; rw [List.map_cons,List.sum_cons]
  rw [e]
  rcases List.mem_cons.mp h with z | z
  ·rw [z]; omega
  ·have:=qA z
   omega
theorem mh {ns : LI} {L : Addr} {H : Hp} : ∀ {as : List Addr} {its : List It} {i : Nat} {y : V},Paired (IR ns L H) as its -> (as.map V.ref)[i]? = some y -> ∃ (a : Addr) (it : It),y = .ref a /\ IR ns L H a it /\ its[i]? = some it
 | _,_,_,_,.nil,h => by simp at h
 | _,_,0,_,.cons (a:=a) (b:=p) r _,h => ⟨a,p,(Option.some.inj h).symm,r,rfl⟩
 | _,_,i + 1,_,.cons _ t,h => by
  obtain ⟨a,p,e,r,q⟩:=mh (i:=i) t (by simpa using h)
  exact ⟨a,p,e,r,by simpa using q⟩
theorem vu {t1 t2 t3 : TT} {σ : St} {H : Hp} {A B : Hp -> Prop} {b1 b2 b3 : Bool} (h1 : ∀ Q : Bool -> Hp -> Prop,Q b1 H -> t1 σ H Q) (h2 : ∀ Q : Bool -> Hp -> Prop,Q b2 H -> t2 σ H Q) (h3 : ∀ Q : Bool -> Hp -> Prop,Q b3 H -> t3 σ H Q) (h : if (b1 && (b2 && b3)) = true then A H else B H) : uE t1 (uE t2 t3) σ H fun b H1 => if b = true then A H1 else B H1:=by
 refine h1 _ ?_
 cases b1 with
 | false => exact iP h
 | true =>
  refine oW (h2 _ ?_)
  cases b2 with
  | false => exact iP h
  | true => exact oW (h3 _ h)
theorem vq {t1 t2 : TT} {σ : St} {H : Hp} {A B : Hp -> Prop} {b1 b2 : Bool} (h1 : ∀ Q : Bool -> Hp -> Prop,Q b1 H -> t1 σ H Q) (h2 : ∀ Q : Bool -> Hp -> Prop,Q b2 H -> t2 σ H Q) (h : if (b1 && b2) = true then A H else B H) : uE t1 t2 σ H fun b H1 => if b = true then A H1 else B H1:=by
 refine h1 _ ?_
 cases b1 with
 | false => exact iP h
 | true => exact oW (h2 _ h)
theorem sR : ∀ (its : List It) (z : Int),(its.map fun it => ((szI it : Nat) : Int)).foldl (· + ·) z = z + ((tot its : Nat) : Int)
 | [],z => (Int.add_zero z).symm
 | x :: its,z => by
  have e : tot (x :: its) = szI x + tot its:=by unfold tot; rw [List.map_cons,List.sum_cons]
  rw [List.map_cons,List.foldl_cons,sR its,e]
  omega
theorem uC (its : List It) : uB (its.map fun it => ((szI it : Nat) : Int)) = ((tot its : Nat) : Int):=by
 unfold uB
 rw [sR,Int.zero_add]
theorem mf {H : Hp} {L l : Addr} {it : It} {o : HO} (hL : H L = some o) (f : H l = none) (fn : H it.nl = none) (fr : H it.rl = none) : Off L l it:=
 ⟨fun z => (by rw [z,hL] at f; cases f),fun z => (by rw [z,hL] at fn; cases fn),fun z => (by rw [z,hL] at fr; cases fr)⟩
structure Few (its : List It) : Prop where
 tt : tot its <= 1700
 dd : ∀ it ∈ its,aD it.st + its.length <= 20
def mL (K : PySem.W.Frag) : Sp:=fun vs H Q _ => ∃ (a : Addr) (ns : LI),vs = [.ref a] /\ SqL K H a (ns.map V.int) /\ ns.length <= 63 /\
 ∀ (L : Addr) (as : List Addr) (its : List It) (H' : Hp),Same H H' -> H L = none -> LIa ns L as its H' -> its ≠ [] -> Few its -> Q (.ref L) H'
section
variable {P : Program} {w : World} {K : PySem.W.Frag} {mg : Str -> Option Value} {base : Heap} {f : Addr} {fd : FuncData} {dV : Value}
theorem sc__law_items : FnScope ["_law_script","_law_items_here","_law_k","_law_number","_law_size","_law_deep","_law_other"] ["_law_script"] (aj bw):=⟨rfl,rfl,rfl,by decide +kernel,rfl,by decide +kernel,by decide +kernel⟩
theorem bk__law_items_0 : BlkScope ["_law_script","_law_items_here","_law_k","_law_number","_law_size","_law_deep","_law_other"] (aj bw) ["_law_item"] [none] { kind:=ScopeKind.function,names:=[(".0",NameKind.local),("_law_item",NameKind.local),("len",NameKind.globalImplicit)],isGenerator:=false,isCoroutine:=false,more:=[] }:=⟨rfl,by decide +kernel,by decide +kernel,by decide +kernel,by decide +kernel,rfl,by decide +kernel⟩
theorem bk__law_items_1 : BlkScope ["_law_script","_law_items_here","_law_k","_law_number","_law_size","_law_deep","_law_other"] (aj bw) ["_law_item"] [none] { kind:=ScopeKind.function,names:=[(".0",NameKind.local),("_law_item",NameKind.local)],isGenerator:=false,isCoroutine:=false,more:=[] }:=⟨rfl,by decide +kernel,by decide +kernel,by decide +kernel,by decide +kernel,rfl,by decide +kernel⟩
theorem sk (F : FunD K "_law_items" "_law_items" bw dV f fd) (aC : DefOk P w K mg base "_law_draw" 1 ["_law_script","_law_k"] [] (dn K)) (bG : DefOk P w K mg base "_law_plain" 4 ["_law_script","_law_at"] [] (jd K)) (cn : DefOk P w K mg base "_law_two" 1 ["_law_one","_law_other","_law_number"] [] qw) (cR : DefOk P w K mg base "_law_wrapped" 3 ["_law_script","_law_item","_law_number"] [] (pM K)) (b9 : mg "len" = none) (tE : mg "min" = none) (dC : mg "max" = none) (tF : mg "sum" = none) (fH : mg "range" = none) : FnOk P w K mg base CX0 5 f fd ["_law_script"] (mL K):=by
 refine F.ok sc__law_items (fun vs H Q E h => ?_) (fun cdv A outer s H vs Q E hr h => ?_)
 ·obtain ⟨a,ns,rfl,_⟩:=h
  rfl
 obtain ⟨a,ns,rfl,hS,h63,k⟩:=h
 refine ⟨_,(aA (az (i:=1) sc__law_items.nd rfl (Or.inl rfl) (bS (aa (aR bG hr (aa (pv 0) (aa ae ag))) ag)))
   (aA (iq PassesOwn.never rfl (kI rfl fH (aa (aE (qG rfl) (by rfl) tE uS (aa (aE aZ (by rfl) b9 cE (aa (pv 0) ag)) (aa ae ag))) ag)) (aH (i:=2) sc__law_items.nd rfl (Or.inl rfl)) (aA (az (i:=3) sc__law_items.nd rfl (Or.inl rfl) (aR aC hr (aa (pv 0) (aa (ai bf ae (pv 2)) ag))))
   (aA (az (i:=4) sc__law_items.nd rfl (Or.inl rfl) (aE ((qH rfl)) (by rfl) tF uU (aa (mi rfl bk__law_items_0 (gK (pv 1)) (fun _ _ _ _ => (aH (i:=0) bk__law_items_0.nd rfl (Or.inl rfl))) (fun _ _ _ _ => (ai bf (aE gv (by rfl) b9 cE (aa (aI (nC K) (pv 0) ae (fun _ _ => rfl)) ag)) ae))) ag)))
   (aA (az (i:=5) sc__law_items.nd rfl (Or.inl rfl) (ai bf (aE ((qF rfl)) (by rfl) dC oB (aa (mi rfl bk__law_items_1 (gK (pv 1)) (fun _ _ _ _ => (aH (i:=0) bk__law_items_1.nd rfl (Or.inl rfl))) (fun _ _ _ _ => (aI (nC K) (pv 0) ae (fun _ _ => rfl)))) ag)) (aE aZ (by rfl) b9 cE (aa (pv 1) ag))))
   (aw (bV (PW.pt (ir (aB gI (pv 5) ae (aN _)) (ir (aB gI (pv 4) ae (aN _)) (jc (aB gI (ai aQ (pv 3) ae) ae (aN _)))))) (aw (bu (cm PySem.F.plainAttrs_list PySem.F.slot_list_append PySem.F.type_list_append aW (pv 1) (aa (aR bG hr (aa (pv 0) (aa (ai bf ae (ai gk ae (pv 2))) ag))) ag)))) (aw (bV (PW.pt (ir (aB gI (pv 5) ae (aN _)) (ir (aB su (aE aZ (by rfl) b9 cE (aa (pv 1) ag)) ae (aN _)) (jc (aB gI (ai aQ (pv 3) ae) ae (aN _)))))) (aA (az (i:=6) sc__law_items.nd rfl (Or.inl rfl) (ij PySem.F.plainAttrs_list PySem.F.slot_list_pop PySem.F.type_list_pop hZ (pv 1)))
   (aw (bu (cm PySem.F.plainAttrs_list PySem.F.slot_list_append PySem.F.type_list_append aW (pv 1) (aa (aR cn hr (aa (ij PySem.F.plainAttrs_list PySem.F.slot_list_pop PySem.F.type_list_pop hZ (pv 1)) (aa (pv 6) (aa (ai ba (pv 3) ae) ag)))) ag))))) (aw (bV (PW.pt (ir (aB gI (pv 5) ae (aN _)) (jc (aB gI (pv 4) ae (aN _))))) (aw (bu (cm PySem.F.plainAttrs_list PySem.F.slot_list_append PySem.F.type_list_append aW (pv 1) (aa (aR cR hr (aa (pv 0) (aa (ij PySem.F.plainAttrs_list PySem.F.slot_list_pop PySem.F.type_list_pop hZ (pv 1)) (aa (ai ba (pv 3) ae) ag)))) ag)))) bh))))))))))
   (aw (aX (pv 1))))),?_⟩
 refine ⟨_,rfl,a,0,ns,rfl,hS,h63,⟨by decide,by decide⟩,fun l0 it0 H0 s0 I0 f0 fn0 fr0 d0 b0 => ?_⟩
 refine ⟨(by show 1 <= sizeLine; decide),fun L hL => ?_⟩
 have sL:=ah hL (HO.lst [V.ref l0])
 have oL : Off L l0 it0:=⟨av I0.li hL,av I0.hn hL,av I0.hr hL⟩
 have fL : H L = none:=s0.free hL
 have LI0 : LIa ns L [l0] [it0] (upd H0 L (HO.lst [V.ref l0])):=⟨af,.cons ⟨I0.same sL,oL⟩ .nil⟩
 have few0 : Few [it0]:=⟨by show szI it0 + 0 <= 1700; unfold szI; omega,fun it h => by rw [List.mem_singleton.mp h,d0]; show 0 + 1 <= 20; decide⟩
 obtain ⟨H1,e1⟩ : ∃ H1,upd H0 L (HO.lst [V.ref l0]) = H1:=⟨_,rfl⟩
 have s01 : Same H H1:=by rw [<- e1]; exact s0.trans sL
 rw [e1] at LI0 ⊢
 try dsimp only [aG,aO,List.set]
 refine ck (t:=pP _ _ _) (fun σ' H' => ∃ (as : List Addr) (its : List It) (v2 v3 v4 v5 v6 : OV),σ' = [some (.ref a),some (.ref L),v2,v3,v4,v5,v6] /\ Same H H' /\ LIa ns L as its H' /\ its ≠ [] /\ Few its) ?_ (fun D' nxt => ?_)
 rotate_left
 ·refine ⟨_,rfl,a,_,rfl,.inl (s01.seq hS),_,_,rfl,_,rfl,?_,?_,?_⟩
  ·split <;> omega
  ·rw [lm_]
   split <;> omega
  refine kE (fun i σ' H' => ∃ (as : List Addr) (its : List It) (v2 v3 v4 v5 v6 : OV),σ' = [some (.ref a),some (.ref L),v2,v3,v4,v5,v6] /\ Same H H' /\ LIa ns L as its H' /\ its ≠ [] /\ Few its) ⟨[l0],[it0],none,none,none,none,none,rfl,s01,LI0,by simp,few0⟩ ?_ ?_
  ·rintro i σ' H2 hi ⟨as,its,v2,v3,v4,v5,v6,rfl,s2,LI,ne,few⟩
   have hi' : i < 64:=by
    rw [lm_] at hi
    split at hi <;> omega
   have hS2:=s2.seq hS
   have la : as.length = its.length:=Paired.length LI.2
   have tt:=few.tt
   have li20 : its.length <= 20:=by
    obtain ⟨ys,y,e⟩:=dk ne
    have:=few.dd y (by rw [e]; simp)
    omega
   refine ⟨_,rfl,_,rfl,_,_,rfl,rfl,a,50 + (0 + (i : Int)),ns,rfl,hS2,h63,by omega,by omega,?_⟩
   try dsimp only [aG,aO,List.set]
   obtain ⟨n,en⟩ : ∃ n,eY ns (50 + (0 + (i : Int))) = n:=⟨_,rfl⟩
   have n0:=cC ns (50 + (0 + (i : Int)))
   rw [en] at n0 ⊢
   refine ck (t:=mS _ _) (fun σ' H' => σ' = [some (.ref a),some (.ref L),some (.int (0 + (i : Int))),some (.int n),some (.int ((tot its : Nat) : Int)),v5,v6] /\ Same H2 H') ?_ (fun D1 nxt1 => ?_)
   rotate_left
   ·refine ⟨_,rfl,L,rfl,⟨_,qL_ LI.1⟩,?_⟩
    refine kx (K:=K) (xs:=as.map V.ref) (fun D j ys H' => Same H2 H' /\ ys = ((its.take j).map fun it => ((szI it : Nat) : Int)).map V.int) (fun D hD => ⟨ah hD _,rfl⟩) (fun D j ys H' _ ⟨e,_⟩ => qL_ (e _ _ LI.1)) ?_ ?_
    ·rintro D j y ys H3 Q' hD hj hy ⟨s3,rfl⟩ k'
     obtain ⟨b,it,rfl,hb,hit⟩:=mh LI.2 hj
     have ib:=hb.1.same s3
     have sz:=qA (mq_ hit)
     have jl:=(gi_ hit).1
     unfold szI at sz
     refine ⟨_,rfl,b,_,_,_,rfl,rfl,qL_ ib.li,rfl,_,rfl,Nat.le_trans (show (ax it.st).length <= 1700 by omega) (by decide),_,_,rfl,rfl,k' _ _ hy (cz (by rw [lm_,lm_,List.length_take]; omega)) ⟨aF s3 hD,?_⟩⟩
     rw [List.take_add_one,hit,List.map_append,List.map_append]
     rfl
    ·rintro D ys H3 hD hy ⟨s3,rfl⟩
     rw [lm_,la,List.take_length] at hy
     refine ⟨D,_,rfl,qL_ hy,nxt1 _ _ ⟨?_,s3⟩⟩
     rw [uC]
     rfl
   rintro σ' H3 ⟨rfl,s3⟩
   have LI3:=LI.same s3
   refine ck (t:=mS _ _) (fun σ' H' => ∃ M : Nat,σ' = [some (.ref a),some (.ref L),some (.int (0 + (i : Int))),some (.int n),some (.int ((tot its : Nat) : Int)),some (.int ((M : Int) + (its.length : Int))),v6] /\ Same H3 H' /\ ∀ it ∈ its,aD it.st <= M) ?_ (fun D1 nxt1 => ?_)
   rotate_left
   ·refine ⟨_,rfl,L,rfl,⟨_,qL_ LI3.1⟩,?_⟩
    refine kx (K:=K) (xs:=as.map V.ref) (fun D j ys H' => Same H3 H' /\ ys = ((its.take j).map fun it => ((aD it.st : Nat) : Int)).map V.int) (fun D hD => ⟨ah hD _,rfl⟩) (fun D j ys H' _ ⟨e,_⟩ => qL_ (e _ _ LI3.1)) ?_ ?_
    ·rintro D j y ys H4 Q' hD hj hy ⟨s4,rfl⟩ k'
     obtain ⟨b,it,rfl,hb,hit⟩:=mh LI3.2 hj
     have ib:=hb.1.same s4
     have jl:=(gi_ hit).1
     refine ⟨_,rfl,b,_,_,_,rfl,rfl,qL_ ib.li,rfl,k' _ _ hy (cz (by rw [lm_,lm_,List.length_take]; omega)) ⟨aF s4 hD,?_⟩⟩
     rw [List.take_add_one,hit,List.map_append,List.map_append]
     rfl
    ·rintro D ys H4 hD hy ⟨s4,rfl⟩
     rw [lm_,la,List.take_length] at hy
     refine ⟨D,_,rfl,qL_ hy,?_,fun M hM hle => ?_⟩
     ·intro z
      exact ne (List.map_eq_nil_iff.mp z)
     obtain ⟨it,hit,eM⟩:=List.mem_map.mp hM
     refine ⟨_,rfl,L,_,rfl,.inl (qL_ (s4 _ _ LI3.1)),_,_,rfl,rfl,nxt1 _ _ ⟨aD it.st,?_,s4,fun jt hj => ?_⟩⟩
     ·rw [lm_,la,<- eM]
      rfl
     ·have:=hle _ (List.mem_map.mpr ⟨jt,hj,rfl⟩)
      omega
   rintro σ' H4 ⟨M,rfl,s4,hM⟩
   have LI4:=LI3.same s4
   have s04:=s2.trans (s3.trans s4)
   have hS4:=s04.seq hS
   have sm : ∀ m : Nat,m <= 100 -> m <= sizeLine:=fun m h => Nat.le_trans h (by decide)
   refine vu (b1:=decide ((M : Int) + (its.length : Int) < 20)) (b2:=decide (((tot its : Nat) : Int) < 780)) (b3:=decide (n % 8 < 2)) (fun Q q => ⟨_,rfl,_,_,rfl,rfl,_,rfl,q⟩) (fun Q q => ⟨_,rfl,_,_,rfl,rfl,_,rfl,q⟩) (fun Q q => ⟨_,rfl,_,_,rfl,rfl,(by show (0 : Int) < 8; decide),_,_,rfl,rfl,_,rfl,q⟩) (nB (fun c => ?_) (fun _ => ?_))
   ·simp only [Bool.and_eq_true,decide_eq_true_eq] at c
    obtain ⟨c1,c2,_⟩:=c
    refine ⟨_,rfl,.inl ⟨rfl,_,qL_ LI4.1⟩,_,rfl,_,rfl,_,_,rfl,rfl,.inl ⟨by decide,by decide⟩,_,_,rfl,rfl,a,100 + 19 * (0 + (i : Int)),ns,rfl,hS4,h63,⟨by omega,by omega⟩,fun l it H5 s5 I5 f5 fn5 fr5 d5 b5 => ?_⟩
    have LI5:=LI4.same s5
    have o5 : Off L l it:=mf LI4.1 f5 fn5 fr5
    refine ⟨L,_,_,rfl,rfl,LI5.1,sm _ (by rw [lm_]; omega),?_⟩
    refine ⟨as ++ [l],its ++ [it],_,_,_,_,_,rfl,aF (s04.trans s5) fL,LI5.push I5 o5,by simp,⟨?_,fun jt hj => ?_⟩⟩
    ·rw [cf]
     unfold szI
     omega
    ·rw [List.length_append,List.length_singleton]
     rcases ma_.mp hj with z | z
     ·have:=hM jt z
      omega
     ·rw [List.mem_singleton.mp z,d5]
      omega
   refine vu (b1:=decide ((M : Int) + (its.length : Int) < 20)) (b2:=decide ((1 : Int) < ((as.map V.ref).length : Int))) (b3:=decide (n % 8 < 5)) (fun Q q => ⟨_,rfl,_,_,rfl,rfl,_,rfl,q⟩) (fun Q q => ⟨_,rfl,L,_,rfl,.inl (qL_ LI4.1),_,_,rfl,rfl,_,rfl,q⟩) (fun Q q => ⟨_,rfl,_,_,rfl,rfl,(by show (0 : Int) < 8; decide),_,_,rfl,rfl,_,rfl,q⟩) (nB (fun c => ?_) (fun _ => ?_))
   ·simp only [Bool.and_eq_true,decide_eq_true_eq] at c
    obtain ⟨c1,c2,_⟩:=c
    rw [lm_] at c2
    obtain ⟨its1,jt,e1⟩:=dk ne
    subst e1
    have ne1 : its1 ≠ []:=fun z => by rw [z] at la; simp at la; omega
    obtain ⟨its2,it,e2⟩:=dk ne1
    subst e2
    obtain ⟨as1,c',ea1,LI5,J5,oJ⟩:=LI4.pop
    subst ea1
    refine ⟨_,rfl,.inl ⟨rfl,_,qL_ LI4.1⟩,L,_,_,rfl,rfl,LI4.1,pop_at.1,?_⟩
    rw [pop_at.2]
    try dsimp only [aG,aO,List.set]
    obtain ⟨H5,e5⟩ : ∃ H5,upd H4 L (HO.lst (as1.map V.ref)) = H5:=⟨_,rfl⟩
    have s05 : Same H H5:=by rw [<- e5]; exact aF s04 fL
    rw [e5] at LI5 J5 ⊢
    obtain ⟨as2,b',ea2,LI6,I6,oI⟩:=LI5.pop
    subst ea2
    have J6:=J5.off (ys:=as2.map V.ref) oJ LI5.1
    rw [cf,cf] at tt
    unfold szI at tt
    refine ⟨_,rfl,.inl ⟨rfl,_,qL_ LI5.1⟩,_,rfl,.inl ⟨rfl,_,qL_ LI5.1⟩,L,_,_,rfl,rfl,LI5.1,pop_at.1,?_⟩
    rw [pop_at.2]
    obtain ⟨H6,e6⟩ : ∃ H6,upd H5 L (HO.lst (as2.map V.ref)) = H6:=⟨_,rfl⟩
    have s06 : Same H H6:=by rw [<- e6]; exact aF s05 fL
    rw [e6] at LI6 I6 J6 ⊢
    refine ⟨_,rfl,_,rfl,_,_,rfl,rfl,⟨by decide,by decide⟩,b',c',n / 8,ns,it,jt,rfl,I6,J6,by omega,by omega,fun l it' H7 s7 I7 f7 fn7 fr7 d7 b7 => ?_⟩
    have LI7:=LI6.same s7
    have o7 : Off L l it' := mf LI6.1 f7 fn7 fr7
    have ll : (its2 ++ [it] ++ [jt]).length = its2.length + 2:=by simp
    rw [ll] at c1 li20
    have la2 : as2.length = its2.length:=Paired.length LI6.2
    refine ⟨L,_,_,rfl,rfl,LI7.1,sm _ (by rw [lm_]; omega),?_⟩
    refine ⟨as2 ++ [l],its2 ++ [it'],_,_,_,_,_,rfl,aF (s06.trans s7) fL,LI7.push I7 o7,by simp,⟨?_,fun kt hk => ?_⟩⟩
    ·rw [cf]
     unfold szI
     omega
    ·rw [List.length_append,List.length_singleton]
     rcases ma_.mp hk with z | z
     ·have:=hM kt (by simp [z])
      omega
     ·rw [List.mem_singleton.mp z,d7]
      have h1:=hM it (by simp)
      have h2:=hM jt (by simp)
      omega
   refine vq (b1:=decide ((M : Int) + (its.length : Int) < 20)) (b2:=decide (((tot its : Nat) : Int) < 980)) (fun Q q => ⟨_,rfl,_,_,rfl,rfl,_,rfl,q⟩) (fun Q q => ⟨_,rfl,_,_,rfl,rfl,_,rfl,q⟩) (nB (fun c => ?_) (fun _ => ?_))
   ·simp only [Bool.and_eq_true,decide_eq_true_eq] at c
    obtain ⟨c1,c2⟩:=c
    obtain ⟨its1,it,e1⟩:=dk ne
    subst e1
    obtain ⟨as1,b',ea1,LI5,I5,oI⟩:=LI4.pop
    subst ea1
    rw [cf] at tt c2
    unfold szI at tt c2
    refine ⟨_,rfl,.inl ⟨rfl,_,qL_ LI4.1⟩,_,rfl,_,rfl,.inl ⟨rfl,_,qL_ LI4.1⟩,L,_,_,rfl,rfl,LI4.1,pop_at.1,?_⟩
    rw [pop_at.2]
    obtain ⟨H5,e5⟩ : ∃ H5,upd H4 L (HO.lst (as1.map V.ref)) = H5:=⟨_,rfl⟩
    have s05 : Same H H5:=by rw [<- e5]; exact aF s04 fL
    rw [e5] at LI5 I5 ⊢
    refine ⟨_,rfl,_,_,rfl,rfl,⟨by decide,by decide⟩,a,b',n / 8,ns,it,rfl,s05.seq hS,h63,Int.ediv_nonneg n0.1 (by decide),I5,by omega,fun l it' H7 s7 I7 f7 fn7 fr7 d7 b7 => ?_⟩
    have LI7:=LI5.same s7
    have o7 : Off L l it' := by
     refine ⟨fun z => ?_,fun z => ?_,fun z => ?_⟩
     ·rw [z,LI5.1] at f7; cases f7
     ·rcases fn7 with q | q
      ·exact oI.2.1 (q ▸ z)
      ·rw [z,LI5.1] at q; cases q
     ·exact oI.2.2 (fr7 ▸ z)
    have ll : (its1 ++ [it]).length = its1.length + 1:=by simp
    rw [ll] at c1 li20
    have la1 : as1.length = its1.length:=Paired.length LI5.2
    refine ⟨L,_,_,rfl,rfl,LI7.1,sm _ (by rw [lm_]; omega),?_⟩
    refine ⟨as1 ++ [l],its1 ++ [it'],_,_,_,_,_,rfl,aF (s05.trans s7) fL,LI7.push I7 o7,by simp,⟨?_,fun kt hk => ?_⟩⟩
    ·rw [cf]
     unfold szI
     omega
    ·rw [List.length_append,List.length_singleton]
     rcases ma_.mp hk with z | z
     ·have:=hM kt (by simp [z])
      omega
     ·rw [List.mem_singleton.mp z,d7]
      have h1:=hM it (by simp)
      omega
   ·exact ⟨as,its,_,_,_,_,_,rfl,s04,LI4,ne,few⟩
  ·rintro σ' H2 ⟨as,its,v2,v3,v4,v5,v6,rfl,s2,LI,ne,few⟩
   exact nxt _ _ ⟨as,its,v2,v3,v4,v5,v6,rfl,s2,LI,ne,few⟩
 rintro σ' H2 ⟨as,its,v2,v3,v4,v5,v6,rfl,s2,LI,ne,few⟩
 exact ⟨_,rfl,k L as its H2 s2 fL LI ne few⟩
end
def mJ (K : PySem.W.Frag) : Sp:=fun vs H Q _ => ∃ (a : Addr) (ns : LI),vs = [.ref a] /\ SqL K H a (ns.map V.int) /\ ns.length <= 63 /\
 ∀ (l : Addr) (it : It) (H' : Hp),Same H H' -> ItAt ns H' l it -> aD it.st <= 20 -> (ax it.st).length <= 2000 -> Q (.ref l) H'
section
variable {P : Program} {w : World} {K : PySem.W.Frag} {mg : Str -> Option Value} {base : Heap} {f : Addr} {fd : FuncData} {dV : Value}
theorem sc__law_built : FnScope ["_law_script","_law_items_here","_law_other","_law_statement","_law_line","_law_deep","_law_names","_law_rows"] ["_law_script"] (aj bM):=⟨rfl,rfl,rfl,by decide +kernel,rfl,by decide +kernel,by decide +kernel⟩
theorem si (F : FunD K "_law_built" "_law_built" bM dV f fd) (aC : DefOk P w K mg base "_law_draw" 1 ["_law_script","_law_k"] [] (dn K)) (dE : DefOk P w K mg base "_law_items" 5 ["_law_script"] [] (mL K)) (cn : DefOk P w K mg base "_law_two" 1 ["_law_one","_law_other","_law_number"] [] qw) (b9 : mg "len" = none) : FnOk P w K mg base CX0 6 f fd ["_law_script"] (mJ K):=by
 refine F.ok sc__law_built (fun vs H Q E h => ?_) (fun cdv A outer s H vs Q E hr h => ?_)
 ·obtain ⟨a,ns,rfl,_⟩:=h
  rfl
 obtain ⟨a,ns,rfl,hS,h63,k⟩:=h
 refine dN (aq (PSW.mk (az (i:=1) sc__law_built.nd rfl (Or.inl rfl) (aR dE hr (aa (pv 0) ag))))
   (aq (PSW.mk (jB PassesOwn.never (aB su (aE aZ (by rfl) b9 cE (aa (pv 1) ag)) ae (aN _)) (aA (az (i:=2) sc__law_built.nd rfl (Or.inl rfl) (ij PySem.F.plainAttrs_list PySem.F.slot_list_pop PySem.F.type_list_pop hZ (pv 1)))
   (aw (bu (cm PySem.F.plainAttrs_list PySem.F.slot_list_append PySem.F.type_list_append aW (pv 1) (aa (aR cn hr (aa (ij PySem.F.plainAttrs_list PySem.F.slot_list_pop PySem.F.type_list_pop hZ (pv 1)) (aa (pv 2) (aa (aE aZ (by rfl) b9 cE (aa (pv 1) ag)) ag)))) ag)))))))
   (aq (PSW.mk (mz (aI aM (pv 1) ae (fun _ _ => rfl)) (mj rfl (aU (aH (i:=3) sc__law_built.nd rfl (Or.inl rfl)) (aU (aH (i:=4) sc__law_built.nd rfl (Or.inl rfl)) (aU (aH (i:=5) sc__law_built.nd rfl (Or.inl rfl)) (aU (aH (i:=6) sc__law_built.nd rfl (Or.inl rfl)) (aU (aH (i:=7) sc__law_built.nd rfl (Or.inl rfl)) gJ))))))))
   (aq (PSW.mk (bV (aB dh (ai aQ (aR aC hr (aa (pv 0) (aa ae ag))) ae) ae (aN _)) (aw (jB PassesOwn.never (PW.pt (ir (aB gI (pv 5) ae (aN _)) (jc (aB gI (aE gv (by rfl) b9 cE (aa (pv 4) ag)) ae (aN _))))) (aA (az (i:=3) sc__law_built.nd rfl (Or.inl rfl) (bB (aa ay (aa (pv 3) ag))))
   (aA (az (i:=4) sc__law_built.nd rfl (Or.inl rfl) (ai ar ay (pv 4)))
   (aw (az (i:=5) sc__law_built.nd rfl (Or.inl rfl) (ai bf (pv 5) ae))))))) bh))
   (bH (iG (eG (ak (PEW.mk (pv 3)) (ak (PEW.mk (pv 4)) (ak (PEW.mk (pv 5)) (ak (PEW.mk (pv 6)) (ak (PEW.mk (pv 7)) cg)))))))))))) ?_
 refine ⟨_,rfl,a,ns,rfl,hS,h63,fun L as0 its0 H1 s1 fL LI0 ne0 few0 => ?_⟩
 try dsimp only [aG,aO,List.set]
 have sm : ∀ m : Nat,m <= 100 -> m <= sizeLine:=fun m h => Nat.le_trans h (by decide)
 refine ck (t:=mT _ _) (fun σ' H' => ∃ (as : List Addr) (it : It) (v2 : OV),σ' = [some (.ref a),some (.ref L),v2,none,none,none,none,none] /\ Same H H' /\ LIa ns L as [it] H' /\ Few [it]) ?_ (fun D' nxt => ?_)
 rotate_left
 ·refine mU (fun mm σ' H' => ∃ (as : List Addr) (its : List It) (v2 : OV),mm = its.length /\ σ' = [some (.ref a),some (.ref L),v2,none,none,none,none,none] /\ Same H H' /\ LIa ns L as its H' /\ its ≠ [] /\ Few its) ⟨_,as0,its0,none,rfl,rfl,s1,LI0,ne0,few0⟩ ?_
  rintro mm σ' H4 ⟨as,its,v2,rfl,rfl,s04,LI4,ne,few⟩
  have la : as.length = its.length:=Paired.length LI4.2
  have tt:=few.tt
  refine ⟨_,rfl,L,_,rfl,.inl (qL_ LI4.1),_,_,rfl,rfl,_,rfl,nB (fun c => ?_) (fun c => ?_)⟩
  ·have c2:=of_decide_eq_true c
   rw [lm_] at c2
   refine ⟨fun σ' H' => ∃ m',m' < its.length /\ ∃ (as : List Addr) (its : List It) (v2 : OV),m' = its.length /\ σ' = [some (.ref a),some (.ref L),v2,none,none,none,none,none] /\ Same H H' /\ LIa ns L as its H' /\ its ≠ [] /\ Few its,fun _ _ h => h,?_⟩
   obtain ⟨its1,jt,e1⟩:=dk ne
   subst e1
   have ne1 : its1 ≠ []:=fun z => by rw [z] at la; simp at la; omega
   obtain ⟨its2,it,e2⟩:=dk ne1
   subst e2
   obtain ⟨as1,c',ea1,LI5,J5,oJ⟩:=LI4.pop
   subst ea1
   refine ⟨_,rfl,.inl ⟨rfl,_,qL_ LI4.1⟩,L,_,_,rfl,rfl,LI4.1,pop_at.1,?_⟩
   rw [pop_at.2]
   try dsimp only [aG,aO,List.set]
   obtain ⟨H5,e5⟩ : ∃ H5,upd H4 L (HO.lst (as1.map V.ref)) = H5:=⟨_,rfl⟩
   have s05 : Same H H5:=by rw [<- e5]; exact aF s04 fL
   rw [e5] at LI5 J5 ⊢
   obtain ⟨as2,b',ea2,LI6,I6,oI⟩:=LI5.pop
   subst ea2
   have J6:=J5.off (ys:=as2.map V.ref) oJ LI5.1
   rw [cf,cf] at tt
   unfold szI at tt
   refine ⟨_,rfl,.inl ⟨rfl,_,qL_ LI5.1⟩,_,rfl,.inl ⟨rfl,_,qL_ LI5.1⟩,L,_,_,rfl,rfl,LI5.1,pop_at.1,?_⟩
   rw [pop_at.2]
   obtain ⟨H6,e6⟩ : ∃ H6,upd H5 L (HO.lst (as2.map V.ref)) = H6:=⟨_,rfl⟩
   have s06 : Same H H6:=by rw [<- e6]; exact aF s05 fL
   rw [e6] at LI6 I6 J6 ⊢
   refine ⟨_,rfl,_,rfl,L,_,rfl,.inl (qL_ LI6.1),b',c',_,ns,it,jt,rfl,I6,J6,by omega,by omega,fun l it' H7 s7 I7 f7 fn7 fr7 d7 b7 => ?_⟩
   have LI7:=LI6.same s7
   have o7 : Off L l it' := mf LI6.1 f7 fn7 fr7
   have ll : (its2 ++ [it] ++ [jt]).length = its2.length + 2:=by simp
   have dd:=few.dd
   rw [ll] at dd
   have la2 : as2.length = its2.length:=Paired.length LI6.2
   have h1:=dd it (by simp)
   have h2:=dd jt (by simp)
   refine ⟨L,_,_,rfl,rfl,LI7.1,sm _ (by rw [lm_]; omega),?_⟩
   refine ⟨(its2 ++ [it']).length,by simp,as2 ++ [l],its2 ++ [it'],_,rfl,rfl,aF (s06.trans s7) fL,LI7.push I7 o7,by simp,⟨?_,fun kt hk => ?_⟩⟩
   ·rw [cf]
    unfold szI
    omega
   ·rw [List.length_append,List.length_singleton]
    rcases ma_.mp hk with z | z
    ·have:=dd kt (by simp [z])
     omega
    ·rw [List.mem_singleton.mp z,d7]
     omega
  ·have c2 : ¬ (1 : Int) < ((as.map V.ref).length : Int):=fun z => c (decide_eq_true z)
   rw [lm_] at c2
   obtain ⟨its1,it,e1⟩:=dk ne
   have e0 : its1 = []:=by
    cases its1 with
    | nil => rfl
    | cons x r => rw [e1] at la; simp at la; omega
   subst e0 e1
   exact nxt _ _ ⟨as,it,v2,rfl,s04,LI4,few⟩
 rintro σ' H2 ⟨as,it,v2,rfl,s2,LI,few⟩
 obtain ⟨b,I,ea⟩ : ∃ b,ItAt ns H2 b it /\ as = [b]:=by
  cases LI.2 with
  | cons q t =>
   cases t
   exact ⟨_,q.1,rfl⟩
 subst ea
 obtain ⟨st0,v0,nl,rl,names,rows⟩:=it
 have tt : (ax st0).length + 7 + 0 <= 1700:=few.tt
 have dd : aD st0 + 1 <= 20:=few.dd _ List.mem_cons_self
 refine ⟨_,rfl,L,_,_,_,rfl,rfl,qL_ LI.1,rfl,b,_,rfl,qL_ I.li,rfl,_,_,rfl,_,_,rfl,_,_,rfl,_,_,rfl,_,_,rfl,rfl,?_⟩
 try dsimp only [aG,aO,List.set]
 have hS2:=s2.seq hS
 refine ck (t:=sW _ _ _) (fun σ' H' => ∃ (v : V) (st : Stt),σ' = [some (.ref a),some (.ref L),v2,some v,some (.str (ax st)),some (.int (aD st : Int)),some (.ref nl),some (.ref rl)] /\ Same H2 H' /\ StAt H' v st /\ Wf st /\ aY st = aY st0 /\ aV st = aV st0 /\ aD st <= 20 /\ (ax st).length <= 2000) ?_ (fun D' nxt => ?_)
 rotate_left
 ·refine ⟨_,rfl,a,99,ns,rfl,hS2,h63,by decide,by decide,_,_,rfl,rfl,(by show (0 : Int) < 4; decide),rfl,_,rfl,qR (fun c => ?_) (fun c => ?_)⟩
  ·refine mU (fun mm σ' H' => ∃ (v : V) (st : Stt),mm = 20 - aD st /\ σ' = [some (.ref a),some (.ref L),v2,some v,some (.str (ax st)),some (.int (aD st : Int)),some (.ref nl),some (.ref rl)] /\ Same H2 H' /\ StAt H' v st /\ Wf st /\ aY st = aY st0 /\ aV st = aV st0 /\ aD st <= 20 /\ (ax st).length <= 2000) ⟨_,v0,st0,rfl,rfl,Same.refl _,I.sv,I.wf,rfl,rfl,by omega,by omega⟩ ?_
   rintro mm σ' H3 ⟨v,st,rfl,rfl,s3,hst,wf,ef,er,d20,l20⟩
   refine vq (b1:=decide ((aD st : Int) < 20)) (b2:=decide (((ax st).length : Int) < 997)) (fun Q q => ⟨_,rfl,_,_,rfl,rfl,_,rfl,q⟩) (fun Q q => ⟨_,rfl,_,rfl,Nat.le_trans l20 (by decide),_,_,rfl,rfl,_,rfl,q⟩) (nB (fun c => ?_) (fun _ => ?_))
   ·simp only [Bool.and_eq_true,decide_eq_true_eq] at c
    refine ⟨fun σ' H' => ∃ m',m' < 20 - aD st /\ ∃ (v : V) (st : Stt),m' = 20 - aD st /\ σ' = [some (.ref a),some (.ref L),v2,some v,some (.str (ax st)),some (.int (aD st : Int)),some (.ref nl),some (.ref rl)] /\ Same H2 H' /\ StAt H' v st /\ Wf st /\ aY st = aY st0 /\ aV st = aV st0 /\ aD st <= 20 /\ (ax st).length <= 2000,fun _ _ h => h,?_⟩
    refine ⟨_,rfl,(by show 2 <= sizeLine; decide),fun T hT => ?_⟩
    have s4:=ah hT (HO.tup [V.str (Str.ofString "not"),v])
    have l4 : (Str.ofString "not ").length = 4:=by decide
    try dsimp only [aG,aO,List.set]
    refine ⟨_,rfl,_,_,rfl,rfl,Nat.le_trans (show _ + (ax st).length <= 3000 by omega) (by decide),?_⟩
    try dsimp only [aG,aO,List.set]
    refine ⟨_,rfl,_,_,rfl,rfl,20 - aD (.no st),?_,.ref T,.no st,rfl,?_,s3.trans s4,⟨T,v,rfl,af,StAt.same (tkS s4) hst⟩,wf,ef,er,?_,?_⟩
    ·show 20 - (1 + aD st) < _
     omega
    ·show [some (V.ref a),some (V.ref L),v2,some (V.ref T),some (V.str (Str.ofString "not " ++ ax st)),some (V.int ((aD st : Int) + 1)),some (V.ref nl),some (V.ref rl)] = _
     have : (aD st : Int) + 1 = ((1 + aD st : Nat) : Int):=by omega
     rw [this]
     rfl
    ·show 1 + aD st <= 20
     omega
    ·show (("not " : Str) ++ ax st).length <= 2000
     rw [len_app]
     have : (("not " : Str)).length = 4:=by decide
     omega
   ·exact nxt _ _ ⟨v,st,rfl,s3,hst,wf,ef,er,d20,l20⟩
  ·exact nxt _ _ ⟨v0,st0,rfl,Same.refl _,I.sv,I.wf,rfl,rfl,by omega,by omega⟩
 rintro σ' H3 ⟨v,st,rfl,s3,hst,wf,ef,er,d20,l20⟩
 refine ⟨_,rfl,_,rfl,_,rfl,_,rfl,_,rfl,(by show 5 <= sizeLine; decide),fun l hl => ?_⟩
 have s4:=ah hl (HO.lst [v,V.str (ax st),V.int (aD st : Int),V.ref nl,V.ref rl])
 have s34:=s3.trans s4
 exact k l ⟨st,v,nl,rl,names,rows⟩ _ (s2.trans s34) ⟨af,StAt.same (tkS s4) hst,s34 _ _ I.hn,s34 _ _ I.hr,wf,by rw [show aY (It.mk st v nl rl names rows).st = aY st0 from ef]; exact I.nm,by rw [show aV (It.mk st v nl rl names rows).st = aV st0 from er]; exact I.rs,I.ni,I.ri⟩ d20 l20
end
def bP : Stt -> List Stt
 | .no s => [s]
 | .jn _ s t => [s,t]
 | .ch _ _ s => [s]
 | _ => []
def b8 : Stt -> List (List Prt)
 | .cmp _ a b => [a,b]
 | .sg _ a _ => [a]
 | .lk _ a _ b => [a,b]
 | _ => []
def eH : Stt -> List Str
 | .sg r _ _ => [r]
 | .lk r _ q _ => [r,q]
 | _ => []
def kindS : Stt -> Str
 | .cmp k _ _ => k
 | .sg .. => "is"
 | .lk .. => "like"
 | .no _ => "not"
 | .jn k _ _ => k
 | .ch k _ _ => k
def pQ : Stt -> Nat
 | .cmp .. => 0
 | .sg .. => 1
 | .lk .. => 2
 | .no _ => 3
 | .jn .. => 4
 | .ch .. => 5
def rZ : List V:=[.str "=",.str "<=",.str "<"]
def r0 : List V:=[.str "and",.str "or"]
def lQ : List V:=[.str "some",.str "all"]
structure KF (k : Str) (t : Nat) : Prop where
 c : inV (.str k) rZ = decide (t = 0)
 s : decide (V.str k = V.str (Str.ofString "is")) = decide (t = 1)
 l : decide (V.str k = V.str (Str.ofString "like")) = decide (t = 2)
 n : decide (V.str k = V.str (Str.ofString "not")) = decide (t = 3)
 j : inV (.str k) r0 = decide (t = 4)
 h : inV (.str k) lQ = decide (t = 5)
theorem qb : ∀ {st : Stt},Wf st -> KF (kindS st) (pQ st)
 | .cmp k a b,h => by
  obtain ⟨hk,_⟩:=h
  show KF k 0
  rcases hk with rfl | rfl | rfl <;> exact ⟨by decide +kernel,by decide +kernel,by decide +kernel,by decide +kernel,by decide +kernel,by decide +kernel⟩
 | .sg r a s,_ => (⟨by decide +kernel,by decide +kernel,by decide +kernel,by decide +kernel,by decide +kernel,by decide +kernel⟩ : KF "is" 1)
 | .lk r a q b,_ => (⟨by decide +kernel,by decide +kernel,by decide +kernel,by decide +kernel,by decide +kernel,by decide +kernel⟩ : KF "like" 2)
 | .no s,_ => (⟨by decide +kernel,by decide +kernel,by decide +kernel,by decide +kernel,by decide +kernel,by decide +kernel⟩ : KF "not" 3)
 | .jn k s t,h => by
  obtain ⟨hk,_⟩:=h
  show KF k 4
  rcases hk with rfl | rfl <;> exact ⟨by decide +kernel,by decide +kernel,by decide +kernel,by decide +kernel,by decide +kernel,by decide +kernel⟩
 | .ch k n s,h => by
  obtain ⟨hk,_⟩:=h
  show KF k 5
  rcases hk with rfl | rfl <;> exact ⟨by decide +kernel,by decide +kernel,by decide +kernel,by decide +kernel,by decide +kernel,by decide +kernel⟩
theorem lP : ∀ {H : Hp} {v : V} {st : Stt},StAt H v st -> ∃ (x : Addr) (rest : List V),v = .ref x /\ H x = some (.tup (.str (kindS st) :: rest))
 | _,_,.cmp ..,⟨x,_,_,e,h,_⟩ => ⟨x,_,e,h⟩
 | _,_,.sg ..,⟨x,_,e,h,_⟩ => ⟨x,_,e,h⟩
 | _,_,.lk ..,⟨x,_,_,e,h,_⟩ => ⟨x,_,e,h⟩
 | _,_,.no _,⟨x,_,e,h,_⟩ => ⟨x,_,e,h⟩
 | _,_,.jn ..,⟨x,_,_,e,h,_⟩ => ⟨x,_,e,h⟩
 | _,_,.ch ..,⟨x,_,e,h,_⟩ => ⟨x,_,e,h⟩
theorem at0 {x : V} {r : List V} : atI (x :: r) 0 = some x:=by
 unfold atI ixN
 rw [if_pos (by decide),if_pos (by rw [List.length_cons]; omega)]
 rfl
theorem pN {st : Stt} (h : Wf st) : ∀ s ∈ bP st,Wf s /\ aD s < aD st:=by
 intro s hs
 cases st with
 | no t => rw [List.mem_singleton.mp hs]; exact ⟨h,(show aD t < 1 + aD t by omega)⟩
 | jn k t u =>
  rcases List.mem_cons.mp hs with e | e
  ·rw [e]; exact ⟨h.2.1,(show aD t < 1 + max (aD t) (aD u) by omega)⟩
  ·rw [List.mem_singleton.mp e]; exact ⟨h.2.2,(show aD u < 1 + max (aD t) (aD u) by omega)⟩
 | ch k n t => rw [List.mem_singleton.mp hs]; exact ⟨h.2.2,(show aD t < 1 + aD t by omega)⟩
 | cmp k a b => exact absurd hs List.not_mem_nil
 | sg r a n => exact absurd hs List.not_mem_nil
 | lk r a q b => exact absurd hs List.not_mem_nil
theorem fA {β : Type} {R : V -> β -> Prop} : ∀ {us : List V} {ss : List β} {i : Nat} {y : V},Paired R us ss -> us[i]? = some y -> ∃ s,R y s /\ ss[i]? = some s
 | _,_,_,_,.nil,h => by simp at h
 | _,_,0,_,.cons (b:=s) r _,h => ⟨s,Option.some.inj h ▸ r,rfl⟩
 | _,_,i + 1,_,.cons _ t,h => by
  obtain ⟨s,r,q⟩:=fA (i:=i) t (by simpa using h)
  exact ⟨s,r,by simpa using q⟩
def gm : Sp:=fun vs H Q _ => ∃ (v : V) (st : Stt),vs = [v] /\ StAt H v st /\ Wf st /\ ∀ (T : Addr) (us : List V) (H' : Hp),Same H H' -> H' T = some (.tup us) -> Paired (StAt H') us (bP st) -> Q (.ref T) H'
def mN : Sp:=fun vs H Q _ => ∃ (v : V) (st : Stt),vs = [v] /\ StAt H v st /\ Wf st /\ ∀ (T : Addr) (us : List V) (H' : Hp),Same H H' -> H' T = some (.tup us) -> Paired (SumAt H') us (b8 st) -> Q (.ref T) H'
def jD : Sp:=fun vs H Q _ => ∃ (v : V) (st : Stt),vs = [v] /\ StAt H v st /\ Wf st /\ ∀ (T : Addr) (H' : Hp),Same H H' -> H' T = some (.tup ((eH st).map V.str)) -> Q (.ref T) H'
section
variable {P : Program} {w : World} {K : PySem.W.Frag} {mg : Str -> Option Value} {base : Heap} {f : Addr} {fd : FuncData} {dV : Value} {TC TJ TH : Addr}
theorem sc_statements_in : FnScope ["statement","kind"] ["statement"] (aj bq):=⟨rfl,rfl,rfl,by decide +kernel,rfl,by decide +kernel,by decide +kernel⟩
theorem sc_sums_in : FnScope ["statement","kind"] ["statement"] (aj cQ):=⟨rfl,rfl,rfl,by decide +kernel,rfl,by decide +kernel,by decide +kernel⟩
theorem sc_row_names_in : FnScope ["statement","kind"] ["statement"] (aj bF):=⟨rfl,rfl,rfl,by decide +kernel,rfl,by decide +kernel,by decide +kernel⟩
theorem ui (F : FunD K "statements_in" "statements_in" bq dV f fd) (g9 : mg "JOINING" = some (.ref TJ)) (bA : mg "CHOOSING" = some (.ref TH)) (sqJ : ∀ H,SqT K H TJ r0) (sqH : ∀ H,SqT K H TH lQ) : FnOk P w K mg base CX0 1 f fd ["statement"] gm:=by
 refine F.ok sc_statements_in (fun vs H Q E h => ?_) (fun cdv A outer s H vs Q E hr h => ?_)
 ·obtain ⟨v,st,rfl,_⟩:=h
  rfl
 obtain ⟨v,st,rfl,hst,wf,q⟩:=h
 have kf:=qb wf
 refine ⟨_,(aA (az (i:=1) sc_statements_in.nd rfl (Or.inl rfl) (aI bJ (pv 0) ae (fun _ _ => rfl)))
   (aA (bV (aB dh (pv 1) ay (aN _)) (aw (aX (bB (aa (aI bJ (pv 0) ae (fun _ _ => rfl)) ag)))) bh)
   (aA (bV (aB dy (pv 1) (jb (v:=.ref _) rfl g9 rfl) (by with_unfolding_all rfl)) (aw (aX (bB (aa (aI bJ (pv 0) ae (fun _ _ => rfl)) (aa (aI bJ (pv 0) ae (fun _ _ => rfl)) ag))))) bh)
   (aA (bV (aB dy (pv 1) (jb (v:=.ref _) rfl bA rfl) (by with_unfolding_all rfl)) (aw (aX (bB (aa (aI bJ (pv 0) ae (fun _ _ => rfl)) ag)))) bh)
   (aw (aX (bB ag))))))),?_⟩
 have e0 : ∀ (H1 : Hp) (T : Addr),bP st = [] -> H1 T = none -> Same H H1 -> Q (.ref T) (upd H1 T (.tup [])):=fun H1 T e hT s1 => q T [] _ (s1.trans (ah hT _)) af (e ▸ .nil)
 cases st with
 | cmp k a b =>
  obtain ⟨x,va,vb,rfl,hx,ha,hb⟩:=hst
  refine ⟨_,rfl,x,_,_,_,rfl,rfl,qT_ hx,rfl,?_⟩
  refine ⟨_,rfl,rfl,_,rfl,ifF kf.n ?_⟩
  refine ⟨_,rfl,TJ,_,rfl,.inr (sqJ _),rfl,rfl,_,rfl,ifF kf.j ?_⟩
  refine ⟨_,rfl,TH,_,rfl,.inr (sqH _),rfl,rfl,_,rfl,ifF kf.h ?_⟩
  exact ⟨(by show 0 <= sizeLine; decide),fun T hT => e0 _ T rfl hT (Same.refl _)⟩
 | sg r a n =>
  obtain ⟨x,va,rfl,hx,ha⟩:=hst
  refine ⟨_,rfl,x,_,_,_,rfl,rfl,qT_ hx,rfl,?_⟩
  refine ⟨_,rfl,rfl,_,rfl,ifF kf.n ?_⟩
  refine ⟨_,rfl,TJ,_,rfl,.inr (sqJ _),rfl,rfl,_,rfl,ifF kf.j ?_⟩
  refine ⟨_,rfl,TH,_,rfl,.inr (sqH _),rfl,rfl,_,rfl,ifF kf.h ?_⟩
  exact ⟨(by show 0 <= sizeLine; decide),fun T hT => e0 _ T rfl hT (Same.refl _)⟩
 | lk r a q' b =>
  obtain ⟨x,va,vb,rfl,hx,ha,hb⟩:=hst
  refine ⟨_,rfl,x,_,_,_,rfl,rfl,qT_ hx,rfl,?_⟩
  refine ⟨_,rfl,rfl,_,rfl,ifF kf.n ?_⟩
  refine ⟨_,rfl,TJ,_,rfl,.inr (sqJ _),rfl,rfl,_,rfl,ifF kf.j ?_⟩
  refine ⟨_,rfl,TH,_,rfl,.inr (sqH _),rfl,rfl,_,rfl,ifF kf.h ?_⟩
  exact ⟨(by show 0 <= sizeLine; decide),fun T hT => e0 _ T rfl hT (Same.refl _)⟩
 | no t =>
  obtain ⟨x,vs,rfl,hx,ht⟩:=hst
  refine ⟨_,rfl,x,_,_,_,rfl,rfl,qT_ hx,rfl,?_⟩
  refine ⟨_,rfl,rfl,_,rfl,ifT kf.n ?_⟩
  refine ⟨_,rfl,x,_,_,_,rfl,rfl,qT_ hx,rfl,(by show 1 <= sizeLine; decide),fun T hT => ?_⟩
  have s1:=ah hT (HO.tup [vs])
  exact q T [vs] _ s1 af (.cons (StAt.same (tkS s1) ht) .nil)
 | jn k t u =>
  obtain ⟨x,vs,vt,rfl,hx,ht,hu⟩:=hst
  refine ⟨_,rfl,x,_,_,_,rfl,rfl,qT_ hx,rfl,?_⟩
  refine ⟨_,rfl,rfl,_,rfl,ifF kf.n ?_⟩
  refine ⟨_,rfl,TJ,_,rfl,.inr (sqJ _),rfl,rfl,_,rfl,ifT kf.j ?_⟩
  refine ⟨_,rfl,x,_,_,_,rfl,rfl,qT_ hx,rfl,_,rfl,x,_,_,_,rfl,rfl,qT_ hx,rfl,(by show 2 <= sizeLine; decide),fun T hT => ?_⟩
  have s1:=ah hT (HO.tup [vs,vt])
  exact q T [vs,vt] _ s1 af (.cons (StAt.same (tkS s1) ht) (.cons (StAt.same (tkS s1) hu) .nil))
 | ch k n t =>
  obtain ⟨x,vs,rfl,hx,ht⟩:=hst
  refine ⟨_,rfl,x,_,_,_,rfl,rfl,qT_ hx,rfl,?_⟩
  refine ⟨_,rfl,rfl,_,rfl,ifF kf.n ?_⟩
  refine ⟨_,rfl,TJ,_,rfl,.inr (sqJ _),rfl,rfl,_,rfl,ifF kf.j ?_⟩
  refine ⟨_,rfl,TH,_,rfl,.inr (sqH _),rfl,rfl,_,rfl,ifT kf.h ?_⟩
  refine ⟨_,rfl,x,_,_,_,rfl,rfl,qT_ hx,rfl,(by show 1 <= sizeLine; decide),fun T hT => ?_⟩
  have s1:=ah hT (HO.tup [vs])
  exact q T [vs] _ s1 af (.cons (StAt.same (tkS s1) ht) .nil)
theorem uj (F : FunD K "sums_in" "sums_in" cQ dV f fd) (fg : mg "COMPARING" = some (.ref TC)) (sqC : ∀ H,SqT K H TC rZ) : FnOk P w K mg base CX0 1 f fd ["statement"] mN:=by
 refine F.ok sc_sums_in (fun vs H Q E h => ?_) (fun cdv A outer s H vs Q E hr h => ?_)
 ·obtain ⟨v,st,rfl,_⟩:=h
  rfl
 obtain ⟨v,st,rfl,hst,wf,q⟩:=h
 have kf:=qb wf
 refine ⟨_,(aA (az (i:=1) sc_sums_in.nd rfl (Or.inl rfl) (aI bJ (pv 0) ae (fun _ _ => rfl)))
   (aA (bV (aB dy (pv 1) (jb (v:=.ref _) rfl fg rfl) (by with_unfolding_all rfl)) (aw (aX (bB (aa (aI bJ (pv 0) ae (fun _ _ => rfl)) (aa (aI bJ (pv 0) ae (fun _ _ => rfl)) ag))))) bh)
   (aA (bV (aB dh (pv 1) ay (aN _)) (aw (aX (bB (aa (aI bJ (pv 0) ae (fun _ _ => rfl)) ag)))) bh)
   (aA (bV (aB dh (pv 1) ay (aN _)) (aw (aX (bB (aa (aI bJ (pv 0) ae (fun _ _ => rfl)) (aa (aI bJ (pv 0) ae (fun _ _ => rfl)) ag))))) bh)
   (aw (aX (bB ag))))))),?_⟩
 by_cases t3 : 3 <= pQ st
 ·have nt : ∀ i,i < 3 -> ¬ pQ st = i:=fun i h => by omega
  have e : b8 st = []:=by
   cases st with
   | no t => rfl
   | jn k t u => rfl
   | ch k n t => rfl
   | cmp k a b => exact absurd t3 (show ¬ 3 <= 0 by decide)
   | sg r a n => exact absurd t3 (show ¬ 3 <= 1 by decide)
   | lk r a q b => exact absurd t3 (show ¬ 3 <= 2 by decide)
  obtain ⟨x,rest,rfl,hx⟩:=lP hst
  refine ⟨_,rfl,x,_,_,_,rfl,rfl,qT_ hx,at0,?_⟩
  refine ⟨_,rfl,TC,_,rfl,.inr (sqC _),rfl,rfl,_,rfl,ifF (kf.c.trans (decide_eq_false (nt 0 (by decide)))) ?_⟩
  refine ⟨_,rfl,rfl,_,rfl,ifF (kf.s.trans (decide_eq_false (nt 1 (by decide)))) ?_⟩
  refine ⟨_,rfl,rfl,_,rfl,ifF (kf.l.trans (decide_eq_false (nt 2 (by decide)))) ?_⟩
  exact ⟨(by show 0 <= sizeLine; decide),fun T hT => q T [] _ (ah hT _) af (e ▸ .nil)⟩
 cases st with
 | cmp k a b =>
  obtain ⟨x,va,vb,rfl,hx,ha,hb⟩:=hst
  refine ⟨_,rfl,x,_,_,_,rfl,rfl,qT_ hx,rfl,?_⟩
  refine ⟨_,rfl,TC,_,rfl,.inr (sqC _),rfl,rfl,_,rfl,ifT kf.c ?_⟩
  refine ⟨_,rfl,x,_,_,_,rfl,rfl,qT_ hx,rfl,_,rfl,x,_,_,_,rfl,rfl,qT_ hx,rfl,(by show 2 <= sizeLine; decide),fun T hT => ?_⟩
  have s1:=ah hT (HO.tup [va,vb])
  exact q T [va,vb] _ s1 af (.cons (ha.same (tkS s1)) (.cons (hb.same (tkS s1)) .nil))
 | sg r a n =>
  obtain ⟨x,va,rfl,hx,ha⟩:=hst
  refine ⟨_,rfl,x,_,_,_,rfl,rfl,qT_ hx,rfl,?_⟩
  refine ⟨_,rfl,TC,_,rfl,.inr (sqC _),rfl,rfl,_,rfl,ifF kf.c ?_⟩
  refine ⟨_,rfl,rfl,_,rfl,ifT kf.s ?_⟩
  refine ⟨_,rfl,x,_,_,_,rfl,rfl,qT_ hx,rfl,(by show 1 <= sizeLine; decide),fun T hT => ?_⟩
  have s1:=ah hT (HO.tup [va])
  exact q T [va] _ s1 af (.cons (ha.same (tkS s1)) .nil)
 | lk r a q' b =>
  obtain ⟨x,va,vb,rfl,hx,ha,hb⟩:=hst
  refine ⟨_,rfl,x,_,_,_,rfl,rfl,qT_ hx,rfl,?_⟩
  refine ⟨_,rfl,TC,_,rfl,.inr (sqC _),rfl,rfl,_,rfl,ifF kf.c ?_⟩
  refine ⟨_,rfl,rfl,_,rfl,ifF kf.s ?_⟩
  refine ⟨_,rfl,rfl,_,rfl,ifT kf.l ?_⟩
  refine ⟨_,rfl,x,_,_,_,rfl,rfl,qT_ hx,rfl,_,rfl,x,_,_,_,rfl,rfl,qT_ hx,rfl,(by show 2 <= sizeLine; decide),fun T hT => ?_⟩
  have s1:=ah hT (HO.tup [va,vb])
  exact q T [va,vb] _ s1 af (.cons (ha.same (tkS s1)) (.cons (hb.same (tkS s1)) .nil))
 | no t => exact absurd (show 3 <= 3 by decide) t3
 | jn k t u => exact absurd (show 3 <= 4 by decide) t3
 | ch k n t => exact absurd (show 3 <= 5 by decide) t3
theorem q0 (F : FunD K "row_names_in" "row_names_in" bF dV f fd) : FnOk P w K mg base CX0 1 f fd ["statement"] jD:=by
 refine F.ok sc_row_names_in (fun vs H Q E h => ?_) (fun cdv A outer s H vs Q E hr h => ?_)
 ·obtain ⟨v,st,rfl,_⟩:=h
  rfl
 obtain ⟨v,st,rfl,hst,wf,q⟩:=h
 have kf:=qb wf
 refine ⟨_,(aA (az (i:=1) sc_row_names_in.nd rfl (Or.inl rfl) (aI bJ (pv 0) ae (fun _ _ => rfl)))
   (aA (bV (aB dh (pv 1) ay (aN _)) (aw (aX (bB (aa (aI bJ (pv 0) ae (fun _ _ => rfl)) ag)))) bh)
   (aA (bV (aB dh (pv 1) ay (aN _)) (aw (aX (bB (aa (aI bJ (pv 0) ae (fun _ _ => rfl)) (aa (aI bJ (pv 0) ae (fun _ _ => rfl)) ag))))) bh)
   (aw (aX (bB ag)))))),?_⟩
 by_cases t3 : pQ st = 1 \/ pQ st = 2
 ·cases st with
  | sg r a n =>
   obtain ⟨x,va,rfl,hx,ha⟩:=hst
   refine ⟨_,rfl,x,_,_,_,rfl,rfl,qT_ hx,rfl,?_⟩
   refine ⟨_,rfl,rfl,_,rfl,ifT kf.s ?_⟩
   refine ⟨_,rfl,x,_,_,_,rfl,rfl,qT_ hx,rfl,(by show 1 <= sizeLine; decide),fun T hT => ?_⟩
   exact q T _ (ah hT (HO.tup [V.str r])) af
  | lk r a q' b =>
   obtain ⟨x,va,vb,rfl,hx,ha,hb⟩:=hst
   refine ⟨_,rfl,x,_,_,_,rfl,rfl,qT_ hx,rfl,?_⟩
   refine ⟨_,rfl,rfl,_,rfl,ifF kf.s ?_⟩
   refine ⟨_,rfl,rfl,_,rfl,ifT kf.l ?_⟩
   refine ⟨_,rfl,x,_,_,_,rfl,rfl,qT_ hx,rfl,_,rfl,x,_,_,_,rfl,rfl,qT_ hx,rfl,(by show 2 <= sizeLine; decide),fun T hT => ?_⟩
   exact q T _ (ah hT (HO.tup [V.str r,V.str q'])) af
  | cmp k a b => exact absurd t3 (show ¬ (0 = 1 \/ 0 = 2) by decide)
  | no t => exact absurd t3 (show ¬ (3 = 1 \/ 3 = 2) by decide)
  | jn k t u => exact absurd t3 (show ¬ (4 = 1 \/ 4 = 2) by decide)
  | ch k n t => exact absurd t3 (show ¬ (5 = 1 \/ 5 = 2) by decide)
 ·have e : eH st = []:=by
   cases st with
   | no t => rfl
   | jn k t u => rfl
   | ch k n t => rfl
   | cmp k a b => rfl
   | sg r a n => exact absurd (.inl rfl) t3
   | lk r a q b => exact absurd (.inr rfl) t3
  obtain ⟨x,rest,rfl,hx⟩:=lP hst
  refine ⟨_,rfl,x,_,_,_,rfl,rfl,qT_ hx,at0,?_⟩
  refine ⟨_,rfl,rfl,_,rfl,ifF (kf.s.trans (decide_eq_false fun z => t3 (.inl z))) ?_⟩
  refine ⟨_,rfl,rfl,_,rfl,ifF (kf.l.trans (decide_eq_false fun z => t3 (.inr z))) ?_⟩
  exact ⟨(by show 0 <= sizeLine; decide),fun T hT => q T _ (ah hT (HO.tup [])) (by rw [e]; exact af)⟩
end
def qu (d : Nat) : Sp:=fun vs H Q _ => ∃ (v : V) (st : Stt),vs = [v] /\ StAt H v st /\ Wf st /\ aD st <= d /\ ∀ H',Same H H' -> Q (.int (aD st : Int)) H'
def uA (d : Nat) : Sp:=fun vs H Q _ => ∃ (v : V) (st : Stt),vs = [v] /\ StAt H v st /\ Wf st /\ aD st < d /\ ∀ H',Same H H' -> Q (.int (aD st : Int)) H'
theorem tR {st : Stt} {M : Int} (h : M ∈ (bP st).map fun s => (1 + (aD s : Int))) (le : ∀ z ∈ (bP st).map fun s => (1 + (aD s : Int)),z <= M) : M = (aD st : Int):=by
 cases st with
 | no t => exact List.mem_singleton.mp h
 | ch k n t => exact List.mem_singleton.mp h
 | jn k t u =>
  have h1 : 1 + (aD t : Int) <= M:=le _ List.mem_cons_self
  have h2 : 1 + (aD u : Int) <= M:=le _ (List.mem_cons_of_mem _ List.mem_cons_self)
  show M = ((1 + max (aD t) (aD u) : Nat) : Int)
  rcases List.mem_cons.mp h with e | e
  ·have e' : M = 1 + (aD t : Int):=e
   omega
  ·have e' : M = 1 + (aD u : Int):=List.mem_singleton.mp e
   omega
 | cmp k a b => exact absurd h List.not_mem_nil
 | sg r a n => exact absurd h List.not_mem_nil
 | lk r a q b => exact absurd h List.not_mem_nil
theorem tS {st : Stt} (h : (bP st).map (fun s => (1 + (aD s : Int))) = []) : aD st = 0:=by
 cases st with
 | no t => cases h
 | ch k n t => cases h
 | jn k t u => cases h
 | cmp k a b => rfl
 | sg r a n => rfl
 | lk r a q b => rfl
theorem mR (st : Stt) : (bP st).length <= 2:=by cases st <;> (first | exact (show 0 <= 2 by decide) | exact (show 1 <= 2 by decide) | exact Nat.le_refl _)
def szN : Stt -> Nat
 | .cmp .. => 1
 | .sg .. => 1
 | .lk .. => 1
 | .no s => 1 + szN s
 | .jn _ s t => 1 + (szN s + szN t)
 | .ch _ _ s => 1 + szN s
def szL (ss : List Stt) : Nat:=(ss.map szN).sum
theorem qz (st : Stt) : szN st = 1 + szL (bP st):=by
 cases st <;> rfl
theorem sI (st : Stt) : aV st = eH st ++ (bP st).flatMap aV:=by
 cases st with
 | no t => simp [aV,eH,bP]
 | ch k n t => simp [aV,eH,bP]
 | jn k t u => simp [aV,eH,bP]
 | cmp k a b => rfl
 | sg r a n => rfl
 | lk r a q b => rfl
theorem dz : ∀ st : Stt,szN st <= (ax st).length /\ (aV st).length <= (ax st).length
 | .cmp k a b => by
  unfold ax szN aV
  rw [len_app,len_app,len_app,len_app]
  have : ((" " : Str)).length = 1:=by decide
  exact ⟨by omega,Nat.zero_le _⟩
 | .sg r a s => by
  unfold ax szN aV
  rw [len_app,len_app]
  have : ((" = " : Str)).length = 3:=by decide
  exact ⟨by omega,by rw [List.length_singleton]; omega⟩
 | .lk r a q b => by
  unfold ax szN aV
  rw [len_app,len_app]
  have : ((" = " : Str)).length = 3:=by decide
  exact ⟨by omega,(show 2 <= _ by omega)⟩
 | .no s => by
  have:=dz s
  unfold ax szN aV
  rw [len_app]
  have : (("not " : Str)).length = 4:=by decide
  exact ⟨by omega,by omega⟩
 | .jn k s t => by
  have:=dz s
  have:=dz t
  unfold ax szN aV
  rw [len_app,len_app,len_app,len_app,List.length_append]
  have : (("(" : Str)).length = 1:=by decide
  exact ⟨by omega,by omega⟩
 | .ch k n s => by
  have:=dz s
  unfold ax szN aV
  rw [len_app,len_app,len_app,len_app]
  have : ((" " : Str)).length = 1:=by decide
  exact ⟨by omega,by omega⟩
theorem sU (ss : List Stt) (p : Stt) : szL (ss ++ [p]) = szL ss + szN p:=by
 unfold szL
 rw [List.map_append,List.sum_append]
 simp
theorem uD (ss ts : List Stt) : szL (ss ++ ts) = szL ss + szL ts:=by
 unfold szL
 rw [List.map_append,List.sum_append]
theorem qy : ∀ ss : List Stt,ss.length <= szL ss
 | [] => Nat.zero_le _
 | s :: r => by
  have:=qy r
  have h:=qz s
  show r.length + 1 <= szN s + szL r
  omega
theorem vG {ws : List V} {y : V} : (ws ++ [y])[(ws ++ [y]).length - 1]? = some y /\ (ws ++ [y]).dropLast = ws:=by
 constructor
 ·rw [List.length_append,List.length_singleton,Nat.add_sub_cancel,List.getElem?_append_right (Nat.le_refl _),Nat.sub_self]
  rfl
 ·exact List.dropLast_concat
theorem n5 {α β : Type} {R : α -> β -> Prop} : ∀ {as : List α} {bs : List β} {cs : List α} {ds : List β},Paired R as bs -> Paired R cs ds -> Paired R (as ++ cs) (bs ++ ds)
 | _,_,_,_,.nil,h => h
 | _,_,_,_,.cons r t,h => .cons r (n5 t h)
section
variable {P : Program} {w : World} {K : PySem.W.Frag} {mg : Str -> Option Value} {base : Heap} {f : Addr} {fd : FuncData} {dV : Value} {TC TJ TH : Addr}
theorem sM : FnScope ["statement"] ["statement"] (aj di):=⟨rfl,rfl,rfl,by decide +kernel,rfl,by decide +kernel,by decide +kernel⟩
theorem bk_depth_0 : BlkScope ["statement"] (aj di) ["inside"] [none] { kind:=ScopeKind.function,names:=[(".0",NameKind.local),("inside",NameKind.local),("depth",NameKind.globalImplicit)],isGenerator:=false,isCoroutine:=false,more:=[] }:=⟨rfl,by decide +kernel,by decide +kernel,by decide +kernel,by decide +kernel,rfl,by decide +kernel⟩
theorem sc_pieces_of : FnScope ["statement","pieces","waiting","piece"] ["statement"] (aj b6):=⟨rfl,rfl,rfl,by decide +kernel,rfl,by decide +kernel,by decide +kernel⟩
theorem sc_rows_of : FnScope ["statement","names","piece"] ["statement"] (aj cP):=⟨rfl,rfl,rfl,by decide +kernel,rfl,by decide +kernel,by decide +kernel⟩
theorem nZ {d : Nat} (F : FunD K "depth" "depth" di dV f fd) (au : DefOk P w K mg base "statements_in" 1 ["statement"] [] gm) (gn : DefOk P w K mg base "depth" (d + 1) ["statement"] [] (uA d)) (dC : mg "max" = none) : FnOk P w K mg base CX0 (d + 2) f fd ["statement"] (qu d):=by
 refine F.ok sM (fun vs H Q E h => ?_) (fun cdv A outer s H vs Q E hr h => ?_)
 ·obtain ⟨v,st,rfl,_⟩:=h
  rfl
 obtain ⟨v,st,rfl,hst,wf,hd,q⟩:=h
 refine ⟨_,(aw (aX (ur rfl rfl dC (aa (mi rfl bk_depth_0 (ml (aR au hr (aa (pv 0) ag) (hkj:=by omega))) (fun _ _ _ _ => (aH (i:=0) bk_depth_0.nd rfl (Or.inl rfl))) (fun _ _ _ _ => (ai bf ae (aR gn hr (aa (pv 0) ag) (hkj:=by omega))))) ag) ae))),?_⟩
 refine ⟨_,rfl,v,st,rfl,hst,wf,fun T us H1 s1 hT hu => ⟨T,rfl,⟨_,qT_ hT⟩,?_⟩⟩
 have lu : us.length = (bP st).length:=Paired.length hu
 have l2:=mR st
 refine rG (K:=K) (xs:=us) (fun D i ys H' => Same H1 H' /\ ys = (((bP st).take i).map fun s => (1 + (aD s : Int))).map V.int) (fun D hD => ⟨ah hD _,rfl⟩) (fun D i ys H' _ ⟨e,_⟩ => qT_ (e _ _ hT)) ?_ ?_
 ·rintro D i y ys H2 Q' hD hi hy ⟨s2,rfl⟩ k'
  obtain ⟨s',hs',hi'⟩:=fA hu hi
  have so:=pN wf s' (mq_ hi')
  refine ⟨_,rfl,y,s',rfl,StAt.same (tkS s2) hs',so.1,by omega,fun H3 s3 => ⟨_,_,rfl,rfl,?_⟩⟩
  refine k' _ _ (s3 _ _ hy) (cz (by rw [lm_,lm_,List.length_take]; omega)) ⟨aF (s2.trans s3) hD,?_⟩
  rw [List.take_add_one,hi',List.map_append,List.map_append]
  rfl
 ·rintro L ys H2 hL hy ⟨s2,rfl⟩
  rw [lu,List.take_length] at hy
  refine ⟨L,_,_,rfl,rfl,qL_ hy,fun e => ?_,fun M hM hle => ?_⟩
  ·have:=tS e
   have z:=q H2 (s1.trans s2)
   rw [this] at z
   exact z
  ·rw [tR hM hle]
   exact q H2 (s1.trans s2)
def jC : Sp:=fun vs H Q _ => ∃ (v : V) (st : Stt),vs = [v] /\ StAt H v st /\ Wf st /\ (ax st).length <= 2000 /\ ∀ (L : Addr) (us : List V) (ps : List Stt) (H' : Hp),Same H H' -> H L = none -> H' L = some (.lst us) -> Paired (StAt H') us ps -> (∀ p ∈ ps,Wf p) -> (ps.flatMap eH).Perm (aV st) -> Q (.ref L) H'
theorem qZ (F : FunD K "pieces_of" "pieces_of" b6 dV f fd) (au : DefOk P w K mg base "statements_in" 1 ["statement"] [] gm) : FnOk P w K mg base CX0 2 f fd ["statement"] jC:=by
 refine F.ok sc_pieces_of (fun vs H Q E h => ?_) (fun cdv A outer s H vs Q E hr h => ?_)
 ·obtain ⟨v,st,rfl,_⟩:=h
  rfl
 obtain ⟨v,st,rfl,hst,wf,h2k,q⟩:=h
 have rl:=dz st
 refine dN (aq (PSW.mk (az (i:=1) sc_pieces_of.nd rfl (Or.inl rfl) (bS ag)))
   (aq (PSW.mk (az (i:=2) sc_pieces_of.nd rfl (Or.inl rfl) (bS (aa (pv 0) ag))))
   (aq (PSW.mk (jB PassesOwn.never (sF (pv 2) (fun _ => rfl)) (aA (az (i:=3) sc_pieces_of.nd rfl (Or.inl rfl) (ij PySem.F.plainAttrs_list PySem.F.slot_list_pop PySem.F.type_list_pop hZ (pv 2)))
   (aA (bu (cm PySem.F.plainAttrs_list PySem.F.slot_list_append PySem.F.type_list_append aW (pv 1) (aa (pv 3) ag)))
   (aw (bu (cm PySem.F.plainAttrs_list PySem.F.slot_list_extend PySem.F.type_list_extend gi (pv 2) (aa (aR au hr (aa (pv 3) ag)) ag))))))))
   (bH (PSW.mk (aX (pv 1))))))) ?_
 refine ⟨(by show 0 <= sizeLine; decide),fun Lp hLp => ?_⟩
 have sp:=ah hLp (HO.lst [])
 refine ⟨_,rfl,(by show 1 <= sizeLine; decide),fun Lw hLw => ?_⟩
 have sw:=ah hLw (HO.lst [v])
 have npw : Lp ≠ Lw:=av af hLw
 try dsimp only [aG,aO,List.set]
 refine ck (t:=mT _ _) (fun σ' H' => ∃ (us : List V) (ps : List Stt) (v3 : OV),σ' = [some v,some (.ref Lp),some (.ref Lw),v3] /\ Same H H' /\ H' Lp = some (.lst us) /\ Paired (StAt H') us ps /\ (∀ p ∈ ps,Wf p) /\ (ps.flatMap eH).Perm (aV st)) ?_ (fun D' nxt => ?_)
 rotate_left
 ·refine mU (fun mm σ' H' => ∃ (us ws : List V) (ps ss : List Stt) (v3 : OV),mm = szL ss /\ σ' = [some v,some (.ref Lp),some (.ref Lw),v3] /\ Same H H' /\ H' Lp = some (.lst us) /\ H' Lw = some (.lst ws) /\ Paired (StAt H') us ps /\ Paired (StAt H') ws ss /\ (∀ p ∈ ps,Wf p) /\ (∀ p ∈ ss,Wf p) /\ ps.length + szL ss = szN st /\ (ps.flatMap eH ++ ss.flatMap aV).Perm (aV st)) ⟨_,[],[v],[],[st],none,rfl,rfl,sp.trans sw,sw _ _ af,af,.nil,.cons (StAt.same (tkS (sp.trans sw)) hst) .nil,fun p hp => absurd hp List.not_mem_nil,fun p hp => List.mem_singleton.mp hp ▸ wf,?_,?_⟩ ?_
  ·show 0 + (szN st + 0) = szN st
   omega
  ·show (([] : List Str) ++ (aV st ++ [])).Perm _
   rw [List.nil_append,List.append_nil]
  rintro mm σ' H4 ⟨us,ws,ps,ss,v3,rfl,rfl,s4,hP4,hW4,PP,PW,wp,wws,cnt,pm⟩
  have lps : us.length = ps.length:=Paired.length PP
  have lws : ws.length = ss.length:=Paired.length PW
  by_cases en : ss = []
  ·subst en
   have e0 : ws = []:=List.length_eq_zero_iff.mp lws
   subst e0
   refine ⟨_,rfl,_,.inl ⟨_,qL_ hW4,rfl⟩,iP ?_⟩
   exact nxt _ _ ⟨us,ps,v3,rfl,s4,hP4,PP,wp,by rw [List.flatMap_nil,List.append_nil] at pm; exact pm⟩
  obtain ⟨ss1,p,e1⟩:=dk en
  subst e1
  obtain ⟨ws1,y,ew,PW1,hyp⟩:=fB PW
  subst ew
  have wfp:=wws p (by simp)
  have szl:=sU ss1 p
  refine ⟨_,rfl,_,.inl ⟨_,qL_ hW4,rfl⟩,ifT (by cases ws1 <;> rfl) ?_⟩
  refine ⟨fun σ' H' => ∃ m',m' < szL (ss1 ++ [p]) /\ ∃ (us ws : List V) (ps ss : List Stt) (v3 : OV),m' = szL ss /\ σ' = [some v,some (.ref Lp),some (.ref Lw),v3] /\ Same H H' /\ H' Lp = some (.lst us) /\ H' Lw = some (.lst ws) /\ Paired (StAt H') us ps /\ Paired (StAt H') ws ss /\ (∀ p ∈ ps,Wf p) /\ (∀ p ∈ ss,Wf p) /\ ps.length + szL ss = szN st /\ (ps.flatMap eH ++ ss.flatMap aV).Perm (aV st),fun _ _ h => h,?_⟩
  refine ⟨_,rfl,.inl ⟨rfl,_,qL_ hW4⟩,Lw,_,y,rfl,rfl,hW4,vG.1,?_⟩
  rw [vG.2]
  try dsimp only [aG,aO,List.set]
  have fp : H Lp = none:=hLp
  have fw : H Lw = none:=sp.free hLw
  have tk5 : cK H4 (upd H4 Lw (.lst ws1)):=fun b xs e => by rw [ao (eF e hW4 (by intro z; cases z))]; exact e
  obtain ⟨H5,e5⟩ : ∃ H5,upd H4 Lw (HO.lst ws1) = H5:=⟨_,rfl⟩
  have s5 : Same H H5:=by rw [<- e5]; exact aF s4 fw
  have hP5 : H5 Lp = some (.lst us):=by rw [<- e5,ao npw]; exact hP4
  have hW5 : H5 Lw = some (.lst ws1):=by rw [<- e5]; exact af
  rw [e5] at tk5 ⊢
  have z4 : ∀ m : Nat,m <= 10000 -> m <= sizeLine:=fun m h => Nat.le_trans h (by decide)
  refine ⟨_,rfl,.inl ⟨rfl,_,qL_ hP5⟩,_,rfl,Lp,_,_,rfl,rfl,hP5,z4 _ (by omega),?_⟩
  have tk6 : cK H5 (upd H5 Lp (.lst (us ++ [y]))):=fun b xs e => by rw [ao (eF e hP5 (by intro z; cases z))]; exact e
  obtain ⟨H6,e6⟩ : ∃ H6,upd H5 Lp (HO.lst (us ++ [y])) = H6:=⟨_,rfl⟩
  have s6 : Same H H6:=by rw [<- e6]; exact aF s5 fp
  have hP6 : H6 Lp = some (.lst (us ++ [y])):=by rw [<- e6]; exact af
  have hW6 : H6 Lw = some (.lst ws1):=by rw [<- e6,ao (Ne.symm npw)]; exact hW5
  rw [e6] at tk6 ⊢
  have tk46 : cK H4 H6:=fun b xs e => tk6 _ _ (tk5 _ _ e)
  refine ⟨_,rfl,.inl ⟨rfl,_,qL_ hW6⟩,_,rfl,y,p,rfl,StAt.same tk46 hyp,wfp,fun T us2 H7 s7 hT hu => ?_⟩
  have l2:=mR p
  have lu2 : us2.length = (bP p).length:=Paired.length hu
  have lw1 : ws1.length = ss1.length:=Paired.length PW1
  have lsz:=qy ss1
  have hW7:=s7 _ _ hW6
  have hP7:=s7 _ _ hP6
  have tk47 : cK H4 H7:=fun b xs e => s7 _ _ (tk46 _ _ e)
  have tk8 : cK H7 (upd H7 Lw (.lst (ws1 ++ us2))):=fun b xs e => by rw [ao (eF e hW7 (by intro z; cases z))]; exact e
  have szp:=qz p
  have csz : szL (ss1 ++ bP p) = szL ss1 + szL (bP p):=uD ss1 (bP p)
  refine ⟨Lw,T,_,us2,rfl,rfl,hW7,hT,z4 _ (by omega),?_⟩
  refine ⟨szL (ss1 ++ bP p),by omega,us ++ [y],ws1 ++ us2,ps ++ [p],ss1 ++ bP p,_,rfl,rfl,aF (s6.trans s7) fw,by rw [ao npw]; exact hP7,af,ig (Paired.mapP PP fun _ _ e => StAt.same (fun b xs e => tk8 _ _ (tk47 _ _ e)) e) (StAt.same (fun b xs e => tk8 _ _ (tk47 _ _ e)) hyp),n5 (Paired.mapP PW1 fun _ _ e => StAt.same (fun b xs e => tk8 _ _ (tk47 _ _ e)) e) (Paired.mapP hu fun _ _ e => StAt.same tk8 e),fun r hr => ?_,fun r hr => ?_,?_,?_⟩
  ·rcases ma_.mp hr with z | z
   ·exact wp r z
   ·rw [List.mem_singleton.mp z]; exact wfp
  ·rcases ma_.mp hr with z | z
   ·exact wws r (by simp [z])
   ·exact (pN wfp r z).1
  ·rw [List.length_append,List.length_singleton]
   omega
  ·refine List.Perm.trans ?_ pm
   rw [List.flatMap_append,List.flatMap_append,List.flatMap_append,List.flatMap_singleton,List.flatMap_singleton,sI p]
   rw [List.append_assoc]
   refine List.Perm.append_left _ ?_
   rw [<- List.append_assoc,<- List.append_assoc]
   exact List.Perm.append_right _ List.perm_append_comm
 rintro σ' H4 ⟨us,ps,v3,rfl,s4,hP4,PP,wp,pm⟩
 exact ⟨_,rfl,q Lp us ps H4 s4 hLp hP4 PP wp pm⟩
def pK : Sp:=fun vs H Q _ => ∃ (v : V) (st : Stt) (nm : List Str),vs = [v] /\ StAt H v st /\ Wf st /\ (ax st).length <= 2000 /\ (∀ x ∈ aV st,x ∈ nm) /\ nm.length <= 30 /\ ∀ (T : Addr) (zs : List Str) (H' : Hp),Same H H' -> H' T = some (.tup (zs.map V.str)) -> IsNm zs (aV st) -> Q (.ref T) H'
theorem uh (F : FunD K "rows_of" "rows_of" cP dV f fd) (eI : DefOk P w K mg base "pieces_of" 2 ["statement"] [] jC) (cS : DefOk P w K mg base "row_names_in" 1 ["statement"] [] jD) (bC : mg "tuple" = none) (aS : mg "sorted" = none) (cj : mg "set" = none) : FnOk P w K mg base CX0 3 f fd ["statement"] pK:=by
 refine F.ok sc_rows_of (fun vs H Q E h => ?_) (fun cdv A outer s H vs Q E hr h => ?_)
 ·obtain ⟨v,st,nm,rfl,_⟩:=h
  rfl
 obtain ⟨v,st,nm,rfl,hst,wf,h2k,hin,n30,q⟩:=h
 have rl:=dz st
 refine dN (aq (PSW.mk (az (i:=1) sc_rows_of.nd rfl (Or.inl rfl) (bS ag)))
   (aq (PSW.mk (iq PassesOwn.never rfl (gK (aR eI hr (aa (pv 0) ag))) (aH (i:=2) sc_rows_of.nd rfl (Or.inl rfl)) (aw (bu (cm PySem.F.plainAttrs_list PySem.F.slot_list_extend PySem.F.type_list_extend gi (pv 1) (aa (aR cS hr (aa (pv 2) ag)) ag))))))
   (bH (PSW.mk (aX (bb dq (by rfl) bC gs (aa (aE ((bz rfl)) (by rfl) aS cu (aa (bb ((bR rfl)) (by rfl) cj fU (aa (pv 1) ag)) ag)) ag))))))) ?_
 refine ⟨(by show 0 <= sizeLine; decide),fun Ln hLn => ?_⟩
 have sn:=ah hLn (HO.lst [])
 try dsimp only [aG,aO,List.set]
 refine ck (t:=pP _ _ _) (fun σ' H' => ∃ (xs : List Str) (v2 : OV),σ' = [some v,some (.ref Ln),v2] /\ Same H H' /\ H' Ln = some (.lst (xs.map V.str)) /\ xs.Perm (aV st)) ?_ (fun D' nxt => ?_)
 rotate_left
 ·refine ⟨_,rfl,v,st,rfl,StAt.same (tkS sn) hst,wf,h2k,fun L us ps H1 s1 fL hL PP wp pm => ⟨L,rfl,⟨_,qL_ hL⟩,?_⟩⟩
  have lps : us.length = ps.length:=Paired.length PP
  have hn1:=s1 _ _ (af (H:=H) (a:=Ln) (o:=HO.lst []))
  have nl : L ≠ Ln:=fun z => by
   rw [z,af] at fL
   cases fL
  have sub : ∀ i,((ps.take i).flatMap eH).length <= 2000:=fun i => by
   have e : (ps.flatMap eH).length = ((ps.take i).flatMap eH).length + ((ps.drop i).flatMap eH).length:=by
    rw [<- List.length_append,<- List.flatMap_append,List.take_append_drop]
   have:=pm.length_eq
   omega
  refine rR (K:=K) (xs:=us) (fun i σ' H' => ∃ (v2 : OV),σ' = [some v,some (.ref Ln),v2] /\ Same H H' /\ H' Ln = some (.lst (((ps.take i).flatMap eH).map V.str)) /\ H' L = some (.lst us) /\ Paired (StAt H') us ps) ⟨none,rfl,sn.trans s1,hn1,hL,PP⟩ (fun i σ' H' _ ⟨_,_,_,_,h,_⟩ => qL_ h) ?_ ?_
  ·rintro i y σ' H2 hi ⟨v2,rfl,s2,hn2,hL2,PP2⟩
   obtain ⟨p,hp,hpi⟩:=fA PP2 hi
   have hpm:=mq_ hpi
   refine ⟨_,rfl,.inl ⟨rfl,_,qL_ hn2⟩,_,rfl,y,p,rfl,hp,wp p hpm,fun T H3 s3 hT => ?_⟩
   have hn3:=s3 _ _ hn2
   have e1 : (ps.take (i + 1)).flatMap eH = (ps.take i).flatMap eH ++ eH p:=by
    rw [List.take_add_one,hpi,List.flatMap_append]
    simp
   have sb:=sub (i + 1)
   rw [e1,List.length_append] at sb
   refine ⟨Ln,T,_,_,rfl,rfl,hn3,hT,Nat.le_trans (by rw [lm_,lm_]; exact sb) (show 2000 <= sizeLine by decide),?_⟩
   refine ⟨some y,rfl,aF (s2.trans s3) hLn,by rw [af,e1,List.map_append],by rw [ao nl]; exact s3 _ _ hL2,Paired.mapP PP2 fun _ _ e => StAt.same (fun b xs e => ?_) e⟩
   rw [ao (eF (s3 _ _ e) hn3 (by intro z; cases z))]
   exact s3 _ _ e
  ·rintro σ' H2 ⟨v2,rfl,s2,hn2,hL2,PP2⟩
   rw [lps,List.take_length] at hn2
   exact nxt _ _ ⟨_,v2,rfl,s2,hn2,pm⟩
 rintro σ' H2 ⟨xs,v2,rfl,s2,hn2,pm⟩
 have lx:=pm.length_eq
 refine ⟨_,rfl,Ln,xs,rfl,hn2,by omega,fun S hS' => ?_⟩
 have s3:=ah hS' (cT P w S (bL xs))
 have ol : (bL xs).length <= nm.length:=dA (fu xs) fun x hx => hin x (pm.mem_iff.mp (once_memS.mp hx))
 refine ⟨S,_,rfl,af,by omega,fun lz ms hlz pz so => ?_⟩
 have s4:=ah hlz (HO.lst (ms.map V.str))
 refine ⟨lz,_,rfl,.inl ⟨qL_ af,fun T hT => ?_⟩⟩
 exact q T ms _ (s2.trans (s3.trans (s4.trans (ah hT _)))) af ((IsNm.of_sorted pz so).congr fun x => pm.mem_iff)
end
def mK (d : Nat) : Sp:=fun vs H Q _ => ∃ (v : V) (st : Stt) (nm : List Str),vs = [v] /\ StAt H v st /\ Wf st /\ aD st <= d /\ (∀ x ∈ aY st,x ∈ nm) /\ nm.length + aD st <= 30 /\ ∀ (T : Addr) (zs : List Str) (H' : Hp),Same H H' -> H' T = some (.tup (zs.map V.str)) -> IsNm zs (aY st) -> Q (.ref T) H'
def sP (d : Nat) : Sp:=fun vs H Q _ => ∃ (v : V) (st : Stt) (nm : List Str),vs = [v] /\ StAt H v st /\ Wf st /\ aD st < d /\ (∀ x ∈ aY st,x ∈ nm) /\ nm.length + aD st <= 30 /\ ∀ (T : Addr) (zs : List Str) (H' : Hp),Same H H' -> H' T = some (.tup (zs.map V.str)) -> IsNm zs (aY st) -> Q (.ref T) H'
def sD (st : Stt) : List Str:=(b8 st).flatMap bo ++ (bP st).flatMap aY
def tL : Stt -> List Str
 | .ch _ n _ => [n]
 | _ => []
theorem sS (st : Stt) : (b8 st).length <= 2:=by cases st <;> (first | exact (show 0 <= 2 by decide) | exact (show 1 <= 2 by decide) | exact Nat.le_refl _)
theorem sT {st : Stt} (h : Wf st) : ∀ a ∈ b8 st,gp a:=by
 intro s hs
 cases st with
 | cmp k a b =>
  rcases List.mem_cons.mp hs with e | e
  ·rw [e]; exact h.2.1
  ·rw [List.mem_singleton.mp e]; exact h.2.2
 | sg r a n => rw [List.mem_singleton.mp hs]; exact h.2.1
 | lk r a q b =>
  rcases List.mem_cons.mp hs with e | e
  ·rw [e]; exact h.2.1
  ·rw [List.mem_singleton.mp e]; exact h.2.2.2
 | no t => exact absurd hs List.not_mem_nil
 | jn k t u => exact absurd hs List.not_mem_nil
 | ch k n t => exact absurd hs List.not_mem_nil
theorem ot {ps : List Prt} (h : gp ps) : (bo ps).length <= 20:=by
 unfold bo
 rw [lm_]
 exact Nat.le_trans (List.length_filter_le ..) h.1
theorem sE {st : Stt} (h : pQ st ≠ 5) : aY st = sD st:=by
 unfold sD
 cases st with
 | cmp k a b => simp [aY,b8,bP]
 | sg r a n => simp [aY,b8,bP]
 | lk r a q b => simp [aY,b8,bP]
 | no t => simp [aY,b8,bP]
 | jn k t u => simp [aY,b8,bP]
 | ch k n t => exact absurd rfl h
theorem nA {st : Stt} {s : Stt} (hs : s ∈ bP st) {x : Str} (hx : x ∈ aY s) : x ∈ tL st \/ x ∈ aY st:=by
 cases st with
 | cmp k a b => exact absurd hs List.not_mem_nil
 | sg r a n => exact absurd hs List.not_mem_nil
 | lk r a q b => exact absurd hs List.not_mem_nil
 | no t => rw [List.mem_singleton.mp hs] at hx; exact .inr hx
 | jn k t u =>
  refine .inr (ma_.mpr ?_)
  rcases List.mem_cons.mp hs with e | e
  ·rw [e] at hx; exact .inl hx
  ·rw [List.mem_singleton.mp e] at hx; exact .inr hx
 | ch k n t =>
  rw [List.mem_singleton.mp hs] at hx
  by_cases c : x = n
  ·exact .inl (by rw [c]; exact List.mem_singleton_self n)
  ·exact .inr (List.mem_filter.mpr ⟨hx,decide_eq_true c⟩)
theorem tM (st : Stt) : (tL st).length <= 1:=by cases st <;> (first | exact (show 0 <= 1 by decide) | exact Nat.le_refl _)
theorem rQ {α : Type} {B : Nat} {f : α -> List Str} {xs : List α} (l : xs.length <= 2) (h : ∀ a ∈ xs,(f a).length <= B) : (xs.flatMap f).length <= 2 * B:=by
 match xs,l with
 | [],_ => exact Nat.zero_le _
 | [a],_ =>
  have:=h a (by simp)
  simp
  omega
 | [a,b],_ =>
  have:=h a (by simp)
  have:=h b (by simp)
  simp
  omega
section
variable {P : Program} {w : World} {K : PySem.W.Frag} {mg : Str -> Option Value} {base : Heap} {f : Addr} {fd : FuncData} {dV : Value} {TC TJ TH : Addr}
theorem sc_free : FnScope ["statement","names","added","inside"] ["statement"] (aj eB):=⟨rfl,rfl,rfl,by decide +kernel,rfl,by decide +kernel,by decide +kernel⟩
theorem bk_free_0 : BlkScope ["statement","names","added","inside"] (aj eB) ["part"] [none] { kind:=ScopeKind.function,names:=[(".0",NameKind.local),("part",NameKind.local)],isGenerator:=false,isCoroutine:=false,more:=[] }:=⟨rfl,by decide +kernel,by decide +kernel,by decide +kernel,by decide +kernel,rfl,by decide +kernel⟩
theorem bk_free_1 : BlkScope ["statement","names","added","inside"] (aj eB) ["name","statement"] [none,some 0] { kind:=ScopeKind.function,names:=[(".0",NameKind.local),("name",NameKind.local),("statement",NameKind.free)],isGenerator:=false,isCoroutine:=false,more:=[] }:=⟨rfl,by decide +kernel,by decide +kernel,by decide +kernel,by decide +kernel,rfl,by decide +kernel⟩
theorem qk {d : Nat} (F : FunD K "free" "free" eB dV f fd) (bA : mg "CHOOSING" = some (.ref TH)) (sqH : ∀ H,SqT K H TH lQ) (au : DefOk P w K mg base "statements_in" 1 ["statement"] [] gm) (cq : DefOk P w K mg base "sums_in" 1 ["statement"] [] mN) (jf : DefOk P w K mg base "free" (d + 1) ["statement"] [] (sP d)) (bC : mg "tuple" = none) (aS : mg "sorted" = none) (cj : mg "set" = none) : FnOk P w K mg base CX0 (d + 2) f fd ["statement"] (mK d):=by
 refine F.ok sc_free (fun vs H Q E h => ?_) (fun cdv A outer s H vs Q E hr h => ?_)
 ·obtain ⟨v,st,nm,rfl,_⟩:=h
  rfl
 obtain ⟨v,st,nm,rfl,hst,wf,hd,hin,n30,q⟩:=h
 have kf:=qb wf
 have l1:=sS st
 have l2:=mR st
 have sko:=sT wf
 refine dN (aq (PSW.mk (az (i:=1) sc_free.nd rfl (Or.inl rfl) (bS ag)))
   (aq (PSW.mk (iq PassesOwn.never rfl (ml (aR cq hr (aa (pv 0) ag) (hkj:=by omega))) (aH (i:=2) sc_free.nd rfl (Or.inl rfl)) (aw (bu (cm PySem.F.plainAttrs_list PySem.F.slot_list_extend PySem.F.type_list_extend jz (pv 1) (aa (sx rfl bk_free_0 (ml (pv 2)) (fun _ _ _ _ => (aH (i:=0) bk_free_0.nd rfl (Or.inl rfl))) (fun _ _ _ _ => (aB kG (aI (lI K) (pv 0) ae (fun _ _ => rfl)) ay (aN _))) (fun _ _ _ _ => (aI (lI K) (pv 0) ae (fun _ _ => rfl)))) ag))))))
   (aq (PSW.mk (iq PassesOwn.never rfl (ml (aR au hr (aa (pv 0) ag) (hkj:=by omega))) (aH (i:=3) sc_free.nd rfl (Or.inl rfl)) (aw (bu (cm PySem.F.plainAttrs_list PySem.F.slot_list_extend PySem.F.type_list_extend jz (pv 1) (aa (aR jf hr (aa (pv 3) ag) (hkj:=by omega)) ag))))))
   (aq (PSW.mk (bV (aB dy (aI bJ (pv 0) ae (fun _ _ => rfl)) (jb (v:=.ref _) rfl bA rfl) (by with_unfolding_all rfl)) (aw (iE (i:=1) rfl sc_free.nd rfl (Or.inl rfl) bk_free_1 (gK (pv 1)) (fun _ _ _ _ => (aH (i:=0) bk_free_1.nd rfl (Or.inl rfl))) (fun _ _ _ _ => (aB kG (pv 0) (aI (lI K) (pv 1) ae (fun _ _ => rfl)) (aN _))) (fun _ _ _ _ => (pv 0)))) bh))
   (bH (PSW.mk (aX (bb dq (by rfl) bC gs (aa (aE ((bz rfl)) (by rfl) aS cu (aa (bb ((bR rfl)) (by rfl) cj fU (aa (pv 1) ag)) ag)) ag))))))))) ?_
 refine ⟨(by show 0 <= sizeLine; decide),fun Ln hLn => ?_⟩
 have sn:=ah hLn (HO.lst [])
 try dsimp only [aG,aO,List.set]
 refine ck (t:=pP _ _ _) (fun σ' H' => ∃ (v2 : OV),σ' = [some v,some (.ref Ln),v2,none] /\ Same H H' /\ H' Ln = some (.lst (((b8 st).flatMap bo).map V.str))) ?_ (fun D' nxt => ?_)
 rotate_left
 ·refine ⟨_,rfl,v,st,rfl,StAt.same (tkS sn) hst,wf,fun T us H1 s1 hT hu => ⟨T,rfl,⟨_,qT_ hT⟩,?_⟩⟩
  have lu : us.length = (b8 st).length:=Paired.length hu
  have hn1:=s1 _ _ (af (H:=H) (a:=Ln) (o:=HO.lst []))
  refine p8 (K:=K) (xs:=us) (fun i σ' H' => ∃ (v2 : OV),σ' = [some v,some (.ref Ln),v2,none] /\ Same H H' /\ H' Ln = some (.lst ((((b8 st).take i).flatMap bo).map V.str)) /\ H' T = some (.tup us) /\ Paired (SumAt H') us (b8 st) /\ (((b8 st).take i).flatMap bo).length <= 20 * i) ⟨none,rfl,sn.trans s1,hn1,hT,hu,Nat.zero_le _⟩ (fun i σ' H' _ ⟨_,_,_,_,h,_⟩ => qT_ h) ?_ ?_
  ·rintro i y σ' H2 hi ⟨v2,rfl,s2,hn2,hT2,hu2,xl⟩
   obtain ⟨ps,hp,hpi⟩:=fA hu2 hi
   have ok:=sko ps (mq_ hpi)
   have il:=(gi_ hpi).1
   have nl:=ot ok
   have e1 : ((b8 st).take (i + 1)).flatMap bo = ((b8 st).take i).flatMap bo ++ bo ps:=by
    rw [List.take_add_one,hpi,List.flatMap_append]
    simp
   obtain ⟨b,as,rfl,hb,hA⟩:=hp
   have las : as.length = ps.length:=Paired.length hA
   have okl:=ok.1
   refine ⟨_,rfl,.inl ⟨rfl,_,qL_ hn2⟩,_,rfl,b,rfl,⟨_,qT_ hb⟩,?_⟩
   refine qL (K:=K) (xs:=as.map V.ref) (fun D j ys H' => Same H2 H' /\ ys = (bo (ps.take j)).map V.str) (fun D hD => ⟨ah hD _,rfl⟩) (fun D j ys H' _ ⟨e,_⟩ => qT_ (e _ _ hb)) ?_ ?_
   ·rintro D j y ys H' Qy Qn hD hj hy ⟨hs,rfl⟩ ky kn
    obtain ⟨c,p,rfl,hc,hpj⟩:=qo hA hj
    have hc' : H' c = some (.tup [.int p.1,.str p.2]):=hs _ _ hc
    have e2 : bo (ps.take (j + 1)) = bo (ps.take j) ++ (if p.2 = ("" : Str) then [] else [p.2]):=by
     rw [List.take_add_one,hpj,<- fG]
     rfl
    have jl : (bo (ps.take j)).length <= 20:=by
     unfold bo
     rw [lm_]
     refine Nat.le_trans (List.length_filter_le ..) ?_
     rw [List.length_take]
     omega
    refine ⟨_,rfl,c,_,_,_,rfl,rfl,qT_ hc',rfl,rfl,_,rfl,rV (fun z => ?_) (fun z => ?_)⟩
    ·have z' : ¬ p.2 = ("" : Str):=fun y => z (V_str.mpr y)
     refine ⟨_,rfl,c,_,_,_,rfl,rfl,qT_ hc',rfl,ky _ _ hy (cz (by rw [lm_]; omega)) ⟨aF hs hD,?_⟩⟩
     rw [e2,if_neg z',List.map_append]
     rfl
    ·refine kn _ hy ⟨hs,?_⟩
     rw [e2,if_pos (V_str.mp z),List.append_nil]
   ·rintro lf ys H3 fl hy ⟨s3,rfl⟩
    rw [lm_,las,List.take_length] at hy
    have hn3:=s3 _ _ hn2
    refine .inl ⟨Ln,lf,_,_,rfl,rfl,hn3,hy,Nat.le_trans (show _ <= 1000 by rw [lm_,lm_]; omega) (by decide),?_⟩
    refine ⟨_,rfl,aF (s2.trans s3) hLn,by rw [af,e1,List.map_append],by rw [ao (eF (s3 _ _ hT2) hn3 (by intro z; cases z))]; exact s3 _ _ hT2,Paired.mapP hu2 fun _ _ e => e.same (fun c zs e => ?_),by rw [e1,List.length_append]; omega⟩
    rw [ao (eF (s3 _ _ e) hn3 (by intro z; cases z))]
    exact s3 _ _ e
  ·rintro σ' H2 ⟨v2,rfl,s2,hn2,hT2,hu2,xl⟩
   rw [lu,List.take_length] at hn2
   exact nxt _ _ ⟨v2,rfl,s2,hn2⟩
 rintro σ' H1 ⟨v2,rfl,s1,hn1⟩
 refine ck (t:=pP _ _ _) (fun σ' H' => ∃ (xs : List Str) (v2 v3 : OV),σ' = [some v,some (.ref Ln),v2,v3] /\ Same H H' /\ H' Ln = some (.lst (xs.map V.str)) /\ (∀ x,x ∈ xs ↔ x ∈ sD st) /\ xs.length <= 100) ?_ (fun D' nxt => ?_)
 rotate_left
 ·refine ⟨_,rfl,v,st,rfl,StAt.same (tkS s1) hst,wf,fun T us H2 s2 hT hu => ⟨T,rfl,⟨_,qT_ hT⟩,?_⟩⟩
  have lu : us.length = (bP st).length:=Paired.length hu
  have hn2:=s2 _ _ hn1
  have l40 : ((b8 st).flatMap bo).length <= 40:=rQ l1 fun a ha => ot (sko a ha)
  refine p8 (K:=K) (xs:=us) (fun i σ' H' => ∃ (xs : List Str) (v3 : OV),σ' = [some v,some (.ref Ln),v2,v3] /\ Same H H' /\ H' Ln = some (.lst (xs.map V.str)) /\ H' T = some (.tup us) /\ Paired (StAt H') us (bP st) /\ xs.length <= 40 + 30 * i /\ ∀ x,x ∈ xs ↔ x ∈ (b8 st).flatMap bo ++ ((bP st).take i).flatMap aY) ⟨_,none,rfl,s1.trans s2,hn2,hT,hu,by omega,fun x => by rw [List.take_zero,List.flatMap_nil,List.append_nil]⟩ (fun i σ' H' _ ⟨_,_,_,_,_,h,_⟩ => qT_ h) ?_ ?_
  ·rintro i y σ' H3 hi ⟨xs,v3,rfl,s3,hn3,hT3,hu3,xl,hx⟩
   obtain ⟨p,hp,hpi⟩:=fA hu3 hi
   have hpm:=mq_ hpi
   have so:=pN wf p hpm
   have il:=(gi_ hpi).1
   have bl:=tM st
   refine ⟨_,rfl,.inl ⟨rfl,_,qL_ hn3⟩,_,rfl,y,p,tL st ++ nm,rfl,hp,so.1,by omega,fun x hx => ?_,by rw [List.length_append]; omega,fun T2 zs H4 s4 hT4 isn => ?_⟩
   ·rcases nA hpm hx with z | z
    ·exact ma_.mpr (.inl z)
    ·exact ma_.mpr (.inr (hin x z))
   have zl : zs.length <= (tL st ++ nm).length:=dA isn.nd fun x hx => by
    rcases nA hpm ((isn.mem x).mp hx) with z | z
    ·exact ma_.mpr (.inl z)
    ·exact ma_.mpr (.inr (hin x z))
   rw [List.length_append] at zl
   have hn4:=s4 _ _ hn3
   refine .inr ⟨Ln,T2,_,_,rfl,rfl,hn4,hT4,Nat.le_trans (show _ <= 1000 by rw [lm_,lm_]; omega) (by decide),?_⟩
   refine ⟨xs ++ zs,_,rfl,aF (s3.trans s4) hLn,by rw [af,List.map_append],by rw [ao (eF (s4 _ _ hT3) hn4 (by intro z; cases z))]; exact s4 _ _ hT3,Paired.mapP hu3 fun _ _ e => StAt.same (fun c zs e => ?_) e,by rw [List.length_append]; omega,fun x => ?_⟩
   ·rw [ao (eF (s4 _ _ e) hn4 (by intro z; cases z))]
    exact s4 _ _ e
   ·have e1 : ((bP st).take (i + 1)).flatMap aY = ((bP st).take i).flatMap aY ++ aY p:=by
     rw [List.take_add_one,hpi,List.flatMap_append]
     simp
    rw [e1,<- List.append_assoc,List.mem_append,List.mem_append (t:=aY p),hx x,isn.mem x]
  ·rintro σ' H3 ⟨xs,v3,rfl,s3,hn3,hT3,hu3,xl,hx⟩
   rw [lu] at xl hx
   rw [List.take_length] at hx
   exact nxt _ _ ⟨xs,v2,v3,rfl,s3,hn3,hx,by omega⟩
 rintro σ' H2 ⟨xs,v2,v3,rfl,s2,hn2,hx,xl⟩
 refine ck (t:=sW _ _ _) (fun σ' H' => ∃ (L : Addr) (xs : List Str),σ' = [some v,some (.ref L),v2,v3] /\ Same H H' /\ H' L = some (.lst (xs.map V.str)) /\ (∀ x,x ∈ xs ↔ x ∈ aY st) /\ xs.length <= 100) ?_ (fun D' nxt => ?_)
 rotate_left
 ·obtain ⟨x0,rest,ev,hx0⟩:=lP (StAt.same (tkS s2) hst)
  subst ev
  by_cases t5 : pQ st = 5
  ·cases st with
   | ch k n t =>
    obtain ⟨x,vs,ex,hx1,ht⟩:=StAt.same (tkS s2) hst
    cases ex
    refine ⟨_,rfl,x0,_,_,_,rfl,rfl,qT_ hx1,rfl,TH,_,rfl,.inr (sqH _),rfl,rfl,_,rfl,ifT kf.h ?_⟩
    refine ⟨_,rfl,Ln,rfl,⟨_,qL_ hn2⟩,?_⟩
    refine jm (K:=K) (xs:=xs.map V.str) (fun D j ys H' => Same H2 H' /\ ys = ((xs.take j).filter fun x => decide (x ≠ n)).map V.str) (fun D hD => ⟨ah hD _,rfl⟩) (fun D j ys H' _ ⟨e,_⟩ => qL_ (e _ _ hn2)) ?_ ?_
    ·rintro D j y ys H' Qy Qn hD hj hy ⟨hs,rfl⟩ ky kn
     obtain ⟨x,rfl,hxj⟩:=mQ hj
     have fl:=List.length_filter_le (fun x => decide (x ≠ n)) (xs.take j)
     rw [List.length_take] at fl
     refine ⟨_,rfl,_,rfl,x0,_,_,_,rfl,rfl,qT_ (hs _ _ hx1),rfl,rfl,_,rfl,rV (fun c => ?_) (fun c => ?_)⟩
     ·have c' : x ≠ n:=fun z => c (V_str.mpr z)
      refine ⟨_,rfl,ky _ _ hy (cz (by rw [lm_]; omega)) ⟨aF hs hD,?_⟩⟩
      rw [p7 hxj,if_pos (decide_eq_true c'),List.map_append]
      rfl
     ·have c' : ¬ x ≠ n:=fun z => z (V_str.mp c)
      refine kn _ hy ⟨hs,?_⟩
      rw [p7 hxj,if_neg (fun z => c' (of_decide_eq_true z)),List.append_nil]
    ·rintro lf ys H3 fl hy ⟨s3,rfl⟩
     rw [lm_,List.take_length] at hy
     refine nxt _ _ ⟨lf,_,rfl,s2.trans s3,hy,fun x => ?_,Nat.le_trans (List.length_filter_le ..) xl⟩
     rw [List.mem_filter,hx x]
     show _ ↔ x ∈ (aY t).filter _
     rw [List.mem_filter,show sD (.ch k n t) = aY t from by simp [sD,b8,bP]]
   | cmp k a b => exact absurd t5 (show ¬ 0 = 5 by decide)
   | sg r a n => exact absurd t5 (show ¬ 1 = 5 by decide)
   | lk r a q b => exact absurd t5 (show ¬ 2 = 5 by decide)
   | no t => exact absurd t5 (show ¬ 3 = 5 by decide)
   | jn k t u => exact absurd t5 (show ¬ 4 = 5 by decide)
  ·refine ⟨_,rfl,x0,_,_,_,rfl,rfl,qT_ hx0,at0,TH,_,rfl,.inr (sqH _),rfl,rfl,_,rfl,ifF (kf.h.trans (decide_eq_false t5)) ?_⟩
   exact nxt _ _ ⟨Ln,xs,rfl,s2,hn2,fun x => by rw [sE t5]; exact hx x,xl⟩
 rintro σ' H3 ⟨L,ys,rfl,s3,hn3,hy,yl⟩
 refine ⟨_,rfl,L,ys,rfl,hn3,by omega,fun S hS' => ?_⟩
 have s4:=ah hS' (cT P w S (bL ys))
 have ol : (bL ys).length <= nm.length:=dA (fu ys) fun x hx => hin x ((hy x).mp (once_memS.mp hx))
 refine ⟨S,_,rfl,af,by omega,fun lz ms hlz pz so => ?_⟩
 have s5:=ah hlz (HO.lst (ms.map V.str))
 refine ⟨lz,_,rfl,.inl ⟨qL_ af,fun T hT => ?_⟩⟩
 exact q T ms _ (s3.trans (s4.trans (s5.trans (ah hT _)))) af ((IsNm.of_sorted pz so).congr hy)
end
theorem leS.anti {a b : Str} (h : leS a b) (h' : leS b a) : a = b:=by
 have e : a.cps.toList = b.cps.toList:=List.le_antisymm (List.not_lt.mp h) (List.not_lt.mp h')
 cases a
 cases b
 congr 1
 exact Array.toList_inj.mp e
theorem qj : ∀ {zs ws : List Str},zs.Pairwise leS -> zs.Nodup -> ws.Pairwise leS -> ws.Nodup -> (∀ x,x ∈ zs ↔ x ∈ ws) -> zs = ws
 | [],[],_,_,_,_,_ => rfl
 | [],w :: ws,_,_,_,_,h => absurd ((h w).mpr List.mem_cons_self) List.not_mem_nil
 | z :: zs,[],_,_,_,_,h => absurd ((h z).mp List.mem_cons_self) List.not_mem_nil
 | z :: zs,w :: ws,hz,nz,hw,nw,h => by
  have z1:=List.pairwise_cons.mp hz
  have w1:=List.pairwise_cons.mp hw
  have nz1:=List.nodup_cons.mp nz
  have nw1:=List.nodup_cons.mp nw
  have e : z = w:=by
   rcases List.mem_cons.mp ((h z).mp List.mem_cons_self) with c | c
   ·exact c
   ·rcases List.mem_cons.mp ((h w).mpr List.mem_cons_self) with c2 | c2
    ·exact c2.symm
    ·exact leS.anti (z1.1 _ c2) (w1.1 _ c)
  subst e
  rw [qj z1.2 nz1.2 w1.2 nw1.2 fun x => ⟨fun hx => ?_,fun hx => ?_⟩]
  ·rcases List.mem_cons.mp ((h x).mp (List.mem_cons_of_mem _ hx)) with c | c
   ·exact absurd (c ▸ hx) nz1.1
   ·exact c
  ·rcases List.mem_cons.mp ((h x).mpr (List.mem_cons_of_mem _ hx)) with c | c
   ·exact absurd (c ▸ hx) nw1.1
   ·exact c
theorem IsNm.uniq {zs ws xs : List Str} (h : IsNm zs xs) (h' : IsNm ws xs) : zs = ws:=qj h.so h.nd h'.so h'.nd fun x => (h.mem x).trans (h'.mem x).symm
theorem nH (K : PySem.W.Frag) : PySem.W.kitOne K (.type "str") (.type "str") = some true:=by with_unfolding_all rfl
theorem iC (K : PySem.W.Frag) : PySem.W.kitOne K (.type "int") (.type "int") = some true:=by with_unfolding_all rfl
theorem gD (K : PySem.W.Frag) : PySem.W.kitOne K (.type "int") (.type "bool") = some false:=by with_unfolding_all rfl
def mO : Sp:=fun vs H Q _ => ∃ (T L : Addr) (zs : List Str),vs = [.ref T,.ref L] /\ H T = some (.tup (zs.map V.str)) /\ H L = some (.lst (zs.map V.str)) /\ ∀ H',Same H H' -> Q (.bl true) H'
def jE : Sp:=fun vs H Q _ => ∃ (a : Addr) (ns : LI) (it : It),vs = [.ref a] /\ ItAt ns H a it /\ aD it.st <= 20 /\ (ax it.st).length <= 2000 /\ ∀ H',Same H H' -> Q (.bl true) H'
def qv (K : PySem.W.Frag) : Sp:=fun vs H Q _ => ∃ (a : Addr) (ns : LI),vs = [.ref a] /\ SqL K H a (ns.map V.int) /\ ns.length <= 63 /\ ∀ H',Q (.bl true) H'
section
variable {P : Program} {w : World} {K : PySem.W.Frag} {mg : Str -> Option Value} {base : Heap} {f : Addr} {fd : FuncData} {dV : Value}
theorem sc__law_texts : FnScope ["_law_found","_law_due","_law_one","_law_other"] ["_law_found","_law_due"] (aj bO):=⟨rfl,rfl,rfl,by decide +kernel,rfl,by decide +kernel,by decide +kernel⟩
theorem sc__law_told : FnScope ["_law_item","_law_deep"] ["_law_item"] (aj bZ):=⟨rfl,rfl,rfl,by decide +kernel,rfl,by decide +kernel,by decide +kernel⟩
theorem sc_law : FnScope ["_law_script","_law_item"] ["_law_script"] (aj gN):=⟨rfl,rfl,rfl,by decide +kernel,rfl,by decide +kernel,by decide +kernel⟩
theorem sr (F : FunD K "_law_texts" "_law_texts" bO dV f fd) (bx : mg "isinstance" = none) (bC : mg "tuple" = none) (b9 : mg "len" = none) (tG : mg "zip" = none) (fO : mg "str" = none) : FnOk P w K mg base CX0 1 f fd ["_law_found","_law_due"] mO:=by
 refine F.ok sc__law_texts (fun vs H Q E h => ?_) (fun cdv A outer s H vs Q E hr h => ?_)
 ·obtain ⟨T,L,zs,rfl,_⟩:=h
  rfl
 obtain ⟨T,L,zs,rfl,hT,hL,q⟩:=h
 refine ⟨_,(aA (bV (PW.pt (qr (pD (mB (aE gu (by rfl) bx cA (aa (pv 0) (aa (ja (v:=.ty "tuple") rfl bC gs rfl) ag))))) (pE (aB kG (aE aZ (by rfl) b9 cE (aa (pv 0) ag)) (aE aZ (by rfl) b9 cE (aa (pv 1) ag)) (aN _))))) (aw (aX qp)) bh)
   (aA (iq PassesOwn.never rfl (uu rfl tG (aa (pv 0) (aa (pv 1) ag))) (vi rfl (aU (aH (i:=2) sc__law_texts.nd rfl (Or.inl rfl)) (aU (aH (i:=3) sc__law_texts.nd rfl (Or.inl rfl)) gJ))) (aw (bV (PW.pt (qr (pD (mB (aE gu (by rfl) bx cA (aa (pv 2) (aa (ja (v:=.ty "str") rfl fO k4 rfl) ag))))) (pE (aB kG (pv 2) (pv 3) (aN _))))) (aw (aX qp)) bh)))
   (aw (aX qp)))),?_⟩
 refine ⟨_,rfl,_,_,_,_,rfl,TyOf.tup hT,iT K,_,rfl,iP ?_⟩
 refine ⟨_,rfl,T,_,rfl,.inr (qT_ hT),_,rfl,L,_,rfl,.inl (qL_ hL),rfl,_,rfl,?_⟩
 rw [decide_eq_true rfl]
 refine iP ?_
 try dsimp only [aG,aO,List.set]
 refine ⟨_,rfl,_,rfl,T,L,rfl,⟨_,qT_ hT⟩,⟨_,qL_ hL⟩,?_⟩
 refine rS (K:=K) rfl (fun i σ' H' => ∃ v2 v3 : OV,σ' = [some (.ref T),some (.ref L),v2,v3] /\ Same H H') ⟨none,none,rfl,Same.refl _⟩ (fun i σ' H' _ ⟨_,_,_,e⟩ => ⟨qT_ (e _ _ hT),qL_ (e _ _ hL)⟩) ?_ ?_
 ·rintro i x y σ' H2 T2 hx hy ⟨v2,v3,rfl,s2⟩ hT2
  have exy : y = x:=Option.some.inj (hy.symm.trans hx)
  subst exy
  obtain ⟨z,rfl,hz⟩:=mQ hx
  have s3:=ah hT2 (HO.tup [V.str z,V.str z])
  refine ⟨T2,_,rfl,qT_ af,rfl,_,_,rfl,_,_,rfl,rfl,?_⟩
  try dsimp only [aG,aO,List.set]
  refine ⟨_,rfl,_,_,_,_,rfl,TyOf.str _,nH K,_,rfl,iP ?_⟩
  refine ⟨_,rfl,_,rfl,rfl,_,rfl,?_⟩
  rw [decide_eq_true rfl]
  refine iP ?_
  exact ⟨_,_,rfl,s2.trans s3⟩
 ·rintro σ' H2 ⟨v2,v3,rfl,s2⟩
  exact q H2 s2
theorem q8 (F : FunD K "_law_told" "_law_told" bZ dV f fd) (gn : DefOk P w K mg base "depth" 22 ["statement"] [] (qu 20)) (jf : DefOk P w K mg base "free" 22 ["statement"] [] (mK 20)) (gQ : DefOk P w K mg base "rows_of" 3 ["statement"] [] pK) (cJ : DefOk P w K mg base "_law_texts" 1 ["_law_found","_law_due"] [] mO) (bx : mg "isinstance" = none) (kO : mg "int" = none) (pU : mg "bool" = none) : FnOk P w K mg base CX0 23 f fd ["_law_item"] jE:=by
 refine F.ok sc__law_told (fun vs H Q E h => ?_) (fun cdv A outer s H vs Q E hr h => ?_)
 ·obtain ⟨a,ns,it,rfl,_⟩:=h
  rfl
 obtain ⟨a,ns,it,rfl,I,d20,l20,k⟩:=h
 refine ⟨_,(aA (az (i:=1) sc__law_told.nd rfl (Or.inl rfl) (aR gn hr (aa (aI aM (pv 0) ae (fun _ _ => rfl)) ag)))
   (aA (bV (PW.pt (qr (pD (mB (aE gu (by rfl) bx cA (aa (pv 1) (aa (ja (v:=.ty "int") rfl kO rD rfl) ag))))) (qr (mB (aE gu (by rfl) bx cA (aa (pv 1) (aa (ja (v:=.ty "bool") rfl pU tN rfl) ag)))) (pE (aB kG (pv 1) (aI aM (pv 0) ae (fun _ _ => rfl)) (aN _)))))) (aw (aX qp)) bh)
   (aw (aX (pA (aR cJ hr (aa (aR jf hr (aa (aI aM (pv 0) ae (fun _ _ => rfl)) ag)) (aa (aI aM (pv 0) ae (fun _ _ => rfl)) ag))) (sy (aR cJ hr (aa (aR gQ hr (aa (aI aM (pv 0) ae (fun _ _ => rfl)) ag)) (aa (aI aM (pv 0) ae (fun _ _ => rfl)) ag))))))))),?_⟩
 refine ⟨_,rfl,a,_,_,_,rfl,rfl,qL_ I.li,rfl,it.v,it.st,rfl,I.sv,I.wf,d20,fun H1 s1 => ?_⟩
 try dsimp only [aG,aO,List.set]
 have I1:=I.same s1
 refine ⟨_,rfl,_,_,_,_,rfl,TyOf.int _,iC K,_,rfl,iP ?_⟩
 refine ⟨_,rfl,_,_,_,_,rfl,TyOf.int _,gD K,_,rfl,iP ?_⟩
 refine ⟨_,rfl,_,rfl,a,_,_,_,rfl,rfl,qL_ I1.li,rfl,rfl,_,rfl,?_⟩
 rw [decide_eq_true rfl]
 refine iP ?_
 have fw:=I1.few
 have n4 : (nm4 ns).length <= 4:=by show 4 <= 4; decide
 have n3 : (rw3 ns).length <= 4:=by show 3 <= 4; decide
 refine ⟨_,rfl,a,_,_,_,rfl,rfl,qL_ I1.li,rfl,it.v,it.st,nm4 ns,rfl,I1.sv,I1.wf,d20,fun x hx => I1.ni x ((I1.nm.mem x).mpr hx),by omega,fun T zs H2 s2 hT isn => ?_⟩
 have I2:=I1.same s2
 have e1 : zs = it.names:=isn.uniq I2.nm
 subst e1
 refine ⟨_,rfl,a,_,_,_,rfl,rfl,qL_ I2.li,rfl,T,it.nl,_,rfl,hT,I2.hn,fun H3 s3 => ⟨_,rfl,oW ?_⟩⟩
 have I3:=I2.same s3
 refine ⟨_,rfl,a,_,_,_,rfl,rfl,qL_ I3.li,rfl,it.v,it.st,rw3 ns,rfl,I3.sv,I3.wf,l20,fun x hx => I3.ri x ((I3.rs.mem x).mpr hx),by omega,fun T zs H4 s4 hT4 isr => ?_⟩
 have I4:=I3.same s4
 have e2 : zs = it.rows:=isr.uniq I4.rs
 subst e2
 exact ⟨_,rfl,a,_,_,_,rfl,rfl,qL_ I4.li,rfl,T,it.rl,_,rfl,hT4,I4.hr,fun H5 s5 => k H5 (s1.trans (s2.trans (s3.trans (s4.trans s5))))⟩
theorem vf (F : FunD K "law" "law" gN dV f fd) (dD : DefOk P w K mg base "_law_built" 6 ["_law_script"] [] (mJ K)) (bG : DefOk P w K mg base "_law_plain" 4 ["_law_script","_law_at"] [] (jd K)) (cB : DefOk P w K mg base "_law_told" 23 ["_law_item"] [] jE) : FnOk P w K mg base CX0 24 f fd ["_law_script"] (qv K):=by
 refine F.ok sc_law (fun vs H Q E h => ?_) (fun cdv A outer s H vs Q E hr h => ?_)
 ·obtain ⟨a,ns,rfl,_⟩:=h
  rfl
 obtain ⟨a,ns,rfl,hS,h63,k⟩:=h
 refine ⟨_,(aA (az (i:=1) sc_law.nd rfl (Or.inl rfl) (aR dD hr (aa (pv 0) ag)))
   (aw (aX (pA (aR cB hr (aa (pv 1) ag)) (pA (aR cB hr (aa (aR bG hr (aa (pv 0) (aa ae ag))) ag)) (sy (aR cB hr (aa (pv 1) ag)))))))),?_⟩
 refine ⟨_,rfl,a,ns,rfl,hS,h63,fun l it H1 s1 I d20 l20 => ?_⟩
 try dsimp only [aG,aO,List.set]
 refine ⟨_,rfl,l,ns,it,rfl,I,d20,l20,fun H2 s2 => ⟨_,rfl,oW ?_⟩⟩
 have s12:=s1.trans s2
 refine ⟨_,rfl,a,0,ns,rfl,s12.seq hS,h63,⟨by decide,by decide⟩,fun l2 it2 H3 s3 I3 _ _ _ d3 b3 => ?_⟩
 refine ⟨l2,ns,it2,rfl,I3,by omega,by omega,fun H4 s4 => ⟨_,rfl,oW ?_⟩⟩
 exact ⟨_,rfl,l,ns,it,rfl,I.same (s2.trans (s3.trans s4)),d20,l20,fun H5 _ => k H5⟩
end
theorem vl {K : PySem.W.Frag} {a : Addr} {x y z : Str} {td : Option Addr} {tn : Nat} {tsl : Array (Option Value)} {t0 t1 t2 : Tok} (h : K.lookup a = some ⟨.type "tuple",td,.seq #[.str x t0,.str y t1,.str z t2] tn,tsl⟩) (H : Hp) : SqT K H a [.str x,.str y,.str z]:=
 .inr ⟨_,_,_,h,rfl,rfl,(by show 3 <= sizeLine; decide),.cons ⟨_,rfl⟩ (.cons ⟨_,rfl⟩ (.cons ⟨_,rfl⟩ .nil))⟩
theorem sQ {K : PySem.W.Frag} {a : Addr} {x y : Str} {td : Option Addr} {tn : Nat} {tsl : Array (Option Value)} {t0 t1 : Tok} (h : K.lookup a = some ⟨.type "tuple",td,.seq #[.str x t0,.str y t1] tn,tsl⟩) (H : Hp) : SqT K H a [.str x,.str y]:=
 .inr ⟨_,_,_,h,rfl,rfl,(by show 2 <= sizeLine; decide),.cons ⟨_,rfl⟩ (.cons ⟨_,rfl⟩ .nil)⟩
section
variable {P : Program} {w : World} {K : PySem.W.Frag} {mg : Str -> Option Value} {base : Heap} {f : Addr} {fd : FuncData} {dV : Value} {TC TJ TH : Addr}
theorem kA (F : FunD K "depth" "depth" di dV f fd) (m : mg "depth" = some (.ref f)) (kp : PySem.W.keepIn K (.ref f) = true) (b : Binds K fd ["statement"] []) (au : DefOk P w K mg base "statements_in" 1 ["statement"] [] gm) (dC : mg "max" = none) :
  ∀ d : Nat,FnOk P w K mg base CX0 (d + 2) f fd ["statement"] (qu d)
 | 0 => nZ F au ⟨f,fd,[],m,kp,.nil,b,⟨(fun vs H Q E ⟨v,st,_,_,_,h,_⟩ => absurd h (Nat.not_lt_zero _)),(fun A outer s H args us vs Q E hr he hb hv ⟨v,st,_,_,_,h,_⟩ => absurd h (Nat.not_lt_zero _))⟩⟩ dC
 | d + 1 => nZ F au ⟨f,fd,[],m,kp,.nil,b,(kA F m kp b au dC d).imp fun vs H Q E ⟨v,st,h1,h2,h3,h4,h5⟩ => ⟨v,st,h1,h2,h3,Nat.lt_succ_iff.mp h4,h5⟩⟩ dC
theorem ny (F : FunD K "free" "free" eB dV f fd) (m : mg "free" = some (.ref f)) (kp : PySem.W.keepIn K (.ref f) = true) (b : Binds K fd ["statement"] []) (bA : mg "CHOOSING" = some (.ref TH)) (sqH : ∀ H,SqT K H TH lQ) (au : DefOk P w K mg base "statements_in" 1 ["statement"] [] gm) (cq : DefOk P w K mg base "sums_in" 1 ["statement"] [] mN) (bC : mg "tuple" = none) (aS : mg "sorted" = none) (cj : mg "set" = none) :
  ∀ d : Nat,FnOk P w K mg base CX0 (d + 2) f fd ["statement"] (mK d)
 | 0 => qk F bA sqH au cq ⟨f,fd,[],m,kp,.nil,b,⟨(fun vs H Q E ⟨v,st,nm,_,_,_,h,_⟩ => absurd h (Nat.not_lt_zero _)),(fun A outer s H args us vs Q E hr he hb hv ⟨v,st,nm,_,_,_,h,_⟩ => absurd h (Nat.not_lt_zero _))⟩⟩ bC aS cj
 | d + 1 => qk F bA sqH au cq ⟨f,fd,[],m,kp,.nil,b,(ny F m kp b bA sqH au cq bC aS cj d).imp fun vs H Q E ⟨v,st,nm,h1,h2,h3,h4,h5⟩ => ⟨v,st,nm,h1,h2,h3,Nat.lt_succ_iff.mp h4,h5⟩⟩ bC aS cj
end
@[elab_as_elim] theorem ju {motive : List Value -> Prop} {us : List Value} (hl : us.length = 1) (h : ∀ a0,motive [a0]) : motive us:=match us,hl with | [a0],_ => h _
@[elab_as_elim] theorem o6 {motive : List Value -> Prop} {us : List Value} (hl : us.length = 2) (h : ∀ a0 a1,motive [a0,a1]) : motive us:=match us,hl with | [a0,a1],_ => h _ _
@[elab_as_elim] theorem vB {motive : List Value -> Prop} {us : List Value} (hl : us.length = 3) (h : ∀ a0 a1 a2,motive [a0,a1,a2]) : motive us:=match us,hl with | [a0,a1,a2],_ => h _ _ _
@[elab_as_elim] theorem wC {motive : List Value -> Prop} {us : List Value} (hl : us.length = 4) (h : ∀ a0 a1 a2 a3,motive [a0,a1,a2,a3]) : motive us:=match us,hl with | [a0,a1,a2,a3],_ => h _ _ _ _
@[elab_as_elim] theorem wD {motive : List Value -> Prop} {us : List Value} (hl : us.length = 5) (h : ∀ a0 a1 a2 a3 a4,motive [a0,a1,a2,a3,a4]) : motive us:=match us,hl with | [a0,a1,a2,a3,a4],_ => h _ _ _ _ _
@[elab_as_elim] theorem wF {motive : List Value -> Prop} {us : List Value} (hl : us.length = 6) (h : ∀ a0 a1 a2 a3 a4 a5,motive [a0,a1,a2,a3,a4,a5]) : motive us:=match us,hl with | [a0,a1,a2,a3,a4,a5],_ => h _ _ _ _ _ _
@[elab_as_elim] theorem wG {motive : List Value -> Prop} {us : List Value} (hl : us.length = 7) (h : ∀ a0 a1 a2 a3 a4 a5 a6,motive [a0,a1,a2,a3,a4,a5,a6]) : motive us:=match us,hl with | [a0,a1,a2,a3,a4,a5,a6],_ => h _ _ _ _ _ _ _
theorem all_mk {l : PySem.W.OpenLaw} {w : World} {K : PySem.W.Frag} {h : Heap} {mg : Str -> Option Value} {fa : Addr} (X : K.In h) (G : h.Ns mainGlobals mg) (hfa : mg "law" = some (.ref fa))
  {lG oU cG g0 cZ fb gZ eZ e9 e7 f9 gb d4 cY gc dZ dY d6 e8 rO : Addr} {sh rB uc tJ ie gT pk oy i5 iI me kW ph ox l8 kR md kU l9 kS nW m6 nX m7 j7 jK i4 iH nY m9 j6 jJ j5 jI j8 jL ma kT ve rC : Option Addr} {sN uz iu pH i9 mI pG mE mH mF oj om kh i8 oo kg ke ki mG vk : Array (Option Value)} {sf rW rK sA nc rH ub tX tQ uv pZ tP ic hG gY ip du gX pf oZ oM pC jk oH iZ iR iM i7 eE iK l7 lO lD my gB lj pe oY oK pB jj oG lY lJ lq mq gx k8 l6 lN lC mx gA lh lZ lK lA mv gy k9 nR nD nr n6 iy nj nU nF nu n8 iz nk j3 jW jS kb fK jO iY iQ iL i6 eD iJ nV nG nv n9 iA nq j2 jV jR ka fJ jN jZ jU jQ j9 fI jM j4 jX jT kd fM jP l5 lM lB mw gz lg vd rX rL sC oE rJ : Value}
  (kQ : PySem.W.nsIn K mainGlobals "depth" = some (some (.ref lG))) (lR : K.lookup lG = some ⟨sf,sh,.func (PySem.W.fnOf "depth" "depth" (aL di) (aK di) (aj di) .none rW rK sA rB nc rH),sN⟩) (k6 : PySem.W.codeIn K nc "depth" = true) (gC : PySem.W.keepIn K (.ref lG) = true)
  (ow : PySem.W.nsIn K mainGlobals "free" = some (some (.ref oU))) (o3 : K.lookup oU = some ⟨ub,uc,.func (PySem.W.fnOf "free" "free" (aL eB) (aK eB) (aj eB) .none tX tQ uv tJ pZ tP),uz⟩) (oC : PySem.W.codeIn K pZ "free" = true) (js : PySem.W.keepIn K (.ref oU) = true)
  (cD : PySem.W.nsIn K mainGlobals "statements_in" = some (some (.ref cG))) (cH : K.lookup cG = some ⟨ic,ie,.func (PySem.W.fnOf "statements_in" "statements_in" (aL bq) (aK bq) (aj bq) .none hG gY ip gT du gX),iu⟩) (cF : PySem.W.codeIn K du "statements_in" = true) (bQ : PySem.W.keepIn K (.ref cG) = true)
  (gS : PySem.W.nsIn K mainGlobals "sums_in" = some (some (.ref g0))) (hU : K.lookup g0 = some ⟨pf,pk,.func (PySem.W.fnOf "sums_in" "sums_in" (aL cQ) (aK cQ) (aj cQ) .none oZ oM pC oy jk oH),pH⟩) (gW : PySem.W.codeIn K jk "sums_in" = true) (fF : PySem.W.keepIn K (.ref g0) = true)
  (cV : PySem.W.nsIn K mainGlobals "row_names_in" = some (some (.ref cZ))) (c6 : K.lookup cZ = some ⟨iZ,i5,.func (PySem.W.fnOf "row_names_in" "row_names_in" (aL bF) (aK bF) (aj bF) .none iR iM i7 iI eE iK),i9⟩) (cX : PySem.W.codeIn K eE "row_names_in" = true) (cc : PySem.W.keepIn K (.ref cZ) = true)
  (eP : PySem.W.nsIn K mainGlobals "pieces_of" = some (some (.ref fb))) (fq : K.lookup fb = some ⟨l7,me,.func (PySem.W.fnOf "pieces_of" "pieces_of" (aL b6) (aK b6) (aj b6) .none lO lD my kW gB lj),mI⟩) (eW : PySem.W.codeIn K gB "pieces_of" = true) (dg : PySem.W.keepIn K (.ref fb) = true)
  (gR : PySem.W.nsIn K mainGlobals "rows_of" = some (some (.ref gZ))) (hJ : K.lookup gZ = some ⟨pe,ph,.func (PySem.W.fnOf "rows_of" "rows_of" (aL cP) (aK cP) (aj cP) .none oY oK pB ox jj oG),pG⟩) (gU : PySem.W.codeIn K jj "rows_of" = true) (fE : PySem.W.keepIn K (.ref gZ) = true)
  (eJ : PySem.W.nsIn K mainGlobals "_law_draw" = some (some (.ref eZ))) (fh : K.lookup eZ = some ⟨lY,l8,.func (PySem.W.fnOf "_law_draw" "_law_draw" (aL bW) (aK bW) (aj bW) .none lJ lq mq kR gx k8),mE⟩) (eR : PySem.W.codeIn K gx "_law_draw" = true) (c8 : PySem.W.keepIn K (.ref eZ) = true)
  (eO : PySem.W.nsIn K mainGlobals "_law_word" = some (some (.ref e9))) (fm : K.lookup e9 = some ⟨l6,md,.func (PySem.W.fnOf "_law_word" "_law_word" (aL b4) (aK b4) (aj b4) .none lN lC mx kU gA lh),mH⟩) (eV : PySem.W.codeIn K gA "_law_word" = true) (df : PySem.W.keepIn K (.ref e9) = true)
  (eK : PySem.W.nsIn K mainGlobals "_law_name" = some (some (.ref e7))) (fj : K.lookup e7 = some ⟨lZ,l9,.func (PySem.W.fnOf "_law_name" "_law_name" (aL bX) (aK bX) (aj bX) .none lK lA mv kS gy k9),mF⟩) (eS : PySem.W.codeIn K gy "_law_name" = true) (c9 : PySem.W.keepIn K (.ref e7) = true)
  (fQ : PySem.W.nsIn K mainGlobals "_law_row" = some (some (.ref f9))) (gd : K.lookup f9 = some ⟨nR,nW,.func (PySem.W.fnOf "_law_row" "_law_row" (aL cw) (aK cw) (aj cw) .none nD nr n6 m6 iy nj),oj⟩) (fV : PySem.W.codeIn K iy "_law_row" = true) (d8 : PySem.W.keepIn K (.ref f9) = true)
  (fR : PySem.W.nsIn K mainGlobals "_law_sum" = some (some (.ref gb))) (gf : K.lookup gb = some ⟨nU,nX,.func (PySem.W.fnOf "_law_sum" "_law_sum" (aL cx) (aK cx) (aj cx) .none nF nu n8 m7 iz nk),om⟩) (fW : PySem.W.codeIn K iz "_law_sum" = true) (d9 : PySem.W.keepIn K (.ref gb) = true)
  (dJ : PySem.W.nsIn K mainGlobals "_law_plain" = some (some (.ref d4))) (eu : K.lookup d4 = some ⟨j3,j7,.func (PySem.W.fnOf "_law_plain" "_law_plain" (aL bN) (aK bN) (aj bN) .none jW jS kb jK fK jO),kh⟩) (dR : PySem.W.codeIn K fK "_law_plain" = true) (cN : PySem.W.keepIn K (.ref d4) = true)
  (cU : PySem.W.nsIn K mainGlobals "_law_wrapped" = some (some (.ref cY))) (c5 : K.lookup cY = some ⟨iY,i4,.func (PySem.W.fnOf "_law_wrapped" "_law_wrapped" (aL bg) (aK bg) (aj bg) .none iQ iL i6 iH eD iJ),i8⟩) (cW : PySem.W.codeIn K eD "_law_wrapped" = true) (cb : PySem.W.keepIn K (.ref cY) = true)
  (fS : PySem.W.nsIn K mainGlobals "_law_two" = some (some (.ref gc))) (gh : K.lookup gc = some ⟨nV,nY,.func (PySem.W.fnOf "_law_two" "_law_two" (aL cy) (aK cy) (aj cy) .none nG nv n9 m9 iA nq),oo⟩) (fX : PySem.W.codeIn K iA "_law_two" = true) (ee : PySem.W.keepIn K (.ref gc) = true)
  (dI : PySem.W.nsIn K mainGlobals "_law_items" = some (some (.ref dZ))) (el : K.lookup dZ = some ⟨j2,j6,.func (PySem.W.fnOf "_law_items" "_law_items" (aL bw) (aK bw) (aj bw) .none jV jR ka jJ fJ jN),kg⟩) (dQ : PySem.W.codeIn K fJ "_law_items" = true) (cM : PySem.W.keepIn K (.ref dZ) = true)
  (dH : PySem.W.nsIn K mainGlobals "_law_built" = some (some (.ref dY))) (eh : K.lookup dY = some ⟨jZ,j5,.func (PySem.W.fnOf "_law_built" "_law_built" (aL bM) (aK bM) (aj bM) .none jU jQ j9 jI fI jM),ke⟩) (dP : PySem.W.codeIn K fI "_law_built" = true) (cL : PySem.W.keepIn K (.ref dY) = true)
  (dM : PySem.W.nsIn K mainGlobals "_law_texts" = some (some (.ref d6))) (ez : K.lookup d6 = some ⟨j4,j8,.func (PySem.W.fnOf "_law_texts" "_law_texts" (aL bO) (aK bO) (aj bO) .none jX jT kd jL fM jP),ki⟩) (dS : PySem.W.codeIn K fM "_law_texts" = true) (cO : PySem.W.keepIn K (.ref d6) = true)
  (eN : PySem.W.nsIn K mainGlobals "_law_told" = some (some (.ref e8))) (fk : K.lookup e8 = some ⟨l5,ma,.func (PySem.W.fnOf "_law_told" "_law_told" (aL bZ) (aK bZ) (aj bZ) .none lM lB mw kT gz lg),mG⟩) (eU : PySem.W.codeIn K gz "_law_told" = true) (de : PySem.W.keepIn K (.ref e8) = true)
  (pX : PySem.W.nsIn K mainGlobals "law" = some (some (.ref rO))) (r6 : K.lookup rO = some ⟨vd,ve,.func (PySem.W.fnOf "law" "law" (aL gN) (aK gN) (aj gN) .none rX rL sC rC oE rJ),vk⟩) (rE : PySem.W.codeIn K oE "law" = true) (rY : PySem.W.keepIn K (.ref rO) = true)
  (tj : PySem.W.nsIn K mainGlobals "len" = some none)
  (mW : PySem.W.nsIn K mainGlobals "range" = some none)
  (mY : PySem.W.nsIn K mainGlobals "tuple" = some none)
  (pT : PySem.W.nsIn K mainGlobals "list" = some none)
  (eC : PySem.W.nsIn K mainGlobals "isinstance" = some none)
  (ti : PySem.W.nsIn K mainGlobals "int" = some none)
  (y_bool : PySem.W.nsIn K mainGlobals "bool" = some none)
  (tu : PySem.W.nsIn K mainGlobals "str" = some none)
  (jH : PySem.W.nsIn K mainGlobals "sorted" = some none)
  (tq : PySem.W.nsIn K mainGlobals "set" = some none)
  (tm : PySem.W.nsIn K mainGlobals "max" = some none)
  (tp : PySem.W.nsIn K mainGlobals "min" = some none)
  (tw : PySem.W.nsIn K mainGlobals "sum" = some none)
  (tD : PySem.W.nsIn K mainGlobals "zip" = some none)
  {iw : Addr} (dW : PySem.W.nsIn K mainGlobals "COMPARING" = some (some (.ref iw)))
  {ko : Addr} (fY : PySem.W.nsIn K mainGlobals "JOINING" = some (some (.ref ko)))
  {je : Addr} (eX : PySem.W.nsIn K mainGlobals "CHOOSING" = some (some (.ref je)))
  {td_COMPARING : Option Addr} {tn_COMPARING : Nat} {tsl_COMPARING : Array (Option Value)} {tk0_COMPARING tk1_COMPARING tk2_COMPARING : Tok} (tp_COMPARING : K.lookup iw = some ⟨.type "tuple",td_COMPARING,.seq #[.str "=" tk0_COMPARING,.str "<=" tk1_COMPARING,.str "<" tk2_COMPARING] tn_COMPARING,tsl_COMPARING⟩)
  {td_JOINING : Option Addr} {tn_JOINING : Nat} {tsl_JOINING : Array (Option Value)} {tk0_JOINING tk1_JOINING : Tok} (tp_JOINING : K.lookup ko = some ⟨.type "tuple",td_JOINING,.seq #[.str "and" tk0_JOINING,.str "or" tk1_JOINING] tn_JOINING,tsl_JOINING⟩)
  {td_CHOOSING : Option Addr} {tn_CHOOSING : Nat} {tsl_CHOOSING : Array (Option Value)} {tk0_CHOOSING tk1_CHOOSING : Tok} (tp_CHOOSING : K.lookup je = some ⟨.type "tuple",td_CHOOSING,.seq #[.str "some" tk0_CHOOSING,.str "all" tk1_CHOOSING] tn_CHOOSING,tsl_CHOOSING⟩) :
  ∃ fd : FuncData,(∀ (s : Shared) (v : Value),BindsTo s fd ⟨[v],[]⟩ [("_law_script",v)]) /\ ∀ base : Heap,K.In base -> base.Ns mainGlobals mg -> FnOk l.prog w K mg base CX0 24 fa fd ["_law_script"] (qv K):=by
 have e:=hfa.symm.trans (PySem.W.mg_of X G pX)
 cases e
 have F_depth:=a9 (st:=di) lR k6 gC
 have b_depth:=F_depth.binds (ps:=["statement"]) fun _ _ _ _ _ _ us hl => ju hl fun _ => rfl
 have qf:=PySem.W.mg_of X G kQ
 have F_free:=a9 (st:=eB) o3 oC js
 have b_free:=F_free.binds (ps:=["statement"]) fun _ _ _ _ _ _ us hl => ju hl fun _ => rfl
 have r9:=PySem.W.mg_of X G ow
 have F_statements_in:=a9 (st:=bq) cH cF bQ
 have b_statements_in:=F_statements_in.binds (ps:=["statement"]) fun _ _ _ _ _ _ us hl => ju hl fun _ => rfl
 have iV:=PySem.W.mg_of X G cD
 have F_sums_in:=a9 (st:=cQ) hU gW fF
 have b_sums_in:=F_sums_in.binds (ps:=["statement"]) fun _ _ _ _ _ _ us hl => ju hl fun _ => rfl
 have qV:=PySem.W.mg_of X G gS
 have F_row_names_in:=a9 (st:=bF) c6 cX cc
 have b_row_names_in:=F_row_names_in.binds (ps:=["statement"]) fun _ _ _ _ _ _ us hl => ju hl fun _ => rfl
 have jw:=PySem.W.mg_of X G cV
 have F_pieces_of:=a9 (st:=b6) fq eW dg
 have b_pieces_of:=F_pieces_of.binds (ps:=["statement"]) fun _ _ _ _ _ _ us hl => ju hl fun _ => rfl
 have nO:=PySem.W.mg_of X G eP
 have F_rows_of:=a9 (st:=cP) hJ gU fE
 have b_rows_of:=F_rows_of.binds (ps:=["statement"]) fun _ _ _ _ _ _ us hl => ju hl fun _ => rfl
 have qU:=PySem.W.mg_of X G gR
 have F__law_draw:=a9 (st:=bW) fh eR c8
 have b__law_draw:=F__law_draw.binds (ps:=["_law_script","_law_k"]) fun _ _ _ _ _ _ us hl => o6 hl fun _ _ => rfl
 have nK:=PySem.W.mg_of X G eJ
 have F__law_word:=a9 (st:=b4) fm eV df
 have b__law_word:=F__law_word.binds (ps:=["_law_number","_law_letters"]) fun _ _ _ _ _ _ us hl => o6 hl fun _ _ => rfl
 have nN:=PySem.W.mg_of X G eO
 have F__law_name:=a9 (st:=bX) fj eS c9
 have b__law_name:=F__law_name.binds (ps:=["_law_script","_law_number"]) fun _ _ _ _ _ _ us hl => o6 hl fun _ _ => rfl
 have nL:=PySem.W.mg_of X G eK
 have F__law_row:=a9 (st:=cw) gd fV d8
 have b__law_row:=F__law_row.binds (ps:=["_law_script","_law_number"]) fun _ _ _ _ _ _ us hl => o6 hl fun _ _ => rfl
 have o8:=PySem.W.mg_of X G fQ
 have F__law_sum:=a9 (st:=cx) gf fW d9
 have b__law_sum:=F__law_sum.binds (ps:=["_law_script","_law_at"]) fun _ _ _ _ _ _ us hl => o6 hl fun _ _ => rfl
 have o9:=PySem.W.mg_of X G fR
 have F__law_plain:=a9 (st:=bN) eu dR cN
 have b__law_plain:=F__law_plain.binds (ps:=["_law_script","_law_at"]) fun _ _ _ _ _ _ us hl => o6 hl fun _ _ => rfl
 have lV:=PySem.W.mg_of X G dJ
 have F__law_wrapped:=a9 (st:=bg) c5 cW cb
 have b__law_wrapped:=F__law_wrapped.binds (ps:=["_law_script","_law_item","_law_number"]) fun _ _ _ _ _ _ us hl => vB hl fun _ _ _ => rfl
 have jv:=PySem.W.mg_of X G cU
 have F__law_two:=a9 (st:=cy) gh fX ee
 have b__law_two:=F__law_two.binds (ps:=["_law_one","_law_other","_law_number"]) fun _ _ _ _ _ _ us hl => vB hl fun _ _ _ => rfl
 have pd:=PySem.W.mg_of X G fS
 have F__law_items:=a9 (st:=bw) el dQ cM
 have b__law_items:=F__law_items.binds (ps:=["_law_script"]) fun _ _ _ _ _ _ us hl => ju hl fun _ => rfl
 have lU:=PySem.W.mg_of X G dI
 have F__law_built:=a9 (st:=bM) eh dP cL
 have b__law_built:=F__law_built.binds (ps:=["_law_script"]) fun _ _ _ _ _ _ us hl => ju hl fun _ => rfl
 have lS:=PySem.W.mg_of X G dH
 have F__law_texts:=a9 (st:=bO) ez dS cO
 have b__law_texts:=F__law_texts.binds (ps:=["_law_found","_law_due"]) fun _ _ _ _ _ _ us hl => o6 hl fun _ _ => rfl
 have lW:=PySem.W.mg_of X G dM
 have F__law_told:=a9 (st:=bZ) fk eU de
 have b__law_told:=F__law_told.binds (ps:=["_law_item"]) fun _ _ _ _ _ _ us hl => ju hl fun _ => rfl
 have nM:=PySem.W.mg_of X G eN
 have F_law:=a9 (st:=gN) r6 rE rY
 have b_law:=F_law.binds (ps:=["_law_script"]) fun _ _ _ _ _ _ us hl => ju hl fun _ => rfl
 have wB:=PySem.W.mg_of X G pX
 have b9:=PySem.W.mg_none_of X G tj
 have fH:=PySem.W.mg_none_of X G mW
 have bC:=PySem.W.mg_none_of X G mY
 have wz:=PySem.W.mg_none_of X G pT
 have bx:=PySem.W.mg_none_of X G eC
 have kO:=PySem.W.mg_none_of X G ti
 have pU:=PySem.W.mg_none_of X G y_bool
 have fO:=PySem.W.mg_none_of X G tu
 have aS:=PySem.W.mg_none_of X G jH
 have cj:=PySem.W.mg_none_of X G tq
 have dC:=PySem.W.mg_none_of X G tm
 have tE:=PySem.W.mg_none_of X G tp
 have tF:=PySem.W.mg_none_of X G tw
 have tG:=PySem.W.mg_none_of X G tD
 have fg:=PySem.W.mg_of X G dW
 have g9:=PySem.W.mg_of X G fY
 have bA:=PySem.W.mg_of X G eX
 refine ⟨PySem.W.fnOf "law" "law" (aL gN) (aK gN) (aj gN) .none rX rL sC rC oE rJ,fun s v => .of_eq rfl,fun base _ _ => ?_⟩
 have SQC:=(vl tp_COMPARING)
 have SQJ:=(sQ tp_JOINING)
 have SQH:=(sQ tp_CHOOSING)
 have au : DefOk l.prog w K mg base "statements_in" 1 ["statement"] [] (gm):=⟨_,_,[],iV,bQ,.nil,b_statements_in,ui F_statements_in g9 bA SQJ SQH⟩
 have cq : DefOk l.prog w K mg base "sums_in" 1 ["statement"] [] (mN):=⟨_,_,[],qV,fF,.nil,b_sums_in,uj F_sums_in fg SQC⟩
 have cS : DefOk l.prog w K mg base "row_names_in" 1 ["statement"] [] (jD):=⟨_,_,[],jw,cc,.nil,b_row_names_in,q0 F_row_names_in ⟩
 have eI : DefOk l.prog w K mg base "pieces_of" 2 ["statement"] [] (jC):=⟨_,_,[],nO,dg,.nil,b_pieces_of,qZ F_pieces_of au⟩
 have gQ : DefOk l.prog w K mg base "rows_of" 3 ["statement"] [] (pK):=⟨_,_,[],qU,fE,.nil,b_rows_of,uh F_rows_of eI cS bC aS cj⟩
 have GDE:=(kA F_depth qf gC b_depth au dC 20)
 have gn:=(show DefOk l.prog w K mg base "depth" 22 ["statement"] [] (qu 20) from ⟨_,_,[],qf,gC,.nil,b_depth,GDE⟩)
 have GFR:=(ny F_free r9 js b_free bA SQH au cq bC aS cj 20)
 have jf:=(show DefOk l.prog w K mg base "free" 22 ["statement"] [] (mK 20) from ⟨_,_,[],r9,js,.nil,b_free,GFR⟩)
 have aC : DefOk l.prog w K mg base "_law_draw" 1 ["_law_script","_law_k"] [] (dn K):=⟨_,_,[],nK,c8,.nil,b__law_draw,sj F__law_draw b9⟩
 have bU : DefOk l.prog w K mg base "_law_word" 1 ["_law_number","_law_letters"] [] (mP):=⟨_,_,[],nN,df,.nil,b__law_word,uk F__law_word ⟩
 have bT : DefOk l.prog w K mg base "_law_name" 2 ["_law_script","_law_number"] [] (mM K):=⟨_,_,[],nL,c9,.nil,b__law_name,uf F__law_name aC bU⟩
 have dF : DefOk l.prog w K mg base "_law_row" 2 ["_law_script","_law_number"] [] (pJ K):=⟨_,_,[],o8,d8,.nil,b__law_row,ug F__law_row aC bU⟩
 have dG : DefOk l.prog w K mg base "_law_sum" 3 ["_law_script","_law_at"] [] (pI K):=⟨_,_,[],o9,d9,.nil,b__law_sum,ue F__law_sum aC bT fH fO kO bC⟩
 have bG : DefOk l.prog w K mg base "_law_plain" 4 ["_law_script","_law_at"] [] (jd K):=⟨_,_,[],lV,cN,.nil,b__law_plain,sq F__law_plain aC dG dF fO aS cj⟩
 have cR : DefOk l.prog w K mg base "_law_wrapped" 3 ["_law_script","_law_item","_law_number"] [] (pM K):=⟨_,_,[],jv,cb,.nil,b__law_wrapped,um F__law_wrapped bT⟩
 have cn : DefOk l.prog w K mg base "_law_two" 1 ["_law_one","_law_other","_law_number"] [] (qw):=⟨_,_,[],pd,ee,.nil,b__law_two,vg F__law_two dC aS cj⟩
 have dE : DefOk l.prog w K mg base "_law_items" 5 ["_law_script"] [] (mL K):=⟨_,_,[],lU,cM,.nil,b__law_items,sk F__law_items aC bG cn cR b9 tE dC tF fH⟩
 have dD : DefOk l.prog w K mg base "_law_built" 6 ["_law_script"] [] (mJ K):=⟨_,_,[],lS,cL,.nil,b__law_built,si F__law_built aC dE cn b9⟩
 have cJ : DefOk l.prog w K mg base "_law_texts" 1 ["_law_found","_law_due"] [] (mO):=⟨_,_,[],lW,cO,.nil,b__law_texts,sr F__law_texts bx bC b9 tG fO⟩
 have cB : DefOk l.prog w K mg base "_law_told" 23 ["_law_item"] [] (jE):=⟨_,_,[],nM,de,.nil,b__law_told,q8 F__law_told gn jf gQ cJ bx kO pU⟩
 exact vf F_law dD bG cB
theorem walk {l : PySem.W.OpenLaw} {q : Program} {loose : List Str} {XP : (Str -> Option Value) -> Heap -> Prop} {YP : World -> Heap -> Prop} {d : DefRec} {K : Params -> PySem.W.Frag} (hn : l.most = some 63) (hdf : d.params.defaults = [])
  (hY : ∀ (w : World) (h : Heap),YP w h -> (K w.params).In h)
  (F : ∀ (w : World) (mg : Str -> Option Value) (fa : Addr) (h : Heap),(K w.params).In h -> h.Ns mainGlobals mg -> mg d.name = some (.ref fa) ->
   ∃ fd : FuncData,(∀ (s : Shared) (u : Value),BindsTo s fd ⟨[u],[]⟩ [("_law_script",u)]) /\ ∀ base : Heap,(K w.params).In base -> base.Ns mainGlobals mg -> FnOk l.prog w (K w.params) mg base CX0 24 fa fd ["_law_script"] (qv (K w.params))) :
  PySem.W.WalkO q loose XP YP l.row.toRowW d [] (fun f vs => PySem.call f vs):=
 L2.walk_of (n:=63) (k:=24) (x := "_law_script") (CX:=fun _ => CX0) (sp:=fun w => qv (K w.params)) hn (by decide) hdf ⟨rfl,by decide,by decide⟩ hY F (fun _ _ a ns hl _ hS => ⟨a,ns,rfl,hS,hl,fun _ => rfl⟩) fun _ _ _ _ _ z => z
end My
open PySem PySem.W PyProof.Rows
set_option maxRecDepth 100000 in
set_option maxHeartbeats 0 in
theorem PySem.Challenge.cw_figuretell_k51_free_and_depth_holds : PySem.Challenge.rw_figuretell_k51_free_and_depth.Holds := by
 w_on; o_law; k_head; (case hw => w_witness2)
 k_fill
 refine My.walk (l:=PySem.Challenge.rw_figuretell_k51_free_and_depth) rfl rfl (fun w h Y => PySem.W.kIn_of Y) ?F
 case F =>
  intro w mg fa h KX G hmg
  refine' My.all_mk KX G hmg ?kQ ?lR ?k6 ?gC ?ow ?o3 ?oC ?js ?cD ?cH ?cF ?bQ ?gS ?hU ?gW ?fF ?cV ?c6 ?cX ?cc ?eP ?fq ?eW ?dg ?gR ?hJ ?gU ?fE ?eJ ?fh ?eR ?c8 ?eO ?fm ?eV ?df ?eK ?fj ?eS ?c9 ?fQ ?gd ?fV ?d8 ?fR ?gf ?fW ?d9 ?dJ ?eu ?dR ?cN ?cU ?c5 ?cW ?cb ?fS ?gh ?fX ?ee ?dI ?el ?dQ ?cM ?dH ?eh ?dP ?cL ?dM ?ez ?dS ?cO ?eN ?fk ?eU ?de ?pX ?r6 ?rE ?rY ?tj ?mW ?mY ?pT ?eC ?ti ?y_bool ?tu ?jH ?tq ?tm ?tp ?tw ?tD ?dW ?fY ?eX ?tp_COMPARING ?tp_JOINING ?tp_CHOOSING
  (case kQ => k_is); (case lR => k_is); (case k6 => k_is); (case gC => k_is)
  (case ow => k_is); (case o3 => k_is); (case oC => k_is); (case js => k_is)
  (case cD => k_is); (case cH => k_is); (case cF => k_is); (case bQ => k_is)
  (case gS => k_is); (case hU => k_is); (case gW => k_is); (case fF => k_is)
  (case cV => k_is); (case c6 => k_is); (case cX => k_is); (case cc => k_is)
  (case eP => k_is); (case fq => k_is); (case eW => k_is); (case dg => k_is)
  (case gR => k_is); (case hJ => k_is); (case gU => k_is); (case fE => k_is)
  (case eJ => k_is); (case fh => k_is); (case eR => k_is); (case c8 => k_is)
  (case eO => k_is); (case fm => k_is); (case eV => k_is); (case df => k_is)
  (case eK => k_is); (case fj => k_is); (case eS => k_is); (case c9 => k_is)
  (case fQ => k_is); (case gd => k_is); (case fV => k_is); (case d8 => k_is)
  (case fR => k_is); (case gf => k_is); (case fW => k_is); (case d9 => k_is)
  (case dJ => k_is); (case eu => k_is); (case dR => k_is); (case cN => k_is)
  (case cU => k_is); (case c5 => k_is); (case cW => k_is); (case cb => k_is)
  (case fS => k_is); (case gh => k_is); (case fX => k_is); (case ee => k_is)
  (case dI => k_is); (case el => k_is); (case dQ => k_is); (case cM => k_is)
  (case dH => k_is); (case eh => k_is); (case dP => k_is); (case cL => k_is)
  (case dM => k_is); (case ez => k_is); (case dS => k_is); (case cO => k_is)
  (case eN => k_is); (case fk => k_is); (case eU => k_is); (case de => k_is)
  (case pX => k_is); (case r6 => k_is); (case rE => k_is); (case rY => k_is)
  (case tj => k_is); (case mW => k_is); (case mY => k_is); (case pT => k_is); (case eC => k_is); (case ti => k_is); (case y_bool => k_is); (case tu => k_is); (case jH => k_is); (case tq => k_is); (case tm => k_is); (case tp => k_is); (case tw => k_is); (case tD => k_is)
  (case dW => k_is)
  (case fY => k_is)
  (case eX => k_is)
  (case tp_COMPARING => k_is)
  (case tp_JOINING => k_is)
  (case tp_CHOOSING => k_is)
