import PyProof.Rows.All
import Wide.All
import OpenK.AllK
import Wide.FinOn
import Lean
import PyProof.EqAt
import PyProof.EqKinds
import PyProof.TupleCall
import PyProof.NeKinds
import PyProof.ExcBaseAll.ValueError
import PyProof.ExcClass3
import OpenK.KOwn
import PyProof.Rows.FStr
import KE.KTryMore
import PyProof.ExcAttrAll.ValueError
import KE.KDictList
import PyProof.CompMap
import PyProof.Draws
import PyProof.ListRange
import PyProof.ZipIter
import PyProof.EnumMake
import PyProof.CollectIter
import PyProof.SetRoads
import PyProof.Rows.SortShell
import PyProof.Rows.SortWalk
import PyProof.ExcInit
import PyProof.InstStoreFacts
import PyProof.MinMaxWalk
import PyProof.Rows.StrJoin2
import PyProof.StrBlock2
import PyProof.Rows.SortStr
import PySem.Challenge.RW_figuretell_k52_shown
set_option Elab.async false
set_option linter.all false
set_option maxRecDepth 100000
namespace L2
open PySem PySem.Spec PyProof.Rows
abbrev Key:=Sum Int Str
def qk : Key -> Value -> Bool
 | .inl k,v => Value.isInt k v
 | .inr x,v => Value.isStrOf x v
def rT (w : World) : Key -> Int
 | .inl k => hashInt k
 | .inr x => hashStr w x
theorem bb : ∀ {k : Key} {v : Value},qk k v = true -> (∃ i t,k = Sum.inl i /\ v = Value.int i t) \/ (∃ x t,k = Sum.inr x /\ v = Value.str x t)
 | .inl i,v,h => by
  obtain ⟨t,e⟩:=Value.isInt_shape (k:=i) (v:=v) h
  exact .inl ⟨i,t,rfl,e⟩
 | .inr x,v,h => by
  obtain ⟨t,e⟩:=Value.isStrOf_shape (x:=x) (v:=v) h
  exact .inr ⟨x,t,rfl,e⟩
theorem qB (a b : Int) : decide ((Sum.inl a : Key) = Sum.inl b) = (a == b):=by
 by_cases e : a = b
 ·subst e; simp
 ·have h : ¬ (Sum.inl a : Key) = Sum.inl b:=fun q => e (Sum.inl.inj q)
  rw [decide_eq_false h]
  exact (beq_eq_false_iff_ne.mpr e).symm
theorem qE (a b : Str) : decide ((Sum.inr a : Key) = Sum.inr b) = decide (a = b):=by
 by_cases e : a = b
 ·subst e; simp
 ·have h : ¬ (Sum.inr a : Key) = Sum.inr b:=fun q => e (Sum.inr.inj q)
  rw [decide_eq_false h,decide_eq_false e]
theorem qC (a : Int) (b : Str) : decide ((Sum.inl a : Key) = Sum.inr b) = false:=decide_eq_false (fun q => nomatch q)
theorem qD (a : Str) (b : Int) : decide ((Sum.inr a : Key) = Sum.inl b) = false:=decide_eq_false (fun q => nomatch q)
def ng (prog : Program) (w : World) : PySem.KeyKind prog w Key where
 is:=qk
 hash:=rT w
 inj:=fun v a b ha hb => by
  rcases bb ha with ⟨i,t,rfl,rfl⟩ | ⟨x,t,rfl,rfl⟩
  ·rcases bb hb with ⟨j,u,rfl,e⟩ | ⟨y,u,rfl,e⟩
   ·injection e with e1 _; rw [e1]
   ·exact nomatch e
  ·rcases bb hb with ⟨j,u,rfl,e⟩ | ⟨y,u,rfl,e⟩
   ·exact nomatch e
   ·injection e with e1 _; rw [e1]
 byValue:=fun k v h => by
  rcases bb h with ⟨i,t,rfl,rfl⟩ | ⟨x,t,rfl,rfl⟩ <;> rfl
 pyHash:=fun hv h => by
  rcases bb hv with ⟨i,t,rfl,rfl⟩ | ⟨x,t,rfl,rfl⟩
  ·exact wpAny_pyHash_int h
  ·exact wpAny_pyHash_str h
 eqBool:=fun hu hv h => by
  rcases bb hu with ⟨i,t,rfl,rfl⟩ | ⟨x,t,rfl,rfl⟩
  ·rcases bb hv with ⟨j,u,rfl,rfl⟩ | ⟨y,u,rfl,rfl⟩
   ·rw [qB] at h; exact wpAny_eqBool_int h
   ·rw [qC] at h; exact SeqAt.EqAt.int_str i t y u _ _ _ _ h
  ·rcases bb hv with ⟨j,u,rfl,rfl⟩ | ⟨y,u,rfl,rfl⟩
   ·rw [qD] at h; exact SeqAt.EqAt.str_int x t j u _ _ _ _ h
   ·rw [qE] at h; exact wpAny_eqBool_str h
 «strs» := fun k x t v h => by
  rcases bb h with ⟨i,u,rfl,e⟩ | ⟨y,u,rfl,e⟩
  ·exact nomatch e
  ·injection e with e1 _
   subst e1
   cases v <;> rfl
end L2
namespace L2
open PySem PySem.Spec PyProof.Rows
inductive V where
 | non | bl (b : Bool) | int (i : Int) | str (x : Str) | byt (b : Array UInt8) | flt (b : UInt64) | ref (a : Addr) | ty (n : String)
 deriving DecidableEq
def RelV : V -> Value -> Prop
 | .non,u => u = Value.none
 | .bl b,u => u = Value.bool b
 | .int i,u => ∃ t,u = Value.int i t
 | .str x,u => ∃ t,u = Value.str x t
 | .byt b,u => ∃ t,u = Value.bytes b t
 | .flt b,u => ∃ t,u = Value.float b t
 | .ref a,u => u = Value.ref a
 | .ty n,u => u = Value.type n
abbrev Vals : List V -> List Value -> Prop:=Paired RelV
theorem Vals.length {xs : List V} {us : List Value} (r : Vals xs us) : xs.length = us.length:=Paired.length r
theorem Vals.get : ∀ {xs : List V} {us : List Value} {i : Nat} {x : V},Vals xs us -> xs[i]? = some x -> ∃ u,us[i]? = some u /\ RelV x u
 | _,_,_,_,.nil,e => by simp at e
 | _,_,0,_,.cons r _,e => by simp at e; subst e; exact ⟨_,rfl,r⟩
 | _,_,i + 1,x,.cons _ t,e => by
  obtain ⟨u,h1,h2⟩:=Vals.get (i:=i) (x:=x) t (by simpa using e)
  exact ⟨u,by simpa using h1,h2⟩
theorem Vals.append : ∀ {xs ys : List V} {us ws : List Value},Vals xs us -> Vals ys ws -> Vals (xs ++ ys) (us ++ ws)
 | _,_,_,_,.nil,s => s
 | _,_,_,_,.cons r t,s => .cons r (Vals.append t s)
def qt : Option V -> Option Value -> Prop
 | some v,some u => RelV v u
 | none,none => True
 | _,_ => False
def KV {κ : Type} : List (κ × V) -> List (κ × Value) -> Prop:=Paired fun (p : κ × V) (q : κ × Value) => p.1 = q.1 /\ RelV p.2 q.2
def kV : Key -> V
 | .inl i => .int i
 | .inr x => .str x
inductive HO where
  | lst (xs : List V)
  | tup (xs : List V)
  | dK (kvs : List (Key × V)) | dT (kvs : List (List Key × V))
  | set (S : Int -> Bool) (n : Nat)
  | ins (C dx : Addr) (fs : List (Str × V))
  | own (x : Addr)
  | xd (fs : List (Str × V))
  | met (f x : Addr)
  | rng (lo hi : Int)
  | frz (o : Obj) (u : HO)
  | tbl (ps : Array Value)
  | ext (φ : Heap -> Prop)
abbrev Hp:=Addr -> Option HO
def upd (H : Hp) (a : Addr) (o : HO) : Hp:=fun b => if b = a then some o else H b
theorem ai {H : Hp} {a : Addr} {o : HO} : upd H a o a = some o:=by unfold upd; rw [if_pos rfl]
theorem ar {H : Hp} {a b : Addr} {o : HO} (h : b ≠ a) : upd H a o b = H b:=by unfold upd; rw [if_neg h]
theorem nk {H : Hp} {a b : Addr} {o u : HO} (h : H a = some o) (h' : H b = some u) (d : o ≠ u) : a ≠ b:=by
 intro e; subst e; rw [h] at h'; exact d (Option.some.inj h')
theorem au {H : Hp} {a b : Addr} {o : HO} (h : H a = some o) (h' : H b = none) : a ≠ b:=by
 intro e; subst e; rw [h] at h'; cases h'
section
variable (P : Program) (w : World)
def ObjOk (H : Hp) (h : Heap) (a : Addr) : HO -> Prop
 | .lst xs => xs.length <= sizeLine /\ ∃ (its : List Value) (n : Nat),Vals xs its /\ h.get? a = some { cls:=.type "list",data:=.seq its.toArray n }
 | .tup xs => xs.length <= sizeLine /\ ∃ its : List Value,Vals xs its /\ IsTup h a its.toArray
 | .dK kvs => kvs.length <= sizeLine /\ (a == sysModules) = false /\ ∃ vs,KV kvs vs /\ h.DictOf (ng P w) a vs
 | .dT kvs => kvs.length <= sizeLine /\ (a == sysModules) = false /\ ∃ xs : List (List Key × Addr × Value),
   Paired (fun (p : List Key × V) (q : List Key × Addr × Value) => p.1 = q.1 /\ H q.2.1 = some (.tup (p.1.map kV)) /\ RelV p.2 q.2.2) kvs xs /\
   ∃ o es ep,h.get? a = some o /\ o.ExactDict /\ o.data = .dict es ep /\ es.toList = xs.map (entryOfKey (tupleKind (ng P w))) /\ (xs.map (·.1)).Nodup
 | .set S n => h.SetOf (intKind P w) a S n
 | .ins C dx fs => H dx = some (.own a) /\ fs.length <= 1000 /\ dx ≠ a /\ h.get? a = some (PySem.W.instObj C dx) /\
   ∃ mA,h.Ns1 dx mA /\ (∀ f,qt (fs.lookup f) (mA f)) /\ PySem.Within mA (fs.map (·.1))
 | .own _ => ∃ o,h.get? a = some o
 | .xd fs => ∃ mA,h.Ns1 a mA /\ ∀ f,qt (fs.lookup f) (mA f)
 | .rng lo hi => ∃ t u v,h.get? a = some { cls:=.type "range",data:=.fields #[.int lo t,.int hi u,.int 1 v] }
 | .frz o u => h.get? a = some o /\ ObjOk H h a u
 | .tbl ps => h.get? a = some { cls:=.none,data:=.fields ps }
 | .met f x => h.get? a = some (PySem.W.methodObj (.ref f) (.ref x))
 | .ext φ => φ h /\ (∃ o,h.get? a = some o) /\ ∀ h1 h2 : Heap,φ h1 -> (∀ o,h1.get? a = some o -> h2.get? a = some o) -> φ h2
def HOk (H : Hp) (h : Heap) : Prop := ∀ a o,H a = some o -> ObjOk P w H h a o
end
section
variable {P : Program} {w : World} {H H' : Hp} {h h' : Heap} {a : Addr} {o : HO}
theorem ObjOk.lt (x : ObjOk P w H h a o) : a < h.objs.size:=by
 cases o with
 | lst xs => obtain ⟨_,_,_,_,e⟩:=x; exact Heap.lt_size e
 | tup xs => obtain ⟨_,_,_,p⟩:=x; exact p.lt
 | dK kvs => obtain ⟨_,_,_,_,o,_,_,e,_⟩:=x; exact Heap.lt_size e
 | dT kvs => obtain ⟨_,_,_,_,o,_,_,e,_⟩:=x; exact Heap.lt_size e
 | set S n => obtain ⟨o,_,_,_,e,_⟩:=x; exact Heap.lt_size e
 | ins C dx fs => obtain ⟨_,_,_,e,_⟩:=x; exact Heap.lt_size e
 | own y => obtain ⟨_,e⟩:=x; exact Heap.lt_size e
 | xd fs => obtain ⟨_,⟨_,_,_,e,_⟩,_⟩:=x; exact Heap.lt_size e
 | rng lo hi => obtain ⟨_,_,_,e⟩:=x; exact Heap.lt_size e
 | frz ob u => obtain ⟨e,_⟩:=x; exact Heap.lt_size e
 | tbl ps => exact Heap.lt_size (show h.get? a = some _ from x)
 | met f y => exact Heap.lt_size (show h.get? a = some _ from x)
 | ext φ => obtain ⟨_,⟨_,e⟩,_⟩:=x; exact Heap.lt_size e
theorem Paired.mapP {α β : Type} {F G : α -> β -> Prop} : ∀ {l₁ : List α} {l₂ : List β},Paired F l₁ l₂ -> (∀ a b,F a b -> G a b) -> Paired G l₁ l₂
 | _,_,.nil,_ => .nil
 | _,_,.cons r t,f => .cons (f _ _ r) (Paired.mapP t f)
theorem ObjOk.stay (x : ObjOk P w H h a o) (k : ∀ b u,(b = a \/ H b = some (.own a)) -> h.get? b = some u -> h'.get? b = some u)
  (ho : ∀ b,H b = some (.own a) -> H' b = some (.own a)) (ht : ∀ b xs,H b = some (.tup xs) -> H' b = some (.tup xs)) : ObjOk P w H' h' a o:=by
 induction o with
 | lst xs => obtain ⟨z,its,n,r,e⟩:=x; exact ⟨z,its,n,r,k _ _ (.inl rfl) e⟩
 | tup xs => obtain ⟨z,its,r,ob,e,c⟩:=x; exact ⟨z,its,r,ob,k _ _ (.inl rfl) e,c⟩
 | dK kvs => obtain ⟨z,y,vs,r,ob,es,ep,e,c⟩:=x; exact ⟨z,y,vs,r,ob,es,ep,k _ _ (.inl rfl) e,c⟩
 | dT kvs =>
  obtain ⟨z,y,xs,r,ob,es,ep,e,c⟩:=x
  exact ⟨z,y,xs,Paired.mapP r fun p q z => ⟨z.1,ht _ _ z.2.1,z.2.2⟩,ob,es,ep,k _ _ (.inl rfl) e,c⟩
 | set S n => obtain ⟨ob,es,ep,t,e,c⟩:=x; exact ⟨ob,es,ep,t,k _ _ (.inl rfl) e,c⟩
 | ins C dx fs =>
  obtain ⟨d,z,ne,e,mA,⟨od,es,ep,e2,c⟩,r⟩:=x
  exact ⟨ho _ d,z,ne,k _ _ (.inl rfl) e,mA,⟨od,es,ep,k _ _ (.inr d) e2,c⟩,r⟩
 | own y => obtain ⟨ob,e⟩:=x; exact ⟨ob,k _ _ (.inl rfl) e⟩
 | xd fs => obtain ⟨mA,⟨od,es,ep,e,c⟩,r⟩:=x; exact ⟨mA,⟨od,es,ep,k _ _ (.inl rfl) e,c⟩,r⟩
 | rng lo hi => obtain ⟨t,u,v,e⟩:=x; exact ⟨t,u,v,k _ _ (.inl rfl) e⟩
 | frz ob u ih => obtain ⟨e,q⟩:=x; exact ⟨k _ _ (.inl rfl) e,ih q⟩
 | tbl ps =>
  have e : h.get? a = some { cls:=.none,data:=.fields ps }:=x
  show h'.get? a = some { cls:=.none,data:=.fields ps }
  exact k a _ (.inl rfl) e
 | met f y =>
  have e : h.get? a = some (PySem.W.methodObj (.ref f) (.ref y)):=x
  show h'.get? a = some (PySem.W.methodObj (.ref f) (.ref y))
  exact k a _ (.inl rfl) e
 | ext φ => obtain ⟨p,⟨o,e⟩,st⟩:=x; exact ⟨st _ _ p fun o q => k _ _ (.inl rfl) q,⟨o,k _ _ (.inl rfl) e⟩,st⟩
theorem HOk.lt (x : HOk P w H h) (e : H a = some o) : a < h.objs.size:=(x a o e).lt
theorem HOk.fresh (x : HOk P w H h) (e : h.objs.size <= a) : H a = none:=by
 cases q : H a with
 | none => rfl
 | some u => exact absurd (Nat.lt_of_lt_of_le (x.lt q) e) (Nat.lt_irrefl _)
theorem HOk.kept (x : HOk P w H h) (k : ∀ b u,h.get? b = some u -> h'.get? b = some u) : HOk P w H h' := fun a o e =>
 (x a o e).stay (fun b u _ q => k b u q) (fun _ q => q) fun _ _ q => q
theorem HOk.laid (x : HOk P w H h) (k : ∀ b u,h.get? b = some u -> h'.get? b = some u) (hp : h.objs.size <= a) (new : ObjOk P w (upd H a o) h' a o) : HOk P w (upd H a o) h' := fun b u e => by
 have hn:=x.fresh hp
 by_cases hb : b = a
 ·subst hb; rw [ai] at e; cases e; exact new
 ·rw [ar hb] at e
  exact (x b u e).stay (fun c v _ q => k c v q) (fun c q => by rw [ar (au q hn)]; exact q) fun c xs q => by rw [ar (au q hn)]; exact q
end
def Rd (H : Hp) (a : Addr) (u : HO) : Prop:=H a = some u \/ ∃ o,H a = some (.frz o u)
theorem Rd.ok {P : Program} {w : World} {H : Hp} {h : Heap} {a : Addr} {u : HO} (r : Rd H a u) (x : HOk P w H h) : ObjOk P w H h a u:=by
 rcases r with r | ⟨o,r⟩
 ·exact x a u r
 ·obtain ⟨_,q⟩:=x a _ r
  exact q
def Mut : Option HO -> Prop
 | some (.lst _) => True
 | some (.dK _) => True
 | some (.dT _) => True
 | some (.set _ _) => True
 | some (.ins _ _ _) => True
 | some (.ext _) => True
 | _ => False
section
variable {P : Program} {w : World} {H : Hp} {h h' : Heap} {x e : Addr} {o' : HO}
theorem HOk.write (ok : HOk P w H h) (mu : Mut (H x)) (he : e = x \/ H e = some (.own x)) (k : ∀ b u,b ≠ e -> h.get? b = some u -> h'.get? b = some u) (heo : ∃ u,h'.get? e = some u)
  (new : ObjOk P w (upd H x o') h' x o') : HOk P w (upd H x o') h' := fun b u q => by
 have nown : ∀ c y,H c = some (.own y) -> c ≠ x:=fun c y r z => by subst z; rw [r] at mu; exact mu
 have ntup : ∀ c xs,H c = some (.tup xs) -> c ≠ x:=fun c xs r z => by subst z; rw [r] at mu; exact mu
 by_cases hb : b = x
 ·subst hb; rw [ai] at q; cases q; exact new
 ·rw [ar hb] at q
  by_cases hbe : b = e
  ·have q' : H b = some (.own x):=by
    rcases he with z | z
    ·exact absurd (hbe.trans z) hb
    ·rw [hbe]; exact z
   rw [q] at q'; cases q'
   obtain ⟨v,hv⟩:=heo
   exact ⟨v,by rw [hbe]; exact hv⟩
  ·refine (ok b u q).stay (fun c v hc r => k c v ?_ r) (fun c r => by rw [ar (nown c b r)]; exact r) fun c xs r => by rw [ar (ntup c xs r)]; exact r
   rcases hc with rfl | hc
   ·exact hbe
   ·rintro rfl
    rcases he with z | z
    ·exact nown c b hc z
    ·rw [hc] at z; cases z; exact hb rfl
end
structure Un (fs ex : List Addr) (H H' : Hp) (h h' : Heap) : Prop where
 keep : ∀ b o,h.get? b = some o -> H b = none -> b ∉ fs -> b ∉ ex -> h'.get? b = some o
 slot : ∀ b o,h.get? b = some o -> H b = none -> b ∈ fs -> b ∉ ex -> ∃ sl,h'.get? b = some { o with slots:=sl }
 free : ∀ b o,h.get? b = some o -> H b = none -> b ∉ ex -> H' b = none
 there : ∀ b o,h.get? b = some o -> b ∉ ex -> ∃ o',h'.get? b = some o'
 tups : ∀ b xs,H b = some (.tup xs) -> H' b = some (.tup xs)
 frzs : ∀ b o u,H b = some (.frz o u) -> H' b = some (.frz o u)
 tbls : ∀ b ps,H b = some (.tbl ps) -> ∃ more,H' b = some (.tbl (ps ++ more))
section
variable {fs fs' ex ex' : List Addr} {H H1 H2 : Hp} {h h1 h2 h' : Heap} {a x e : Addr} {o : HO}
theorem Un.any (u : Un fs ex H H1 h h1) {b : Addr} {ob : Obj} (q : h.get? b = some ob) (n : H b = none) (hx : b ∉ ex) : ∃ sl,h1.get? b = some { ob with slots:=sl }:=by
 by_cases hb : b ∈ fs
 ·exact u.slot b ob q n hb hx
 ·exact ⟨ob.slots,u.keep b ob q n hb hx⟩
theorem Un.kept (k : ∀ b u,h.get? b = some u -> h'.get? b = some u) : Un fs ex H H h h' :=
 ⟨fun b ob q _ _ _ => k b ob q,fun b ob q _ _ _ => ⟨ob.slots,k b ob q⟩,fun _ _ _ n _ => n,fun b ob q _ => ⟨ob,k b ob q⟩,fun _ _ q => q,fun _ _ _ q => q,fun _ ps q => ⟨#[],by rw [q]; simp⟩⟩
theorem Un.refl : Un fs ex H H h h:=Un.kept fun _ _ q => q
theorem Un.laid (k : ∀ b u,h.get? b = some u -> h'.get? b = some u) (hp : h.objs.size <= a) (hn : H a = none) : Un fs ex H (upd H a o) h h' where
 keep:=fun b u q _ _ _ => k b u q
 slot:=fun b u q _ _ _ => ⟨u.slots,k b u q⟩
 free:=fun b u q n _ => by rw [ar (Nat.ne_of_lt (Nat.lt_of_lt_of_le (Heap.lt_size q) hp))]; exact n
 there:=fun b u q _ => ⟨u,k b u q⟩
 tups:=fun b xs q => by rw [ar (au q hn)]; exact q
 frzs:=fun b u xs q => by rw [ar (au q hn)]; exact q
 tbls:=fun b ps q => ⟨#[],by rw [ar (au q hn),q]; simp⟩
theorem Un.write (mu : Mut (H x)) (he : e = x \/ H e = some (.own x)) (k : ∀ b u,b ≠ e -> h.get? b = some u -> h'.get? b = some u) (heo : ∃ u,h'.get? e = some u) : Un fs ex H (upd H x o) h h' := by
 have hx : ∀ b,H b = none -> b ≠ x:=fun b n z => by subst z; rw [n] at mu; exact mu
 have hb : ∀ b,H b = none -> b ≠ e:=fun b n z => by
  subst z
  rcases he with r | r
  ·exact hx b n r
  ·rw [n] at r; cases r
 have hm : ∀ b u,H b = some u -> ¬ Mut (some u) -> b ≠ x:=fun b u q nm z => by subst z; rw [q] at mu; exact nm mu
 refine ⟨fun b u q n _ _ => k b u (hb b n) q,fun b u q n _ _ => ⟨u.slots,k b u (hb b n) q⟩,fun b u q n _ => by rw [ar (hx b n)]; exact n,fun b u q _ => ?_,
  fun b xs q => by rw [ar (hm b _ q fun z => z)]; exact q,fun b u xs q => by rw [ar (hm b _ q fun z => z)]; exact q,fun b ps q => ⟨#[],by rw [ar (hm b _ q fun z => z),q]; simp⟩⟩
 by_cases hbe : b = e
 ·subst hbe; exact heo
 ·exact ⟨u,k b u hbe q⟩
end
def trk (h : Heap) (H : Hp) : List Addr:=(List.range h.objs.size).filter fun a => (H a).isSome
def jK (h : Heap) (H : Hp) : Heap:=PySem.W.hideAll h (trk h H)
theorem nU (h : Heap) (H : Hp) : (jK h H).objs.size = h.objs.size:=PySem.W.hideAll_size _ _
theorem oE {h : Heap} {H : Hp} {b : Addr} {o : Obj} (e : h.get? b = some o) (n : H b = none) : (jK h H).get? b = some o:=
 PySem.W.hideAll_get _ e fun hm => by
  have q : (H b).isSome = true:=(List.mem_filter.mp hm).2
  rw [n] at q; simp at q
theorem pY {h : Heap} {H : Hp} {b : Addr} {o : Obj} (e : (jK h H).get? b = some o) : h.get? b = some o /\ H b = none:=by
 have e' : h.get? b = some o:=PySem.W.of_hideAll (trk h H) e
 refine ⟨e',?_⟩
 cases q : H b with
 | none => rfl
 | some x =>
  have hm : b ∈ trk h H:=List.mem_filter.mpr ⟨List.mem_range.mpr (Heap.lt_size e'),by simp [q]⟩
  have z : (jK h H).get? b = none:=PySem.W.hideAll_none (trk h H) hm
  rw [z] at e; cases e
def pO (g h : Heap) (L : Addr) : List (Addr × Obj):=(List.range h.objs.size).filterMap fun a => if a = L \/ (g.get? a).isSome = true then none else (h.get? a).map fun o => (a,o)
def rest (g h : Heap) (L d : Addr) : List (Addr × Obj):=(pO g h L).filter fun p => decide (p.1 ≠ d)
end L2
namespace L2
open PySem PySem.Spec PyProof.Rows
structure Mod (K : PySem.W.Frag) (mg : Str -> Option Value) (base : Heap) : Prop where
 kin : K.In base
 glob : base.Ns mainGlobals mg
 blt : ∃ mb,base.Ns builtinsNs mb /\ ∀ x : Str,x ≠ "__name__" -> mb x = bootBuiltins x
 nolimit : base.NoLimit
structure Cx where
 prog : Program
 w : World
 K : PySem.W.Frag
 mg : Str -> Option Value
 base : Heap
 A : Around
 N : List Str
 s₀ : Shared
 H₀ : Hp
 env : Env
 outer : List Env
 stack : List Env
 ex : List Addr
 fn : Str -> Bool
 calm : Bool
 pn : List (Addr × Obj)
 xe : Value -> Shared -> Prop
def frs (l : List Env) : List Addr:=l.filterMap (·.frame)
abbrev Cx.fs (X : Cx) : List Addr:=frs X.outer
def Vis (sc : Scope) (x : Str) : Prop:=sc.names.lookup x = some .local \/ sc.names.lookup x = some .cell \/ sc.names.lookup x = some .free
def Loc (sc : Scope) (x : Str) : Prop:=sc.names.lookup x = some .local \/ sc.names.lookup x = some .cell
def Look (env : Env) (h : Heap) (m : Str -> Option Value) (x : Str) (u : Value) : Prop:=
 (env.kindOf x = some .local /\ m x = some u) \/ ((env.kindOf x = some .cell \/ env.kindOf x = some .free) /\ ∃ c,env.cells.lookup x = some c /\ h.IsCell c (some u))
structure Cx.Ok (X : Cx) : Prop where
 mod : Mod X.K X.mg X.base
 kind : X.env.scope.kind = .function
 glob : X.env.globals = mainGlobals
 blt : X.env.builtins = builtinsNs
 above : X.s₀.heap.objs.size <= X.env.locals
 inj : ∀ x y c,X.env.cells.lookup x = some c -> X.env.cells.lookup y = some c -> x = y
 has : ∀ x,(X.env.kindOf x = some .cell \/ X.env.kindOf x = some .free) -> ∃ c,X.env.cells.lookup x = some c
 cab : ∀ x c,X.fn x = true -> X.env.cells.lookup x = some c -> X.s₀.heap.objs.size <= c
 hd : X.calm = true -> X.A.handled = none
 frames : X.A.frames = some X.stack
 stk : X.stack = X.outer \/ (X.stack = X.env :: X.outer /\ X.env.frame = some X.env.locals)
 exf : ∀ b ∈ X.ex,b ≠ X.env.locals /\ ∀ x c,X.env.cells.lookup x = some c -> c ≠ b
 bs : ∀ b o,X.base.get? b = some o -> X.s₀.heap.get? b = some o /\ X.H₀ b = none
 bsz : X.base.objs.size <= X.s₀.heap.objs.size
 noex : ∀ b o,X.base.get? b = some o -> b ∉ X.ex
 exfs : ∀ b ∈ X.ex,b ∉ X.fs
 funs : X.s₀.heap.FunFrames X.base X.outer
 frf : ∀ b ∈ X.fs,X.H₀ b = none
structure Inv (X : Cx) (pins : List (Addr × Obj)) (σ : List (Option V)) (H : Hp) (s : Shared) : Prop where
 ok : X.Ok
 os : s.os = X.s₀.os
 bare : AllBare s.gens
 base : Un X.fs X.ex X.H₀ H X.s₀.heap s.heap
 loc : ∃ m,s.heap.Ns X.env.locals m /\ ∀ (i : Nat) (x : Str) (v : V),X.N[i]? = some x -> σ[i]? = some (some v) -> Vis X.env.scope x -> ∃ u,RelV v u /\ Look X.env s.heap m x u
 cell : ∀ x c,X.env.cells.lookup x = some c -> ∃ v,s.heap.IsCell c v
 free : H X.env.locals = none
 freeC : ∀ x c,X.env.cells.lookup x = some c -> H c = none
 pin : ∀ p ∈ X.pn ++ pins,s.heap.get? p.1 = some p.2 /\ H p.1 = none /\ p.1 ≠ X.env.locals /\ p.1 ∉ X.fs /\ ∀ v,p.2.data ≠ .cell v
 hok : HOk X.prog X.w H s.heap
 len : σ.length = X.N.length
section
variable {X : Cx} {pins : List (Addr × Obj)} {σ : List (Option V)} {H H' : Hp} {s : Shared} {h' : Heap}
theorem Cx.Ok.nofr (ok : X.Ok) {b : Addr} {o : Obj} (e : X.base.get? b = some o) : b ∉ X.fs:=fun hb => by
 have:=(ok.funs.mem hb).1
 rw [e] at this; cases this
theorem Inv.bs (I : Inv X pins σ H s) : ∀ b o,X.base.get? b = some o -> s.heap.get? b = some o /\ H b = none:=fun b o e =>
 ⟨I.base.keep b o (I.ok.bs b o e).1 (I.ok.bs b o e).2 (I.ok.nofr e) (I.ok.noex b o e),I.base.free b o (I.ok.bs b o e).1 (I.ok.bs b o e).2 (I.ok.noex b o e)⟩
theorem Inv.bk (I : Inv X pins σ H s) : ∀ b o,X.base.get? b = some o -> s.heap.get? b = some o:=fun b o e => (I.bs b o e).1
theorem Inv.mod (I : Inv X pins σ H s) : Mod X.K X.mg X.base:=I.ok.mod
theorem Inv.kIn (I : Inv X pins σ H s) : X.K.In s.heap:=I.ok.mod.kin.keeps I.bk
theorem Inv.lt (I : Inv X pins σ H s) : X.env.locals < s.heap.objs.size:=let ⟨_,hn,_⟩:=I.loc; hn.lt
theorem Inv.sz (I : Inv X pins σ H s) : X.s₀.heap.objs.size <= s.heap.objs.size:=Nat.le_trans I.ok.above (Nat.le_of_lt I.lt)
theorem Inv.nofs (I : Inv X pins σ H s) {a : Addr} (h : s.heap.objs.size <= a) : a ∉ X.fs:=fun hb => by
 obtain ⟨_,o,ho,_⟩:=I.ok.funs.mem hb
 exact absurd (Nat.lt_of_lt_of_le (Heap.lt_size ho) (Nat.le_trans I.sz h)) (Nat.lt_irrefl _)
theorem Inv.cne (I : Inv X pins σ H s) : ∀ x c,X.env.cells.lookup x = some c -> c ≠ X.env.locals:=fun x c e z => by
 obtain ⟨v,o,ho,hd⟩:=I.cell x c e
 obtain ⟨m,⟨o',es,ep,ho',hd',_⟩,_⟩:=I.loc
 rw [z,ho'] at ho; cases ho; rw [hd'] at hd; cases hd
theorem Inv.funs (I : Inv X pins σ H s) : s.heap.FunFrames X.base X.outer:=by
 have all : ∀ (l : List Env),(∀ b ∈ frs l,b ∈ X.fs) -> X.s₀.heap.FunFrames X.base l -> s.heap.FunFrames X.base l:=by
  intro l
  induction l with
  | nil => intro _ _; trivial
  | cons env r ih =>
   intro hs hl
   obtain ⟨hk,⟨L,o,hf,hn,ho,hd⟩,hr⟩:=hl
   have hL : L ∈ X.fs:=hs L (by unfold frs; rw [List.filterMap_cons,hf]; exact List.mem_cons_self)
   obtain ⟨sl,e⟩:=I.base.slot L o ho (I.ok.frf L hL) hL fun z => I.ok.exfs L z hL
   exact ⟨hk,⟨L,_,hf,hn,e,hd⟩,ih (fun b hb => hs b (by unfold frs; rw [List.filterMap_cons,hf]; exact List.mem_cons_of_mem _ hb)) hr⟩
 exact all X.outer (fun _ hb => hb) I.ok.funs
theorem Inv.stack (I : Inv X pins σ H s) : s.heap.FunFrames X.base X.stack:=by
 rcases I.ok.stk with e | ⟨e,hf⟩
 ·rw [e]; exact I.funs
 ·rw [e]
  obtain ⟨m,hn,_⟩:=I.loc
  refine .cons (by rw [I.ok.kind]; decide) hf hn ?_ I.funs
  exact Heap.get?_none_of_le (Nat.le_trans I.ok.bsz I.ok.above)
theorem Inv.stkSub (I : Inv X pins σ H s) : ∀ b ∈ frs X.stack,b ∈ X.env.locals :: X.fs:=fun b hb => by
 rcases I.ok.stk with e | ⟨e,hf⟩
 ·rw [e] at hb; exact List.mem_cons_of_mem _ hb
 ·rw [e] at hb
  unfold frs at hb
  rw [List.filterMap_cons,hf] at hb
  exact hb
theorem Inv.stkFree (I : Inv X pins σ H s) : ∀ b ∈ frs X.stack,H b = none:=fun b hb => by
 rcases List.mem_cons.mp (I.stkSub b hb) with e | hb
 ·rw [e]; exact I.free
 ·obtain ⟨_,o,ho,_⟩:=I.ok.funs.mem hb
  exact I.base.free b o ho (I.ok.frf b hb) fun z => I.ok.exfs b z hb
theorem Inv.step {g' : Array GenState} {t' : Nat} {d' : Drawn} {ch : List Addr} (I : Inv X pins σ H s)
  (hch : ∀ b ∈ ch,(b ∈ X.ex \/ X.s₀.heap.objs.size <= b) /\ b ≠ X.env.locals /\ (∀ x c,X.env.cells.lookup x = some c -> c ≠ b) /\ ∀ p ∈ X.pn ++ pins,p.1 ≠ b)
  (keep : ∀ b o,b ≠ X.env.locals -> b ∉ X.fs -> b ∉ ch -> s.heap.get? b = some o -> H b = none -> h'.get? b = some o)
  (slot : ∀ b o,b ≠ X.env.locals -> b ∈ X.fs -> b ∉ ch -> s.heap.get? b = some o -> H b = none -> ∃ sl,h'.get? b = some { o with slots:=sl }) (free : ∀ b o,b ∉ ch -> s.heap.get? b = some o -> H b = none -> H' b = none)
  (there : ∀ b o,b ∉ ch -> s.heap.get? b = some o -> ∃ o',h'.get? b = some o')
  (tups : ∀ b xs,H b = some (.tup xs) -> H' b = some (.tup xs)) (frzs : ∀ b o u,H b = some (.frz o u) -> H' b = some (.frz o u)) (tbls : ∀ b ps,H b = some (.tbl ps) -> ∃ more,H' b = some (.tbl (ps ++ more)))
  (ns : ∀ m,s.heap.Ns X.env.locals m -> h'.Ns X.env.locals m) (hok : HOk X.prog X.w H' h') (hg : AllBare g') :
  Inv X pins σ H' { s with heap:=h',gens:=g',drawn:=d',toks:=t' }:=by
 have neL : ∀ b o,X.s₀.heap.get? b = some o -> b ≠ X.env.locals:=fun b o e => Nat.ne_of_lt (Nat.lt_of_lt_of_le (Heap.lt_size e) I.ok.above)
 have neC : ∀ b o,X.s₀.heap.get? b = some o -> b ∉ X.ex -> b ∉ ch:=fun b o e hx hb => by
  rcases (hch b hb).1 with z | z
  ·exact hx z
  ·exact absurd (Nat.lt_of_lt_of_le (Heap.lt_size e) z) (Nat.lt_irrefl _)
 have cellK : ∀ x c,X.env.cells.lookup x = some c -> ∀ v,s.heap.IsCell c v -> h'.IsCell c v:=fun x c e v ⟨o,ho,hd⟩ => by
  have nch : c ∉ ch:=fun z => (hch c z).2.2.1 x c e rfl
  by_cases hc : c ∈ X.fs
  ·obtain ⟨sl,q⟩:=slot c o (I.cne x c e) hc nch ho (I.freeC x c e)
   exact ⟨_,q,hd⟩
  ·exact ⟨o,keep c o (I.cne x c e) hc nch ho (I.freeC x c e),hd⟩
 refine ⟨I.ok,I.os,hg,⟨fun b o e n hb hx => ?_,fun b o e n hb hx => ?_,fun b o e n hx => ?_,fun b o e hx => ?_,fun b xs e => tups b xs (I.base.tups b xs e),fun b o xs e => frzs b o xs (I.base.frzs b o xs e),fun b ps e => ?_⟩,?_,fun x c e => ?_,?_,fun x c e => ?_,fun p hp => ?_,hok,I.len⟩
 ·exact keep b o (neL b o e) hb (neC b o e hx) (I.base.keep b o e n hb hx) (I.base.free b o e n hx)
 ·obtain ⟨sl,e1⟩:=I.base.slot b o e n hb hx
  obtain ⟨sl',e2⟩:=slot b _ (neL b o e) hb (neC b o e hx) e1 (I.base.free b o e n hx)
  exact ⟨sl',e2⟩
 ·obtain ⟨o',e1⟩:=I.base.there b o e hx
  exact free b o' (neC b o e hx) e1 (I.base.free b o e n hx)
 ·obtain ⟨o',e1⟩:=I.base.there b o e hx
  exact there b o' (neC b o e hx) e1
 ·obtain ⟨m1,e1⟩:=I.base.tbls b ps e
  obtain ⟨m2,e2⟩:=tbls b _ e1
  exact ⟨m1 ++ m2,by rw [e2,Array.append_assoc]⟩
 ·obtain ⟨m,hn,hl⟩:=I.loc
  refine ⟨m,ns m hn,fun i x v e1 e2 e3 => ?_⟩
  obtain ⟨u,r,l⟩:=hl i x v e1 e2 e3
  refine ⟨u,r,?_⟩
  rcases l with l | ⟨k,c,e,z⟩
  ·exact .inl l
  ·exact .inr ⟨k,c,e,cellK x c e _ z⟩
 ·obtain ⟨v,z⟩:=I.cell x c e
  exact ⟨v,cellK x c e v z⟩
 ·obtain ⟨m,⟨o,_,_,ho,_⟩,_⟩:=I.loc
  exact free _ o (fun z => (hch _ z).2.1 rfl) ho I.free
 ·obtain ⟨v,o,ho,hd⟩:=I.cell x c e
  exact free c o (fun z => (hch c z).2.2.1 x c e rfl) ho (I.freeC x c e)
 ·obtain ⟨e,n,ne,nf,d⟩:=I.pin p hp
  have nch : p.1 ∉ ch:=fun z => (hch p.1 z).2.2.2 p hp rfl
  exact ⟨keep p.1 p.2 ne nf nch e n,free p.1 p.2 nch e n,ne,nf,d⟩
theorem Inv.un {t' : Nat} (I : Inv X pins σ H s) (u : Un X.fs [] H H' s.heap h') (hok : HOk X.prog X.w H' h') : Inv X pins σ H' { s with heap:=h',toks:=t' }:=by
 obtain ⟨m,⟨o,es,ep,ho,r⟩,_⟩:=id I.loc
 obtain ⟨sl,hL⟩:=u.any ho I.free (by simp)
 exact I.step (g' := s.gens) (d' := s.drawn) (ch:=[]) (fun _ z => nomatch z) (fun b o _ hb _ e n => u.keep b o e n hb (by simp)) (fun b o _ hb _ e n => u.slot b o e n hb (by simp)) (fun b o _ e n => u.free b o e n (by simp)) (fun b o _ e => u.there b o e (by simp)) u.tups u.frzs u.tbls (fun m' hm => by
  obtain ⟨o',es',ep',ho',r'⟩:=hm
  rw [ho] at ho'; cases ho'
  exact ⟨_,es',ep',hL,r'⟩) hok I.bare
theorem Inv.call {g' : Array GenState} {t' : Nat} {d' : Drawn} {ch : List Addr} (I : Inv X pins σ H s) (u : Un (frs X.stack) ch H H' s.heap h') (hok : HOk X.prog X.w H' h') (hg : AllBare g')
  (hch : ∀ b ∈ ch,(b ∈ X.ex \/ X.s₀.heap.objs.size <= b) /\ b ≠ X.env.locals /\ (∀ x c,X.env.cells.lookup x = some c -> c ≠ b) /\ ∀ p ∈ X.pn ++ pins,p.1 ≠ b) :
  Inv X pins σ H' { s with heap:=h',gens:=g',drawn:=d',toks:=t' }:=by
 obtain ⟨m,⟨o,es,ep,ho,r⟩,_⟩:=id I.loc
 obtain ⟨sl,hL⟩:=u.any ho I.free fun z => (hch _ z).2.1 rfl
 exact I.step (ch:=ch) hch (fun b o hL hb hc e n => u.keep b o e n (fun z => (List.mem_cons.mp (I.stkSub b z)).elim hL hb) hc) (fun b o _ _ hc e n => u.any e n hc) (fun b o hc e n => u.free b o e n hc) (fun b o hc e => u.there b o e hc) u.tups u.frzs u.tbls (fun m' hm => by
  obtain ⟨o',es',ep',ho',r'⟩:=hm
  rw [ho] at ho'; cases ho'
  exact ⟨_,es',ep',hL,r'⟩) hok hg
theorem Inv.turned {t' : Nat} {it : Addr} (I : Inv X pins σ H s) (k : ∀ b o,b ≠ it -> s.heap.get? b = some o -> h'.get? b = some o) (hn : H it = none) (hL : it ≠ X.env.locals)
  (h1 : it ∈ X.ex \/ X.s₀.heap.objs.size <= it) (h2 : ∀ x c,X.env.cells.lookup x = some c -> c ≠ it) (h3 : ∀ p ∈ X.pn ++ pins,p.1 ≠ it) : Inv X pins σ H { s with heap:=h',toks:=t' }:=by
 have nit : ∀ b u,H b = some u -> b ≠ it:=fun b u e z => by rw [z,hn] at e; cases e
 refine I.step (g' := s.gens) (d' := s.drawn) (ch:=[it]) (fun b hb => ?_) (fun b o _ _ hc e _ => k b o (fun z => hc (by simp [z])) e) (fun b o _ _ hc e _ => ⟨o.slots,k b o (fun z => hc (by simp [z])) e⟩) (fun _ _ _ _ n => n)
  (fun b o hc e => ⟨o,k b o (fun z => hc (by simp [z])) e⟩) (fun _ _ e => e) (fun _ _ _ e => e) (fun b ps e => ⟨#[],by rw [e]; simp⟩) (fun m hm => ?_) (fun b u e => ?_) I.bare
 ·have e : b = it:=by simpa using hb
  subst e
  exact ⟨h1,hL,h2,h3⟩
 ·obtain ⟨o,es,ep,ho,r⟩:=hm
  exact ⟨o,es,ep,k _ o (Ne.symm hL) ho,r⟩
 ·refine (I.hok b u e).stay (fun c v hc q => k c v ?_ q) (fun _ q => q) fun _ _ q => q
  rcases hc with z | z
  ·rw [z]; exact nit b u e
  ·exact nit c _ z
theorem Inv.tok (I : Inv X pins σ H s) (t : Nat) : Inv X pins σ H { s with toks:=t }:=I.un (h' := s.heap) (t' := t) Un.refl I.hok
theorem Inv.kept {t' : Nat} (I : Inv X pins σ H s) (k : ∀ b u,s.heap.get? b = some u -> h'.get? b = some u) : Inv X pins σ H { s with heap:=h',toks:=t' }:=I.un (Un.kept k) (I.hok.kept k)
theorem Inv.laid {a : Addr} {o : HO} {t' : Nat} (I : Inv X pins σ H s) (k : ∀ b u,s.heap.get? b = some u -> h'.get? b = some u) (hp : s.heap.objs.size <= a) (new : ObjOk X.prog X.w (upd H a o) h' a o) :
  Inv X pins σ (upd H a o) { s with heap:=h',toks:=t' }:=I.un (Un.laid k hp (I.hok.fresh hp)) (I.hok.laid k hp new)
theorem Inv.write {x e : Addr} {o : HO} {t' : Nat} (I : Inv X pins σ H s) (mu : Mut (H x)) (he : e = x \/ H e = some (.own x)) (k : ∀ b u,b ≠ e -> s.heap.get? b = some u -> h'.get? b = some u) (heo : ∃ u,h'.get? e = some u)
  (new : ObjOk X.prog X.w (upd H x o) h' x o) : Inv X pins σ (upd H x o) { s with heap:=h',toks:=t' }:=I.un (Un.write mu he k heo) (I.hok.write mu he k heo new)
theorem Inv.pins_of {pins' : List (Addr × Obj)} (I : Inv X pins σ H s) (h : ∀ p ∈ pins',s.heap.get? p.1 = some p.2 /\ H p.1 = none /\ p.1 ≠ X.env.locals /\ p.1 ∉ X.fs /\ ∀ v,p.2.data ≠ .cell v) : Inv X pins' σ H s:=
 ⟨I.ok,I.os,I.bare,I.base,I.loc,I.cell,I.free,I.freeC,fun p hp => (List.mem_append.mp hp).elim (fun z => I.pin p (List.mem_append_left _ z)) (h p),I.hok,I.len⟩
theorem lF {N : List Str} (hN : N.Nodup) {i j : Nat} {x : Str} (a : N[i]? = some x) (b : N[j]? = some x) : i = j:=by
 obtain ⟨h1,e1⟩:=List.getElem?_eq_some_iff.mp a
 obtain ⟨h2,e2⟩:=List.getElem?_eq_some_iff.mp b
 exact (List.getElem_inj hN).mp (e1.trans e2.symm)
theorem jd {M : Model} {A : Around} {E : Value -> Shared -> Prop} {i : Nat} {x : Str} {v : V} {u : Value} {Q : Unit -> Shared -> Prop} (I : Inv X pins σ H s) (hN : X.N.Nodup) (hi : X.N[i]? = some x) (hx : Loc X.env.scope x) (r : RelV v u)
  (h : ∀ s',Inv X pins (σ.set i (some v)) H s' -> (∃ a,Heap.SameBut a s.heap s'.heap /\ (a = X.env.locals \/ X.env.cells.lookup x = some a)) -> Q () s') (hf : X.fn x = true \/ X.env.scope.names.lookup x = some .local:=by first | exact .inl rfl | exact .inr rfl | assumption) : wpAny M A (storeName X.env x u) Q E s:=by
 obtain ⟨m,hn,hl⟩:=id I.loc
 have hcls : (X.env.scope.kind == .class || (X.env.scope.kind == .module && X.env.locals != X.env.globals)) = false:=by rw [I.ok.kind]; rfl
 have hiσ : i < σ.length:=by rw [I.len]; exact (List.getElem?_eq_some_iff.mp hi).1
 have cne:=I.cne
 have tracked : ∀ {a : Addr} {h' : Heap},(∃ o,s.heap.get? a = some o /\ H a = none) -> Heap.SameBut a s.heap h' -> HOk X.prog X.w H h' := fun {a h'} ha hs b ob e => by
  obtain ⟨_,_,hfree⟩:=ha
  refine (I.hok b ob e).stay (fun c w' hc q => (hs.2 c ?_).trans q) (fun _ q => q) fun _ _ q => q
  rintro rfl
  rcases hc with rfl | hc
  ·rw [hfree] at e; cases e
  ·rw [hfree] at hc; cases hc
 rcases hx with hk | hk
 ·refine wpAny_storeName_local hk hn (fun h' hn' hs => ?_) hcls
  obtain ⟨oL,_,_,hoL,_⟩:=id hn
  refine h _ ⟨I.ok,I.os,I.bare,⟨fun b o e n hb hx => ?_,fun b o e n hb hx => ?_,I.base.free,fun b o e hx => ?_,I.base.tups,I.base.frzs,I.base.tbls⟩,⟨_,hn',fun j y v' e1 e2 e3 => ?_⟩,fun y c e => ?_,I.free,I.freeC,fun p hp => ?_,tracked ⟨oL,hoL,I.free⟩ hs,by simpa using I.len⟩ ⟨_,hs,.inl rfl⟩
  ·exact (hs.2 b (Nat.ne_of_lt (Nat.lt_of_lt_of_le (Heap.lt_size e) I.ok.above))).trans (I.base.keep b o e n hb hx)
  ·obtain ⟨sl,e1⟩:=I.base.slot b o e n hb hx
   exact ⟨sl,(hs.2 b (Nat.ne_of_lt (Nat.lt_of_lt_of_le (Heap.lt_size e) I.ok.above))).trans e1⟩
  ·obtain ⟨o',e1⟩:=I.base.there b o e hx
   exact ⟨o',(hs.2 b (Nat.ne_of_lt (Nat.lt_of_lt_of_le (Heap.lt_size e) I.ok.above))).trans e1⟩
  ·by_cases hj : j = i
   ·subst hj
    rw [hi] at e1; cases e1
    rw [List.getElem?_set_self hiσ] at e2
    cases e2
    exact ⟨u,r,.inl ⟨hk,by simp⟩⟩
   ·rw [List.getElem?_set_ne (Ne.symm hj)] at e2
    obtain ⟨u',r',q⟩:=hl j y v' e1 e2 e3
    refine ⟨u',r',?_⟩
    rcases q with ⟨k,e⟩ | ⟨k,c,e,z⟩
    ·refine .inl ⟨k,?_⟩
     have : y ≠ x:=fun e => hj (lF hN e1 (e ▸ hi))
     simp [this,e]
    ·exact .inr ⟨k,c,e,z.sameBut hs (cne y c e)⟩
  ·obtain ⟨w',z⟩:=I.cell y c e
   exact ⟨w',z.sameBut hs (cne y c e)⟩
  ·obtain ⟨e,n,ne,nf,d⟩:=I.pin p hp
   exact ⟨(hs.2 p.1 ne).trans e,n,ne,nf,d⟩
 ·have hfn : X.fn x = true:=by
   rcases hf with z | z
   ·exact z
   ·rw [z] at hk; cases hk
  obtain ⟨c,hc⟩:=I.ok.has x (.inl hk)
  obtain ⟨w',z⟩:=I.cell x c hc
  refine wpAny_storeName_cell I.ok.kind hk hc z (fun h' hc' hs => ?_)
  obtain ⟨oc,hoc,hocd⟩:=id z
  refine h { s with heap:=h' } ⟨I.ok,I.os,I.bare,⟨fun b o e n hb hx => ?_,fun b o e n hb hx => ?_,I.base.free,fun b o e hx => ?_,I.base.tups,I.base.frzs,I.base.tbls⟩,⟨m,hn.sameBut hs (Ne.symm (cne x c hc)),fun j y v' e1 e2 e3 => ?_⟩,fun y c' e => ?_,I.free,I.freeC,fun p hp => ?_,tracked ⟨oc,hoc,I.freeC x c hc⟩ hs,by simpa using I.len⟩ ⟨c,hs,.inr hc⟩
  ·exact (hs.2 b (Nat.ne_of_lt (Nat.lt_of_lt_of_le (Heap.lt_size e) (I.ok.cab x c hfn hc)))).trans (I.base.keep b o e n hb hx)
  ·obtain ⟨sl,e1⟩:=I.base.slot b o e n hb hx
   exact ⟨sl,(hs.2 b (Nat.ne_of_lt (Nat.lt_of_lt_of_le (Heap.lt_size e) (I.ok.cab x c hfn hc)))).trans e1⟩
  ·obtain ⟨o',e1⟩:=I.base.there b o e hx
   exact ⟨o',(hs.2 b (Nat.ne_of_lt (Nat.lt_of_lt_of_le (Heap.lt_size e) (I.ok.cab x c hfn hc)))).trans e1⟩
  ·by_cases hj : j = i
   ·subst hj
    rw [hi] at e1; cases e1
    rw [List.getElem?_set_self hiσ] at e2
    cases e2
    exact ⟨u,r,.inr ⟨.inl hk,c,hc,hc'⟩⟩
   ·rw [List.getElem?_set_ne (Ne.symm hj)] at e2
    obtain ⟨u',r',q⟩:=hl j y v' e1 e2 e3
    refine ⟨u',r',?_⟩
    rcases q with q | ⟨k,c',e,z'⟩
    ·exact .inl q
    ·refine .inr ⟨k,c',e,z'.sameBut hs ?_⟩
     rintro rfl
     exact hj (lF hN e1 (I.ok.inj _ _ _ e hc ▸ hi))
  ·by_cases hcc : c' = c
   ·subst hcc; exact ⟨_,hc'⟩
   ·obtain ⟨w2,z2⟩:=I.cell y c' e
    exact ⟨w2,z2.sameBut hs hcc⟩
  ·obtain ⟨e,n,ne,nf,d⟩:=I.pin p hp
   refine ⟨(hs.2 p.1 ?_).trans e,n,ne,nf,d⟩
   intro q
   rw [q,hoc] at e
   have q' : oc = p.2:=Option.some.inj e
   exact d w' (by rw [<- q']; exact hocd)
theorem l6 {M : Model} {A : Around} {E : Value -> Shared -> Prop} {i : Nat} {x : Str} {v : V} {u : Value} {Q : Unit -> Shared -> Prop} (I : Inv X pins σ H s) (hN : X.N.Nodup) (hi : X.N[i]? = some x) (hx : Loc X.env.scope x) (r : RelV v u)
  (h : ∀ s',Inv X pins (σ.set i (some v)) H s' -> Q () s') (hf : X.fn x = true \/ X.env.scope.names.lookup x = some .local:=by first | exact .inl rfl | exact .inr rfl | assumption) : wpAny M A (storeName X.env x u) Q E s:=
 jd I hN hi hx r (fun s' I' _ => h s' I') hf
theorem Inv.call' {s' : Shared} {ch : List Addr} (I : Inv X pins σ H s) (ho : s'.os = s.os) (u : Un (frs X.stack) ch H H' s.heap s'.heap) (hok : HOk X.prog X.w H' s'.heap) (hg : AllBare s'.gens)
  (hch : ∀ b ∈ ch,(b ∈ X.ex \/ X.s₀.heap.objs.size <= b) /\ b ≠ X.env.locals /\ (∀ x c,X.env.cells.lookup x = some c -> c ≠ b) /\ ∀ p ∈ X.pn ++ pins,p.1 ≠ b) : Inv X pins σ H' s' := by
 obtain ⟨h',g',d',t',o'⟩:=s'
 have e : o' = s.os:=ho
 subst e
 exact I.call (g' := g') (t' := t') (d' := d') u hok hg hch
end
abbrev XK:=Value -> Option Addr -> Hp -> Prop
abbrev St:=List (Option V)
abbrev VK:=V -> Hp -> Prop
abbrev TE:=St -> Hp -> VK -> Prop
abbrev TT:=St -> Hp -> (Bool -> Hp -> Prop) -> Prop
abbrev TA:=St -> Hp -> (List V -> Hp -> Prop) -> Prop
structure Ends where
 nx : St -> Hp -> Prop
 rt : VK
 bk : St -> Hp -> Prop:=fun _ _ => False
 ct : St -> Hp -> Prop:=fun _ _ => False
abbrev TS:=Ends -> St -> Hp -> Prop
def EP (X : Cx) (pins : List (Addr × Obj)) (σ : St) (Q : VK) (u : Value) (s' : Shared) : Prop := ∃ v H',Inv X pins σ H' s' /\ RelV v u /\ Q v H'
def TP (X : Cx) (pins : List (Addr × Obj)) (σ : St) (Q : Bool -> Hp -> Prop) (b : Bool) (s' : Shared) : Prop := ∃ H',Inv X pins σ H' s' /\ Q b H'
def AP (X : Cx) (pins : List (Addr × Obj)) (σ : St) (Q : List V -> Hp -> Prop) (us : List Value) (s' : Shared) : Prop := ∃ vs H',Inv X pins σ H' s' /\ Vals vs us /\ Q vs H'
def SP (X : Cx) (pins : List (Addr × Obj)) (D : Ends) (f : Flow) (s' : Shared) : Prop:=
 match f with
 | .next => ∃ σ' H',Inv X pins σ' H' s' /\ D.nx σ' H'
 | .brk => ∃ σ' H',Inv X pins σ' H' s' /\ D.bk σ' H'
 | .cont => ∃ σ' H',Inv X pins σ' H' s' /\ D.ct σ' H'
 | .ret u => ∃ v σ' H',Inv X pins σ' H' s' /\ RelV v u /\ D.rt v H'
def PE (X : Cx) (e : Expr) (t : TE) : Prop:=
 ∀ (pins : List (Addr × Obj)) (s : Shared) (σ : St) (H : Hp) (Q : VK),Inv X pins σ H s -> t σ H Q -> wpAny (model X.prog X.w) X.A (eval e X.env) (EP X pins σ Q) X.xe s
def PT (X : Cx) (e : Expr) (t : TT) : Prop:=
 ∀ (pins : List (Addr × Obj)) (s : Shared) (σ : St) (H : Hp) (Q : Bool -> Hp -> Prop),Inv X pins σ H s -> t σ H Q -> wpAny (model X.prog X.w) X.A (isTrue e X.env (eval e X.env)) (TP X pins σ Q) X.xe s
def PW (X : Cx) (e : Expr) (t : TT) : Prop:=
 ∀ (whole : Sem Value) (pins : List (Addr × Obj)) (s : Shared) (σ : St) (H : Hp) (Q : Bool -> Hp -> Prop),Inv X pins σ H s -> t σ H Q -> wpAny (model X.prog X.w) X.A (isTrue e X.env whole) (TP X pins σ Q) X.xe s
theorem PW.pt {X : Cx} {e : Expr} {t : TT} (h : PW X e t) : PT X e t:=h _
def PA (X : Cx) (es : List Expr) (t : TA) : Prop:=
 ∀ (pos : Pos) (pins : List (Addr × Obj)) (s : Shared) (σ : St) (H : Hp) (Q : List V -> Hp -> Prop),Inv X pins σ H s -> t σ H Q -> wpAny (model X.prog X.w) X.A (spliced (backTo pos (starEach es X.env))) (AP X pins σ Q) X.xe s
def PS (X : Cx) (st : Stmt) (t : TS) : Prop:=
 ∀ (pins : List (Addr × Obj)) (s : Shared) (σ : St) (H : Hp) (D : Ends),Inv X pins σ H s -> t D σ H -> wpAny (model X.prog X.w) X.A (exec st X.env) (SP X pins D) X.xe s
def PSs (X : Cx) (st : List Stmt) (t : TS) : Prop:=
 ∀ (pins : List (Addr × Obj)) (s : Shared) (σ : St) (H : Hp) (D : Ends),Inv X pins σ H s -> t D σ H -> wpAny (model X.prog X.w) X.A (execs st X.env) (SP X pins D) X.xe s
theorem thn {α : Type} {t : Sem α} {Q Q' : α -> Shared -> Prop} {M : Model} {A : Around} {E : Value -> Shared -> Prop} {s : Shared} (h : wpAny M A t Q E s) (hQ : ∀ a s,Q a s -> Q' a s) : wpAny M A t Q' E s:=wpAny_mono h hQ fun _ _ x => x
end L2
namespace L2
open PySem PySem.Spec PyProof.Rows
section
variable {X : Cx}
def rG (i : Nat) : TE:=fun σ H Q => ∃ v,σ[i]? = some (some v) /\ Q v H
def tC (v : V) : TE:=fun _ H Q => Q v H
theorem qM {i : Nat} {x : Str} {pos : Pos} (hN : X.N[i]? = some x) (hv : Vis X.env.scope x) (hd : (x == ("__debug__" : Str)) = false:=by decide) (hcd : (x == ("__classdict__" : Str)) = false:=by decide) : PE X (.Name x pos) (rG i):=by
 intro pins s σ H Q I h
 obtain ⟨v,e,h⟩:=h
 obtain ⟨m,hn,hl⟩:=I.loc
 obtain ⟨u,r,l⟩:=hl i x v hN e hv
 have fin : EP X pins σ Q u s:=⟨v,H,I,r,h⟩
 rcases l with ⟨hk,hm⟩ | ⟨hk,c,hc,hcell⟩
 ·exact wpAny_Name (wpAny_loadName_local I.ok.kind hk hn hm fin) hd
 ·rcases hk with hk | hk
  ·exact wpAny_Name (wpAny_loadName_cell I.ok.kind hk hc hcell fin) hd
  ·exact wpAny_Name (wpAny_loadName_free I.ok.kind hk hc hcell fin hcd) hd
theorem ae {i j pos} : PE X (.Constant (.int i) j pos) (tC (.int i)):=fun _ _ _ H _ I h => wpAny_Constant_int ⟨.int i,H,I.tok _,⟨_,rfl⟩,h⟩
theorem av {x j pos} : PE X (.Constant (.str x) j pos) (tC (.str x)):=fun _ _ _ H _ I h => Calls.Constant_str ⟨.str x,H,I.tok _,⟨_,rfl⟩,h⟩
def Gl (X : Cx) (x : Str) : Prop:=X.env.kindOf x = some .globalImplicit
theorem m6 {E : Value -> Shared -> Prop} {pins : List (Addr × Obj)} {s : Shared} {σ : St} {H : Hp} {x : Str} {u : Value} {pos : Pos} {Q : Value -> Shared -> Prop} (I : Inv X pins σ H s) (hg : Gl X x) (hm : X.mg x = some u) (h : Q u s)
  (hd : (x == ("__debug__" : Str)) = false:=by decide) : wpAny (model X.prog X.w) X.A (eval (.Name x pos) X.env) Q E s:=
 Calls.Name_function_global I.ok.kind hg (Calls.loadGlobal_global (by rw [I.ok.glob]; exact I.mod.glob.keeps I.bk) hm h) hd
theorem jS {E : Value -> Shared -> Prop} {pins : List (Addr × Obj)} {s : Shared} {σ : St} {H : Hp} {x : Str} {u : Value} {pos : Pos} {Q : Value -> Shared -> Prop} (I : Inv X pins σ H s) (hg : Gl X x) (hm : X.mg x = none) (hv : bootBuiltins x = some u) (h : Q u s)
  (hn : x ≠ "__name__" := by decide) (hd : (x == ("__debug__" : Str)) = false:=by decide) : wpAny (model X.prog X.w) X.A (eval (.Name x pos) X.env) Q E s:=by
 obtain ⟨mb,h1,h2⟩:=I.mod.blt
 exact Calls.Name_function_global I.ok.kind hg (Calls.loadGlobal_builtin (by rw [I.ok.glob]; exact I.mod.glob.keeps I.bk) hm (by rw [I.ok.blt]; exact h1.keeps I.bk) ((h2 x hn).trans hv) h) hd
theorem nv {x : Str} {v : V} {u : Value} {pos : Pos} (hg : Gl X x) (hm : X.mg x = some u) (r : RelV v u) (hd : (x == ("__debug__" : Str)) = false:=by decide) : PE X (.Name x pos) (tC v):=
 fun _ _ _ H _ I h => m6 I hg hm ⟨v,H,I,r,h⟩ hd
theorem p7 {x : Str} {v : V} {u : Value} {pos : Pos} (hg : Gl X x) (hm : X.mg x = none) (hv : bootBuiltins x = some u) (r : RelV v u) (hn : x ≠ "__name__" := by decide) (hd : (x == ("__debug__" : Str)) = false:=by decide) : PE X (.Name x pos) (tC v):=
 fun _ _ _ H _ I h => jS I hg hm hv ⟨v,H,I,r,h⟩ hn hd
variable {a b : Expr} {ta tb : TE} {pos : Pos}
variable {tA tB' : TT} {rest : List Expr}
def qd (t u : TT) : TT:=fun σ H Q => t σ H fun c H1 => if c = true then u σ H1 Q else Q false H1
theorem gC (ha : PT X a tA) : PW X (.BoolOp .And [a] pos) tA:=by
 intro wh pins s σ H Q I h
 refine isTrue_and (thn (ha pins s σ H Q I h) fun c s1 e => ?_)
 cases c with
 | true => exact isTrue_and_nil e
 | false => exact e
theorem fY (ha : PT X a tA) (hb : PW X (.BoolOp .And (b :: rest) pos) tB') : PW X (.BoolOp .And (a :: b :: rest) pos) (qd tA tB'):=by
 intro wh pins s σ H Q I h
 refine isTrue_and (thn (ha pins s σ H _ I h) fun c s1 ⟨H1,I1,q1⟩ => ?_)
 cases c with
 | true => exact hb wh pins s1 σ H1 Q I1 q1
 | false => exact ⟨H1,I1,q1⟩
def rz (ta tb : TE) : TE:=fun σ H Q => ta σ H fun x H1 => ∃ c,x = .bl c /\ if c = true then tb σ H1 Q else Q (.bl false) H1
theorem o6 {op} {t : TE} (h : PE X a t) : PE X (.BoolOp op [a] pos) t:=fun pins s σ H Q I hw => BoolOp_one (h pins s σ H Q I hw)
theorem mE (ha : PE X a ta) (hb : PE X (.BoolOp .And (b :: rest) pos) tb) : PE X (.BoolOp .And (a :: b :: rest) pos) (rz ta tb):=by
 intro pins s σ H Q I h
 refine BoolOp_and (thn (ha pins s σ H _ I h) fun v s1 ⟨x,H1,I1,r1,q1⟩ => ?_)
 obtain ⟨c,rfl,q1⟩:=q1
 cases r1
 refine wpAny_truthy_bool ?_
 cases c with
 | true => exact hb pins s1 σ H1 Q I1 q1
 | false => exact ⟨.bl false,H1,I1,rfl,q1⟩
def tIf (t : TT) (ta tb : TE) : TE:=fun σ H Q => t σ H fun c H1 => if c = true then ta σ H1 Q else tb σ H1 Q
theorem o4 {c : Expr} (hc : PT X c tA) (ha : PE X a ta) (hb : PE X b tb) : PE X (.IfExp c a b pos) (tIf tA ta tb):=by
 intro pins s σ H Q I h
 refine wpAny_IfExp (thn (hc pins s σ H _ I h) fun d s1 ⟨H1,I1,q1⟩ => ?_)
 cases d with
 | true => exact ha pins s1 σ H1 Q I1 q1
 | false => exact hb pins s1 σ H1 Q I1 q1
end
end L2
namespace L2
open PySem PySem.Spec PyProof.Rows
def SqL (K : PySem.W.Frag) (H : Hp) (a : Addr) (xs : List V) : Prop:=
 Rd H a (.lst xs) \/
  ∃ (o : Obj) (its : Array Value) (n : Nat),K.lookup a = some o /\ o.cls = .type "list" /\ o.dict = none /\ o.data = .seq its n /\ its.size <= sizeLine /\ Vals xs its.toList
def SqT (K : PySem.W.Frag) (H : Hp) (a : Addr) (xs : List V) : Prop:=
 Rd H a (.tup xs) \/
  ∃ (o : Obj) (its : Array Value) (n : Nat),K.lookup a = some o /\ o.cls = .type "tuple" /\ o.data = .seq its n /\ its.size <= sizeLine /\ Vals xs its.toList
def rP : Value -> Option V
 | .none => some .non
 | .bool b => some (.bl b)
 | .int i _ => some (.int i)
 | .str x _ => some (.str x)
 | .bytes b _ => some (.byt b)
 | .float b _ => some (.flt b)
 | .ref a => some (.ref a)
 | .type n => some (.ty n)
 | _ => none
theorem RelV.abs {x : V} {u : Value} (r : RelV x u) : rP u = some x:=by
 cases x with
 | non => cases r; rfl
 | bl _ => cases r; rfl
 | int _ => obtain ⟨t,rfl⟩:=r; rfl
 | str _ => obtain ⟨t,rfl⟩:=r; rfl
 | byt _ => obtain ⟨t,rfl⟩:=r; rfl
 | flt _ => obtain ⟨t,rfl⟩:=r; rfl
 | ref _ => cases r; rfl
 | ty _ => cases r; rfl
theorem RelV.inj {x y : V} {u : Value} (r : RelV x u) (q : RelV y u) : x = y:=Option.some.inj (r.abs.symm.trans q.abs)
theorem Vals.inj : ∀ {xs ys : List V} {us : List Value},Vals xs us -> Vals ys us -> xs = ys
 | _,_,_,.nil,.nil => rfl
 | _,_,_,.cons r t,.cons r' t' => by rw [r.inj r',Vals.inj t t']
section
variable {X : Cx} {pins : List (Addr × Obj)} {σ : St} {H : Hp} {s : Shared} {a : Addr} {xs ys : List V}
theorem SqL.of {K : PySem.W.Frag} (h : H a = some (.lst xs)) : SqL K H a xs:=.inl (.inl h)
theorem SqT.of {K : PySem.W.Frag} (h : H a = some (.tup xs)) : SqT K H a xs:=.inl (.inl h)
theorem Inv.list (I : Inv X pins σ H s) (h : SqL X.K H a xs) : ∃ its : List Value,Vals xs its /\ PlainL s.heap a its.toArray /\ xs.length <= sizeLine:=by
 rcases h with h | ⟨o,its,n,hk,hc,hd,hs,hz,r⟩
 ·obtain ⟨z,its,n,r,e⟩:=h.ok I.hok
  exact ⟨its,r,⟨_,n,e,rfl,rfl,rfl⟩,z⟩
 ·refine ⟨its.toList,r,⟨o,n,I.kIn a o hk,hc,hd,by simpa using hs⟩,?_⟩
  have e:=r.length
  simp only [Array.length_toList] at e
  omega
theorem Inv.tuple (I : Inv X pins σ H s) (h : SqT X.K H a xs) : ∃ its : List Value,Vals xs its /\ IsTup s.heap a its.toArray /\ xs.length <= sizeLine:=by
 rcases h with h | ⟨o,its,n,hk,hc,hs,hz,r⟩
 ·obtain ⟨z,its,r,p⟩:=h.ok I.hok
  exact ⟨its,r,p,z⟩
 ·refine ⟨its.toList,r,⟨o,I.kIn a o hk,hc,n,by simpa using hs⟩,?_⟩
  have e:=r.length
  simp only [Array.length_toList] at e
  omega
theorem Inv.list_inj (I : Inv X pins σ H s) (h : SqL X.K H a xs) (h' : SqL X.K H a ys) : xs = ys:=by
 obtain ⟨its,r,⟨o,n,e,_,_,d⟩,_⟩:=I.list h
 obtain ⟨its',r',⟨o',n',e',_,_,d'⟩,_⟩:=I.list h'
 rw [e] at e'; cases e'
 rw [d] at d'
 injection d' with d1 _
 have : its = its' := by simpa using congrArg Array.toList d1
 subst this
 exact r.inj r'
theorem Inv.tuple_inj (I : Inv X pins σ H s) (h : SqT X.K H a xs) (h' : SqT X.K H a ys) : xs = ys:=by
 obtain ⟨its,r,⟨o,e,_,n,d⟩,_⟩:=I.tuple h
 obtain ⟨its',r',⟨o',e',_,n',d'⟩,_⟩:=I.tuple h'
 rw [e] at e'; cases e'
 rw [d] at d'
 injection d' with d1 _
 have : its = its' := by simpa using congrArg Array.toList d1
 subst this
 exact r.inj r'
end
abbrev Cx.wish (X : Cx) (E : Value -> Shared -> Prop) : Cx:={ X with xe:=E }
abbrev Cx.nox (X : Cx) : Cx:=X.wish fun _ _ => False
theorem Cx.Ok.wish {X : Cx} (ok : X.Ok) (E : Value -> Shared -> Prop) : (X.wish E).Ok:=
 ⟨ok.mod,ok.kind,ok.glob,ok.blt,ok.above,ok.inj,ok.has,ok.cab,ok.hd,ok.frames,ok.stk,ok.exf,ok.bs,ok.bsz,ok.noex,ok.exfs,ok.funs,ok.frf⟩
theorem Cx.Ok.unwish {X : Cx} {E : Value -> Shared -> Prop} (ok : (X.wish E).Ok) : X.Ok:=
 ⟨ok.mod,ok.kind,ok.glob,ok.blt,ok.above,ok.inj,ok.has,ok.cab,ok.hd,ok.frames,ok.stk,ok.exf,ok.bs,ok.bsz,ok.noex,ok.exfs,ok.funs,ok.frf⟩
section
variable {X : Cx} {pins : List (Addr × Obj)} {σ : St} {H : Hp} {s : Shared} {E : Value -> Shared -> Prop}
theorem Inv.wish (I : Inv X pins σ H s) (E : Value -> Shared -> Prop) : Inv (X.wish E) pins σ H s:=⟨I.ok.wish E,I.os,I.bare,I.base,I.loc,I.cell,I.free,I.freeC,I.pin,I.hok,I.len⟩
theorem Inv.unwish (I : Inv (X.wish E) pins σ H s) : Inv X pins σ H s:=⟨I.ok.unwish,I.os,I.bare,I.base,I.loc,I.cell,I.free,I.freeC,I.pin,I.hok,I.len⟩
theorem SP.unwish {D : Ends} {f : Flow} {s' : Shared} (h : SP (X.wish E) pins D f s') : SP X pins D f s' := by
 cases f with
 | next => obtain ⟨σ',H',I,q⟩:=h; exact ⟨σ',H',I.unwish,q⟩
 | brk => obtain ⟨σ',H',I,q⟩:=h; exact ⟨σ',H',I.unwish,q⟩
 | cont => obtain ⟨σ',H',I,q⟩:=h; exact ⟨σ',H',I.unwish,q⟩
 | ret u => obtain ⟨v,σ',H',I,r,q⟩:=h; exact ⟨v,σ',H',I.unwish,r,q⟩
theorem PSs.nox {st : List Stmt} {t : TS} (h : PSs X.nox st t) : PSs X st t:=fun pins s σ H D I hw =>
 wpAny_mono (h pins s σ H D (I.wish _) hw) (fun _ _ q => q.unwish) fun _ _ z => False.elim z
end
section
variable {X : Cx} {st : Stmt} {rest : List Stmt} {t u : TS} {e : Expr} {te : TE} {pos : Pos}
def aJ : TS:=fun D σ H => D.nx σ H
def qg (t u : TS) : TS:=fun D σ H => t { D with nx:=u D } σ H
theorem bG : PSs X [] aJ:=fun _ _ σ H _ I h => wpAny_execs_nil ⟨σ,H,I,h⟩
theorem az (h1 : PS X st t) (h2 : PSs X rest u) : PSs X (st :: rest) (qg t u):=by
 intro pins s σ H D I h
 refine wpAny_execs_cons (thn (h1 pins s σ H { D with nx:=u D } I h) fun f s1 q => ?_)
 cases f with
 | next =>
  obtain ⟨σ',H',I',q⟩:=q
  exact h2 pins s1 σ' H' D I' q
 | ret v => exact q
 | brk => exact q
 | cont => exact q
theorem aA (h1 : PS X st t) : PSs X [st] t:=by
 intro pins s σ H D I h
 refine wpAny_execs_cons (thn (h1 pins s σ H D I h) fun f s1 q => ?_)
 cases f with
 | next => exact wpAny_execs_nil q
 | ret v => exact q
 | brk => exact q
 | cont => exact q
theorem Inv.quiet {pins : List (Addr × Obj)} {σ : St} {H : Hp} {s : Shared} (I : Inv X pins σ H s) : interactive X.env = false:=by simp [interactive,I.ok.kind]
def qp (te : TE) : TS:=fun D σ H => te σ H fun _ H1 => D.nx σ H1
theorem bF (he : PE X e te) (hs : swapsWith e none pos.line X.env = pure false:=by rfl) : PS X (.Expr e pos) (qp te):=by
 intro pins s σ H D I h
 exact wpAny_Expr_any (thn (he pins s σ H _ I h) fun v s1 ⟨x,H1,I1,r1,q1⟩ => ⟨σ,H1,I1,q1⟩) I.quiet hs
def rD (te : TE) : TS:=fun D σ H => te σ H D.rt
theorem br (he : PE X e te) : PS X (.Return (some e) pos) (rD te):=by
 intro pins s σ H D I h
 exact wpAny_Return_some (thn (he pins s σ H _ I h) fun v s1 ⟨x,H1,I1,r1,q1⟩ => ⟨x,σ,H1,I1,r1,q1⟩)
def qf (c : TT) (t u : TS) : TS:=fun D σ H => c σ H fun b H1 => if b = true then t D σ H1 else u D σ H1
theorem cM {c : Expr} {a b : List Stmt} {tc : TT} (hc : PT X c tc) (ha : PSs X a t) (hb : PSs X b u) : PS X (.If c a b pos) (qf tc t u):=by
 intro pins s σ H D I h
 refine wpAny_If (thn (hc pins s σ H _ I h) fun d s1 ⟨H1,I1,q1⟩ => ?_)
 cases d with
 | true => exact ha pins s1 σ H1 D I1 q1
 | false => exact hb pins s1 σ H1 D I1 q1
end
abbrev TG:=V -> St -> Hp -> (St -> Hp -> Prop) -> Prop
abbrev TGs:=List V -> St -> Hp -> (St -> Hp -> Prop) -> Prop
def PG (X : Cx) (target : Expr) (t : TG) : Prop:=
 ∀ (pins : List (Addr × Obj)) (s : Shared) (σ : St) (H : Hp) (v : V) (u : Value) (Q : St -> Hp -> Prop),Inv X pins σ H s -> RelV v u -> t v σ H Q ->
  wpAny (model X.prog X.w) X.A (assign target X.env u) (fun _ s' => ∃ σ' H',Inv X pins σ' H' s' /\ Q σ' H') X.xe s
def PGs (X : Cx) (ts : List Expr) (t : TGs) : Prop:=
 ∀ (pins : List (Addr × Obj)) (s : Shared) (σ : St) (H : Hp) (vs : List V) (us : List Value) (Q : St -> Hp -> Prop),Inv X pins σ H s -> Vals vs us -> t vs σ H Q ->
  wpAny (model X.prog X.w) X.A (assignInOrder ((assignEach ts X.env).map (·.2)) us) (fun _ s' => ∃ σ' H',Inv X pins σ' H' s' /\ Q σ' H') X.xe s
section
variable {X : Cx} {pos : Pos}
def aC (i : Nat) : TG:=fun v σ H Q => Q (σ.set i (some v)) H
theorem aP {i : Nat} {x : Str} (hN : X.N.Nodup) (hi : X.N[i]? = some x) (hx : Loc X.env.scope x) (hf : X.fn x = true \/ X.env.scope.names.lookup x = some .local:=by first | exact .inl rfl | exact .inr rfl | assumption) : PG X (.Name x pos) (aC i):=by
 intro pins s σ H v u Q I r h
 exact wpAny_assign_Name (l6 I hN hi hx r (fun s' I' => ⟨_,H,I',h⟩) hf)
def rR : TGs:=fun vs σ H Q => vs = [] /\ Q σ H
def q0 (t : TG) (u : TGs) : TGs:=fun vs σ H Q => ∃ v r,vs = v :: r /\ t v σ H fun σ' H' => u r σ' H' Q
theorem gB : PGs X [] rR:=by
 intro pins s σ H vs us Q I r h
 obtain ⟨e,h⟩:=h
 subst e
 cases r
 exact assignInOrder_nil ⟨σ,H,I,h⟩
theorem aX {e : Expr} {es : List Expr} {t : TG} {u : TGs} (h1 : PG X e t) (h2 : PGs X es u)
  (hs : (assignEach (e :: es) X.env).map (·.2) = assign e X.env :: (assignEach es X.env).map (·.2):=by rfl) : PGs X (e :: es) (q0 t u):=by
 intro pins s σ H vs us Q I r h
 obtain ⟨v,vr,e1,h⟩:=h
 subst e1
 cases r with
 | cons r rr =>
  rw [hs]
  refine assignInOrder_cons (thn (h1 pins s σ H _ _ _ I r h) fun _ s1 ⟨σ1,H1,I1,q1⟩ => ?_)
  exact h2 pins s1 σ1 H1 _ _ Q I1 rr q1
def kH (te : TE) (g : TG) : TS:=fun D σ H => te σ H fun x H1 => g x σ H1 D.nx
theorem kq {tg e : Expr} {te : TE} {g : TG} (he : PE X e te) (hg : PG X tg g) (hs : swapsWithSole [tg] e pos.line X.env = pure false:=by rfl) (hw : swappedStores [tg] e X.env = pure none:=by rfl)
  (h1 : (assignEach [tg] X.env).map (·.2) = [assign tg X.env]:=by rfl) : PS X (.Assign [tg] e pos) (kH te g):=by
 intro pins s σ H D I h
 refine wpAny_Assign_stores (thn (he pins s σ H _ I h) fun v s1 ⟨x,H1,I1,r1,q1⟩ => ?_) hs hw
 rw [h1]
 exact thn (hg pins s1 σ H1 x v _ I1 r1 q1) fun _ s2 q => q
theorem ay {i : Nat} {x : Str} {e : Expr} {te : TE} {pos' : Pos} (hN : X.N.Nodup) (hi : X.N[i]? = some x) (hx : Loc X.env.scope x) (he : PE X e te) (hs : swapsWith e (some (.Name x pos')) pos.line X.env = pure false:=by rfl) (hf : X.fn x = true \/ X.env.scope.names.lookup x = some .local:=by first | exact .inl rfl | exact .inr rfl | assumption) :
  PS X (.Assign [.Name x pos'] e pos) (kH te (aC i)):=by
 intro pins s σ H D I h
 refine wpAny_Assign_Name (thn (he pins s σ H _ I h) fun v s1 ⟨y,H1,I1,r1,q1⟩ => ?_) hs
 exact l6 I1 hN hi hx r1 (fun s2 I2 => ⟨_,H1,I2,q1⟩) hf
end
section
variable {X : Cx} {pos : Pos}
def mL (c : TT) (tb : TS) : TS:=fun D σ H => ∃ W : Nat -> St -> Hp -> Prop,(∃ m,W m σ H) /\ ∀ m σ H,W m σ H ->
 c σ H fun b H1 => if b = true then ∃ N : St -> Hp -> Prop,(∀ σ' H',N σ' H' -> ∃ m',m' < m /\ W m' σ' H') /\ tb { D with nx:=N,ct:=N,bk:=D.nx } σ H1 else D.nx σ H1
theorem lU {c : Expr} {body : List Stmt} {tc : TT} {tb : TS} (hp : PassesOwn (model X.prog X.w) X.A X.env X.xe) (hc : PT X c tc) (hb : PSs X body tb) : PS X (.While c body [] pos) (mL tc tb):=by
 intro pins s σ H D I h
 obtain ⟨W,⟨m0,w0⟩,turn⟩:=h
 refine wpAny_While (codeAny_whileLoop (fun n s' => ∃ σ' H',Inv X pins σ' H' s' /\ W n σ' H') ?_ m0 ⟨σ,H,I,w0⟩)
 rintro n s1 ⟨σ1,H1,I1,w1⟩
 refine wpAny_passesOwn hp (thn (hc pins s1 σ1 H1 _ I1 (turn n σ1 H1 w1)) fun b s2 ⟨H2,I2,q2⟩ => ?_)
 cases b with
 | true =>
  obtain ⟨N,hN,q2⟩:=q2
  rw [if_pos rfl]
  refine wpAny_passesOwn hp (thn (hb pins s2 σ1 H2 _ I2 q2) fun f s3 q3 => ?_)
  cases f with
  | next =>
   obtain ⟨σ3,H3,I3,n3⟩:=q3
   obtain ⟨m',hm,w3⟩:=hN σ3 H3 n3
   exact ⟨m',hm,σ3,H3,I3,w3⟩
  | cont =>
   obtain ⟨σ3,H3,I3,n3⟩:=q3
   obtain ⟨m',hm,w3⟩:=hN σ3 H3 n3
   exact ⟨m',hm,σ3,H3,I3,w3⟩
  | brk => exact q3
  | ret v => exact q3
 | false =>
  rw [if_neg Bool.false_ne_true]
  exact wpAny_execs_nil ⟨σ1,H2,I2,q2⟩
end
structure It where
 go : Nat -> Hp -> Prop
 yld : Nat -> Hp -> V -> Hp -> Prop
 stop : Nat -> Hp -> Prop
def fQ (X : Cx) (pins : List (Addr × Obj)) (H : Hp) (b : Addr) : Prop:=
 H b = none /\ b ≠ X.env.locals /\ b ∉ X.fs /\ (b ∈ X.ex \/ X.s₀.heap.objs.size <= b) /\ (∀ x c,X.env.cells.lookup x = some c -> c ≠ b) /\ ∀ p ∈ X.pn ++ pins,p.1 ≠ b
theorem Inv.fpOk {X : Cx} {pins : List (Addr × Obj)} {σ : St} {H H' : Hp} {s : Shared} {b : Addr} (I : Inv X pins σ H s) (hb : s.heap.objs.size <= b) (hn : H' b = none) : fQ X pins H' b:=by
 refine ⟨hn,Nat.ne_of_gt (Nat.lt_of_lt_of_le I.lt hb),I.nofs hb,.inr (Nat.le_trans I.sz hb),fun x c e z => ?_,fun p hp z => ?_⟩
 ·obtain ⟨v,q⟩:=I.cell x c e
  exact absurd (Nat.lt_of_lt_of_le q.lt (by rw [z]; exact hb)) (Nat.lt_irrefl _)
 ·exact absurd (Nat.lt_of_lt_of_le (Heap.lt_size (I.pin p hp).1) (by rw [z]; exact hb)) (Nat.lt_irrefl _)
structure Turn (P : Program) (w : World) (K : PySem.W.Frag) (tg : Expr) (J : It) (fp : List Addr) (it : Addr) (tn : Nat -> Heap -> Prop) : Prop where
 mem : it ∈ fp
 obj : ∀ i h,tn i h -> ∀ b ∈ fp,∃ o,h.get? b = some o /\ ∀ v,o.data ≠ .cell v
 keep : ∀ i h h',tn i h -> (∀ b ∈ fp,∀ o,h.get? b = some o -> h'.get? b = some o) -> tn i h'
 item : ∀ (X : Cx),X.prog = P -> X.w = w -> X.K = K -> X.calm = true -> ∀ (i : Nat) (pins : List (Addr × Obj)) (s : Shared) (σ : St) (H : Hp) (E : Value -> Shared -> Prop),Inv X pins σ H s -> (∀ b ∈ fp,fQ X pins H b) -> tn i s.heap -> J.go i H ->
  wpAny (model P w) X.A (pyNext (.ref it)) (fun r s1 => ∃ u,r = some u /\
   wpAny (model P w) X.A (letOwnedTupleGo tg (.ref it) u) (fun _ s2 => ∃ x H',Inv X pins σ H' s2 /\ RelV x u /\ J.yld i H x H' /\ tn (i + 1) s2.heap /\ ∀ b ∈ fp,H' b = none) E s1) E s
 done : ∀ (X : Cx),X.prog = P -> X.w = w -> X.K = K -> X.calm = true -> ∀ (i : Nat) (pins : List (Addr × Obj)) (s : Shared) (σ : St) (H : Hp) (E : Value -> Shared -> Prop),Inv X pins σ H s -> (∀ b ∈ fp,fQ X pins H b) -> tn i s.heap -> J.stop i H ->
  wpAny (model P w) X.A (pyNext (.ref it)) (fun r s1 => r = none /\ Inv X pins σ H s1) E s
 self : ∀ (A : Around) (i : Nat) (s : Shared) (Q : Value -> Shared -> Prop) (E : Value -> Shared -> Prop),tn i s.heap -> Q (.ref it) s -> wpAny (model P w) A (pyIter (.ref it)) Q E s
abbrev TI:=St -> Hp -> (It -> Hp -> Prop) -> Prop
def PIE (X : Cx) (pins : List (Addr × Obj)) (σ : St) (tg : Expr) (R : It -> Hp -> Prop) (itv : Value) (s2 : Shared) : Prop:=
 ∃ (it : Addr) (fp : List Addr) (tn : Nat -> Heap -> Prop) (J : It) (H' : Hp),itv = .ref it /\ Inv X pins σ H' s2 /\ Turn X.prog X.w X.K tg J fp it tn /\ tn 0 s2.heap /\ (∀ b ∈ fp,fQ X pins H' b) /\ R J H'
def PI (X : Cx) (tg iter : Expr) (wi : TI) : Prop:=
 ∀ (pins : List (Addr × Obj)) (s : Shared) (σ : St) (H : Hp) (R : It -> Hp -> Prop),Inv X pins σ H s -> wi σ H R ->
  wpAny (model X.prog X.w) X.A (eval iter X.env) (fun v s1 => wpAny (model X.prog X.w) X.A (pyIter v) (PIE X pins σ tg R) X.xe s1) X.xe s
theorem oD {M : Model} {A : Around} {E : Value -> Shared -> Prop} {s : Shared} {tg : Expr} {it : Addr} {u : Value} {o : Obj} {n : String} {vs : Array Value} {Q : Unit -> Shared -> Prop} (ho : s.heap.get? it = some o) (hc : o.cls = .type n) (hd : o.data = .fields vs)
  (hn : ["enumerate","zip","dict_itemiterator","dict_reverseitemiterator","odict_iterator","itertools.zip_longest","itertools.pairwise"].contains n = false) (hQ : Q () s) : wpAny M A (letOwnedTupleGo tg (.ref it) u) Q E s:=by
 unfold letOwnedTupleGo
 cases tg <;> first
  | exact wpAny_pure hQ
  | (cases u <;> first
    | exact wpAny_pure hQ
    | (refine wpAny_bind (wpAny_load ho ?_)
       rw [hc,hd]
       show wpAny M A (if (["enumerate","zip","dict_itemiterator","dict_reverseitemiterator","odict_iterator","itertools.zip_longest","itertools.pairwise"].contains n && vs[0]? == some (rawInt _)) = true then _ else _) Q E s
       rw [if_neg (by intro h; rw [hn,Bool.false_and] at h; cases h)]
       exact wpAny_pure hQ))
def Itl (K : PySem.W.Frag) (a : Addr) : It:=
 ⟨fun i H => ∃ xs x,SqL K H a xs /\ xs[i]? = some x,fun i H x H' => H' = H /\ ∀ xs,SqL K H a xs -> xs[i]? = some x,fun i H => ∃ xs,SqL K H a xs /\ xs.length <= i⟩
def Itt (K : PySem.W.Frag) (a : Addr) : It:=
 ⟨fun i H => ∃ xs x,SqT K H a xs /\ xs[i]? = some x,fun i H x H' => H' = H /\ ∀ xs,SqT K H a xs -> xs[i]? = some x,fun i H => ∃ xs,SqT K H a xs /\ xs.length <= i⟩
def Itr (lo : Int) (n : Nat) : It:=⟨fun i _ => i < n,fun i H x H' => H' = H /\ x = .int (lo + i),fun i _ => n <= i⟩
theorem oe {P : Program} {w : World} {K : PySem.W.Frag} {tg : Expr} (a it : Addr) : Turn P w K tg (Itl K a) [it] it (fun i h => h.IsListIter it a i) where
 mem:=by simp
 obj:=fun i h st b hb => by
  have e : b = it:=by simpa using hb
  subst e
  obtain ⟨o,e,c,d⟩:=st
  exact ⟨o,e,fun v z => by rw [d] at z; cases z⟩
 keep:=fun i h h' st k => st.at fun o e => k it (by simp) o e
 item:=by
  intro X hP hw hK hc i pins s σ H E I hf st hg
  subst hP hw hK
  obtain ⟨xs,x,hq,hx⟩:=hg
  obtain ⟨its,rv,p,hz⟩:=I.list hq
  obtain ⟨u,hu,ru⟩:=rv.get hx
  obtain ⟨f0,f1,f2,f3,f4,f5⟩:=hf it (by simp)
  refine wpAny_pyNext_list_item st p.isList (x:=u) (by simpa using hu) fun h' st' sb => ?_
  have I1 : Inv X pins σ H { s with heap:=h' }:=I.turned (t' := s.toks) (fun b o hb e => (sb.2 b hb).trans e) f0 f1 f3 f4 f5
  obtain ⟨o,e,c,d⟩:=id st'
  exact ⟨u,rfl,oD (s:={ s with heap:=h' }) e c d (by decide) ⟨x,H,I1,ru,⟨rfl,fun ys hy => by rw [I.list_inj hy hq]; exact hx⟩,st',fun b hb => (hf b hb).1⟩⟩
 done:=by
  intro X hP hw hK hc i pins s σ H E I hf st hg
  subst hP hw hK
  obtain ⟨xs,hq,hx⟩:=hg
  obtain ⟨its,rv,p,hz⟩:=I.list hq
  obtain ⟨f0,f1,f2,f3,f4,f5⟩:=hf it (by simp)
  have hl:=rv.length
  exact wpAny_pyNext_list_end (I.ok.hd hc) st p.isList (by simp; omega) fun h' eb => ⟨rfl,I.turned (t' := s.toks) (fun b o hb e => eb b o hb e) f0 f1 f3 f4 f5⟩
 self:=fun _ _ _ _ _ st h => wpAny_pyIter_listiter st h
theorem mN {P : Program} {w : World} {K : PySem.W.Frag} {tg : Expr} (a it : Addr) : Turn P w K tg (Itt K a) [it] it (fun i h => h.IsTupleIter it a i) where
 mem:=by simp
 obj:=fun i h st b hb => by
  have e : b = it:=by simpa using hb
  subst e
  obtain ⟨o,e,c,d⟩:=st
  exact ⟨o,e,fun v z => by rw [d] at z; cases z⟩
 keep:=fun i h h' st k => st.at fun o e => k it (by simp) o e
 item:=by
  intro X hP hw hK hc i pins s σ H E I hf st hg
  subst hP hw hK
  obtain ⟨xs,x,hq,hx⟩:=hg
  obtain ⟨its,rv,p,hz⟩:=I.tuple hq
  obtain ⟨u,hu,ru⟩:=rv.get hx
  obtain ⟨f0,f1,f2,f3,f4,f5⟩:=hf it (by simp)
  refine wpAny_pyNext_tuple_item st (show s.heap.IsTuple a its.toArray from p) (x:=u) (by simpa using hu) fun h' st' sb => ?_
  have I1 : Inv X pins σ H { s with heap:=h' }:=I.turned (t' := s.toks) (fun b o hb e => (sb.2 b hb).trans e) f0 f1 f3 f4 f5
  obtain ⟨o,e,c,d⟩:=id st'
  exact ⟨u,rfl,oD (s:={ s with heap:=h' }) e c d (by decide) ⟨x,H,I1,ru,⟨rfl,fun ys hy => by rw [I.tuple_inj hy hq]; exact hx⟩,st',fun b hb => (hf b hb).1⟩⟩
 done:=by
  intro X hP hw hK hc i pins s σ H E I hf st hg
  subst hP hw hK
  obtain ⟨xs,hq,hx⟩:=hg
  obtain ⟨its,rv,p,hz⟩:=I.tuple hq
  obtain ⟨f0,f1,f2,f3,f4,f5⟩:=hf it (by simp)
  have hl:=rv.length
  exact wpAny_pyNext_tuple_end (I.ok.hd hc) st (show s.heap.IsTuple a its.toArray from p) (by simp; omega) fun h' eb => ⟨rfl,I.turned (t' := s.toks) (fun b o hb e => eb b o hb e) f0 f1 f3 f4 f5⟩
 self:=fun _ _ _ _ _ st h => wpAny_pyIter_tupleiter st h
theorem mM {P : Program} {w : World} {K : PySem.W.Frag} {tg : Expr} (it : Addr) (lo : Int) (n : Nat) : Turn P w K tg (Itr lo n) [it] it (fun i h => IsRangeIter h it (lo + (i : Nat) * 1) ((n : Int) - (i : Nat)) 1) where
 mem:=by simp
 obj:=fun i h st b hb => by
  have e : b = it:=by simpa using hb
  subst e
  exact ⟨_,st,fun v z => by
   have z' : Data.fields _ = Data.cell v:=z
   cases z'⟩
 keep:=fun i h h' st k => k it (by simp) _ st
 item:=by
  intro X hP hw hK hc i pins s σ H E I hf st hg
  subst hP hw hK
  obtain ⟨f0,f1,f2,f3,f4,f5⟩:=hf it (by simp)
  have W:=Walks.range (prog:=X.prog) (w:=X.w) (I.ok.hd hc) it lo 1 n
  refine W.item i s _ _ hg st fun v h' tk hv st' kk => ?_
  obtain ⟨t,rfl⟩:=hv
  have I1 : Inv X pins σ H { s with heap:=h',toks:=tk }:=I.turned (fun b o hb e => kk b o (by simpa using hb) e) f0 f1 f3 f4 f5
  refine ⟨_,rfl,oD (s:={ s with heap:=h',toks:=tk }) (n := "range_iterator") st' rfl rfl (by decide) ⟨.int (lo + i),H,I1,⟨t,?_⟩,⟨rfl,rfl⟩,st',fun b hb => (hf b hb).1⟩⟩
  rw [Int.mul_one]
 done:=by
  intro X hP hw hK hc i pins s σ H E I hf st hg
  subst hP hw hK
  obtain ⟨f0,f1,f2,f3,f4,f5⟩:=hf it (by simp)
  exact wpAny_pyNext_range_end (I.ok.hd hc) st (by have : n <= i:=hg; omega) fun h' eb => ⟨rfl,I.turned (t' := s.toks) (fun b o hb e => eb b o hb e) f0 f1 f3 f4 f5⟩
 self:=fun _ _ _ _ _ st h => wpAny_pyIter_rangeiter st h
end L2
namespace L2
open PySem PySem.Spec PyProof.Rows
section
variable {X : Cx} {tg : Expr}
def q5 (K : PySem.W.Frag) (tl : TE) : TI:=fun σ H R => tl σ H fun x H1 => ∃ a,x = .ref a /\ (∃ xs,SqL K H1 a xs) /\ R (Itl K a) H1
def rS (K : PySem.W.Frag) (tl : TE) : TI:=fun σ H R => tl σ H fun x H1 => ∃ a,x = .ref a /\ (∃ xs,SqT K H1 a xs) /\ R (Itt K a) H1
theorem ke {l : Expr} {tl : TE} (hl : PE X l tl) : PI X tg l (q5 X.K tl):=by
 intro pins s σ H R I h
 refine thn (hl pins s σ H _ I h) fun v s1 ⟨x,H1,I1,r1,q1⟩ => ?_
 obtain ⟨a,e,⟨xs,hq⟩,q⟩:=q1
 subst e
 cases r1
 obtain ⟨its,rv,p,hz⟩:=I1.list hq
 refine wpAny_pyIter_list p.isList ?_
 refine ⟨s1.heap.objs.size,[s1.heap.objs.size],_,_,H1,rfl,I1.kept (t' := s1.toks) fun b o e => Heap.get?_push_of_some _ e,oe a _,⟨_,Heap.get?_push_size _ rfl,rfl,rfl⟩,fun b hb => ?_,q⟩
 have e : b = s1.heap.objs.size:=by simpa using hb
 subst e
 exact I1.fpOk (Nat.le_refl _) (I1.hok.fresh (Nat.le_refl _))
theorem qN {l : Expr} {tl : TE} (hl : PE X l tl) : PI X tg l (rS X.K tl):=by
 intro pins s σ H R I h
 refine thn (hl pins s σ H _ I h) fun v s1 ⟨x,H1,I1,r1,q1⟩ => ?_
 obtain ⟨a,e,⟨xs,hq⟩,q⟩:=q1
 subst e
 cases r1
 obtain ⟨its,rv,p,hz⟩:=I1.tuple hq
 refine wpAny_pyIter_tuple (show s1.heap.IsTuple a its.toArray from p) ?_
 refine ⟨s1.heap.objs.size,[s1.heap.objs.size],_,_,H1,rfl,I1.kept (t' := s1.toks) fun b o e => Heap.get?_push_of_some _ e,mN a _,⟨_,Heap.get?_push_size _ rfl,rfl,rfl⟩,fun b hb => ?_,q⟩
 have e : b = s1.heap.objs.size:=by simpa using hb
 subst e
 exact I1.fpOk (Nat.le_refl _) (I1.hok.fresh (Nat.le_refl _))
theorem pe {pins : List (Addr × Obj)} {σ : St} {H : Hp} {s : Shared} {R : It -> Hp -> Prop} {E : Value -> Shared -> Prop} {lo hi : Int} {t u v : Tok} {tk : Nat} (I : Inv X pins σ H s) (h1 : -(2 ^ 62) <= lo) (h2 : lo < 2 ^ 62) (h3 : -(2 ^ 62) <= hi) (h4 : hi < 2 ^ 62)
  (q : R (Itr lo (hi - lo).toNat) H) : wpAny (model X.prog X.w) X.A (pyIter (.ref s.heap.objs.size)) (PIE X pins σ tg R) E { s with heap:=s.heap.push { cls:=.type "range",data:=.fields #[.int lo t,.int hi u,.int 1 v] },toks:=tk }:=by
 refine wpAny_pyIter_range (IsRange.new ..) (small_one h1 h2 h3 h4) ?_
 have I1 : Inv X pins σ H { s with heap:=s.heap.push { cls:=.type "range",data:=.fields #[.int lo t,.int hi u,.int 1 v] },toks:=tk }:=I.kept fun b o e => Heap.get?_push_of_some _ e
 refine ⟨(s.heap.push { cls:=.type "range",data:=.fields #[.int lo t,.int hi u,.int 1 v] }).objs.size,[(s.heap.push { cls:=.type "range",data:=.fields #[.int lo t,.int hi u,.int 1 v] }).objs.size],_,_,H,rfl,
  I1.kept (t' := tk) fun b o e => Heap.get?_push_of_some _ e,mM _ lo (hi - lo).toNat,?_,fun b hb => ?_,q⟩
 ·have e1 : lo + ((0 : Nat) : Int) * 1 = lo:=by simp
  have e2 : (((hi - lo).toNat : Nat) : Int) - ((0 : Nat) : Int) = Builtin.Range.rangeSize lo hi 1:=by rw [rangeSize_one]; split <;> omega
  show IsRangeIter _ _ (lo + ((0 : Nat) : Int) * 1) ((((hi - lo).toNat : Nat) : Int) - ((0 : Nat) : Int)) 1
  rw [e1,e2]
  exact Heap.get?_push_size _ rfl
 ·have e : b = (s.heap.push { cls:=.type "range",data:=.fields #[.int lo t,.int hi u,.int 1 v] }).objs.size:=by simpa using hb
  subst e
  exact I1.fpOk (Nat.le_refl _) (I1.hok.fresh (Nat.le_refl _))
def q8 (ta : TA) : TI:=fun σ H R => ta σ H fun vs H1 => ∃ j : Int,vs = [.int j] /\ -(2 ^ 62) <= j /\ j < 2 ^ 62 /\ R (Itr 0 j.toNat) H1
theorem ja {a : Expr} {ta : TA} {p pos : Pos} (hg : Gl X "range") (hm : X.mg "range" = none) (ha : PA X [a] ta) (hs : starEach [a] X.env = [(false,eval a X.env)]:=by rfl) : PI X tg (.Call (.Name "range" p) [a] [] pos) (q8 ta):=by
 intro pins s σ H R I h
 refine Call_ (jS I hg hm boot_range (PyProof.Rows.callWith_type1 (thn (ha pos pins s σ H _ I h) fun us s1 ⟨vs,H1,I1,r1,q1⟩ => ?_) hs rfl))
 obtain ⟨j,e,q1,q2,q⟩:=q1
 subst e
 cases r1 with
 | cons r rr =>
  cases rr
  obtain ⟨t,rfl⟩:=r
  exact call_range_1 (pe I1 (by omega) (by omega) q1 q2 (by simpa using q))
def qe (wi : TI) (g : TG) (tb : TS) : TS:=fun D σ H => wi σ H fun J H1 => ∃ W : Nat -> Nat -> St -> Hp -> Prop,(∃ m,W 0 m σ H1) /\ ∀ i m σ H,W i m σ H ->
 (J.stop i H /\ D.nx σ H) \/ (J.go i H /\ ∃ N : St -> Hp -> Prop,(∀ σ' H',N σ' H' -> ∃ m',m' < m /\ W (i + 1) m' σ' H') /\ ∀ x H',J.yld i H x H' -> g x σ H' fun σ2 H2 => tb { D with nx:=N,ct:=N,bk:=D.nx } σ2 H2)
def kg (fp : List Addr) (h : Heap) : List (Addr × Obj):=fp.filterMap fun b => (h.get? b).map fun o => (b,o)
theorem bz {fp : List Addr} {h : Heap} {b : Addr} {o : Obj} (hb : b ∈ fp) (e : h.get? b = some o) : (b,o) ∈ kg fp h:=List.mem_filterMap.mpr ⟨b,hb,by rw [e]; rfl⟩
theorem nZ {fp : List Addr} {h : Heap} {p : Addr × Obj} (hp : p ∈ kg fp h) : p.1 ∈ fp /\ h.get? p.1 = some p.2:=by
 obtain ⟨b,hb,e⟩:=List.mem_filterMap.mp hp
 cases q : h.get? b with
 | none => rw [q] at e; cases e
 | some o =>
  rw [q] at e
  have e' : (b,o) = p:=Option.some.inj e
  subst e'
  exact ⟨hb,q⟩
theorem Inv.pinned {pins : List (Addr × Obj)} {σ : St} {H : Hp} {s : Shared} {fp : List Addr} (I : Inv X pins σ H s) (hf : ∀ b ∈ fp,fQ X pins H b) (ho : ∀ b ∈ fp,∃ o,s.heap.get? b = some o /\ ∀ v,o.data ≠ .cell v) : Inv X (pins ++ kg fp s.heap) σ H s:=
 I.pins_of fun p hp => (List.mem_append.mp hp).elim (fun z => I.pin p (List.mem_append_right _ z)) fun z => by
  obtain ⟨hb,e⟩:=nZ z
  obtain ⟨f0,f1,f2,_⟩:=hf p.1 hb
  obtain ⟨o,e',d⟩:=ho p.1 hb
  rw [e] at e'; cases e'
  exact ⟨e,f0,f1,f2,d⟩
theorem Inv.unpinned {pins pl : List (Addr × Obj)} {σ : St} {H : Hp} {s : Shared} (I : Inv X (pins ++ pl) σ H s) : Inv X pins σ H s:=I.pins_of fun p hp => I.pin p (List.mem_append_right _ (List.mem_append_left _ hp))
theorem pd {iter : Expr} {body : List Stmt} {wi : TI} {g : TG} {tb : TS} {pos : Pos} (hp : PassesOwn (model X.prog X.w) X.A X.env X.xe) (hc : X.calm = true) (hi : PI X tg iter wi) (hg : PG X tg g) (hb : PSs X body tb)
  (hs : ∀ x,foldedSetIterable iter X.env x = pure x:=by intro _; rfl) : PS X (.For tg iter body [] pos) (qe wi g tb):=by
 intro pins s σ H D I h
 refine wpAny_For (thn (hi pins s σ H _ I h) fun v s1 h1 => thn h1 fun itv s2 h2 => ?_) hs
 obtain ⟨it,fp,tn,J,H2,e,I2,T,st2,f2,W,⟨m0,w0⟩,turn⟩:=h2
 subst e
 have stat : ∀ {H' : Hp},(∀ b ∈ fp,H' b = none) -> ∀ b ∈ fp,fQ X pins H' b:=fun hn b hb => ⟨hn b hb,(f2 b hb).2⟩
 refine codeAny_forLoop_any (fun n s' => ∃ i σ' H',Inv X pins σ' H' s' /\ tn i s'.heap /\ (∀ b ∈ fp,H' b = none) /\ W i n σ' H') ?_ m0 ⟨0,σ,H2,I2,st2,fun b hb => (f2 b hb).1,w0⟩
 rintro n s3 ⟨i,σ3,H3,I3,st3,fr3,w3⟩
 rcases turn i n σ3 H3 w3 with ⟨stop,qn⟩ | ⟨go,N,hN,step⟩
 ·refine wpAny_passesOwn hp (thn (T.done X rfl rfl rfl hc i pins s3 σ3 H3 X.xe I3 (stat fr3) st3 stop) fun r s4 ⟨hr,I4⟩ => ?_)
  subst hr
  exact wpAny_execs_nil ⟨σ3,H3,I4,qn⟩
 ·refine wpAny_passesOwn hp (thn (T.item X rfl rfl rfl hc i pins s3 σ3 H3 X.xe I3 (stat fr3) st3 go) fun r s4 ⟨u,hr,h4⟩ => ?_)
  subst hr
  refine wpAny_passesOwn hp (thn h4 fun _ s5 ⟨x,H5,I5,r5,y5,st5,fr5⟩ => ?_)
  have I5' := I5.pinned (stat fr5) (T.obj _ _ st5)
  refine wpAny_passesOwn hp (thn (hg _ s5 σ3 H5 x u _ I5' r5 (step x H5 y5)) fun _ s6 ⟨σ6,H6,I6,q6⟩ => ?_)
  refine wpAny_passesOwn hp (thn (hb _ s6 σ6 H6 _ I6 q6) fun f s7 q7 => ?_)
  have again : ∀ {σ7 : St} {H7 : Hp},Inv X (pins ++ kg fp s5.heap) σ7 H7 s7 -> N σ7 H7 -> ∃ m,m < n /\ ∃ i σ' H',Inv X pins σ' H' s7 /\ tn i s7.heap /\ (∀ b ∈ fp,H' b = none) /\ W i m σ' H' := fun {σ7 H7} I7 n7 => by
   obtain ⟨m',hm,w7⟩:=hN σ7 H7 n7
   refine ⟨m',hm,i + 1,σ7,H7,I7.unpinned,T.keep _ _ _ st5 fun b hb o e => (I7.pin (b,o) (List.mem_append_right _ (List.mem_append_right _ (bz hb e)))).1,fun b hb => ?_,w7⟩
   obtain ⟨o,e,d⟩:=T.obj _ _ st5 b hb
   exact (I7.pin (b,o) (List.mem_append_right _ (List.mem_append_right _ (bz hb e)))).2.1
  cases f with
  | next => obtain ⟨σ7,H7,I7,n7⟩:=q7; exact again I7 n7
  | cont => obtain ⟨σ7,H7,I7,n7⟩:=q7; exact again I7 n7
  | brk => obtain ⟨σ7,H7,I7,q7⟩:=q7; exact ⟨σ7,H7,I7.unpinned,q7⟩
  | ret v => obtain ⟨x7,σ7,H7,I7,r7,q7⟩:=q7; exact ⟨x7,σ7,H7,I7.unpinned,r7,q7⟩
end
theorem i5 {lo : Int} {n : Nat} {g : TG} {tb : TS} {D : Ends} {σ : St} {H : Hp} (Pv : Nat -> St -> Hp -> Prop) (h0 : Pv 0 σ H)
  (hs : ∀ i σ H,i < n -> Pv i σ H -> g (.int (lo + i)) σ H fun σ2 H2 => tb { D with nx:=Pv (i + 1),ct:=Pv (i + 1),bk:=D.nx } σ2 H2) (hd : ∀ σ H,Pv n σ H -> D.nx σ H) :
  ∃ W : Nat -> Nat -> St -> Hp -> Prop,(∃ m,W 0 m σ H) /\ ∀ i m σ H,W i m σ H ->
   ((Itr lo n).stop i H /\ D.nx σ H) \/ ((Itr lo n).go i H /\ ∃ N : St -> Hp -> Prop,(∀ σ' H',N σ' H' -> ∃ m',m' < m /\ W (i + 1) m' σ' H') /\ ∀ x H',(Itr lo n).yld i H x H' -> g x σ H' fun σ2 H2 => tb { D with nx:=N,ct:=N,bk:=D.nx } σ2 H2):=by
 refine ⟨fun i m σ H => m = n - i /\ i <= n /\ Pv i σ H,⟨n,by simp,Nat.zero_le _,h0⟩,?_⟩
 rintro i m σ H ⟨rfl,hi,p⟩
 by_cases hlt : i < n
 ·refine .inr ⟨hlt,Pv (i + 1),fun σ' H' p' => ⟨n - (i + 1),by omega,rfl,hlt,p'⟩,fun x H' y => ?_⟩
  obtain ⟨e,y⟩:=y
  subst e y
  exact hs i σ _ hlt p
 ·have e : i = n:=by omega
  subst e
  exact .inl ⟨Nat.le_refl _,hd σ H p⟩
end L2
namespace L2
open PySem PySem.Spec PyProof.Rows
abbrev R2:=V -> V -> Hp -> VK -> Prop
def OpR (X : Cx) (f : Value -> Value -> Sem Value) (r : R2) : Prop:=
 ∀ (pins : List (Addr × Obj)) (s : Shared) (σ : St) (H : Hp) (x y : V) (v u : Value) (Q : VK),Inv X pins σ H s -> RelV x v -> RelV y u -> r x y H Q ->
  wpAny (model X.prog X.w) X.A (f v u) (EP X pins σ Q) X.xe s
def cE (X : Cx) (f : Value) (r : List V -> Hp -> VK -> Prop) : Prop:=
 ∀ (pins : List (Addr × Obj)) (s : Shared) (σ : St) (H : Hp) (xs : List V) (us : List Value) (Q : VK),Inv X pins σ H s -> Vals xs us -> r xs H Q ->
  wpAny (model X.prog X.w) X.A (call f us) (EP X pins σ Q) X.xe s
def tOp (r : R2) (ta tb : TE) : TE:=fun σ H Q => ta σ H fun x H1 => tb σ H1 fun y H2 => r x y H2 Q
def rI (C : Int -> Int -> Prop) (g : Int -> Int -> V) : R2:=fun x y H Q => ∃ i j,x = .int i /\ y = .int j /\ C i j /\ Q (g i j) H
def rI0 (g : Int -> Int -> V) : R2:=fun x y H Q => ∃ i j,x = .int i /\ y = .int j /\ Q (g i j) H
section
variable {X : Cx} {a b c : Expr} {ta tb tc : TE} {pos : Pos}
theorem qv (ha : PE X a ta) (hb : PE X b tb) {pins : List (Addr × Obj)} {s : Shared} {σ : St} {H : Hp} {R : V -> V -> Hp -> Prop} (I : Inv X pins σ H s)
  (h : ta σ H fun x H1 => tb σ H1 fun y H2 => R x y H2) {Q : Value -> Shared -> Prop} {f : Value -> Value -> Sem Value}
  (hf : ∀ v u s2 x y H2,Inv X pins σ H2 s2 -> RelV x v -> RelV y u -> R x y H2 -> wpAny (model X.prog X.w) X.A (f v u) Q X.xe s2) :
  wpAny (model X.prog X.w) X.A (eval a X.env) (fun v s₁ => wpAny (model X.prog X.w) X.A (eval b X.env) (fun u s₂ => wpAny (model X.prog X.w) X.A (f v u) Q X.xe s₂) X.xe s₁) X.xe s:=by
 refine thn (ha pins s σ H _ I h) fun v s1 ⟨x,H1,I1,r1,q1⟩ => ?_
 refine thn (hb pins s1 σ H1 _ I1 q1) fun u s2 ⟨y,H2,I2,r2,q2⟩ => ?_
 exact hf v u s2 x y H2 I2 r1 r2 q2
theorem ag {op : Operator} {r : R2} (ho : OpR X (binaryOp op) r) (ha : PE X a ta) (hb : PE X b tb) : PE X (.BinOp a op b pos) (tOp r ta tb):=by
 intro pins s σ H Q I h
 exact wpAny_BinOp (qv ha hb I h fun v u s2 x y H2 I2 rx ry q => ho pins s2 σ H2 x y v u Q I2 rx ry q)
theorem opI {f : Value -> Value -> Sem Value} {C : Int -> Int -> Prop} {g : Int -> Int -> Int}
  (rule : ∀ (i j : Int) (t u : Tok) (s : Shared) (Q : Value -> Shared -> Prop) (E : Value -> Shared -> Prop),C i j -> Q (.int (g i j) s.toks) { s with toks:=s.toks + 1 } -> wpAny (model X.prog X.w) X.A (f (.int i t) (.int j u)) Q E s) :
  OpR X f (rI C fun i j => .int (g i j)):=by
 intro pins s σ H x y v u Q I rx ry h
 obtain ⟨i,j,rfl,rfl,hc,q⟩:=h
 obtain ⟨t,rfl⟩:=rx
 obtain ⟨t',rfl⟩:=ry
 exact rule i j t t' s _ _ hc ⟨.int (g i j),H,I.tok _,⟨_,rfl⟩,q⟩
theorem rj {f : Value -> Value -> Sem Value} {g : Int -> Int -> Int}
  (rule : ∀ (i j : Int) (t u : Tok) (s : Shared) (Q : Value -> Shared -> Prop) (E : Value -> Shared -> Prop),Q (.int (g i j) s.toks) { s with toks:=s.toks + 1 } -> wpAny (model X.prog X.w) X.A (f (.int i t) (.int j u)) Q E s) :
  OpR X f (rI0 fun i j => .int (g i j)):=by
 intro pins s σ H x y v u Q I rx ry h
 obtain ⟨i,j,rfl,rfl,q⟩:=h
 obtain ⟨t,rfl⟩:=rx
 obtain ⟨t',rfl⟩:=ry
 exact rule i j t t' s _ _ ⟨.int (g i j),H,I.tok _,⟨_,rfl⟩,q⟩
theorem rh {f : Value -> Value -> Sem Value} {g : Int -> Int -> Bool}
  (rule : ∀ (i j : Int) (t u : Tok) (s : Shared) (Q : Value -> Shared -> Prop) (E : Value -> Shared -> Prop),Q (.bool (g i j)) s -> wpAny (model X.prog X.w) X.A (f (.int i t) (.int j u)) Q E s) :
  OpR X f (rI0 fun i j => .bl (g i j)):=by
 intro pins s σ H x y v u Q I rx ry h
 obtain ⟨i,j,rfl,rfl,q⟩:=h
 obtain ⟨t,rfl⟩:=rx
 obtain ⟨t',rfl⟩:=ry
 exact rule i j t t' s _ _ ⟨.bl (g i j),H,I,rfl,q⟩
def rN (i j : Int) : Prop:=0 < j /\ j < 1073741824
def CMul (i j : Int) : Prop:=(-(2 ^ 64) < i /\ i < 2 ^ 64) \/ (-(2 ^ 64) < j /\ j < 2 ^ 64)
theorem CMul.ok {i j : Int} (h : CMul i j) : IntMulOk i j:=by
 rcases h with ⟨h1,h2⟩ | ⟨h1,h2⟩
 ·exact .of_left (intBits_le_64 h1 h2)
 ·exact .of_right (intBits_le_64 h1 h2)
theorem a8 : OpR X (binaryOp .Add) (rI0 fun i j => .int (i + j)):=rj fun _ _ _ _ _ _ _ q => add_int q
theorem mD : OpR X (binaryOp .Sub) (rI0 fun i j => .int (i - j)):=rj fun _ _ _ _ _ _ _ q => sub_int q
theorem fh : OpR X (binaryOp .Mult) (rI CMul fun i j => .int (i * j)):=opI fun _ _ _ _ _ _ _ hc q => mul_int q hc.ok
theorem aW : OpR X (binaryOp .FloorDiv) (rI rN fun i j => .int (i / j)):=opI fun i j _ _ _ _ _ hc q => by
 have h1 : (0 : Int) < j:=hc.1
 have h2 : j < 1073741824:=hc.2
 exact floordiv_int (by omega) (by rw [Int.fdiv_eq_ediv_of_nonneg i (by omega)]; exact q) (.inl (PyProof.noPylong_small (by omega)))
theorem aF : OpR X (binaryOp .Mod) (rI (fun _ j => 0 < j) fun i j => .int (i % j)):=opI fun i j _ _ _ _ _ hc q => by
 have h1 : (0 : Int) < j:=hc
 exact mod_int' (by omega) (by rw [Int.fmod_eq_emod_of_nonneg i (by omega)]; exact q)
end
def rq : V -> V -> Bool
 | .non,.non => true | .non,.int _ => true | .int _,.non => true | .non,.bl _ => true | .bl _,.non => true | .non,.str _ => true | .str _,.non => true
 | .int _,.int _ => true | .bl _,.bl _ => true | .str _,.str _ => true | .byt _,.byt _ => true
 | .int _,.str _ => true | .str _,.int _ => true | .bl _,.str _ => true | .str _,.bl _ => true
 | _,_ => false
def rEq : R2:=fun x y H Q => rq x y = true /\ Q (.bl (decide (x = y))) H
def rNe : R2:=fun x y H Q => rq x y = true /\ Q (.bl (!decide (x = y))) H
theorem mU {i j : Int} : decide (V.int i = V.int j) = (i == j):=by
 rw [Bool.eq_iff_iff]
 simp
theorem oA {i j : Bool} : decide (V.bl i = V.bl j) = (i == j):=by
 rw [Bool.eq_iff_iff]
 simp
theorem mV {i j : Str} : decide (V.str i = V.str j) = (i == j):=by
 rw [Bool.eq_iff_iff]
 simp
theorem mT {i j : Array UInt8} : decide (V.byt i = V.byt j) = (i.toList == j.toList):=by
 rw [Bool.eq_iff_iff]
 cases i
 cases j
 simp
section
variable {X : Cx} {a b c : Expr} {ta tb tc : TE} {pos : Pos}
theorem aE {pins : List (Addr × Obj)} {σ : St} {H : Hp} {s : Shared} {Q : VK} {k k' : Bool} (I : Inv X pins σ H s) (q : Q (.bl k) H) (e : k = k') : EP X pins σ Q (.bool k') s:=by
 subst e
 exact ⟨.bl k,H,I,rfl,q⟩
theorem cA : OpR X (compareOp .Eq) rEq:=by
 intro pins s σ H x y v u Q I rx ry h
 obtain ⟨hs,q⟩:=h
 cases x with
 | non =>
  cases rx
  cases y with
  | non => cases ry; exact PySem.EqNone.eq_none_none (aE I q (by simp))
  | bl j => cases ry; exact PySem.EqNone.eq_none_bool (aE I q (by simp))
  | int j => obtain ⟨t',rfl⟩:=ry; exact PySem.EqNone.eq_none_int (aE I q (by simp))
  | str j => obtain ⟨t',rfl⟩:=ry; exact PySem.EqNone.eq_none_str (aE I q (by simp))
  | _ => exact absurd (show false = true from hs) Bool.false_ne_true
 | bl i =>
  cases rx
  cases y with
  | non => cases ry; exact PySem.EqNone.eq_bool_none (aE I q (by simp))
  | bl j => cases ry; exact eq_bool (aE I q oA)
  | str j => obtain ⟨t',rfl⟩:=ry; exact PySem.EqMixed.eq_bool_str (aE I q (by simp))
  | _ => exact absurd (show false = true from hs) Bool.false_ne_true
 | int i =>
  obtain ⟨t,rfl⟩:=rx
  cases y with
  | non => cases ry; exact PySem.EqNone.eq_int_none (aE I q (by simp))
  | int j => obtain ⟨t',rfl⟩:=ry; exact eq_int (aE I q mU)
  | str j => obtain ⟨t',rfl⟩:=ry; exact PySem.EqMixed.eq_int_str (aE I q (by simp))
  | _ => exact absurd (show false = true from hs) Bool.false_ne_true
 | str i =>
  obtain ⟨t,rfl⟩:=rx
  cases y with
  | non => cases ry; exact PySem.EqNone.eq_str_none (aE I q (by simp))
  | bl j => cases ry; exact PySem.EqMixed.eq_str_bool (aE I q (by simp))
  | int j => obtain ⟨t',rfl⟩:=ry; exact PySem.EqMixed.eq_str_int (aE I q (by simp))
  | str j => obtain ⟨t',rfl⟩:=ry; exact eq_str (aE I q mV)
  | _ => exact absurd (show false = true from hs) Bool.false_ne_true
 | byt i =>
  obtain ⟨t,rfl⟩:=rx
  cases y with
  | byt j => obtain ⟨t',rfl⟩:=ry; exact PySem.W.eq_bytes (aE I q mT)
  | _ => exact absurd (show false = true from hs) Bool.false_ne_true
 | _ => cases y <;> exact absurd (show false = true from hs) Bool.false_ne_true
theorem rk : OpR X (compareOp .NotEq) rNe:=by
 intro pins s σ H x y v u Q I rx ry h
 obtain ⟨hs,q⟩:=h
 cases x with
 | non =>
  cases rx
  cases y with
  | non => cases ry; exact PySem.EqNone.ne_none_none (aE I q (by simp))
  | bl j => cases ry; exact PySem.EqNone.ne_none_bool (aE I q (by simp))
  | int j => obtain ⟨t',rfl⟩:=ry; exact PySem.EqNone.ne_none_int (aE I q (by simp))
  | str j => obtain ⟨t',rfl⟩:=ry; exact PySem.EqNone.ne_none_str (aE I q (by simp))
  | _ => exact absurd (show false = true from hs) Bool.false_ne_true
 | bl i =>
  cases rx
  cases y with
  | non => cases ry; exact PySem.EqNone.ne_bool_none (aE I q (by simp))
  | bl j => cases ry; exact ne_bool (aE I q (congrArg not oA))
  | str j => obtain ⟨t',rfl⟩:=ry; exact PySem.EqMixed.ne_bool_str (aE I q (by simp))
  | _ => exact absurd (show false = true from hs) Bool.false_ne_true
 | int i =>
  obtain ⟨t,rfl⟩:=rx
  cases y with
  | non => cases ry; exact PySem.EqNone.ne_int_none (aE I q (by simp))
  | int j => obtain ⟨t',rfl⟩:=ry; exact ne_int (aE I q (congrArg not mU))
  | str j => obtain ⟨t',rfl⟩:=ry; exact PySem.EqMixed.ne_int_str (aE I q (by simp))
  | _ => exact absurd (show false = true from hs) Bool.false_ne_true
 | str i =>
  obtain ⟨t,rfl⟩:=rx
  cases y with
  | non => cases ry; exact PySem.EqNone.ne_str_none (aE I q (by simp))
  | bl j => cases ry; exact PySem.EqMixed.ne_str_bool (aE I q (by simp))
  | int j => obtain ⟨t',rfl⟩:=ry; exact PySem.EqMixed.ne_str_int (aE I q (by simp))
  | str j => obtain ⟨t',rfl⟩:=ry; exact ne_str (aE I q (congrArg not mV))
  | _ => exact absurd (show false = true from hs) Bool.false_ne_true
 | byt i =>
  obtain ⟨t,rfl⟩:=rx
  cases y with
  | byt j => obtain ⟨t',rfl⟩:=ry; exact PySem.W.ne_bytes (aE I q (congrArg not mT))
  | _ => exact absurd (show false = true from hs) Bool.false_ne_true
 | _ => cases y <;> exact absurd (show false = true from hs) Bool.false_ne_true
theorem fH : OpR X (compareOp .Lt) (rI0 fun i j => .bl (decide (i < j))):=rh fun _ _ _ _ _ _ _ q => lt_int q
theorem o3 : OpR X (compareOp .Gt) (rI0 fun i j => .bl (decide (j < i))):=rh fun _ _ _ _ _ _ _ q => gt_int q
theorem aL (b : Expr) {op : CmpOp} (h : op ≠ .In:=by decide) (h2 : op ≠ .NotIn:=by decide) : behindInMarks op b = false:=by
 have e1 : (op == CmpOp.In) = false:=by cases op <;> first | rfl | exact absurd rfl h
 have e2 : (op == CmpOp.NotIn) = false:=by cases op <;> first | rfl | exact absurd rfl h2
 cases b <;> simp [behindInMarks,e1,e2]
theorem nu {op : CmpOp} {r : R2} (ho : OpR X (compareOp op) r) (ha : PE X a ta) (hb : PE X b tb) (hm : behindInMarks op b = false) : PE X (.Compare a [op] [b] pos) (tOp r ta tb):=by
 intro pins s σ H Q I h
 exact wpAny_Compare1 (qv ha hb I h fun v u s2 x y H2 I2 rx ry q => ho pins s2 σ H2 x y v u Q I2 rx ry q) hm
def rE (t : TE) : TT:=fun σ H Q => t σ H fun x H' => ∃ k,x = .bl k /\ Q k H'
theorem aB {op : CmpOp} {r : R2} (ho : OpR X (compareOp op) r) (ha : PE X a ta) (hb : PE X b tb) (hm : behindInMarks op b = false) : PT X (.Compare a [op] [b] pos) (rE (tOp r ta tb)):=by
 intro pins s σ H Q I h
 refine wpAny_isTrue_Compare1 (thn (ha pins s σ H _ I h) fun v s1 ⟨x,H1,I1,r1,q1⟩ => thn (hb pins s1 σ H1 _ I1 q1) fun u s2 ⟨y,H2,I2,r2,q2⟩ =>
  thn (ho pins s2 σ H2 x y v u _ I2 r1 r2 q2) fun c s3 ⟨z,H3,I3,r3,k,e,q3⟩ => ?_) hm
 subst e
 cases r3
 exact wpAny_truthy_bool ⟨H3,I3,q3⟩
theorem gP : (sizeLine : Nat) < 2 ^ 63:=by rw [sizeLine_eq]; decide
theorem ah : OpR X (binaryOp .Add) (fun x y H Q => ∃ i j,x = .str i /\ y = .str j /\ i.length + j.length <= sizeLine /\ Q (.str (i ++ j)) H):=by
 intro pins s σ H x y v u Q I rx ry h
 obtain ⟨i,j,rfl,rfl,hz,q⟩:=h
 obtain ⟨t,rfl⟩:=rx
 obtain ⟨t',rfl⟩:=ry
 exact add_str (fun t' tk => ⟨.str (i ++ j),H,I.tok _,⟨_,rfl⟩,q⟩) hz
theorem vals1 {x : V} {us : List Value} (r : Vals [x] us) : ∃ u,us = [u] /\ RelV x u:=by
 cases r with
 | cons r1 r2 => cases r2; exact ⟨_,rfl,r1⟩
theorem vals2 {x y : V} {us : List Value} (r : Vals [x,y] us) : ∃ u w',us = [u,w'] /\ RelV x u /\ RelV y w' := by
 cases r with
 | cons r1 r2 =>
  cases r2 with
  | cons r3 r4 => cases r4; exact ⟨_,_,rfl,r1,r3⟩
theorem nJ (hc : X.calm = true) : cE X (.builtin "max") (fun xs H Q => ∃ i j,xs = [.int i,.int j] /\ Q (.int (if j > i then j else i)) H):=by
 intro pins s σ H xs us Q I r h
 obtain ⟨i,j,rfl,q⟩:=h
 obtain ⟨u,w',rfl,⟨t,rfl⟩,⟨t',rfl⟩⟩:=vals2 r
 refine max_two_ints (I.ok.hd hc) fun h' tk k => ⟨_,H,I.kept k,?_,q⟩
 by_cases hj : j > i
 ·rw [if_pos hj,if_pos hj]; exact ⟨_,rfl⟩
 ·rw [if_neg hj,if_neg hj]; exact ⟨_,rfl⟩
theorem nL (hc : X.calm = true) : cE X (.builtin "min") (fun xs H Q => ∃ i j,xs = [.int i,.int j] /\ Q (.int (if j < i then j else i)) H):=by
 intro pins s σ H xs us Q I r h
 obtain ⟨i,j,rfl,q⟩:=h
 obtain ⟨u,w',rfl,⟨t,rfl⟩,⟨t',rfl⟩⟩:=vals2 r
 refine min_two_ints (I.ok.hd hc) fun h' tk k => ⟨_,H,I.kept k,?_,q⟩
 by_cases hj : j < i
 ·rw [if_pos hj,if_pos hj]; exact ⟨_,rfl⟩
 ·rw [if_neg hj,if_neg hj]; exact ⟨_,rfl⟩
theorem nH : cE X (.type "int") (fun xs H Q => (∃ i,xs = [.int i] /\ Q (.int i) H) \/ ∃ k,xs = [.bl k] /\ Q (.int (if k then 1 else 0)) H):=by
 intro pins s σ H xs us Q I r h
 rcases h with ⟨i,rfl,q⟩ | ⟨k,rfl,q⟩
 ·obtain ⟨u,rfl,t,rfl⟩:=vals1 r
  exact call_int_int ⟨.int i,H,I,⟨_,rfl⟩,q⟩
 ·obtain ⟨u,rfl,r1⟩:=vals1 r
  cases r1
  exact call_int_bool ⟨.int (if k then 1 else 0),H,I.tok _,⟨_,rfl⟩,q⟩
theorem bQ : cE X (.type "str") (fun xs H Q => ∃ i,xs = [.int i] /\ i.natAbs.log2 < 1920 /\ Q (.str (toString i)) H):=by
 intro pins s σ H xs us Q I r h
 obtain ⟨i,rfl,hz,q⟩:=h
 obtain ⟨u,rfl,t,rfl⟩:=vals1 r
 exact PySem.P.str_of_int hz ⟨.str _,H,I.tok _,⟨_,rfl⟩,q⟩
end
end L2
namespace L2
open PySem PySem.Spec PyProof.Rows
structure ObjM (h : Heap) (x dx C : Addr) (mA : Str -> Option Value) : Prop where
 obj : h.get? x = some (PySem.W.instObj C dx)
 ns : h.Ns1 dx mA
 ne : dx ≠ x
theorem nY {h : Heap} {dx : Addr} {mA : Str -> Option Value} (n : h.Ns1 dx mA) : ∃ od,h.get? dx = some od /\ ∀ name,PySem.W.lookIn name od = some (mA name):=by
 obtain ⟨o,es,ep,ho,hd,hk,_,hm⟩:=n
 refine ⟨o,ho,fun name => ?_⟩
 have e:=hm name
 unfold nsFind findBy at e
 rw [<- Array.find?_toList] at e
 unfold PySem.W.lookIn
 rw [hd]
 dsimp only
 split
 ·rename_i y q
  rw [q] at e
  exact congrArg some e
 ·rename_i q
  rw [q] at e
  have a : es.toList.any (·.refKey) = false:=by
   rw [List.any_eq_false]
   intro y hy
   obtain ⟨z,t,hkey⟩:=hk y (Array.mem_toList_iff.mp hy)
   simp [DictEntry.refKey,hkey]
  have a' : ¬ es.toList.any (·.refKey) = true:=by rw [a]; exact Bool.false_ne_true
  rw [if_neg a']
  exact congrArg some e
theorem ObjM.look {h : Heap} {x dx C : Addr} {mA : Str -> Option Value} (I : ObjM h x dx C mA) : ∃ od,PySem.W.InstAt h x (PySem.W.instObj C dx) C (some od) /\ ∀ name,PySem.W.lookIn name od = some (mA name):=
 let ⟨od,ho,hl⟩:=nY I.ns
 ⟨od,⟨I.obj,rfl,rfl,ho⟩,hl⟩
section
variable {prog : Program} {w : World} {A : Around} {E : Value -> Shared -> Prop} {s : Shared} {K : PySem.W.Frag} {x dx C f : Addr} {mA : Str -> Option Value} {name : Str} {v : Value}
end
section
variable {P : Program} {w : World} {H H' : Hp} {h h' : Heap} {a C dx : Addr} {fs fs' : List (Str × V)}
theorem pR (hok : HOk P w H h) (e : H a = some (.ins C dx fs)) : ∃ mA,ObjM h a dx C mA /\ (∀ f,qt (fs.lookup f) (mA f)) /\ PySem.Within mA (fs.map (·.1)) /\ fs.length <= 1000 /\ H dx = some (.own a):=by
 obtain ⟨d,z,ne,ob,mA,n,r,q⟩:=(show ObjOk P w H h a (.ins C dx fs) from hok a _ e)
 exact ⟨mA,⟨ob,n,ne⟩,r,q,z,d⟩
end
structure Cls (K : PySem.W.Frag) (C : Addr) : Prop where
 pg : PySem.W.plainGet K C Str.empty = true
 hd : PySem.W.hasDictIn K C = true
 po : PySem.W.plainOver K C = true
 sa : PySem.W.findIn K (.ref C) "__setattr__" = some (some (.builtin "object.__setattr__"))
theorem Cls.get {K : PySem.W.Frag} {C : Addr} (c : Cls K C) (f : Str) : PySem.W.plainGet K C f = true:=c.pg
structure Con (K : PySem.W.Frag) (C : Addr) (f : Str) (v : V) (u : Value) : Prop where
 at_ : PySem.W.findIn K (.ref C) f = some (some u)
 rel : RelV v u
 get : PySem.W.specialIn K u "__get__" = some none
 cp : PySem.W.copiedNames.contains f = false
structure Meth (K : PySem.W.Frag) (C : Addr) (m : Str) (f : Addr) : Prop where
 at_ : PySem.W.findIn K (.ref C) m = some (some (.ref f))
 fn : PySem.W.isFn K (.ref f) = true
 kp : PySem.W.keepIn K (.ref f) = true
section
variable {X : Cx} {pins : List (Addr × Obj)} {σ : St} {H : Hp} {s : Shared} {a C dx : Addr} {fs : List (Str × V)} {f : Str} {v : V} {A : Around} {E : Value -> Shared -> Prop}
end
section
variable {X : Cx} {o e value : Expr} {f : Str} {pos pos' tpos : Pos} {ta tv : TE}
end
section
variable {X : Cx} {pins : List (Addr × Obj)} {σ : St} {H : Hp} {s : Shared} {A : Around} {E : Value -> Shared -> Prop} {Q : Value -> Shared -> Prop} {c : Value} {b : Bool}
inductive TyOf (K : PySem.W.Frag) (H : Hp) : V -> Value -> Prop where
 | non : TyOf K H .non (.type "NoneType")
 | bl (x : Bool) : TyOf K H (.bl x) (.type "bool")
 | int (i : Int) : TyOf K H (.int i) (.type "int")
 | str (x : Str) : TyOf K H (.str x) (.type "str")
 | flt (x : UInt64) : TyOf K H (.flt x) (.type "float")
 | lst {a : Addr} {xs : List V} (e : H a = some (.lst xs)) : TyOf K H (.ref a) (.type "list")
 | frz {a : Addr} {o : Obj} {xs : List V} (e : H a = some (.frz o (.lst xs))) : TyOf K H (.ref a) (.type "list")
 | tup {a : Addr} {xs : List V} (e : H a = some (.tup xs)) : TyOf K H (.ref a) (.type "tuple")
 | dK {a : Addr} {kvs : List (Key × V)} (e : H a = some (.dK kvs)) : TyOf K H (.ref a) (.type "dict")
 | dT {a : Addr} {kvs : List (List Key × V)} (e : H a = some (.dT kvs)) : TyOf K H (.ref a) (.type "dict")
 | ins {a C dx : Addr} {fs : List (Str × V)} (e : H a = some (.ins C dx fs)) (cl : Cls K C) (ha : PySem.W.findIn K (.ref C) "__class__" = some (some (.builtin "object.__class__")))
   (hn : PySem.W.specialIn K (.builtin "object.__class__") "__get__" = some (some (.builtin "getset_descriptor.__get__"))) (htk : PySem.W.takesIn K (.builtin "object.__class__") = some true)
   (hm : PySem.W.mroIn K C (.type "object") = some true) : TyOf K H (.ref a) (.ref C)
theorem nW {x : V} {u t : Value} (I : Inv X pins σ H s) (rx : RelV x u) (ty : TyOf X.K H x t) (e : PySem.W.kitOne X.K t c = some b) (h : ∀ tk,Q (.bool b) { s with toks:=tk }) :
  wpAny (model X.prog X.w) A (call (.builtin "isinstance") [u,c]) Q E s:=by
 cases ty with
 | non => cases (show u = Value.none from rx); exact PySem.W.kia_one PySem.W.kitx_none I.kIn True.intro e (fun z => nomatch z) h
 | bl y => cases (show u = Value.bool y from rx); exact PySem.W.kia_one PySem.W.kitx_bool I.kIn True.intro e (fun z => nomatch z) h
 | int i => obtain ⟨t,q⟩:=(show ∃ t,u = Value.int i t from rx); cases q; exact PySem.W.kia_one PySem.W.kitx_int I.kIn True.intro e (fun z => nomatch z) h
 | str y => obtain ⟨t,q⟩:=(show ∃ t,u = Value.str y t from rx); cases q; exact PySem.W.kia_one PySem.W.kitx_str I.kIn True.intro e (fun z => nomatch z) h
 | flt y => obtain ⟨t,q⟩:=(show ∃ t,u = Value.float y t from rx); cases q; exact PySem.W.kia_one PySem.W.kitx_float I.kIn True.intro e (fun z => nomatch z) h
 | @lst a xs ea =>
  cases (show u = Value.ref a from rx)
  obtain ⟨_,_,n,_,h1⟩:=(show ObjOk X.prog X.w H s.heap a (.lst xs) from I.hok a _ ea)
  exact PySem.W.kia_one PySem.W.kitx_list I.kIn ⟨_,h1,rfl⟩ e (fun z => nomatch z) h
 | @frz a ob xs ea =>
  cases (show u = Value.ref a from rx)
  obtain ⟨_,_,_,n,_,h1⟩:=(show ObjOk X.prog X.w H s.heap a (.frz ob (.lst xs)) from I.hok a _ ea)
  exact PySem.W.kia_one PySem.W.kitx_list I.kIn ⟨_,h1,rfl⟩ e (fun z => nomatch z) h
 | @tup a xs ea =>
  cases (show u = Value.ref a from rx)
  obtain ⟨_,_,_,p⟩:=(show ObjOk X.prog X.w H s.heap a (.tup xs) from I.hok a _ ea)
  obtain ⟨o,h1,h2,_⟩:=p
  exact PySem.W.kia_one PySem.W.kitx_tuple I.kIn ⟨o,h1,h2⟩ e (fun z => nomatch z) h
 | @dK a kvs ea =>
  cases (show u = Value.ref a from rx)
  obtain ⟨_,_,vs,_,p⟩:=(show ObjOk X.prog X.w H s.heap a (.dK kvs) from I.hok a _ ea)
  obtain ⟨o,es,ep,h1,h2,_⟩:=p
  exact PySem.W.kia_one PySem.W.kitx_dict I.kIn ⟨o,h1,h2.1⟩ e (fun z => nomatch z) h
 | @dT a kvs ea =>
  cases (show u = Value.ref a from rx)
  obtain ⟨_,_,xs,_,o,es,ep,h1,h2,_⟩:=(show ObjOk X.prog X.w H s.heap a (.dT kvs) from I.hok a _ ea)
  exact PySem.W.kia_one PySem.W.kitx_dict I.kIn ⟨o,h1,h2.1⟩ e (fun z => nomatch z) h
 | @ins a C dx fs ea cl ha hn htk hm =>
  cases (show u = Value.ref a from rx)
  obtain ⟨mA,O,_⟩:=pR I.hok ea
  obtain ⟨od,J,_⟩:=O.look
  exact PySem.W.kia_one (PySem.W.kitx_own (cl.get _) cl.hd ha hn htk hm) I.kIn J e (fun z => nomatch z) h
end
end L2
namespace L2
open PySem PySem.Spec PyProof.Rows
structure Room (k : Nat) (A : Around) : Prop where
 hd : A.handled = none
 dp : A.depth + 3 * k + 5 < recursionLimit
 un : A.units + 16 * k + 200 < cLine
theorem Room.mono {j k : Nat} {A : Around} (r : Room k A) (h : j <= k) : Room j A:=⟨r.hd,by have:=r.dp; omega,by have:=r.un; omega⟩
theorem Room.deeper {k : Nat} {A : Around} (r : Room (k + 1) A) (env : Env) : Room k (A.deeper env):=
 ⟨r.hd,by have:=r.dp; show A.depth + 1 + 3 * k + 5 < _; omega,by have:=r.un; show A.units + 3 + 16 * k + 200 < _; omega⟩
theorem Room.depth {k : Nat} {A : Around} (r : Room k A) : A.depth < recursionLimit:=by have:=r.dp; omega
def rC : TA:=fun _ H Q => Q [] H
def qo (ta : TE) (tr : TA) : TA:=fun σ H Q => ta σ H fun x H1 => tr σ H1 fun xs H2 => Q (x :: xs) H2
section
variable {X : Cx} {e : Expr} {es : List Expr} {te : TE} {t : TA} {pos : Pos}
theorem af : PA X [] rC:=fun _ _ _ _ H Q I h => Calls.spliced_nil ⟨[],H,I,.nil,h⟩
theorem aa (ha : PE X e te) (hr : PA X es t) (hs : starEach (e :: es) X.env = (false,eval e X.env) :: starEach es X.env:=by rfl) : PA X (e :: es) (qo te t):=by
 intro pos pins s σ H Q I h
 rw [hs]
 show wpAny _ _ (spliced ((false,eval e X.env) :: backTo pos (starEach es X.env))) _ _ s
 refine Calls.spliced_cons (thn (ha pins s σ H _ I h) fun u s1 ⟨x,H1,I1,r1,q1⟩ => ?_)
 exact thn (hr pos pins s1 σ H1 _ I1 q1) fun us s2 ⟨xs,H2,I2,r2,q2⟩ => ⟨x :: xs,H2,I2,.cons r1 r2,q2⟩
def rF (t : TA) : TE:=fun σ H Q => t σ H fun xs H1 => xs.length <= sizeLine /\ ∀ p,H1 p = none -> Q (.ref p) (upd H1 p (.tup xs))
def rB (t : TA) : TE:=fun σ H Q => t σ H fun xs H1 => xs.length <= sizeLine /\ ∀ p,H1 p = none -> Q (.ref p) (upd H1 p (.lst xs))
theorem cU {x1} (h : PA X es t) : PE X (.Tuple es x1 pos) (rF t):=by
 intro pins s σ H Q I hq
 refine wpAny_Tuple_spliced (thn (h pos pins s σ H _ I hq) fun us s1 ⟨xs,H1,I1,r,z,q⟩ => ⟨by rw [<- r.length]; exact z,?_⟩)
 have hf : H1 s1.heap.objs.size = none:=I1.hok.fresh (Nat.le_refl _)
 refine ⟨.ref s1.heap.objs.size,upd H1 s1.heap.objs.size (.tup xs),I1.laid (t' := s1.toks) (fun b u e => Heap.get?_push_of_some _ e) (Nat.le_refl _) ?_,rfl,q _ hf⟩
 exact ⟨z,us,r,⟨_,Heap.get?_push_size _ rfl,rfl,_,rfl⟩⟩
theorem cB (h : PA X es t) : PE X (.List es pos) (rB t):=by
 intro pins s σ H Q I hq
 refine wpAny_List_spliced (thn (h pos pins s σ H _ I hq) fun us s1 ⟨xs,H1,I1,r,z,q⟩ => ⟨by rw [<- r.length]; exact z,?_⟩)
 have hf : H1 s1.heap.objs.size = none:=I1.hok.fresh (Nat.le_refl _)
 refine ⟨.ref s1.heap.objs.size,upd H1 s1.heap.objs.size (.lst xs),I1.laid (t' := s1.toks) (fun b u e => Heap.get?_push_of_some _ e) (Nat.le_refl _) ?_,rfl,q _ hf⟩
 exact ⟨z,us,0,r,Heap.get?_push_size _ rfl⟩
end
abbrev Sp:=List V -> Hp -> VK -> XK -> Prop
abbrev CXT:=List Env -> Hp -> Shared -> XK -> Value -> Shared -> Prop
structure Env0 (P : Program) (w : World) (K : PySem.W.Frag) (mg : Str -> Option Value) (base : Heap) (A : Around) (outer : List Env) (s : Shared) (H : Hp) : Prop where
 frames : A.frames = some outer
 mod : Mod K mg base
 bs : ∀ b o,base.get? b = some o -> s.heap.get? b = some o /\ H b = none
 bsz : base.objs.size <= s.heap.objs.size
 funs : s.heap.FunFrames base outer
 frf : ∀ b ∈ frs outer,H b = none
 hok : HOk P w H s.heap
 bare : AllBare s.gens
def CE (outer : List Env) (P : Program) (w : World) (H : Hp) (s : Shared) (Q : VK) (u : Value) (s' : Shared) : Prop:=
 ∃ v H',s'.os = s.os /\ AllBare s'.gens /\ Un (frs outer) [] H H' s.heap s'.heap /\ HOk P w H' s'.heap /\ RelV v u /\ Q v H'
def CR (CX : CXT) (outer : List Env) (P : Program) (w : World) (H : Hp) (s : Shared) (Q : VK) (E : XK) (r : Result) (s' : Shared) : Prop:=
 match r with
 | .ok (.ret u) => CE outer P w H s Q u s'
 | .ok _ => False
 | .error e => CX outer H s E e s'
structure FnOk (P : Program) (w : World) (K : PySem.W.Frag) (mg : Str -> Option Value) (base : Heap) (CX : CXT) (k : Nat) (f : Addr) (fd : FuncData) (ps : List Str) (sp : Sp) : Prop where
 len : ∀ vs H Q E,sp vs H Q E -> vs.length = ps.length
 run : ∀ (A : Around) (outer : List Env) (s : Shared) (H : Hp) (args : Args) (us : List Value) (vs : List V) (Q : VK) (E : XK),Room k A -> Env0 P w K mg base A outer s H -> BindsTo s fd args (ps.zip us) -> Vals vs us -> sp vs H Q E ->
  codeAny (model P w) A (.call (.ref f) args) (CR CX outer P w H s Q E) s
theorem FnOk.imp {P : Program} {w : World} {K : PySem.W.Frag} {mg : Str -> Option Value} {base : Heap} {CX : CXT} {k : Nat} {f : Addr} {fd : FuncData} {ps : List Str} {sp sp' : Sp} (F : FnOk P w K mg base CX k f fd ps sp)
  (h : ∀ vs H Q E,sp' vs H Q E -> sp vs H Q E) : FnOk P w K mg base CX k f fd ps sp' :=
 ⟨fun vs H Q E q => F.len vs H Q E (h _ _ _ _ q),fun A outer s H args us vs Q E hr he hb hv hs => F.run A outer s H args us vs Q E hr he hb hv (h _ _ _ _ hs)⟩
section
variable {X : Cx} {pins : List (Addr × Obj)} {σ : St} {H : Hp} {s s' : Shared}
theorem Inv.env0 (I : Inv X pins σ H s) : Env0 X.prog X.w X.K X.mg X.base X.A X.stack s H:=
 ⟨I.ok.frames,I.ok.mod,I.bs,Nat.le_trans I.ok.bsz I.sz,I.stack,I.stkFree,I.hok,I.bare⟩
theorem Inv.after {Q : VK} {u : Value} (I : Inv X pins σ H s) (h : CE X.stack X.prog X.w H s Q u s') : EP X pins σ Q u s' := by
 obtain ⟨v,H',os,bare,un,hok,r,q⟩:=h
 obtain ⟨hh,g,d,t,os'⟩:=s'
 obtain rfl : os' = s.os:=os
 exact ⟨v,H',I.call (h' := hh) (g' := g) (d' := d) (t' := t) (ch:=[]) un hok bare (fun b z => absurd z (by simp)),r,q⟩
end
def qm (sp : Sp) (dvs : List V) (E : XK) (t : TA) : TE:=fun σ H Q => t σ H fun vs H1 => sp (vs ++ dvs) H1 Q E
def Binds (K : PySem.W.Frag) (fd : FuncData) (ps : List Str) (ds : List Value) : Prop:=
 ∀ (s : Shared) (us : List Value),K.In s.heap -> (us ++ ds).length = ps.length -> BindsTo s fd ⟨us,[]⟩ (ps.zip (us ++ ds))
theorem Binds.all {K : PySem.W.Frag} {fd : FuncData} {ps : List Str} (h : ∀ us : List Value,us.length = ps.length -> bindArgs fd ⟨us,[]⟩ = pure (ps.zip us)) : Binds K fd ps []:=fun s us _ hl => by
 rw [List.append_nil] at hl ⊢
 exact .of_eq (h us hl)
def Passes (CX : CXT) (X : Cx) (E : XK) : Prop := ∀ (pins : List (Addr × Obj)) (σ : St) (H : Hp) (s : Shared) (e : Value) (s' : Shared),Inv X pins σ H s -> CX X.stack H s E e s' -> X.xe e s'
section
variable {X : Cx} {CX : CXT} {k : Nat} {f C : Addr} {fd : FuncData} {ps : List Str} {sp : Sp} {dvs : List V} {ds : List Value} {E : XK} {x m : Str} {p pos apos : Pos} {e o : Expr} {es : List Expr} {ta : TE} {t : TA}
theorem qO {pins : List (Addr × Obj)} {σ : St} {H : Hp} {s : Shared} {Q : VK} {us : List Value} {vs : List V} (F : FnOk X.prog X.w X.K X.mg X.base CX k f fd ps sp) (hr : Room k X.A) (hb : Binds X.K fd ps ds) (hd : Vals dvs ds) (hx : Passes CX X E)
  (I : Inv X pins σ H s) (r : Vals vs us) (h : sp (vs ++ dvs) H Q E) : wpAny (model X.prog X.w) X.A (call (.ref f) us) (EP X pins σ Q) X.xe s:=by
 have r2 : Vals (vs ++ dvs) (us ++ ds):=r.append hd
 have hl : (us ++ ds).length = ps.length:=by rw [<- r2.length]; exact F.len _ _ _ _ h
 refine wpAny_call (codeAny_mono (F.run X.A X.stack s H ⟨us,[]⟩ (us ++ ds) (vs ++ dvs) Q E hr I.env0 (hb s us I.kIn hl) r2 h) fun r s' hq => ?_)
 cases r with
 | error e => exact hx pins σ H s e s' I hq
 | ok fl =>
  cases fl with
  | ret u => exact I.after hq
  | next => exact False.elim hq
  | brk => exact False.elim hq
  | cont => exact False.elim hq
theorem p8 (F : FnOk X.prog X.w X.K X.mg X.base CX k f fd ps sp) (hr : Room k X.A) (hg : Gl X x) (hm : X.mg x = some (.ref f)) (hk : PySem.W.keepIn X.K (.ref f) = true) (hb : Binds X.K fd ps ds) (hd : Vals dvs ds) (hx : Passes CX X E)
  (ha : PA X (e :: es) t) (hdb : (x == ("__debug__" : Str)) = false:=by decide) (he : starEach (e :: es) X.env = (false,eval e X.env) :: starEach es X.env:=by rfl) (hpl : (backTo pos (starEach es X.env)).any (·.1) = false:=by rfl) :
  PE X (.Call (.Name x p) (e :: es) [] pos) (qm sp dvs E t):=by
 intro pins s σ H Q I h
 refine wpAny_Call_Name_kw (m6 I hg hm ?_ hdb)
 refine PySem.W.callWith_K (h₀:=X.base) I.ok.mod.kin hk (thn (ha pos pins s σ H _ I h) fun us s1 ⟨vs,H1,I1,r,q⟩ => ⟨I1.kIn,?_⟩) he hpl
 exact qO F hr hb hd hx I1 r q
structure Mk (K : PySem.W.Frag) (C f : Addr) : Prop where
 makes : PySem.W.makesIn K C = true
 init : PySem.W.findIn K (.ref C) "__init__" = some (some (.ref f))
 fn : PySem.W.isFn K (.ref f) = true
 kp : PySem.W.keepIn K (.ref C) = true
end
section
variable {X : Cx} {CX : CXT} {k : Nat} {f C : Addr} {fd : FuncData} {ps ks : List Str} {sp : Sp} {E : XK} {x m : Str} {p pos apos kpos : Pos} {e o : Expr} {es : List Expr} {kws : List Keyword} {te ta : TE} {t tk : TA} {nm : Option Str}
structure KBinds (K : PySem.W.Frag) (fd : FuncData) (ps ks : List Str) (g : List Value -> List Value -> List Value) (gV : List V -> List V -> List V) : Prop where
 to : ∀ (s : Shared) (us ws : List Value),K.In s.heap -> (g us ws).length = ps.length -> BindsTo s fd ⟨us,ks.zip ws⟩ (ps.zip (g us ws))
 rel : ∀ {vs : List V} {us : List Value} {zs : List V} {ws : List Value},Vals vs us -> Vals zs ws -> Vals (gV vs zs) (g us ws)
variable {g : List Value -> List Value -> List Value} {gV : List V -> List V -> List V}
end
structure FnScope (N P : List Str) (sc : Scope) : Prop where
 kind : sc.kind = .function
 co : sc.isCoroutine = false
 gen : sc.isGenerator = false
 nd : N.Nodup
 pre : N.take P.length = P
 par : ∀ x ∈ P,sc.names.lookup x = some .local \/ sc.names.lookup x = some .cell
 nofree : ∀ y ∈ sc.names,y.2 ≠ .free
theorem iW {kindOf : Str -> Option NameKind} {x : Str} : ∀ {binds : List (Str × Value)} {m : Str -> Option Value},(∀ v,(x,v) ∉ binds) -> bindL kindOf binds m x = m x
 | [],_,_ => rfl
 | (n,v) :: r,m,h => by
  unfold bindL
  rw [iW fun w hw => h w (List.mem_cons_of_mem _ hw)]
  split
  ·have : x ≠ n:=by rintro rfl; exact h v List.mem_cons_self
   simp [this]
  ·rfl
theorem iU {kindOf : Str -> Option NameKind} {x : Str} : ∀ {binds : List (Str × Value)} {m : Str -> Option Value},(∀ v,(x,v) ∉ binds) -> bindC kindOf binds m x = m x
 | [],_,_ => rfl
 | (n,v) :: r,m,h => by
  unfold bindC
  rw [iU fun w hw => h w (List.mem_cons_of_mem _ hw)]
  split
  ·rfl
  ·have : x ≠ n:=by rintro rfl; exact h v List.mem_cons_self
   simp [this]
theorem iV {kindOf : Str -> Option NameKind} {x : Str} {v : Value} : ∀ {P : List Str} {vs : List Value} {i : Nat} {m : Str -> Option Value},P.Nodup -> P[i]? = some x -> vs[i]? = some v -> kindOf x = some .local ->
  bindL kindOf (P.zip vs) m x = some v
 | [],_,_,_,_,h,_,_ => by simp at h
 | _ :: _,[],_,_,_,_,h,_ => by simp at h
 | p :: P,w :: vs,0,m,nd,h1,h2,hk => by
  simp at h1 h2; subst h1; subst h2
  show bindL kindOf ((p,w) :: P.zip vs) m p = _
  unfold bindL
  rw [iW fun v hv => (List.nodup_cons.mp nd).1 (List.of_mem_zip hv).1,if_pos hk]
  simp
 | p :: P,w :: vs,i + 1,m,nd,h1,h2,hk => by
  show bindL kindOf ((p,w) :: P.zip vs) m x = _
  unfold bindL
  exact iV (i:=i) (List.nodup_cons.mp nd).2 (by simpa using h1) (by simpa using h2) hk
theorem iT {kindOf : Str -> Option NameKind} {x : Str} {v : Value} : ∀ {P : List Str} {vs : List Value} {i : Nat} {m : Str -> Option Value},P.Nodup -> P[i]? = some x -> vs[i]? = some v -> kindOf x ≠ some .local ->
  bindC kindOf (P.zip vs) m x = some v
 | [],_,_,_,_,h,_,_ => by simp at h
 | _ :: _,[],_,_,_,_,h,_ => by simp at h
 | p :: P,w :: vs,0,m,nd,h1,h2,hk => by
  simp at h1 h2; subst h1; subst h2
  show bindC kindOf ((p,w) :: P.zip vs) m p = _
  unfold bindC
  rw [iU fun v hv => (List.nodup_cons.mp nd).1 (List.of_mem_zip hv).1,if_neg hk]
  simp
 | p :: P,w :: vs,i + 1,m,nd,h1,h2,hk => by
  show bindC kindOf ((p,w) :: P.zip vs) m x = _
  unfold bindC
  exact iT (i:=i) (List.nodup_cons.mp nd).2 (by simpa using h1) (by simpa using h2) hk
def start (N : List Str) (vs : List V) : St:=vs.map some ++ List.replicate (N.length - vs.length) none
def nQ (CX : CXT) (P : Program) (w : World) (K : PySem.W.Frag) (mg : Str -> Option Value) (base : Heap) (N : List Str) (qual : Str) (scope : Scope) (f : Addr) (cd : Value) (A : Around) (outer : List Env) (s : Shared) (H : Hp) (E : XK) : Cx where
 prog:=P
 w:=w
 K:=K
 mg:=mg
 base:=base
 A:=A.deeper (envOfC qual scope s.heap.objs.size f cd)
 N:=N
 s₀:=s
 H₀:=H
 env:=envOfC qual scope s.heap.objs.size f cd
 outer:=outer
 stack:=envOfC qual scope s.heap.objs.size f cd :: outer
 ex:=[]
 calm:=true
 fn:=fun _ => true
 pn:=[]
 xe:=fun e s' => wpAny (model P w) (A.deeper (envOfC qual scope s.heap.objs.size f cd)) (leaving (envOfC qual scope s.heap.objs.size f cd) e) (fun _ s'' => CX outer H s E e s'') (fun e' s'' => CX outer H s E e' s'') s'
theorem kR {sc : Scope} {n : Nat} {x : Str} (h : sc.names.lookup x = some .cell) : ∃ c,(cellsFrom n sc.names []).lookup x = some c:=by
 have q:=PySem.W.cellsFrom_some sc.names n [] (.inl h)
 exact Option.isSome_iff_exists.mp q
theorem nV {CX : CXT} {P : Program} {w : World} {K : PySem.W.Frag} {mg : Str -> Option Value} {base : Heap} {N ps : List Str} {qual : Str} {scope : Scope} {f : Addr} {cd : Value} {A : Around} {outer : List Env} {s s1 : Shared} {H : Hp} {E : XK} {us : List Value} {vs : List V}
  (S : FnScope N ps scope) (hd : A.handled = none) (e0 : Env0 P w K mg base A outer s H) (hl : vs.length = ps.length) (r : Vals vs us)
  (x : InCallC s s.heap.objs.size (bindL (envOfC qual scope s.heap.objs.size f cd).kindOf (ps.zip us) fun _ => none) (cellsFrom (s.heap.objs.size + 1) scope.names []) (bindC (envOfC qual scope s.heap.objs.size f cd).kindOf (ps.zip us) fun _ => none) s1) :
  Inv (nQ CX P w K mg base N qual scope f cd A outer s H E) [] (start N vs) H s1:=by
 have hpl : ps.length <= N.length:=by have:=congrArg List.length S.pre; rw [List.length_take] at this; omega
 obtain ⟨h1,tk,rfl,hk⟩:=x.done
 have noA : ∀ b : Addr,b ∉ (nQ CX P w K mg base N qual scope f cd A outer s H E).ex:=fun b z => absurd (show b ∈ ([] : List Addr) from z) (by simp)
 refine ⟨⟨e0.mod,S.kind,rfl,rfl,Nat.le_refl _,fun y z c h1 h2 => ?_,fun y hy => ?_,fun y c _ h => ?_,fun _ => hd,Around.frames_deeper e0.frames,.inr ⟨rfl,rfl⟩,fun b z => absurd z (noA b),e0.bs,e0.bsz,fun b _ _ => noA b,fun b z => absurd z (noA b),e0.funs,e0.frf⟩,
  rfl,e0.bare,Un.kept hk,⟨_,x.toInCall.ns,fun i y v h1 h2 h3 => ?_⟩,fun y c h => ⟨_,x.cell y c h⟩,e0.hok.fresh (Nat.le_refl _),fun y c h => ?_,fun p hp => absurd (show p ∈ ([] : List (Addr × Obj)) from hp) (by simp),e0.hok.kept hk,?_⟩
 ·exact name_of_addr x.apart (PySem.mem_of_lookup h1) (PySem.mem_of_lookup h2)
 ·have hy : scope.names.lookup y = some .cell \/ scope.names.lookup y = some .free:=hy
  rcases hy with hy | hy
  ·exact kR hy
  ·exact absurd rfl (S.nofree _ (PySem.mem_of_lookup hy))
 ·exact Nat.le_of_lt (x.above y c (PySem.mem_of_lookup h))
 ·have hi : i < vs.length:=by
   unfold start at h2
   by_cases hi : i < vs.length
   ·exact hi
   ·rw [List.getElem?_append_right (by simpa using hi)] at h2
    rw [List.getElem?_replicate] at h2
    split at h2 <;> cases h2
  have ha : vs[i]? = some v:=by
   unfold start at h2
   rw [List.getElem?_append_left (by simpa using hi),List.getElem?_map] at h2
   cases e : vs[i]? with
   | none => rw [e] at h2; cases h2
   | some a => rw [e] at h2; cases h2; rfl
  obtain ⟨u,hu,rv⟩:=r.get ha
  have hp : ps[i]? = some y:=by
   rw [<- S.pre,List.getElem?_take_of_lt (by omega)]; exact h1
  have ndP : ps.Nodup:=by rw [<- S.pre]; exact S.nd.sublist (List.take_sublist _ _)
  refine ⟨u,rv,?_⟩
  rcases S.par y (List.mem_of_getElem? hp) with k | k
  ·exact .inl ⟨k,iV ndP hp hu k⟩
  ·obtain ⟨c,e⟩:=kR (n:=s.heap.objs.size + 1) k
   refine .inr ⟨.inl k,c,e,?_⟩
   have q:=x.cell y c e
   rw [iT ndP hp hu (by show scope.names.lookup y ≠ _; rw [k]; decide)] at q
   exact q
 ·exact e0.hok.fresh (Nat.le_of_lt (x.above y c (PySem.mem_of_lookup h)))
 ·unfold start
  show _ = N.length
  rw [List.length_append,List.length_map,List.length_replicate]
  omega
theorem qZ {CX : CXT} {P : Program} {w : World} {K : PySem.W.Frag} {mg : Str -> Option Value} {base : Heap} {k : Nat} {f : Addr} {name qual : Str} {params : Arguments} {body : List Stmt} {scope : Scope} {dV kV doc pm cdv ct oc : Value} {an od : Option Addr}
  {osl : Array (Option Value)} {N ps : List Str} {sp : Sp} (lk : K.lookup f = some ⟨oc,od,.func (PySem.W.fnOf name qual params body scope dV kV doc pm an cdv ct),osl⟩) (hcd : PySem.W.codeIn K cdv qual = true) (S : FnScope N ps scope)
  (len : ∀ vs H Q E,sp vs H Q E -> vs.length = ps.length)
  (hbody : ∀ (A : Around) (outer : List Env) (s : Shared) (H : Hp) (vs : List V) (Q : VK) (E : XK),Room k (A.deeper (envOfC qual scope s.heap.objs.size f cdv)) -> sp vs H Q E ->
   ∃ t,PSs (nQ CX P w K mg base N qual scope f cdv A outer s H E) body t /\ t { nx:=fun _ H' => Q .non H',rt:=Q } (start N vs) H) :
  FnOk P w K mg base CX (k + 1) f (PySem.W.fnOf name qual params body scope dV kV doc pm an cdv ct) ps sp:=by
 refine ⟨len,fun A outer s H args us vs Q E hr e0 hb r hsp => ?_⟩
 have hl:=len _ _ _ _ hsp
 have KX : K.In s.heap:=e0.mod.kin.keeps fun b o e => (e0.bs b o e).1
 have lim : s.heap.NoLimit:=e0.mod.nolimit.keeps fun b o e => (e0.bs b o e).1
 have hkind : ∀ y ∈ ps.zip us,scope.names.lookup y.1 = some .local \/ (scope.names.lookup y.1 = some .cell /\ ((cellsFrom (s.heap.objs.size + 1) scope.names []).lookup y.1).isSome = true):=fun ⟨n,v⟩ hy => by
  rcases S.par n (List.of_mem_zip hy).1 with q | q
  ·exact .inl q
  ·exact .inr ⟨q,PySem.W.cellsFrom_some _ _ _ (.inl q)⟩
 refine codeAny_call_function hr.depth (KX _ _ lk) rfl S.co S.gen rfl (PySem.W.codeRec_of KX hcd) (hb _ _ _ _ ?_)
 refine wpAny_newFunctionEnv_cells S.kind hkind fun env he s1 x => ?_
 subst he
 refine ⟨lim.keeps x.toInCall.keep,codeAny_func ?_⟩
 obtain ⟨t,ht,hq⟩:=hbody A outer s H vs Q E (hr.deeper _) hsp
 have I : Inv (nQ CX P w K mg base N qual scope f cdv A outer s H E) [] (start N vs) H s1:=nV S hr.hd e0 hl r x
 refine wpAny_mono (ht [] s1 (start N vs) H _ I hq) (fun fl s' hs => ?_) fun e s' hs => hs
 have fin : ∀ {σ' : St} {H' : Hp} {v : V} {u : Value},Inv (nQ CX P w K mg base N qual scope f cdv A outer s H E) [] σ' H' s' -> RelV v u -> Q v H' -> CE outer P w H s Q u s' :=
  fun {σ' H' v u} J rv q => ⟨v,H',J.os,J.bare,J.base,J.hok,rv,q⟩
 cases fl with
 | ret u =>
  obtain ⟨v,σ',H',J,rv,q⟩:=hs
  exact fin J rv q
 | next =>
  obtain ⟨σ',H',J,q⟩:=hs
  exact fin (v:=V.non) (u:=Value.none) J rfl q
 | brk =>
  obtain ⟨_,_,_,q⟩:=hs
  exact False.elim q
 | cont =>
  obtain ⟨_,_,_,q⟩:=hs
  exact False.elim q
end L2
namespace L2
open PySem PySem.Spec PyProof.Rows
section
variable {X : Cx} {x : Str} {p pos : Pos} {e : Expr} {es : List Expr} {t : TA} {id T : String} {r : List V -> Hp -> VK -> Prop}
def tCB (r : List V -> Hp -> VK -> Prop) (t : TA) : TE:=fun σ H Q => t σ H fun vs H1 => r vs H1 Q
theorem aD (hc : cE X (.builtin id) r) (hg : Gl X x) (hm : X.mg x = none) (hv : bootBuiltins x = some (.builtin id)) (ha : PA X (e :: es) t) (hn : x ≠ "__name__" := by decide) (hdb : (x == ("__debug__" : Str)) = false:=by decide)
  (he : starEach (e :: es) X.env = (false,eval e X.env) :: starEach es X.env:=by rfl) (hpl : (backTo pos (starEach es X.env)).any (·.1) = false:=by rfl) : PE X (.Call (.Name x p) (e :: es) [] pos) (tCB r t):=by
 intro pins s σ H Q I h
 refine wpAny_Call_Name_kw (jS I hg hm hv ?_ hn hdb)
 exact PyProof.Rows.callWith_builtin1 (thn (ha pos pins s σ H _ I h) fun us s1 ⟨vs,H1,I1,r1,q1⟩ => hc pins s1 σ H1 vs us Q I1 r1 q1) he hpl
theorem a9 (hc : cE X (.type T) r) (hg : Gl X x) (hm : X.mg x = none) (hv : bootBuiltins x = some (.type T)) (ha : PA X (e :: es) t) (hn : x ≠ "__name__" := by decide) (hdb : (x == ("__debug__" : Str)) = false:=by decide)
  (he : starEach (e :: es) X.env = (false,eval e X.env) :: starEach es X.env:=by rfl) (hpl : (backTo pos (starEach es X.env)).any (·.1) = false:=by rfl) : PE X (.Call (.Name x p) (e :: es) [] pos) (tCB r t):=by
 intro pins s σ H Q I h
 refine wpAny_Call_Name_kw (jS I hg hm hv ?_ hn hdb)
 exact PyProof.Rows.callWith_type1 (thn (ha pos pins s σ H _ I h) fun us s1 ⟨vs,H1,I1,r1,q1⟩ => hc pins s1 σ H1 vs us Q I1 r1 q1) he hpl
end
end L2
namespace HT
open PySem PyProof.Rows
section
open PySem.SeqAt
open PySem.AutoSeq1 (wpAny_loadPart')
open PySem.MeetsSeq PySem.MeetsSeq2 PySem.MeetsSeq3
end
section
variable {prog : Program} {w : World} {A : Around} {E : Value -> Shared -> Prop} {s : Shared}
end
end HT
namespace L2
open PySem PySem.Spec PyProof.Rows
abbrev TO:=St -> Hp -> (Option Int -> Hp -> Prop) -> Prop
section
variable {X : Cx} {e : Expr} {te : TE} {lo hi : Option Expr} {tl th : TO} {pos p2 : Pos}
end
end L2
namespace L2
open PySem PySem.Spec PyProof.Rows
def ixN (n : Nat) (i : Int) : Option Nat:=if 0 <= i then (if i < n then some i.toNat else none) else if -(n : Int) <= i then some (i + n).toNat else none
def atI {α : Type} (xs : List α) (i : Int) : Option α:=(ixN xs.length i).bind fun j => xs[j]?
theorem pU {n : Nat} {i : Int} {j : Nat} (h : ixN n i = some j) : seqIndex? i n = some j /\ j < n /\ -(n : Int) <= i /\ i < n:=by
 unfold ixN at h
 by_cases h0 : 0 <= i
 ·rw [if_pos h0] at h
  by_cases h1 : i < n
  ·rw [if_pos h1] at h
   have e : i.toNat = j:=Option.some.inj h
   exact ⟨by rw [seqIndex_of h0 h1,e],by omega,by omega,h1⟩
  ·rw [if_neg h1] at h; cases h
 ·rw [if_neg h0] at h
  by_cases h1 : -(n : Int) <= i
  ·rw [if_pos h1] at h
   have e : (i + n).toNat = j:=Option.some.inj h
   exact ⟨by rw [seqIndex_neg (by omega) h1,e],by omega,h1,by omega⟩
  ·rw [if_neg h1] at h; cases h
theorem ju {α : Type} {xs : List α} {i : Int} {v : α} (h : atI xs i = some v) : ∃ j,seqIndex? i xs.length = some j /\ xs[j]? = some v /\ j < xs.length /\ -(xs.length : Int) <= i /\ i < xs.length:=by
 unfold atI at h
 cases e : ixN xs.length i with
 | none => rw [e] at h; cases h
 | some j =>
  rw [e] at h
  obtain ⟨h1,h2,h3,h4⟩:=pU e
  exact ⟨j,h1,h,h2,h3,h4⟩
theorem mS {α : Type} {xs : List α} {j : Nat} {v : α} (h : xs[j]? = some v) : atI xs (j : Int) = some v:=by
 have hj : j < xs.length:=(List.getElem?_eq_some_iff.mp h).1
 have e : ixN xs.length (j : Int) = some j:=by
  unfold ixN
  rw [if_pos (by omega),if_pos (by omega)]; simp
 unfold atI; rw [e]; exact h
def mQ (b : Expr) : Prop := ∀ o i,subscripted b false o i = operate [o,i] (getItem o i)
def IxR (X : Cx) (r : R2) : Prop:=
 ∀ (value slice : Expr) (pins : List (Addr × Obj)) (s : Shared) (σ : St) (H : Hp) (x y : V) (v u : Value) (Q : VK),Inv X pins σ H s -> RelV x v -> RelV y u -> r x y H Q ->
  subscripted slice false v u = operate [v,u] (getItem v u) -> wpAny (model X.prog X.w) X.A (subscriptTail value slice v u) (EP X pins σ Q) X.xe s
def MtR (X : Cx) (id : String) (r : V -> List V -> Hp -> VK -> Prop) : Prop:=
 ∀ (pins : List (Addr × Obj)) (s : Shared) (σ : St) (H : Hp) (x : V) (xs : List V) (v : Value) (us : List Value) (Q : VK),Inv X pins σ H s -> RelV x v -> Vals xs us -> r x xs H Q ->
  wpAny (model X.prog X.w) X.A (call (.builtin id) (v :: us)) (EP X pins σ Q) X.xe s
section
variable {X : Cx} {a b : Expr} {ta tb : TE} {pos : Pos}
theorem aG {r : R2} (hr : IxR X r) (ha : PE X a ta) (hb : PE X b tb) (hs : mQ b) : PE X (.Subscript a b pos) (tOp r ta tb):=by
 intro pins s σ H Q I h
 exact Subscript_ (qv ha hb I h fun v u s2 x y H2 I2 rx ry q => hr a b pins s2 σ H2 x y v u Q I2 rx ry q (hs _ _))
def rm (K : PySem.W.Frag) : R2:=fun x y H Q => ∃ p xs i v,x = .ref p /\ y = .int i /\ SqL K H p xs /\ atI xs i = some v /\ Q v H
def rX (K : PySem.W.Frag) : R2:=fun x y H Q => ∃ p xs i v,x = .ref p /\ y = .int i /\ SqT K H p xs /\ atI xs i = some v /\ Q v H
def rW : R2:=fun x y H Q => ∃ z i c,x = .str z /\ y = .int i /\ z.length <= sizeLine /\ atI z.cps.toList i = some c /\ Q (.str ⟨#[c]⟩) H
theorem aO : IxR X (rm X.K):=by
 intro value slice pins s σ H x y v u Q I rx ry h hs
 obtain ⟨p,xs,i,z,rfl,rfl,hq,he,q⟩:=h
 cases rx
 obtain ⟨t,rfl⟩:=ry
 obtain ⟨its,r,pl,hz⟩:=I.list hq
 obtain ⟨j,h1,h2,h3,h4,h5⟩:=ju he
 obtain ⟨w,ew,rw'⟩:=r.get h2
 have hl:=r.length
 have hn:=gP
 have fin : EP X pins σ Q w s:=⟨z,H,I,rw',q⟩
 by_cases h0 : 0 <= i
 ·have hj : i.toNat = j:=by
   rw [seqIndex_of h0 h5] at h1
   exact Option.some.inj h1
  exact item_listR pl.isList h0 (by omega) (by rw [hj]; simpa using ew) fin hs
 ·have hj : (i + (its.toArray.size : Int)).toNat = j:=by
   rw [seqIndex_neg (by omega) h4] at h1
   rw [List.size_toArray,<- hl]
   exact Option.some.inj h1
  exact subscriptTail_builtinR (x:=w) pl.isList.typeIs slot_list_getitem.lookup
   (wpAny_getItem_list_neg (Q:=fun r s' => r = w /\ EP X pins σ Q r s') pl.isList (by omega) (by rw [List.size_toArray] <;> omega) (by omega) (by rw [hj]; simpa using ew) ⟨rfl,fin⟩) hs
theorem bx : IxR X (rX X.K):=by
 intro value slice pins s σ H x y v u Q I rx ry h hs
 obtain ⟨p,xs,i,z,rfl,rfl,hq,he,q⟩:=h
 cases rx
 obtain ⟨t,rfl⟩:=ry
 obtain ⟨its,r,pl,hz⟩:=I.tuple hq
 obtain ⟨j,h1,h2,h3,h4,h5⟩:=ju he
 obtain ⟨w,ew,rw'⟩:=r.get h2
 have hl:=r.length
 have hn:=gP
 have fin : EP X pins σ Q w s:=⟨z,H,I,rw',q⟩
 exact subscriptTail_builtinR (x:=w) pl.typeIs slot_tuple_getitem.lookup
  (getItem_tuple (j:=j) (Q:=fun r s' => r = w /\ EP X pins σ Q r s') pl (by omega) (by omega) (by rw [List.size_toArray,<- hl]; exact h1) (by simpa using ew) ⟨rfl,fin⟩) hs
theorem mq : IxR X rW:=by
 intro value slice pins s σ H x y v u Q I rx ry h hs
 obtain ⟨z,i,c,rfl,rfl,hz,he,q⟩:=h
 obtain ⟨t,rfl⟩:=rx
 obtain ⟨t',rfl⟩:=ry
 obtain ⟨j,h1,h2,h3,h4,h5⟩:=ju he
 have hl : z.cps.toList.length = z.length:=by simp [Str.length]
 rw [hl] at h1 h4 h5
 have hn:=gP
 exact tail_any (typeIs_str s z t) slot_str_getitem.lookup (getItem_str (c:=c) (by
  have e1 : decide (i < -(2 ^ 63 : Int)) = false:=decide_eq_false (by omega)
  have e2 : decide (i ≥ 2 ^ 63) = false:=decide_eq_false (by omega)
  rw [e1,e2,Bool.or_false]) (by rw [h1]; simpa using h2) ⟨.str ⟨#[c]⟩,H,I.tok _,⟨_,rfl⟩,q⟩) hs
def gh : V -> Bool
 | .non => true
 | .bl _ => true
 | .int _ => true
 | .str _ => true
 | _ => false
def eqV : V -> V -> Bool
 | .non,.non => true
 | .bl a,.bl b => a == b
 | .bl a,.int b => (if a then 1 else 0) == b
 | .int a,.bl b => a == (if b then 1 else 0)
 | .int a,.int b => a == b
 | .str a,.str b => a == b
 | _,_ => false
theorem qz {A : Around} {s : Shared} {y x : V} {u v : Value} (ry : RelV y u) (rx : RelV x v) (fy : gh y = true) (fx : gh x = true) : SeqAt.EqAt A s u v (eqV y x):=by
 cases y with
 | non =>
  cases ry
  cases x with
  | non => cases rx; exact SeqAt.EqAt.same _
  | bl b => cases rx; exact SeqAt.EqAt.none_bool b
  | int b => obtain ⟨t,rfl⟩:=rx; exact SeqAt.EqAt.none_int b t
  | str b => obtain ⟨t,rfl⟩:=rx; exact SeqAt.EqAt.none_str b t
  | _ => exact absurd (show false = true from fx) Bool.false_ne_true
 | bl a =>
  cases ry
  cases x with
  | non => cases rx; exact SeqAt.EqAt.bool_none a
  | bl b => cases rx; exact SeqAt.EqAt.bool_bool a b
  | int b => obtain ⟨t,rfl⟩:=rx; exact SeqAt.EqAt.bool_int a b t
  | str b => obtain ⟨t,rfl⟩:=rx; exact SeqAt.EqAt.bool_str a b t
  | _ => exact absurd (show false = true from fx) Bool.false_ne_true
 | int a =>
  obtain ⟨t',rfl⟩:=ry
  cases x with
  | non => cases rx; exact SeqAt.EqAt.int_none a t'
  | bl b => cases rx; exact SeqAt.EqAt.int_bool a t' b
  | int b => obtain ⟨t,rfl⟩:=rx; exact SeqAt.EqAt.int_int a t' b t
  | str b => obtain ⟨t,rfl⟩:=rx; exact SeqAt.EqAt.int_str a t' b t
  | _ => exact absurd (show false = true from fx) Bool.false_ne_true
 | str a =>
  obtain ⟨t',rfl⟩:=ry
  cases x with
  | non => cases rx; exact SeqAt.EqAt.str_none a t'
  | bl b => cases rx; exact SeqAt.EqAt.str_bool a t' b
  | int b => obtain ⟨t,rfl⟩:=rx; exact SeqAt.EqAt.str_int a t' b t
  | str b => obtain ⟨t,rfl⟩:=rx; exact SeqAt.EqAt.str_str a t' b t
  | _ => exact absurd (show false = true from fx) Bool.false_ne_true
 | _ => exact absurd (show false = true from fy) Bool.false_ne_true
def eqU (x : V) (u : Value) : Bool:=match u with
 | .none => eqV .non x
 | .bool b => eqV (.bl b) x
 | .int i _ => eqV (.int i) x
 | .str z _ => eqV (.str z) x
 | _ => false
theorem oB {x y : V} {u : Value} (r : RelV y u) (f : gh y = true) : eqU x u = eqV y x:=by
 cases y with
 | non => cases r; rfl
 | bl b => cases r; rfl
 | int i => obtain ⟨t,rfl⟩:=r; rfl
 | str z => obtain ⟨t,rfl⟩:=r; rfl
 | _ => exact absurd (show false = true from f) Bool.false_ne_true
theorem js {x : V} : ∀ {xs : List V} {us : List Value},Vals xs us -> xs.all gh = true -> us.any (eqU x) = xs.any fun y => eqV y x
 | _,_,.nil,_ => rfl
 | y :: xs,u :: us,.cons r t,f => by
  rw [List.all_cons,Bool.and_eq_true] at f
  rw [List.any_cons,List.any_cons,oB r f.1,js t f.2]
theorem gR {A : Around} {s : Shared} {x : V} {v : Value} (rx : RelV x v) (fx : gh x = true) : ∀ {xs : List V} {us : List Value},Vals xs us -> xs.all gh = true -> ∀ u ∈ us,SeqAt.EqAt A s u v (eqU x u)
 | _,_,.nil,_ => fun u hu => by cases hu
 | y :: xs,u :: us,.cons r t,f => fun u' hu => by
  rw [List.all_cons,Bool.and_eq_true] at f
  rcases List.mem_cons.mp hu with rfl | hu
  ·rw [oB r f.1]; exact qz r rx f.1 fx
  ·exact gR rx fx t f.2 u' hu
def inV (x : V) (xs : List V) : Bool:=xs.any fun y => eqV y x
def rIn (K : PySem.W.Frag) (neg : Bool) : R2:=fun x y H Q => ∃ p xs,y = .ref p /\ (SqL K H p xs \/ SqT K H p xs) /\ gh x = true /\ xs.all gh = true /\ Q (.bl (if neg then !inV x xs else inV x xs)) H
theorem fV : OpR X (compareOp .In) (rIn X.K false):=by
 intro pins s σ H x y v u Q I rx ry h
 obtain ⟨p,xs,rfl,hq,fx,fs,q⟩:=h
 cases ry
 rcases hq with hq | hq
 ·obtain ⟨its,r,pl,hz⟩:=I.list hq
  refine SeqAt.in_listAt (eqU x) pl.isList (fun w hw => gR rx fx r fs w (by simpa using hw)) ⟨.bl _,H,I,rfl,?_⟩
  rw [show its.toArray.any (eqU x) = its.any (eqU x) by simp,js r fs]
  exact q
 ·obtain ⟨its,r,pl,hz⟩:=I.tuple hq
  refine SeqAt.in_tupleAt (eqU x) pl (fun w hw => gR rx fx r fs w (by simpa using hw)) ⟨.bl _,H,I,rfl,?_⟩
  rw [show its.toArray.any (eqU x) = its.any (eqU x) by simp,js r fs]
  exact q
theorem ba : cE X (.builtin "len") (fun xs H Q => ∃ p ys,xs = [.ref p] /\ (SqL X.K H p ys \/ SqT X.K H p ys) /\ Q (.int ys.length) H):=by
 intro pins s σ H xs us Q I r h
 obtain ⟨p,ys,rfl,hq,q⟩:=h
 obtain ⟨u,rfl,rx⟩:=vals1 r
 cases rx
 have hn:=gP
 rcases hq with hq | hq
 ·obtain ⟨its,r',pl,hz⟩:=I.list hq
  have hlen:=r'.length
  exact Calls.call_len_list pl.isList (by simp only [List.size_toArray] <;> omega) ⟨.int ys.length,H,I.tok _,⟨s.toks + 1,by rw [List.size_toArray,hlen]⟩,q⟩
 ·obtain ⟨its,r',pl,hz⟩:=I.tuple hq
  have hlen:=r'.length
  exact len_tuple pl (by simp only [List.size_toArray] <;> omega) ⟨.int ys.length,H,I.tok _,⟨s.toks + 1,by rw [List.size_toArray,hlen]⟩,q⟩
theorem fu : cE X (.builtin "len") (fun xs H Q => ∃ z,xs = [.str z] /\ z.length <= sizeLine /\ Q (.int z.length) H):=by
 intro pins s σ H xs us Q I r h
 obtain ⟨z,rfl,hz,q⟩:=h
 obtain ⟨u,rfl,t,rfl⟩:=vals1 r
 have hn:=gP
 exact len_str (by omega) ⟨.int z.length,H,I.tok _,⟨_,rfl⟩,q⟩
theorem hZ : cE X (.type "tuple") (fun xs H Q => ∃ p ys,xs = [.ref p] /\ ((SqL X.K H p ys /\ ∀ l,H l = none -> Q (.ref l) (upd H l (.tup ys))) \/ (SqT X.K H p ys /\ Q (.ref p) H))):=by
 intro pins s σ H xs us Q I r h
 obtain ⟨p,ys,rfl,h⟩:=h
 obtain ⟨u,rfl,rx⟩:=vals1 r
 cases rx
 rcases h with ⟨hq,q⟩ | ⟨hq,q⟩
 ·obtain ⟨its,r',pl,hz⟩:=I.list hq
  have hlen:=r'.length
  refine call_tuple_list pl.isList (fun h' kp => ?_) (by simp only [List.size_toArray] <;> omega)
  have I1 : Inv X pins σ H { s with heap:=h' }:=I.kept (t' := s.toks) kp
  have I2 : Inv X pins σ (upd H h'.objs.size (.tup ys)) { s with heap:=h'.push { cls:=.type "tuple",data:=.seq its.toArray } }:=
   I1.laid (t' := s.toks) (fun b o e => Heap.get?_push_of_some _ e) (Nat.le_refl _) (show ObjOk X.prog X.w _ _ _ (.tup ys) from ⟨hz,its,r',IsTup.new _ _⟩)
  exact ⟨.ref h'.objs.size,_,I2,rfl,q _ (I1.hok.fresh (Nat.le_refl _))⟩
 ·obtain ⟨its,r',pl,hz⟩:=I.tuple hq
  exact call_tuple_same pl ⟨.ref p,H,I,rfl,q⟩
def tyV (K : PySem.W.Frag) (T : String) (x : V) (H : Hp) : Prop:=match x with
 | .str _ => T = "str"
 | .int _ => T = "int"
 | .ref p => (T = "list" /\ ∃ xs,SqL K H p xs) \/ (T = "tuple" /\ ∃ o,K.lookup p = some o /\ o.cls = .type "tuple" /\ o.dict = none) \/
   (T = "dict" /\ ((∃ kvs,H p = some (.dK kvs)) \/ ∃ kvs,H p = some (.dT kvs))) \/ (T = "set" /\ ∃ S n,H p = some (.set S n))
 | _ => False
theorem pw {pins : List (Addr × Obj)} {σ : St} {H : Hp} {s : Shared} {T : String} {x : V} {v : Value} (I : Inv X pins σ H s) (r : RelV x v) (ty : tyV X.K T x H) :
  s.TypeIs v T /\ ∀ a,v = .ref a -> ∃ ob,s.heap.get? a = some ob /\ ob.dict = none:=by
 cases x with
 | str z =>
  obtain ⟨t,rfl⟩:=r
  cases (show T = "str" from ty)
  exact ⟨typeIs_str s z t,fun _ e => nomatch e⟩
 | int i =>
  obtain ⟨t,rfl⟩:=r
  cases (show T = "int" from ty)
  exact ⟨typeIs_int s i t,fun _ e => nomatch e⟩
 | ref p =>
  cases r
  rcases ty with ⟨rfl,xs,hq⟩ | ⟨rfl,o,hk,hc,hd⟩ | ⟨rfl,hk⟩ | ⟨rfl,S,n,hk⟩
  ·obtain ⟨its,_,pl,_⟩:=I.list hq
   refine ⟨pl.isList.typeIs,fun a e => ?_⟩
   cases e
   obtain ⟨o,n,e,c,hd,_⟩:=pl
   exact ⟨o,e,hd⟩
  ·refine ⟨⟨o,I.kIn p o hk,hc⟩,fun a e => ?_⟩
   cases e
   exact ⟨o,I.kIn _ o hk,hd⟩
  ·have z : ∃ o,s.heap.get? p = some o /\ o.ExactDict:=by
    rcases hk with ⟨kvs,hk⟩ | ⟨kvs,hk⟩
    ·obtain ⟨_,_,_,_,o,_,_,e,ex,_⟩:=I.hok p _ hk
     exact ⟨o,e,ex⟩
    ·obtain ⟨_,_,_,_,o,_,_,e,ex,_⟩:=I.hok p _ hk
     exact ⟨o,e,ex⟩
   obtain ⟨o,e,ex⟩:=z
   refine ⟨⟨o,e,ex.1⟩,fun a e2 => ?_⟩
   cases e2
   exact ⟨o,e,ex.2.1⟩
  ·obtain ⟨o,_,_,_,e,ex,_⟩:=I.hok p _ hk
   refine ⟨⟨o,e,ex.1⟩,fun a e2 => ?_⟩
   cases e2
   exact ⟨o,e,ex.2.1⟩
 | _ => exact False.elim ty
def rZ (K : PySem.W.Frag) (T : String) (r : V -> List V -> Hp -> VK -> Prop) (to : TE) : TE:=fun σ H Q => to σ H fun x H1 => tyV K T x H1 /\ r x [] H1 Q
def tBM (K : PySem.W.Frag) (T : String) (r : V -> List V -> Hp -> VK -> Prop) (to : TE) (t : TA) : TE:=fun σ H Q => to σ H fun x H1 => tyV K T x H1 /\ t σ H1 fun xs H2 => r x xs H2 Q
variable {o e : Expr} {es : List Expr} {to : TE} {t : TA} {name : Str} {apos cpos : Pos} {T id : String} {r : V -> List V -> Hp -> VK -> Prop}
theorem gW (pa : PlainAttrs T) (slot : Slot T name id) (hty : typeOf (.builtin id) = pure (.type "method_descriptor")) (hm : MtR X id r) (ho : PE X o to)
  (hbase : attributeBase o name X.env (eval o X.env) = eval o X.env:=by rfl) (hline : (apos.endLine == cpos.line) = true:=by rfl) : PE X (.Call (.Attribute o name apos) [] [] cpos) (rZ X.K T r to):=by
 intro pins s σ H Q I h
 refine wpAny_Call_method0_late hbase hline (thn (ho pins s σ H _ I h) fun v s1 ⟨x,H1,I1,r1,ty,q1⟩ => ?_)
 obtain ⟨h1,h2⟩:=pw I1 r1 ty
 exact ⟨T,id,pa,slot,hty,h1,h2,Calls.callWith_builtin rfl (PySem.evalArgs_none (hm pins s1 σ H1 x [] v [] Q I1 r1 .nil q1))⟩
theorem cL (pa : PlainAttrs T) (slot : Slot T name id) (hty : typeOf (.builtin id) = pure (.type "method_descriptor")) (hm : MtR X id r) (ho : PE X o to) (ha : PA X (e :: es) t)
  (hbase : attributeBase o name X.env (eval o X.env) = eval o X.env:=by rfl)
  (hfew : ((backTo cpos (starEach (e :: es) X.env)).all (fun x => !x.1) && (backToKw cpos (keywordEach [] X.env)).all (fun x => x.1.isSome)
   && decide ((e :: es).length + ([] : List Keyword).length + (if ([] : List Keyword).isEmpty then 0 else 1) < 30)) = true:=by rfl)
  (hline : (apos.endLine == cpos.line) = true:=by rfl) (hs : starEach (e :: es) X.env = (false,eval e X.env) :: starEach es X.env:=by rfl) (hplain : (backTo cpos (starEach es X.env)).any (·.1) = false:=by rfl) :
  PE X (.Call (.Attribute o name apos) (e :: es) [] cpos) (tBM X.K T r to t):=by
 intro pins s σ H Q I h
 refine wpAny_Call_method_late hbase hfew hline rfl (thn (ho pins s σ H _ I h) fun v s1 ⟨x,H1,I1,r1,ty,q1⟩ => ?_)
 obtain ⟨h1,h2⟩:=pw I1 r1 ty
 refine ⟨T,id,pa,slot,hty,h1,h2,?_⟩
 have hA:=ha cpos pins s1 σ H1 _ I1 q1
 rw [hs] at hA ⊢
 refine Calls.callWith_builtin (by show (false || (backTo cpos (starEach es X.env)).any (·.1)) = false; rw [hplain] <;> rfl) (Calls.evalArgs_plain ?_)
 exact thn hA fun us s2 ⟨vs,H2,I2,r2,q2⟩ => hm pins s2 σ H2 x vs v us Q I2 r1 r2 q2
/- xs.append(e),list.index on a module's tuple .. are MtR facts of 06m -/
end
end L2
namespace L2
open PySem PySem.Spec PyProof.Rows
def MtM (X : Cx) (id : String) (r : V -> List V -> Hp -> VK -> Prop) : Prop:=
 ∀ (pins : List (Addr × Obj)) (s : Shared) (σ : St) (H : Hp) (x : V) (xs : List V) (v : Value) (us : List Value) (Q : VK),Inv X pins σ H s -> RelV x v -> Vals xs us -> r x xs H Q ->
  wpAny (model X.prog X.w) X.A (call (.builtin id) (v :: us)) (EP X pins σ Q) X.xe s
theorem Vals.one : ∀ {x : V} {us : List Value},Vals [x] us -> ∃ u,us = [u] /\ RelV x u
 | _,_,.cons r .nil => ⟨_,rfl,r⟩
theorem Vals.two : ∀ {x y : V} {us : List Value},Vals [x,y] us -> ∃ u v,us = [u,v] /\ RelV x u /\ RelV y v
 | _,_,_,.cons r (.cons q .nil) => ⟨_,_,rfl,r,q⟩
theorem Vals.zero : ∀ {us : List Value},Vals [] us -> us = []
 | _,.nil => rfl
theorem Vals.dropLast {xs : List V} {us : List Value} (h : Vals xs us) : Vals xs.dropLast us.dropLast:=by
 induction h with
 | nil => exact .nil
 | cons r t ih =>
  cases t with
  | nil => exact .nil
  | cons q t' => exact .cons r ih
theorem mj {α : Type} (l : List α) : l.eraseIdx (l.length - 1) = l.dropLast:=by
 induction l with
 | nil => rfl
 | cons a r ih =>
  cases r with
  | nil => rfl
  | cons b r =>
   have e : (a :: b :: r).length - 1 = ((b :: r).length - 1) + 1:=by
    have h1 : (a :: b :: r).length = r.length + 2:=rfl
    have h2 : (b :: r).length = r.length + 1:=rfl
    omega
   rw [e,List.eraseIdx_cons_succ,ih]
   all_goals rfl
section
variable {X : Cx} {pins : List (Addr × Obj)} {σ : St} {H : Hp} {s : Shared} {l b : Addr} {xs ys zs : List V}
theorem Inv.lset {its its' : List Value} {n : Nat} {f : Array Value -> Array Value} {t' : Nat} (I : Inv X pins σ H s) (hH : H l = some (.lst xs))
  (e : s.heap.get? l = some { cls:=.type "list",data:=.seq its.toArray n }) (hf : f its.toArray = its'.toArray) (hv : Vals ys its') (hz : ys.length <= sizeLine) :
  Inv X pins σ (upd H l (.lst ys)) { s with heap:=s.heap.update l (Obj.mapSeq f),toks:=t' }:=by
 have q:=PySem.IsL.update e f
 rw [hf] at q
 refine I.write (x:=l) (e:=l) (by rw [hH]; exact trivial) (.inl rfl) (fun b' u hb hu => (Heap.get?_update_other s.heap (Obj.mapSeq f) (Ne.symm hb)).trans hu) ⟨_,q⟩ ?_
 exact ⟨hz,its',_,hv,q⟩
theorem Inv.lnew {its : List Value} {t' : Nat} (I : Inv X pins σ H s) (hv : Vals ys its) (hz : ys.length <= sizeLine) :
  Inv X pins σ (upd H s.heap.objs.size (.lst ys)) { s with heap:=s.heap.push { cls:=.type "list",data:=.seq its.toArray },toks:=t' }:=
 I.laid (fun _ _ q => Heap.get?_push_of_some _ q) (Nat.le_refl _) ⟨hz,its,0,hv,Heap.get?_push_size _ rfl⟩
theorem Inv.fresh (I : Inv X pins σ H s) : H s.heap.objs.size = none:=I.hok.fresh (Nat.le_refl _)
theorem Inv.lstM (I : Inv X pins σ H s) (hH : H l = some (.lst xs)) : xs.length <= sizeLine /\ ∃ (its : List Value) (n : Nat),Vals xs its /\ xs.length = its.length /\ s.heap.get? l = some { cls:=.type "list",data:=.seq its.toArray n }:=by
 obtain ⟨z,its,n,r,e⟩:=I.hok l _ hH
 exact ⟨z,its,n,r,r.length,e⟩
end
section
variable {X : Cx}
def p9 : V -> List V -> Hp -> VK -> Prop:=fun x vs H Q => ∃ l xs y,x = .ref l /\ vs = [y] /\ H l = some (.lst xs) /\ xs.length < sizeLine /\ Q .non (upd H l (.lst (xs ++ [y])))
theorem aV : MtM X "list.append" p9:=by
 intro pins s σ H x vs v us Q I rx rv h
 obtain ⟨l,xs,y,rfl,rfl,hH,hz,q⟩:=h
 cases rx
 obtain ⟨u,rfl,ru⟩:=rv.one
 obtain ⟨z,its,n,r,hl,e⟩:=I.lstM hH
 refine call_meets F.slot_list_append ⟨_,e,rfl⟩ F.entry_list_append (F.args_list_append_2 _ _) (PySem.list_append l its.toArray n u (by rw [List.size_toArray]; omega)) ⟨e,?_⟩
 refine ⟨.non,_,I.lset (its' := its ++ [u]) hH e (by simp) (r.append (.cons ru .nil)) ?_,rfl,q⟩
 rw [List.length_append,List.length_singleton]
 omega
def rY : V -> List V -> Hp -> VK -> Prop:=fun x vs H Q => ∃ l xs y,x = .ref l /\ vs = [] /\ H l = some (.lst xs) /\ xs[xs.length - 1]? = some y /\ Q y (upd H l (.lst xs.dropLast))
theorem gS : MtM X "list.pop" rY:=by
 intro pins s σ H x vs v us Q I rx rv h
 obtain ⟨l,xs,y,rfl,rfl,hH,hy,q⟩:=h
 cases rx
 have hus:=rv.zero
 subst hus
 obtain ⟨z,its,n,r,hl,e⟩:=I.lstM hH
 obtain ⟨u,hu,ru⟩:=r.get hy
 have hy' : its.toArray[its.toArray.size - 1]? = some u:=by
  show its.toArray[its.length - 1]? = some u
  rw [<- Array.getElem?_toList,<- hl]
  exact hu
 refine call_meets F.slot_list_pop ⟨_,e,rfl⟩ F.entry_list_pop (F.args_list_pop_1 _) (MeetsSeq.list_pop_last l its.toArray n u hy' (by rw [List.size_toArray]; omega)) ⟨e,?_⟩
 refine ⟨y,_,I.lset (its' := its.dropLast) hH e ?_ r.dropLast ?_,ru,q⟩
 ·show its.toArray.eraseIdxIfInBounds (its.toArray.size - 1) = its.dropLast.toArray
  rw [List.size_toArray,List.eraseIdxIfInBounds_toArray,mj]
 ·rw [List.length_dropLast]
  omega
def rU : R2:=fun x y H Q => ∃ l b xs zs,x = .ref l /\ y = .ref b /\ H l = some (.lst xs) /\ H b = some (.lst zs) /\ xs.length + zs.length <= sizeLine /\ ∀ p,H p = none -> Q (.ref p) (upd H p (.lst (xs ++ zs)))
theorem mC : OpR X (binaryOp .Add) rU:=by
 intro pins s σ H x y v u Q I rx ry h
 obtain ⟨l,b,xs,zs,rfl,rfl,hH,hB,hz,q⟩:=h
 cases rx
 cases ry
 obtain ⟨z,its,n,r,hl,e⟩:=I.lstM hH
 obtain ⟨z2,its2,n2,r2,hl2,e2⟩:=I.lstM hB
 refine PySem.P.add_list e e2 ?_ (by rw [List.size_toArray,List.size_toArray]; omega)
 have ea : its.toArray ++ its2.toArray = (its ++ its2).toArray:=by simp
 rw [ea]
 exact ⟨.ref _,_,I.lnew (t' := s.toks) (r.append r2) (by rw [List.length_append]; omega),rfl,q _ I.fresh⟩
end
section
variable {prog : Program} {w : World} {A : Around} {E : Value -> Shared -> Prop} {s : Shared}
end
section
variable {X : Cx}
end
end L2
namespace Att
open PySem PySem.W PySem.Calls PyProof.Rows
theorem gp {P : Params} {h : Heap} : ∀ (ns : List Int) (vs : List Value),WellAll P h vs (ns.map WData.int) -> IntsAre vs ns:=by
 intro ns
 induction ns with
 | nil =>
  intro vs w
  rw [List.map_nil] at w
  cases w
  exact .nil
 | cons n ns ih =>
  intro vs w
  rw [List.map_cons] at w
  cases w with
  | cons a b =>
   cases a
   exact .cons _ _ (ih _ b)
theorem n6 {l : OpenLaw} {n : Nat} (hn : l.most = some n) {P : Params} {h : Heap} {args : List WData} {vals : List Value}
  (hpre : l.row.toRowW.claim.pre args = true) (hwl : WellAll P h vals args) :
  ∃ a vs ns,vals = [Value.ref a] /\ args = [WData.list (ns.map WData.int)] /\ h.get? a = some { cls:=.type "list",data:=.seq vs.toArray } /\ IntsAre vs ns /\ ns.length <= n:=by
 have hsh : WShape.hasAll [] args [.list .int] = true:=(pre_splitW hpre).1
 have hc : l.pre.holds [] { args:=args } = true:=(pre_splitW hpre).2
 obtain ⟨d,r,rfl,h1,h2⟩:=hasAllW_cons hsh
 obtain rfl:=hasAllW_nil h2
 obtain ⟨xs,rfl,h3⟩:=hasW_list h1
 obtain ⟨ns,rfl⟩:=items_int h3
 have hlen : ns.length <= n:=by
  unfold OpenLaw.pre at hc
  have h4 : (WTm.not (.lt (.lit (.int (n : Int))) (.len (.arg 0)))).holds [] { args:=[.list (ns.map .int)] } = true:=by
   have h4:=(holds_andW hc).1
   rw [hn] at h4
   exact h4
  have h5:=condW_of h4 (w_not (w_lt w_lit (w_len_list (w_arg rfl))))
  rw [List.length_map] at h5
  refine Nat.le_of_not_lt fun q => ?_
  have q' : (n : Int) < ((ns.length : Nat) : Int):=by omega
  first
   | (rw [decide_eq_true q'] at h5; exact absurd h5 (by decide))
   | (simp at h5; omega)
 cases hwl with
 | cons w1 w2 =>
  cases w2
  cases w1 with
  | list ho hall => exact ⟨_,_,ns,rfl,rfl,ho,gp ns _ hall,hlen⟩
theorem n5 (l : OpenLaw) (args : List WData) : l.row.toRowW.claim.post args (.bool true) args = true:=
 postW_of (r:=l.row.toRowW) (X:=(true == true))
  (show WShape.has [] (.bool true) .bool = true by first | rfl | decide | simp [WShape.has,WShape.arms,WShape.armsAll])
  (show (WTm.eq .res (.lit (.bool true))).value [] { args:=args,res:=some (.bool true),after:=args } = some (.bool (true == true)) from w_eq_bool (w_res rfl) w_lit) rfl
theorem attach_call {l : OpenLaw} {n : Nat} {q : Program} {loose : List Str} {XP : (Str -> Option Value) -> Heap -> Prop} {YP : World -> Heap -> Prop} {d : DefRec}
  (hn : l.most = some n) (hdf : d.params.defaults = [])
  (call : ∀ (w : World) (s₀ s₁ : Shared) (mg mb : Str -> Option Value) (fa : Addr) (o : Obj) (pm cd doc : Value) (a : Addr) (vs : List Value) (ns : List Int),
   Ground q loose [] XP w s₀ mg mb s₁.heap -> YP w s₁.heap ->
   s₁.heap.get? fa = some o -> o.data = .func (docDef d.name d.params d.body d.scope pm cd doc) -> s₁.heap.CodeRec cd d.name -> mg d.name = some (.ref fa) ->
   s₁.heap.get? a = some { cls:=.type "list",data:=.seq vs.toArray } -> IntsAre vs ns -> ns.length <= n -> s₁.gens = #[] ->
   codeAny (model l.prog w) callerA (.call (.ref fa) ⟨[.ref a],[]⟩) (fun r s' => r = .ok (.ret (.bool true)) /\ OldK s₁.heap s'.heap /\ s'.os = s₁.os /\ AllBare s'.gens) s₁) :
  WalkO q loose XP YP l.row.toRowW d [] (fun f vs => PySem.call f vs):=by
 intro w s₀ s₁ mg mb G Y fa o pm cd doc dV kV ho hd hcd hD hmg hg args vals as hpre hlay hrd hwl hlo
 obtain rfl : dV = .none:=Dflts.none hD hdf
 obtain rfl : kV = .none:=Dflts.noKw hD
 obtain ⟨a,vs,ns,rfl,rfl,hobj,hints,hlen⟩:=n6 hn hpre hwl
 refine enter_call (codeAny_mono (call w s₀ s₁ mg mb fa o pm cd doc a vs ns G Y ho (fd_plain hd) hcd hmg hobj hints hlen hg) fun r s' hq => ?_)
 obtain ⟨rfl,h2,h3,h4⟩:=hq
 exact ⟨.inl ⟨.bool true,.bool true,[],rfl,fun _ => rfl,.bool true,n5 l _,fun _ => ⟨List.Pairwise.nil,fun _ hm => (nomatch hm)⟩⟩,h2,h3,h4⟩
section
variable {prog : Program} {w : World} {A : Around} {E : Value -> Shared -> Prop} {s : Shared} {K : Frag}
def ledger (h : Heap) (L d : Addr) : List (Addr × Obj):=(List.range h.objs.size).filterMap fun a => if a = L \/ a = d then none else (h.get? a).map fun o => (a,o)
end
end Att
namespace L2
open PySem PySem.Spec PyProof.Rows
theorem je : ∀ {vs : List Value} {ns : List Int},IntsAre vs ns -> Vals (ns.map V.int) vs
 | _,_,.nil => .nil
 | _,_,.cons n t h => .cons ⟨t,rfl⟩ (je h)
def qs (H : Hp) : Prop := ∀ b,H b = none \/ ∃ o xs,H b = some (.frz o (.lst xs))
theorem oO {P : Program} {w : World} {K : PySem.W.Frag} {mg mb : Str -> Option Value} {CX : CXT} {k : Nat} {fa a : Addr} {fd : FuncData} {x : Str} {sp : Sp} {s₁ : Shared} {vs : List Value} {ns : List Int}
  (KX : K.In s₁.heap) (hns : s₁.heap.Ns mainGlobals mg) (hb : s₁.heap.Ns builtinsNs mb) (hbb : ∀ x : Str,x ≠ "__name__" -> mb x = bootBuiltins x) (hlim : s₁.heap.NoLimit) (hg : s₁.gens = #[])
  (ha : s₁.heap.get? a = some { cls:=.type "list",data:=.seq vs.toArray }) (hi : IntsAre vs ns) (hl : ns.length <= sizeLine) (hr : Room k callerA)
  (F : ∀ base : Heap,K.In base -> base.Ns mainGlobals mg -> FnOk P w K mg base CX k fa fd [x] sp) (hbind : ∀ (s : Shared) (u : Value),BindsTo s fd ⟨[u],[]⟩ [(x,u)])
  (hsp : ∀ H : Hp,qs H -> SqL K H a (ns.map V.int) -> sp [.ref a] H (fun v _ => v = .bl true) fun _ _ _ => False)
  (hCX : ∀ H e s',CX [] H s₁ (fun _ _ _ => False) e s' -> False) :
  codeAny (model P w) callerA (.call (.ref fa) ⟨[.ref a],[]⟩) (fun r s' => r = .ok (.ret (.bool true)) /\ OldK s₁.heap s'.heap /\ s'.os = s₁.os /\ AllBare s'.gens) s₁:=by
 have rv:=je hi
 have lenV:=hi.length
 have core : ∀ H : Hp,qs H -> SqL K H a (ns.map V.int) -> HOk P w H s₁.heap -> (∀ b,H b ≠ none -> b = a) -> (H a ≠ none -> K.lookup a = none) ->
   codeAny (model P w) callerA (.call (.ref fa) ⟨[.ref a],[]⟩) (fun r s' => r = .ok (.ret (.bool true)) /\ OldK s₁.heap s'.heap /\ s'.os = s₁.os /\ AllBare s'.gens) s₁:=by
  intro H hO hS hok hA hK
  have base_of : ∀ {b : Addr} {o : Obj},s₁.heap.get? b = some o -> H b = none -> (jK s₁.heap H).get? b = some o:=fun e n => oE e n
  have noA : ∀ {b : Addr} {o : Obj} {es : Array DictEntry} {ep : Nat},s₁.heap.get? b = some o -> o.data = .dict es ep -> H b = none:=fun {b o es ep} e d => by
   cases q : H b with
   | none => rfl
   | some u =>
    have e' : b = a:=hA b (by rw [q]; simp)
    subst e'
    rw [ha] at e; cases e
    have d' : Data.seq vs.toArray _ = Data.dict es ep:=d
    cases d'
  have nsK : ∀ {b : Addr} {m : Str -> Option Value},s₁.heap.Ns b m -> (jK s₁.heap H).Ns b m:=fun {b m} ⟨o,es,ep,e,d,r⟩ => ⟨o,es,ep,base_of e (noA e d),d,r⟩
  have hKb : K.In (jK s₁.heap H):=fun b o e => base_of (KX b o e) (by
   cases q : H b with
   | none => rfl
   | some u =>
    have e' : b = a:=hA b (by rw [q]; simp)
    subst e'
    rw [hK (by rw [q]; simp)] at e; cases e)
  have hM : Mod K mg (jK s₁.heap H):=⟨hKb,nsK hns,⟨mb,nsK hb,hbb⟩,let ⟨mc,h1,h2⟩:=hlim; ⟨mc,nsK h1,h2⟩⟩
  have e0 : Env0 P w K mg (jK s₁.heap H) callerA [] s₁ H:=⟨rfl,hM,fun b o e => pY e,Nat.le_of_eq (nU _ _),trivial,fun b hb => absurd (show b ∈ ([] : List Addr) from hb) (by simp),hok,.of_eq hg⟩
  refine codeAny_mono ((F _ hKb (nsK hns)).run callerA [] s₁ H ⟨[.ref a],[]⟩ [.ref a] [.ref a] _ _ hr e0 (hbind s₁ (.ref a)) (.cons rfl .nil) (hsp H hO hS)) fun r s' h => ?_
  cases r with
  | error e => exact (hCX H e s' h).elim
  | ok fl =>
   cases fl with
   | next => exact False.elim h
   | brk => exact False.elim h
   | cont => exact False.elim h
   | ret u =>
    obtain ⟨v,H',os,bare,un,hok',r',q⟩:=h
    have q' : v = .bl true:=q
    subst q'
    obtain rfl : u = Value.bool true:=r'
    refine ⟨rfl,OldK.of_keep fun b o e => ?_,os,bare⟩
    cases q : H b with
    | none => exact un.keep b o e q (by intro z; exact absurd (show b ∈ ([] : List Addr) from z) (by simp)) (by simp)
    | some u =>
     rcases hO b with z | ⟨ob,xs,z⟩
     ·rw [q] at z; cases z
     ·have z2:=un.frzs b ob _ z
      obtain ⟨e1,_⟩:=hok b _ z
      obtain ⟨e2,_⟩:=hok' b _ z2
      rw [e] at e1; cases e1
      exact e2
 cases hk : K.lookup a with
 | some o =>
  have e:=KX a o hk
  rw [ha] at e
  cases e
  refine core (fun _ => none) (fun _ => .inl rfl) (.inr ⟨_,vs.toArray,_,hk,rfl,rfl,rfl,by rw [List.size_toArray,lenV]; exact hl,by simpa using rv⟩) (fun b u z => by have z' : (none : Option HO) = some u:=z; cases z') (fun b z => absurd rfl z) fun z => absurd rfl z
 | none =>
  refine core (fun b => if b = a then some (.frz { cls:=.type "list",data:=.seq vs.toArray } (.lst (ns.map V.int))) else none) (fun b => ?_) (.inl (.inr ⟨{ cls:=.type "list",data:=.seq vs.toArray },if_pos rfl⟩)) (fun b u z => ?_) (fun b z => ?_) fun _ => hk
  ·by_cases hb : b = a
   ·exact .inr ⟨_,_,if_pos hb⟩
   ·exact .inl (if_neg hb)
  ·by_cases hb : b = a
   ·have z' := (if_pos hb).symm.trans z
    cases z'
    subst hb
    exact ⟨ha,by rw [List.length_map]; exact hl,vs,_,rv,ha⟩
   ·have z' := (if_neg hb).symm.trans z
    cases z'
  ·by_cases hb : b = a
   ·exact hb
   ·exact absurd (if_neg hb) z
end L2
namespace L2
open PySem PySem.Spec PyProof.Rows
theorem walk_of {l : PySem.W.OpenLaw} {n k : Nat} {q : Program} {loose : List Str} {XP : (Str -> Option Value) -> Heap -> Prop} {YP : World -> Heap -> Prop} {d : DefRec} {K : Params -> PySem.W.Frag} {CX : World -> CXT} {sp : World -> Sp} {x : Str}
  (hn : l.most = some n) (hn2 : n <= sizeLine) (hdf : d.params.defaults = []) (hr : Room k callerA)
  (hY : ∀ (w : World) (h : Heap),YP w h -> (K w.params).In h)
  (F : ∀ (w : World) (mg : Str -> Option Value) (fa : Addr) (h : Heap),(K w.params).In h -> h.Ns mainGlobals mg -> mg d.name = some (.ref fa) ->
   ∃ fd : FuncData,(∀ (s : Shared) (u : Value),BindsTo s fd ⟨[u],[]⟩ [(x,u)]) /\
    ∀ base : Heap,(K w.params).In base -> base.Ns mainGlobals mg -> FnOk l.prog w (K w.params) mg base (CX w) k fa fd [x] (sp w))
  (hsp : ∀ (w : World) (H : Hp) (a : Addr) (ns : List Int),ns.length <= n -> qs H -> SqL (K w.params) H a (ns.map V.int) -> sp w [.ref a] H (fun v _ => v = .bl true) fun _ _ _ => False)
  (hCX : ∀ (w : World) (H : Hp) (s : Shared) (e : Value) (s' : Shared),CX w [] H s (fun _ _ _ => False) e s' -> False) :
  PySem.W.WalkO q loose XP YP l.row.toRowW d [] (fun f vs => PySem.call f vs):=by
 refine Att.attach_call hn hdf fun w s₀ s₁ mg mb fa o pm cd doc a vs ns G Y ho hd hcd hmg hobj hints hlen hg => ?_
 have KX:=hY w _ Y
 obtain ⟨fd,hb,hF⟩:=F w mg fa _ KX G.T.g hmg
 exact oO KX G.T.g G.T.b G.T.builtins G.T.nolimit hg hobj hints (Nat.le_trans hlen hn2) hr hF hb (fun H hO hS => hsp w H a ns hlen hO hS) fun H e s' => hCX w H s₁ e s'
end L2
namespace L2
open PySem PySem.Spec PyProof.Rows
def aN (s : Stmt) : Arguments:=match s with
 | .FunctionDef _ a _ _ _ _ _ _ _ _ => a
 | _ => { posonlyargs:=[],args:=[],vararg:=none,kwonlyargs:=[],kw_defaults:=[],kwarg:=none,defaults:=[] }
def aI (s : Stmt) : List Stmt:=match s with
 | .FunctionDef _ _ b _ _ _ _ _ _ _ => b
 | _ => []
def ao (s : Stmt) : Scope:=match s with
 | .FunctionDef _ _ _ _ _ _ sc _ _ _ => sc
 | _ => { kind:=.function,names:=[],isGenerator:=false,isCoroutine:=false }
abbrev CX0 : CXT:=fun _ _ _ _ _ _ => False
abbrev E0 : XK:=fun _ _ _ => False
structure Fun (K : PySem.W.Frag) (x qual : Str) (st : Stmt) (f : Addr) (fd : FuncData) : Prop where
 ex : ∃ (oc : Value) (od : Option Addr) (kV doc pm : Value) (an : Option Addr) (cdv ct : Value) (osl : Array (Option Value)),
  fd = PySem.W.fnOf x qual (aN st) (aI st) (ao st) .none kV doc pm an cdv ct /\ K.lookup f = some ⟨oc,od,.func fd,osl⟩ /\ PySem.W.codeIn K cdv qual = true
 kp : PySem.W.keepIn K (.ref f) = true
section
variable {P : Program} {w : World} {K : PySem.W.Frag} {mg : Str -> Option Value} {base : Heap}
end
theorem c5 {n : Nat} (h : n <= 1000) : n < sizeLine:=Nat.lt_of_le_of_lt h (by decide)
section
variable {X : Cx}
theorem pv (i : Nat) {x : Str} {pos : Pos} (hN : X.N[i]? = some x:=by rfl) (hv : Vis X.env.scope x:=by first | exact Or.inl rfl | exact Or.inr (Or.inl rfl) | exact Or.inr (Or.inr rfl)) (hd : (x == ("__debug__" : Str)) = false:=by decide)
  (hcd : (x == ("__classdict__" : Str)) = false:=by decide) : PE X (.Name x pos) (rG i):=qM hN hv hd hcd
end
theorem pT {A B : Prop} (h : B) : if false = true then A else B:=by
 rw [if_neg Bool.false_ne_true]
 exact h
theorem mn {A B : Prop} (h : A) : if true = true then A else B:=by
 rw [if_pos rfl]
 exact h
theorem k7 {c A B : Prop} [Decidable c] (h1 : c -> A) (h2 : ¬ c -> B) : if c then A else B:=by
 by_cases h : c
 ·rw [if_pos h]
  exact h1 h
 ·rw [if_neg h]
  exact h2 h
def Same (H H' : Hp) : Prop := ∀ b o,H b = some o -> H' b = some o
theorem Same.refl (H : Hp) : Same H H:=fun _ _ h => h
theorem Same.trans {H H1 H2 : Hp} (a : Same H H1) (b : Same H1 H2) : Same H H2:=fun c o h => b c o (a c o h)
theorem Same.free {H H' : Hp} (e : Same H H') {l : Addr} (h : H' l = Option.none) : H l = Option.none:=by
 cases q : H l with
 | none => rfl
 | some o =>
  rw [e l o q] at h
  cases h
theorem Same.seq {K : PySem.W.Frag} {H H' : Hp} {a : Addr} {xs : List V} (e : Same H H') (h : SqL K H a xs) : SqL K H' a xs:=by
 rcases h with (h | ⟨o,h⟩) | h
 ·exact .inl (.inl (e _ _ h))
 ·exact .inl (.inr ⟨o,e _ _ h⟩)
 ·exact .inr h
end L2
set_option Elab.async false
set_option linter.all false
set_option maxRecDepth 100000
namespace L2
open PySem PySem.Spec PyProof.Rows
def bg (cells : List (Str × Addr)) : List (Str × NameKind) -> List (Str × Addr) -> List (Str × Addr)
 | [],cs => cs
 | (n,k) :: r,cs => bg cells r (if k == .free then (n,(cells.lookup n).getD 0) :: cs else cs)
theorem eR {scope : Scope} {env : Env} (h : ∀ y ∈ scope.names,y.2 = .free -> ∃ c,env.cells.lookup y.1 = some c) :
  closureFor scope env = pure (bg env.cells scope.names []):=by
 have all : ∀ (ns : List (Str × NameKind)) (cs : List (Str × Addr)),(∀ y ∈ ns,y.2 = .free -> ∃ c,env.cells.lookup y.1 = some c) ->
   (forIn ns cs (fun (x : Str × NameKind) (r : List (Str × Addr)) => (match x with
    | (name,kind) => if (kind == NameKind.free) = true then (do let c <- cellOf env name; pure (ForInStep.yield ((name,c) :: r))) else pure (ForInStep.yield r) : Sem (ForInStep (List (Str × Addr))))) : Sem (List (Str × Addr)))
   = pure (bg env.cells ns cs):=by
  intro ns
  induction ns with
  | nil => intro cs _; rfl
  | cons y r ih =>
   intro cs hy
   obtain ⟨n,k⟩:=y
   rw [List.forIn_cons]
   by_cases hk : k = .free
   ·subst hk
    obtain ⟨c,e⟩:=hy (n,.free) List.mem_cons_self rfl
    have e' : env.cells.lookup n = some c:=e
    have e1 : cellOf env n = pure c:=by unfold cellOf; rw [e']
    simp only [beq_self_eq_true,if_true,e1,pure_bind]
    rw [ih _ fun z hz => hy z (List.mem_cons_of_mem _ hz)]
    simp only [bg,beq_self_eq_true,if_true,e',Option.getD_some]
   ·have hb : (k == NameKind.free) = false:=by simpa using hk
    simp only [hb,Bool.false_eq_true,if_false,pure_bind]
    rw [ih _ fun z hz => hy z (List.mem_cons_of_mem _ hz)]
    simp only [bg,hb,Bool.false_eq_true,if_false]
 unfold closureFor
 have q:=all scope.names [] h
 simp only [bind_pure]
 exact q
theorem eP (cells : List (Str × Addr)) {x : Str} {c : Addr} : ∀ (ns : List (Str × NameKind)) (cs : List (Str × Addr)),(bg cells ns cs).lookup x = some c ->
  ((x,NameKind.free) ∈ ns /\ (cells.lookup x).getD 0 = c) \/ cs.lookup x = some c
 | [],_,h => .inr h
 | (n,k) :: r,cs,h => by
  rcases eP cells r _ h with ⟨h1,h2⟩ | h1
  ·exact .inl ⟨List.mem_cons_of_mem _ h1,h2⟩
  ·by_cases hk : k = .free
   ·subst hk
    simp only [beq_self_eq_true,if_true] at h1
    by_cases hx : x = n
    ·subst hx
     simp only [List.lookup_cons,beq_self_eq_true] at h1
     exact .inl ⟨List.mem_cons_self,Option.some.inj h1⟩
    ·have hb : (x == n) = false:=by simpa using hx
     simp only [List.lookup_cons,hb] at h1
     exact .inr h1
   ·have hb : (k == NameKind.free) = false:=by simpa using hk
    simp only [hb,Bool.false_eq_true,if_false] at h1
    exact .inr h1
theorem du (cells : List (Str × Addr)) {x : Str} {c : Addr} (e : cells.lookup x = some c) : ∀ (ns : List (Str × NameKind)) (cs : List (Str × Addr)),((x,NameKind.free) ∈ ns \/ cs.lookup x = some c) ->
  (bg cells ns cs).lookup x = some c
 | [],_,h => by
  rcases h with h | h
  ·cases h
  ·exact h
 | (n,k) :: r,cs,h => by
  refine du cells e r _ ?_
  rcases h with h | h
  ·rcases List.mem_cons.mp h with z | z
   ·cases z
    right
    simp only [beq_self_eq_true,if_true,List.lookup_cons,e,Option.getD_some]
   ·exact .inl z
  ·right
   by_cases hk : (k == NameKind.free) = true
   ·rw [if_pos hk]
    by_cases hx : x = n
    ·subst hx
     simp only [List.lookup_cons,beq_self_eq_true,e,Option.getD_some]
    ·have hb : (x == n) = false:=by simpa using hx
     simp only [List.lookup_cons,hb]
     exact h
   ·rw [if_neg hk]
    exact h
theorem fK {env : Env} : ∀ {names : List (Str × NameKind)} {x : Str},names.lookup x = some .free ->
  (names.map fun (n,k) => if (k == NameKind.free && env.scope.kind == .function && env.kindOf n == some .cell) then (n,NameKind.cell) else (n,k)).lookup x = some .cell \/
  (names.map fun (n,k) => if (k == NameKind.free && env.scope.kind == .function && env.kindOf n == some .cell) then (n,NameKind.cell) else (n,k)).lookup x = some .free
 | [],_,h => by simp at h
 | (n,k) :: r,x,h => by
  have ih:=@fK env r x
  show List.lookup x ((if (k == NameKind.free && env.scope.kind == .function && env.kindOf n == some .cell) = true then (n,NameKind.cell) else (n,k)) :: _) = _ \/
   List.lookup x ((if (k == NameKind.free && env.scope.kind == .function && env.kindOf n == some .cell) = true then (n,NameKind.cell) else (n,k)) :: _) = _
  cases hx : x == n with
  | true =>
   simp only [List.lookup_cons,hx] at h
   cases h
   by_cases hc : (NameKind.free == NameKind.free && env.scope.kind == .function && env.kindOf n == some .cell) = true
   ·rw [if_pos hc]; simp only [List.lookup_cons,hx]; first | exact .inl trivial | exact .inl rfl
   ·rw [if_neg hc]; simp only [List.lookup_cons,hx]; first | exact .inr trivial | exact .inr rfl
  | false =>
   simp only [List.lookup_cons,hx] at h
   by_cases hc : (k == NameKind.free && env.scope.kind == .function && env.kindOf n == some .cell) = true
   ·rw [if_pos hc]; simp only [List.lookup_cons,hx]; exact ih h
   ·rw [if_neg hc]; simp only [List.lookup_cons,hx]; exact ih h
theorem dH {env : Env} : ∀ {names : List (Str × NameKind)} {x : Str} {k' : NameKind},k' = .cell \/ k' = .free -> (∀ y ∈ names,y.2 ≠ .cell) ->
  (names.map fun (n,k) => if (k == NameKind.free && env.scope.kind == .function && env.kindOf n == some .cell) then (n,NameKind.cell) else (n,k)).lookup x = some k' -> (x,NameKind.free) ∈ names
 | [],_,_,_,_,h => by simp at h
 | (n,k) :: r,x,k',hk',hn,h => by
  have ih:=@dH env r x k' hk' (fun y hy => hn y (List.mem_cons_of_mem _ hy))
  have h' : List.lookup x ((if (k == NameKind.free && env.scope.kind == .function && env.kindOf n == some .cell) = true then (n,NameKind.cell) else (n,k)) :: (r.map fun (n,k) => if (k == NameKind.free && env.scope.kind == .function && env.kindOf n == some .cell) then (n,NameKind.cell) else (n,k))) = some k' := h
  have hkc : k ≠ .cell:=hn (n,k) List.mem_cons_self
  cases hx : x == n with
  | true =>
   have hxn : x = n:=by simpa using hx
   subst hxn
   by_cases hc : (k == NameKind.free && env.scope.kind == .function && env.kindOf x == some .cell) = true
   ·have hk : k = .free:=by
     simp only [Bool.and_eq_true,beq_iff_eq] at hc
     exact hc.1.1
    subst hk
    exact List.mem_cons_self
   ·rw [if_neg hc] at h'
    simp only [List.lookup_cons,beq_self_eq_true] at h'
    have hk : k = k' := Option.some.inj h'
    rcases hk' with z | z
    ·exact absurd (hk.trans z) hkc
    ·rw [hk,z]; exact List.mem_cons_self
  | false =>
   refine List.mem_cons_of_mem _ (ih ?_)
   by_cases hc : (k == NameKind.free && env.scope.kind == .function && env.kindOf n == some .cell) = true
   ·rw [if_pos hc] at h'
    simpa only [List.lookup_cons,hx] using h'
   ·rw [if_neg hc] at h'
    simpa only [List.lookup_cons,hx] using h'
def aM (ix : List (Option Nat)) (σ : St) : St:=ix.map fun o => match o with
 | none => none
 | some i => (σ[i]?).join
structure BlkScope (NX : List Str) (scX : Scope) (N : List Str) (ix : List (Option Nat)) (sc : Scope) : Prop where
 kind : sc.kind = .function
 nd : N.Nodup
 nocell : ∀ y ∈ sc.names,y.2 ≠ .cell
 locs : ∀ y ∈ sc.names,y.2 = .local -> sc.names.lookup y.1 = some .local
 free : ∀ y ∈ sc.names,y.2 = .free -> scX.names.lookup y.1 = some .cell \/ scX.names.lookup y.1 = some .free
 len : ix.length = N.length
 at_ : ∀ p ∈ N.zip ix,∀ i,p.2 = some i -> NX[i]? = some p.1 /\ sc.names.lookup p.1 = some .free
def aZ (X : Cx) (N : List Str) (scope : Scope) (fp : List Addr) (s : Shared) (H : Hp) (C : Addr) : Cx:=
 { prog:=X.prog,w:=X.w,K:=X.K,mg:=X.mg,base:=X.base,A:=X.A,N:=N,s₀:=s,H₀:=H,env:=compEnvC scope (bg X.env.cells scope.names []) C X.env,outer:=X.stack,stack:=X.stack,ex:=fp,fn:=fun _ => false,calm:=X.calm,pn:=X.pn,xe:=fun _ _ => False }
theorem gs {names : List (Str × NameKind)} {x : Str} (h : names.lookup x = some .free) : (x,NameKind.free) ∈ names:=PySem.mem_of_lookup h
section
variable {X : Cx} {pins : List (Addr × Obj)} {σ : St} {H : Hp} {s : Shared} {N : List Str} {ix : List (Option Nat)} {scope : Scope} {fp : List Addr}
theorem BlkScope.clos (S : BlkScope X.N X.env.scope N ix scope) (ok : X.Ok) : ∀ y ∈ scope.names,y.2 = .free -> ∃ c,X.env.cells.lookup y.1 = some c:=fun y hy hf => ok.has y.1 (S.free y hy hf)
theorem i6 {D C : Addr} {h' : Heap} {tk : Nat} {m : Str -> Option Value} (I : Inv X pins σ H s) (S : BlkScope X.N X.env.scope N ix scope) (hf : ∀ b ∈ fp,fQ X pins H b)
  (hfo : ∀ b ∈ fp,∃ o,s.heap.get? b = some o /\ ∀ v,o.data ≠ .cell v)
  (hD : s.heap.objs.size <= D) (hC : s.heap.objs.size <= C) (hDC : D ≠ C) (hk : ∀ b o,s.heap.get? b = some o -> h'.get? b = some o) (hns : h'.Ns C m)
  (hl : ∃ n,h'.get? D = some { cls:=.type "list",data:=.seq ([] : List Value).toArray n }) :
  Inv (aZ X N scope fp s H C) pins (aM ix σ) (upd H D (.lst [])) { s with heap:=h',toks:=tk }:=by
 have fresh : ∀ {a : Addr},s.heap.objs.size <= a -> H a = none:=fun h => I.hok.fresh h
 have cl_of : ∀ x c,(bg X.env.cells scope.names []).lookup x = some c -> X.env.cells.lookup x = some c:=fun x c e => by
  rcases eP _ _ _ e with ⟨h1,h2⟩ | h1
  ·obtain ⟨c',e'⟩:=S.clos I.ok _ h1 rfl
   have e'' : X.env.cells.lookup x = some c' := e'
   rw [e''] at h2
   rw [e'']
   exact congrArg some h2
  ·simp at h1
 have ltO : ∀ {b : Addr} {o : Obj},s.heap.get? b = some o -> b < s.heap.objs.size:=fun e => Heap.lt_size e
 have neC : ∀ {b : Addr} {o : Obj},s.heap.get? b = some o -> b ≠ C:=fun e => Nat.ne_of_lt (Nat.lt_of_lt_of_le (ltO e) hC)
 have neD : ∀ {b : Addr} {o : Obj},s.heap.get? b = some o -> b ≠ D:=fun e => Nat.ne_of_lt (Nat.lt_of_lt_of_le (ltO e) hD)
 have cellG : ∀ x c,X.env.cells.lookup x = some c -> ∃ o,s.heap.get? c = some o:=fun x c e => by
  obtain ⟨v,o,ho,_⟩:=I.cell x c e
  exact ⟨o,ho⟩
 refine ⟨⟨I.ok.mod,?_,I.ok.glob,I.ok.blt,hC,fun x y c e1 e2 => I.ok.inj x y c (cl_of x c e1) (cl_of y c e2),fun x hx => ?_,fun x c h _ => ?_,I.ok.hd,I.ok.frames,.inl rfl,fun b hb => ?_,I.bs,Nat.le_trans I.ok.bsz I.sz,fun b o e hb => ?_,fun b hb hb2 => ?_,I.stack,I.stkFree⟩,
  rfl,I.bare,Un.laid hk hD (fresh hD),⟨m,hns,fun j x v e1 e2 e3 => ?_⟩,fun x c e => ?_,?_,fun x c e => ?_,fun p hp => ?_,I.hok.laid hk hD ?_,?_⟩
 ·exact S.kind
 ·have hx' : (x,NameKind.free) ∈ scope.names:=by
   rcases hx with hx | hx
   ·exact dH (.inl rfl) S.nocell hx
   ·exact dH (.inr rfl) S.nocell hx
  obtain ⟨c,e⟩:=S.clos I.ok _ hx' rfl
  exact ⟨c,du _ e _ _ (.inl hx')⟩
 ·exact absurd (show false = true from h) Bool.false_ne_true
 ·obtain ⟨f0,f1,f2,f3,f4,f5⟩:=hf b hb
  obtain ⟨o,e,_⟩:=hfo b hb
  exact ⟨neC e,fun x c ec => f4 x c (cl_of x c ec)⟩
 ·obtain ⟨f0,f1,f2,f3,f4,f5⟩:=hf b hb
  rcases f3 with z | z
  ·exact I.ok.noex b o e z
  ·exact absurd (Nat.lt_of_lt_of_le (Heap.lt_size (I.ok.bs b o e).1) z) (Nat.lt_irrefl _)
 ·obtain ⟨f0,f1,f2,f3,f4,f5⟩:=hf b hb
  rcases List.mem_cons.mp (I.stkSub b hb2) with z | z
  ·exact f1 z
  ·exact f2 z
 ·-- a name's value
  obtain ⟨mX,hnX,hlX⟩:=id I.loc
  have hj : (aM ix σ)[j]? = some (some v):=e2
  unfold aM at hj
  rw [List.getElem?_map] at hj
  cases ej : ix[j]? with
  | none => rw [ej] at hj; cases hj
  | some o =>
   rw [ej] at hj
   cases o with
   | none => cases hj
   | some i =>
    have hj' : (σ[i]?).join = some v:=Option.some.inj hj
    have hz : (x,some i) ∈ N.zip ix:=List.mem_iff_getElem?.mpr ⟨j,by rw [List.getElem?_zip_eq_some]; exact ⟨e1,ej⟩⟩
    obtain ⟨hNi,hfr⟩:=S.at_ _ hz i rfl
    have hmem:=gs hfr
    have hσ : σ[i]? = some (some v):=by
     cases q : σ[i]? with
     | none => rw [q] at hj'; cases hj'
     | some w' =>
      rw [q] at hj'
      have q' : w' = some v:=hj'
      rw [q']
    have hvx : X.env.scope.names.lookup x = some .cell \/ X.env.scope.names.lookup x = some .free:=S.free _ hmem rfl
    obtain ⟨u,r,lk⟩:=hlX i x v hNi hσ (.inr hvx)
    refine ⟨u,r,.inr ⟨?_,?_⟩⟩
    ·exact fK hfr
    ·rcases lk with ⟨k,_⟩ | ⟨k,c,ec,ci⟩
     ·have k' : X.env.scope.names.lookup x = some .local:=k
      rcases hvx with z | z
      ·rw [z] at k'; cases k'
      ·rw [z] at k'; cases k'
     ·obtain ⟨oc,hoc,hocd⟩:=ci
      exact ⟨c,du _ ec _ _ (.inl hmem),oc,hk c oc hoc,hocd⟩
 ·obtain ⟨v,o,ho,hd⟩:=I.cell x c (cl_of x c e)
  exact ⟨v,o,hk c o ho,hd⟩
 ·show upd H D (.lst []) C = none
  rw [ar (Ne.symm hDC)]
  exact fresh hC
 ·obtain ⟨o,ho⟩:=cellG x c (cl_of x c e)
  rw [ar (neD ho)]
  exact I.freeC x c (cl_of x c e)
 ·obtain ⟨e,n,ne,nf,d⟩:=I.pin p hp
  refine ⟨hk _ _ e,by rw [ar (neD e)]; exact n,neC e,fun z => ?_,d⟩
  rcases List.mem_cons.mp (I.stkSub p.1 z) with q | q
  ·exact ne q
  ·exact nf q
 ·obtain ⟨n,hl⟩:=hl
  exact ⟨Nat.zero_le _,[],n,.nil,hl⟩
 ·show (aM ix σ).length = N.length
  unfold aM
  rw [List.length_map]
  exact S.len
end
end L2
set_option Elab.async false
set_option linter.all false
set_option maxRecDepth 100000
namespace L2
open PySem PySem.Spec PyProof.Rows
theorem kS {prog : Program} {w : World} {A : Around} {R : Result -> Shared -> Prop} {s : Shared} {elt target iter : Expr} {scope : Scope} {pos : Pos} {it acc : Value} {env : Env} (I : Nat -> Shared -> Prop)
  (turn : ∀ n s,I n s -> wpAny (model prog w) A (pyNext it) (fun r s₁ => match r with
   | none => R (.ok .next) s₁
   | some v => wpAny (model prog w) A (letOwnedTupleGo target it v) (fun _ s₁' => wpAny (model prog w) A (assign target env v) (fun _ s₂ => wpAny (model prog w) A (eval elt env) (fun x s₃ =>
     wpAny (model prog w) A (call (.builtin "list.append") [acc,x]) (fun _ s₄ => ∃ m,m < n /\ I m s₄) (fun _ _ => False) s₃)
     (fun _ _ => False) s₂) (fun _ _ => False) s₁') (fun _ _ => False) s₁) (fun _ _ => False) s)
  (n : Nat) (h : I n s) :
  codeAny (model prog w) A (.compLoop (.ListComp elt [⟨target,iter,[],0⟩] scope pos) 0 it acc env) R s:=by
 refine codeAny_loop rfl I (fun n s hI => ?_) n h
 show wpAny _ _ ((compTurn (.ListComp elt [⟨target,iter,[],0⟩] scope pos) 0 it acc env).onRaise (fun x => do noteFrame x env; theTreesLotGoes x)) _ _ s
 refine wpAny_noted ?_
 rw [compTurn_list1]
 refine wpAny_bind (wpAny_standAt (wpAny_bind (wpAny_mono (turn n s hI) (fun r s₁ h₁ => ?_) fun _ _ h' => h'.elim)))
 cases r with
 | none => exact wpAny_pure h₁
 | some v =>
  refine wpAny_bind (wpAny_mono h₁ (fun _ s₁' h₁' => ?_) fun _ _ h' => h'.elim)
  exact wpAny_bind (wpAny_mono h₁' (fun _ s₂ h₂ => wpAny_bind (wpAny_bind (wpAny_mono h₂ (fun x s₃ h₃ => wpAny_bind (wpAny_mono h₃
   (fun _ s₄ h₄ => wpAny_pure (wpAny_pure ⟨rfl,h₄⟩)) fun _ _ h' => h'.elim)) fun _ _ h' => h'.elim))) fun _ _ h' => h'.elim)
def mP (J : It) (ix : List (Option Nat)) (g : TG) (te : TE) (σ : St) (H : Hp) (Qd : Addr -> Hp -> Prop) : Prop:=
 ∀ D,H D = none -> ∃ W : Nat -> Nat -> St -> Hp -> Prop,(∃ m,W 0 m (aM ix σ) (upd H D (.lst []))) /\ ∀ i m σ' H',W i m σ' H' ->
  (J.stop i H' /\ Qd D H') \/ (J.go i H' /\ ∀ x H2,J.yld i H' x H2 -> g x σ' H2 fun σ3 H3 => te σ3 H3 fun y H4 => ∃ ys,H4 D = some (.lst ys) /\ ys.length < sizeLine /\ ∃ m',m' < m /\ W (i + 1) m' σ3 (upd H4 D (.lst (ys ++ [y]))))
section
variable {X : Cx} {pins : List (Addr × Obj)} {σ : St} {H : Hp} {s : Shared} {N : List Str} {ix : List (Option Nat)} {scope : Scope} {fp : List Addr} {tg elt iter : Expr} {pos spos : Pos} {J : It} {it : Addr} {tn : Nat -> Heap -> Prop} {g : TG} {te : TE} {wi : TI}
theorem ou {Qd : Addr -> Hp -> Prop} {RR : Value -> Addr -> Result -> Shared -> Prop} {E : Value -> Shared -> Prop} (I : Inv X pins σ H s) (hc : X.calm = true) (S : BlkScope X.N X.env.scope N ix scope) (T : Turn X.prog X.w X.K tg J fp it tn) (st : tn 0 s.heap) (f2 : ∀ b ∈ fp,fQ X pins H b)
  (hg : ∀ C,PG (aZ X N scope fp s H C) tg g) (he : ∀ C,PE (aZ X N scope fp s H C) elt te) (hW : mP J ix g te σ H Qd)
  (hR : ∀ D C s' H' m,Inv X pins σ H' s' -> s'.heap.Ns C m -> fQ X pins H' C -> Qd D H' -> RR (.ref D) C (.ok .next) s') :
  wpAny (model X.prog X.w) X.A (newList []) (fun acc s₃ => wpAny (model X.prog X.w) X.A (newFunctionEnv scope X.env.globals (bg X.env.cells scope.names []) [] X.env.qual none .none (some X.env)) (fun cenv s₄ =>
   codeAny (model X.prog X.w) X.A (.compStart (.ListComp elt [⟨tg,iter,[],0⟩] scope pos) 0 (.ref it) acc { cenv with scope:=relabel scope X.env }) (RR acc cenv.locals) s₄) E s₃) E s:=by
 refine wpAny_newObj_type (wpAny_newFunctionEnv S.nocell (by intro y hy; simp at hy) (fun h₁ hns₁ hsb₁ => ?_) S.kind)
 dsimp only at hns₁ hsb₁ ⊢
 generalize hH2 : s.heap.push { cls:=.type "list",dict:=none,data:=.seq ([] : List Value).toArray } = H2 at hns₁ hsb₁ ⊢
 have hC : H2.objs.size = s.heap.objs.size + 1:=by rw [<- hH2,Heap.size_push]
 have hDC : s.heap.objs.size ≠ H2.objs.size:=by rw [hC]; exact Nat.ne_of_lt (Nat.lt_succ_self _)
 have hCle : s.heap.objs.size <= H2.objs.size:=by rw [hC]; exact Nat.le_succ _
 have below : ∀ b,b < s.heap.objs.size -> b ≠ H2.objs.size:=fun b hb => by rw [hC]; exact Nat.ne_of_lt (Nat.lt_succ_of_lt hb)
 have old : ∀ b o,s.heap.get? b = some o -> h₁.get? b = some o:=fun b o e => hsb₁.extBut b o (below b (Heap.lt_size e)) (Heap.get?_push_of_some _ (hH2 ▸ Heap.get?_push_of_some _ e))
 have hacc : ∃ n,h₁.get? s.heap.objs.size = some { cls:=.type "list",data:=.seq ([] : List Value).toArray n }:=⟨_,hsb₁.extBut _ _ hDC (Heap.get?_push_of_some _ (hH2 ▸ Heap.get?_push_size _ rfl))⟩
 have st1 : tn 0 h₁:=T.keep _ _ _ st fun b _ o e => old b o e
 have fo : ∀ b ∈ fp,∃ o,s.heap.get? b = some o /\ ∀ v,o.data ≠ .cell v:=T.obj _ _ st
 have I0 : Inv (aZ X N scope fp s H H2.objs.size) pins (aM ix σ) (upd H s.heap.objs.size (.lst [])) { s with heap:=h₁,toks:=s.toks + ([] : List (Str × Value)).length }:=
  i6 I S f2 fo (Nat.le_refl _) hCle hDC old hns₁ hacc
 have freshD : H s.heap.objs.size = none:=I.hok.fresh (Nat.le_refl _)
 obtain ⟨W,⟨m0,w0⟩,turn⟩:=hW s.heap.objs.size freshD
 have cl_ne : ∀ b ∈ fp,b ≠ H2.objs.size:=fun b hb => by
  obtain ⟨o,e,_⟩:=fo b hb
  exact below b (Heap.lt_size e)
 have stat : ∀ {H' : Hp},(∀ b ∈ fp,H' b = none) -> ∀ b ∈ fp,fQ (aZ X N scope fp s H H2.objs.size) pins H' b:=fun hn b hb => by
  obtain ⟨f0,f1,f3,f4,f5,f6⟩:=f2 b hb
  exact ⟨hn b hb,cl_ne b hb,I0.ok.exfs b hb,.inl hb,(I0.ok.exf b hb).2,f6⟩
 have fr0 : ∀ b ∈ fp,(upd H s.heap.objs.size (.lst [])) b = none:=fun b hb => by
  obtain ⟨o,e,_⟩:=fo b hb
  rw [ar (Nat.ne_of_lt (Heap.lt_size e))]
  exact (f2 b hb).1
 have loop : codeAny (model X.prog X.w) X.A (.compLoop (.ListComp elt [⟨tg,iter,[],0⟩] scope pos) 0 (.ref it) (.ref s.heap.objs.size) (compEnvC scope (bg X.env.cells scope.names []) H2.objs.size X.env))
   (RR (.ref s.heap.objs.size) H2.objs.size) { s with heap:=h₁,toks:=s.toks + ([] : List (Str × Value)).length }:=by
  refine kS (fun n s' => ∃ i σ' H',Inv (aZ X N scope fp s H H2.objs.size) pins σ' H' s' /\ tn i s'.heap /\ (∀ b ∈ fp,H' b = none) /\ W i n σ' H') ?_ m0 ⟨0,_,_,I0,st1,fr0,w0⟩
  rintro n s3 ⟨i,σ3,H3,I3,st3,fr3,w3⟩
  rcases turn i n σ3 H3 w3 with ⟨stop,qn⟩ | ⟨go,step⟩
  ·refine thn (T.done (aZ X N scope fp s H H2.objs.size) rfl rfl rfl hc i pins s3 σ3 H3 _ I3 (stat fr3) st3 stop) fun r s4 ⟨hr,I4⟩ => ?_
   subst hr
   obtain ⟨m4,hn4,_⟩:=id I4.loc
   refine hR _ _ s4 H3 m4 ?_ hn4 (I.fpOk hCle I4.free) qn
   exact I.call' (ch:=fp) I4.os I4.base I4.hok I4.bare fun b hb => by
    obtain ⟨f0,f1,f3,f4,f5,f6⟩:=f2 b hb
    exact ⟨f4,f1,f5,f6⟩
  ·refine thn (T.item (aZ X N scope fp s H H2.objs.size) rfl rfl rfl hc i pins s3 σ3 H3 _ I3 (stat fr3) st3 go) fun r s4 ⟨u,hr,h4⟩ => ?_
   subst hr
   refine thn h4 fun _ s5 ⟨x,H5,I5,r5,y5,st5,fr5⟩ => ?_
   have I5' := I5.pinned (stat fr5) (T.obj _ _ st5)
   refine thn (hg _ _ s5 σ3 H5 x u _ I5' r5 (step x H5 y5)) fun _ s6 ⟨σ6,H6,I6,q6⟩ => ?_
   refine thn (he _ _ s6 σ6 H6 _ I6 q6) fun yv s7 ⟨y,H7,I7,r7,ys,hD7,hz7,m',hm,w7⟩ => ?_
   refine thn (aV (X:=aZ X N scope fp s H H2.objs.size) _ s7 σ6 H7 (.ref s.heap.objs.size) [y] (.ref s.heap.objs.size) [yv] (fun _ H8 => W (i + 1) m' σ6 H8) I7 rfl (.cons r7 .nil) ⟨_,ys,y,rfl,rfl,hD7,hz7,w7⟩) fun _ s8 ⟨_,H8,I8,_,w8⟩ => ?_
   refine ⟨m',hm,i + 1,σ6,H8,I8.unpinned,T.keep _ _ _ st5 fun b hb o e => (I8.pin (b,o) (List.mem_append_right _ (List.mem_append_right _ (bz hb e)))).1,fun b hb => ?_,w8⟩
   obtain ⟨o,e,d⟩:=T.obj _ _ st5 b hb
   exact (I8.pin (b,o) (List.mem_append_right _ (List.mem_append_right _ (bz hb e)))).2.1
 exact codeAny_compStart_list loop (T.self _ _ _ _ _ st1 loop)
def rA (ix : List (Option Nat)) (wi : TI) (g : TG) (te : TE) : TE:=fun σ H Q => wi σ H fun J H1 => mP J ix g te σ H1 fun D H' => Q (.ref D) H'
theorem kb (hc : X.calm = true) (S : BlkScope X.N X.env.scope N ix scope) (hi : PI X tg iter wi) (hg : ∀ fp s H C,PG (aZ X N scope fp s H C) tg g) (he : ∀ fp s H C,PE (aZ X N scope fp s H C) elt te)
  (hs : ∀ x,foldedSetIterable iter X.env x = pure x:=by intro _; rfl) : PE X (.ListComp elt [⟨tg,iter,[],0⟩] scope pos) (rA ix wi g te):=by
 intro pins s σ H Q I h
 rw [eval_ListComp]
 refine wpAny_comprehension_free (use:=none) rfl hs (eR (S.clos I.ok)) S.kind S.locs (thn (hi pins s σ H _ I h) fun v s1 h1 => thn h1 fun itv s2 h2 => ?_)
 obtain ⟨it,fp,tn,J,H2,e,I2,T,st2,f2,hW⟩:=h2
 subst e
 refine ou (RR:=fun acc C => compPost (model X.prog X.w) X.A X.xe none (EP X pins σ Q) acc C) I2 hc S T st2 f2 (hg _ _ _) (he _ _ _) hW ?_
 intro D C s' H' m I' hn fC q
 exact ⟨m,hn,fun h' sb => ⟨.ref D,H',I'.turned (t' := s'.toks) (fun b o hb e => (sb.2 b hb).trans e) fC.1 fC.2.1 fC.2.2.2.1 fC.2.2.2.2.1 fC.2.2.2.2.2,rfl,q⟩⟩
end
theorem iX {K : PySem.W.Frag} {a : Addr} {xs : List V} {ix : List (Option Nat)} {te : TE} {σ : St} {H : Hp} {Qd : Addr -> Hp -> Prop} (Pv : Addr -> Nat -> List V -> Hp -> Prop)
  (h0 : ∀ D,H D = none -> Pv D 0 [] (upd H D (.lst [])))
  (hl : ∀ D i ys H',i <= xs.length -> Pv D i ys H' -> SqL K H' a xs)
  (hs : ∀ D i x ys H' (Q' : VK),H D = none -> xs[i]? = some x -> H' D = some (.lst ys) -> Pv D i ys H' -> (∀ y H4,H4 D = some (.lst ys) -> ys.length < sizeLine -> Pv D (i + 1) (ys ++ [y]) (upd H4 D (.lst (ys ++ [y]))) -> Q' y H4) ->
   te ((aM ix σ).set 0 (some x)) H' Q')
  (hd : ∀ D ys H',H D = none -> H' D = some (.lst ys) -> Pv D xs.length ys H' -> Qd D H') : mP (Itl K a) ix (aC 0) te σ H Qd:=by
 intro D hD
 refine ⟨fun i m σ' H' => m = xs.length - i /\ i <= xs.length /\ (σ' = aM ix σ \/ ∃ t,σ' = (aM ix σ).set 0 t) /\ ∃ ys,H' D = some (.lst ys) /\ Pv D i ys H',⟨xs.length,by simp,Nat.zero_le _,.inl rfl,[],ai,h0 D hD⟩,?_⟩
 rintro i m σ' H' ⟨rfl,hi,hσ,ys,hy,p⟩
 have q:=hl D i ys H' hi p
 by_cases hlt : i < xs.length
 ·refine .inr ⟨⟨xs,xs[i],q,by simp [hlt]⟩,fun x H2 y => ?_⟩
  obtain ⟨e1,e2⟩:=y
  subst e1
  have ex:=e2 xs q
  have es : σ'.set 0 (some x) = (aM ix σ).set 0 (some x):=by
   rcases hσ with z | ⟨t,z⟩
   ·rw [z]
   ·rw [z,List.set_set]
  show te (σ'.set 0 (some x)) _ _
  rw [es]
  refine hs D i x ys _ _ hD ex hy p fun y H4 h4 hz p4 => ⟨ys,h4,hz,xs.length - (i + 1),by omega,rfl,hlt,.inr ⟨_,rfl⟩,ys ++ [y],ai,p4⟩
 ·have e : i = xs.length:=by omega
  subst e
  exact .inl ⟨⟨xs,q,Nat.le_refl _⟩,hd D ys H' hD hy p⟩
section
variable {X : Cx}
def rV (K : PySem.W.Frag) : List V -> Hp -> VK -> Prop:=fun xs H Q => ∃ x n t b,xs = [x,.ty n] /\ TyOf K H x t /\ PySem.W.kitOne K t (.type n) = some b /\ Q (.bl b) H
theorem ot : cE X (.builtin "isinstance") (rV X.K):=by
 intro pins s σ H xs us Q I r h
 obtain ⟨x,n,t,b,rfl,ty,e,q⟩:=h
 obtain ⟨u,v,rfl,ru,rv⟩:=r.two
 cases (show v = Value.type n from rv)
 exact nW I ru ty e fun tk => ⟨.bl b,H,I.tok tk,rfl,q⟩
end
section
variable {prog : Program} {w : World} {A : Around} {E : Value -> Shared -> Prop} {s : Shared}
theorem iY {it t : Addr} {items : Array Value} (hne : t ≠ it) : ∀ (n i : Nat) (s : Shared) (Q : List Value -> Shared -> Prop),s.heap.IsListIter it t i -> s.heap.IsList t items -> i + n <= items.size ->
  (∀ h',h'.IsListIter it t (i + n) -> Heap.SameBut it s.heap h' -> Q ((items.toList.drop i).take n) { s with heap:=h' }) -> wpAny (model prog w) A (draw (.ref it) n) Q E s
 | 0,i,s,Q,hit,_,_,hQ => by
  show wpAny _ _ (pure []) Q E s
  exact wpAny_pure (by simpa using hQ s.heap hit (Heap.SameBut.refl ..))
 | n + 1,i,s,Q,hit,ht,hle,hQ => by
  have hlt : i < items.size:=by omega
  show wpAny _ _ (pyNext (.ref it) >>= _) Q E s
  refine wpAny_bind (wpAny_pyNext_list_item hit ht (x:=items[i]) (by simp [hlt]) fun h₁ hit₁ hs₁ => ?_)
  refine wpAny_bind (wpAny_holding (iY hne n (i + 1) _ _ hit₁ (ht.extBut hs₁.extBut hne) (by omega) fun h₂ hit₂ hs₂ => wpAny_pure ?_))
  have hd : items.toList.drop i = items[i] :: items.toList.drop (i + 1):=by simp [List.drop_eq_getElem_cons,hlt]
  have:=hQ h₂ (by rw [show i + (n + 1) = i + 1 + n by omega]; exact hit₂) (hs₁.trans hs₂)
  rw [hd,List.take_succ_cons] at this
  exact this
theorem f9 {t : Addr} {items : Array Value} {Q : List Value -> Shared -> Prop} (hh : A.handled = none) (ht : s.heap.IsList t items)
  (hQ : ∀ h',Heap.ExtBut s.heap.objs.size s.heap h' -> Q items.toList { s with heap:=h' }) : wpAny (model prog w) A (unpackItems (.ref t) items.size none) Q E s:=by
 have hlt : t ≠ s.heap.objs.size:=by obtain ⟨o,ho,_⟩:=ht; exact Nat.ne_of_lt (Heap.lt_size ho)
 unfold unpackItems
 refine wpAny_bind ?_
 ·unfold notIterableAtAll
  refine wpAny_bind (wpAny_specialOf ht.typeIs slot_list_iter.lookup ?_)
  refine wpAny_pure ?_
  simp only [Bool.false_eq_true,if_false]
  refine wpAny_bind (wpAny_holding (wpAny_pyIter_list ht ?_))
  refine wpAny_bind (wpAny_holding (iY hlt items.size 0 _ _ ⟨_,Heap.get?_push_size _ rfl,rfl,rfl⟩ (ht.push _) (by omega) fun h₁ hit₁ hs₁ => ?_))
  have hall : List.take items.size (List.drop 0 items.toList) = items.toList:=by
   rw [List.drop_zero]; exact List.take_of_length_le (by simp)
  rw [hall]
  rw [if_neg (by simp)]
  have ht₁ : h₁.IsList t items:=(ht.push _).extBut hs₁.extBut hlt
  refine wpAny_bind (wpAny_holding (wpAny_pyNext_list_end hh hit₁ ht₁ (by simp) fun h₂ he₂ => ?_))
  simp only [Option.isSome_none,Bool.false_eq_true,if_false]
  refine wpAny_pure (hQ h₂ fun b o hb e => he₂ b o hb (hs₁.extBut b o hb (Heap.get?_push_of_some _ e)))
theorem fm {env : Env} {elts : List Expr} {x1} {pos : Pos} {t : Addr} {items : Array Value} {Q : Unit -> Shared -> Prop} (hh : A.handled = none) (ht : s.heap.IsList t items)
  (hn : (assignEach elts env).length = items.size) (hstar : (assignEach elts env).findIdx? (·.1) = none)
  (h : ∀ h',Heap.ExtBut s.heap.objs.size s.heap h' -> wpAny (model prog w) A (assignInOrder ((assignEach elts env).map (·.2)) items.toList) Q E { s with heap:=h' }) :
  wpAny (model prog w) A (assign (.Tuple elts x1 pos) env (.ref t)) Q E s:=by
 rw [PyProof.Rows.assign_Tuple]
 refine wpAny_bind (wpAny_standAt ?_)
 unfold unpack
 rw [hn,hstar]
 exact wpAny_bind (wpAny_holding (f9 hh ht h))
end
section
variable {X : Cx} {pos : Pos}
def rQ (K : PySem.W.Frag) (n : Nat) (t : TGs) : TG:=fun v σ H Q => ∃ a xs,v = .ref a /\ SqL K H a xs /\ xs.length = n /\ t xs σ H Q
theorem kd {es : List Expr} {k : Nat} {t : TGs} {n : Nat} (hc : X.calm = true) (h : PGs X es t)
  (hn : (assignEach es X.env).length = n:=by rfl) (hst : (assignEach es X.env).findIdx? (·.1) = none:=by rfl) : PG X (.Tuple es k pos) (rQ X.K n t):=by
 intro pins s σ H v u Q I r hw
 obtain ⟨a,xs,e1,hq,hl,hw⟩:=hw
 subst e1
 cases r
 obtain ⟨its,rv,ht,hz⟩:=I.list hq
 refine fm (I.ok.hd hc) ht.isList (by simp [hn,<- hl,rv.length]) hst fun h' hx => ?_
 have I1 : Inv X pins σ H { s with heap:=h' }:=I.kept (t' := s.toks) fun b o e => hx b o (Nat.ne_of_lt (Heap.lt_size e)) e
 exact h pins _ σ H xs _ Q I1 (by simpa using rv) hw
end
end L2
set_option Elab.async false
set_option linter.all false
set_option maxRecDepth 100000
namespace HT
open PySem PySem.Spec PyProof.Rows
section
variable {prog : Program} {w : World} {A : Around} {E : Value -> Shared -> Prop} {s : Shared}
end
end HT
namespace L2
open PySem PySem.Spec PyProof.Rows
section
variable {X : Cx}
end
structure FunD (K : PySem.W.Frag) (x qual : Str) (st : Stmt) (dV : Value) (f : Addr) (fd : FuncData) : Prop where
 ex : ∃ (oc : Value) (od : Option Addr) (kV doc pm : Value) (an : Option Addr) (cdv ct : Value) (osl : Array (Option Value)),
  fd = PySem.W.fnOf x qual (aN st) (aI st) (ao st) dV kV doc pm an cdv ct /\ K.lookup f = some ⟨oc,od,.func fd,osl⟩ /\ PySem.W.codeIn K cdv qual = true
 kp : PySem.W.keepIn K (.ref f) = true
section
variable {P : Program} {w : World} {K : PySem.W.Frag} {mg : Str -> Option Value} {base : Heap}
theorem FunD.ok {x qual : Str} {st : Stmt} {dV : Value} {f : Addr} {fd : FuncData} {N ps : List Str} {k : Nat} {sp : Sp} (F : FunD K x qual st dV f fd) (S : FnScope N ps (ao st)) (len : ∀ vs H Q E,sp vs H Q E -> vs.length = ps.length)
  (hbody : ∀ (cdv : Value) (A : Around) (outer : List Env) (s : Shared) (H : Hp) (vs : List V) (Q : VK) (E : XK),Room k (A.deeper (envOfC qual (ao st) s.heap.objs.size f cdv)) -> sp vs H Q E ->
   ∃ t,PSs (nQ CX0 P w K mg base N qual (ao st) f cdv A outer s H E).nox (aI st) t /\ t { nx:=fun _ H' => Q .non H',rt:=Q } (start N vs) H) : FnOk P w K mg base CX0 (k + 1) f fd ps sp:=by
 obtain ⟨oc,od,kV,doc,pm,an,cdv,ct,osl,rfl,lk,hcd⟩:=F.ex
 refine qZ lk hcd S len fun A outer s H vs Q E hr hsp => ?_
 obtain ⟨t,h,q⟩:=hbody cdv A outer s H vs Q E hr hsp
 exact ⟨t,h.nox,q⟩
theorem FunD.binds {x qual : Str} {st : Stmt} {f : Addr} {fd : FuncData} {ps : List Str} (F : FunD K x qual st .none f fd)
  (h : ∀ (kV doc pm : Value) (an : Option Addr) (cdv ct : Value) (us : List Value),us.length = ps.length -> bindArgs (PySem.W.fnOf x qual (aN st) (aI st) (ao st) .none kV doc pm an cdv ct) ⟨us,[]⟩ = pure (ps.zip us)) : Binds K fd ps []:=by
 obtain ⟨oc,od,kV,doc,pm,an,cdv,ct,osl,rfl,lk,hcd⟩:=F.ex
 exact .all (h kV doc pm an cdv ct)
theorem bf {x qual : Str} {st : Stmt} {f : Addr} {oc : Value} {od an : Option Addr} {osl : Array (Option Value)} {dV kV doc pm cdv ct : Value} (l : K.lookup f = some ⟨oc,od,.func (PySem.W.fnOf x qual (aN st) (aI st) (ao st) dV kV doc pm an cdv ct),osl⟩)
  (c : PySem.W.codeIn K cdv qual = true) (k : PySem.W.keepIn K (.ref f) = true) : FunD K x qual st dV f (PySem.W.fnOf x qual (aN st) (aI st) (ao st) dV kV doc pm an cdv ct):=⟨⟨oc,od,kV,doc,pm,an,cdv,ct,osl,rfl,l,c⟩,k⟩
structure DefOk (P : Program) (w : World) (K : PySem.W.Frag) (mg : Str -> Option Value) (base : Heap) (x : Str) (k : Nat) (ps : List Str) (dvs : List V) (sp : Sp) : Prop where
 ex : ∃ (f : Addr) (fd : FuncData) (ds : List Value),mg x = some (.ref f) /\ PySem.W.keepIn K (.ref f) = true /\ Vals dvs ds /\ Binds K fd ps ds /\ FnOk P w K mg base CX0 k f fd ps sp
end
section
variable {X : Cx} {x : Str} {j k : Nat} {ps : List Str} {dvs : List V} {sp : Sp} {p pos : Pos} {e : Expr} {es : List Expr} {t : TA}
theorem aK (G : DefOk X.prog X.w X.K X.mg X.base x k ps dvs sp) (hr : Room j X.A) (ha : PA X (e :: es) t) (hx : ∀ e s,X.xe e s = False:=by intro _ _; rfl) (hkj : k <= j:=by decide) (hg : Gl X x:=by rfl) (hdb : (x == ("__debug__" : Str)) = false:=by decide)
  (he : starEach (e :: es) X.env = (false,eval e X.env) :: starEach es X.env:=by rfl) (hpl : (backTo pos (starEach es X.env)).any (·.1) = false:=by rfl) :
  PE X (.Call (.Name x p) (e :: es) [] pos) (qm sp dvs E0 t):=by
 obtain ⟨f,fd,ds,hm,hk,hd,hb,F⟩:=G.ex
 exact p8 F (hr.mono hkj) hg hm hk hb hd (fun _ _ _ _ _ _ _ h => h.elim) ha hdb he hpl
end
theorem ak {H : Hp} {p : Addr} (h : H p = none) (o : HO) : Same H (upd H p o):=fun b u q => by rw [ar (au q h)]; exact q
theorem small {n : Nat} (h : n <= 1000) : n <= sizeLine:=Nat.le_of_lt (c5 h)
theorem cQ : bootBuiltins "len" = some (.builtin "len"):=by decide +kernel
theorem qx : bootBuiltins "min" = some (.builtin "min"):=by decide +kernel
theorem om : bootBuiltins "max" = some (.builtin "max"):=by decide +kernel
theorem hX : bootBuiltins "isinstance" = some (.builtin "isinstance"):=by decide +kernel
theorem qy : bootBuiltins "sum" = some (.builtin "sum"):=by decide +kernel
theorem cW : bootBuiltins "sorted" = some (.builtin "sorted"):=by decide +kernel
theorem qw : bootBuiltins "int" = some (.type "int"):=by decide +kernel
theorem oo : bootBuiltins "tuple" = some (.type "tuple"):=by decide +kernel
theorem fS : bootBuiltins "str" = some (.type "str"):=by decide +kernel
theorem gJ : bootBuiltins "set" = some (.type "set"):=by decide +kernel
end L2
set_option Elab.async false
set_option linter.all false
set_option maxRecDepth 100000
namespace L2
open PySem PySem.Spec PyProof.Rows
section
variable {X : Cx}
end
section
variable {X : Cx} {tg : Expr}
end
theorem nG {c : TT} {tb : TS} {D : Ends} {σ : St} {H : Hp} (Pv : Nat -> St -> Hp -> Prop) (h0 : ∃ m,Pv m σ H)
  (hs : ∀ m σ H,Pv m σ H -> c σ H fun b H1 => if b = true then ∃ N : St -> Hp -> Prop,(∀ σ' H',N σ' H' -> ∃ m',m' < m /\ Pv m' σ' H') /\ tb { D with nx:=N,ct:=N,bk:=D.nx } σ H1 else D.nx σ H1) : mL c tb D σ H:=⟨Pv,h0,hs⟩
end L2
set_option Elab.async false
set_option linter.all false
set_option maxRecDepth 100000
namespace L2
open PySem PySem.Spec PyProof.Rows
section
variable {X : Cx} {pins : List (Addr × Obj)} {σ : St} {H : Hp} {s : Shared}
end
section
variable {X : Cx} {tg : Expr}
end
section
variable {X : Cx}
end
end L2
set_option Elab.async false
set_option linter.all false
set_option maxRecDepth 100000
namespace PySem
section
variable {prog : Program} {w : World} {A : Around} {R : Result -> Shared -> Prop} {I : Addr} {fp wr : List Addr} {n : Nat} {P : Nat -> Value -> Prop} {St : Nat -> Heap -> Prop}
end
section
variable {prog : Program} {w : World} {A : Around} {E : Value -> Shared -> Prop} {s : Shared}
end
end PySem
namespace L2
open PySem PySem.Spec PyProof.Rows
section
variable {X : Cx}
variable {p pos kpos : Pos} {e d : Expr} {ta : TA} {td : TE}
end
section
variable {prog : Program} {w : World} {A : Around} {E : Value -> Shared -> Prop} {s : Shared}
end
section
variable {X : Cx} {e : Expr} {te : TE} {lo hi : Option Expr} {st : Expr} {tl th ts : TO} {pos p2 : Pos}
end
section
variable {X : Cx} {tg : Expr}
end
theorem ov {K : PySem.W.Frag} {a : Addr} {xs : List V} {ix : List (Option Nat)} {te : TE} {σ : St} {H : Hp} {Qd : Addr -> Hp -> Prop} (Pv : Addr -> Nat -> List V -> Hp -> Prop)
  (h0 : ∀ D,H D = none -> Pv D 0 [] (upd H D (.lst [])))
  (hl : ∀ D i ys H',i <= xs.length -> Pv D i ys H' -> SqT K H' a xs)
  (hs : ∀ D i x ys H' (Q' : VK),H D = none -> xs[i]? = some x -> H' D = some (.lst ys) -> Pv D i ys H' -> (∀ y H4,H4 D = some (.lst ys) -> ys.length < sizeLine -> Pv D (i + 1) (ys ++ [y]) (upd H4 D (.lst (ys ++ [y]))) -> Q' y H4) ->
   te ((aM ix σ).set 0 (some x)) H' Q')
  (hd : ∀ D ys H',H D = none -> H' D = some (.lst ys) -> Pv D xs.length ys H' -> Qd D H') : mP (Itt K a) ix (aC 0) te σ H Qd:=by
 intro D hD
 refine ⟨fun i m σ' H' => m = xs.length - i /\ i <= xs.length /\ (σ' = aM ix σ \/ ∃ t,σ' = (aM ix σ).set 0 t) /\ ∃ ys,H' D = some (.lst ys) /\ Pv D i ys H',⟨xs.length,by simp,Nat.zero_le _,.inl rfl,[],ai,h0 D hD⟩,?_⟩
 rintro i m σ' H' ⟨rfl,hi,hσ,ys,hy,p⟩
 have q:=hl D i ys H' hi p
 by_cases hlt : i < xs.length
 ·refine .inr ⟨⟨xs,xs[i],q,by simp [hlt]⟩,fun x H2 y => ?_⟩
  obtain ⟨e1,e2⟩:=y
  subst e1
  have ex:=e2 xs q
  have es : σ'.set 0 (some x) = (aM ix σ).set 0 (some x):=by
   rcases hσ with z | ⟨t,z⟩
   ·rw [z]
   ·rw [z,List.set_set]
  show te (σ'.set 0 (some x)) _ _
  rw [es]
  refine hs D i x ys _ _ hD ex hy p fun y H4 h4 hz p4 => ⟨ys,h4,hz,xs.length - (i + 1),by omega,rfl,hlt,.inr ⟨_,rfl⟩,ys ++ [y],ai,p4⟩
 ·have e : i = xs.length:=by omega
  subst e
  exact .inl ⟨⟨xs,q,Nat.le_refl _⟩,hd D ys H' hD hy p⟩
section
variable {X : Cx}
theorem k8 (K : PySem.W.Frag) (h : X.K = K:=by rfl) : IxR X (rm K):=by subst h; exact aO
end
end L2
set_option Elab.async false
set_option linter.all false
set_option maxRecDepth 100000
namespace L2
open PySem PySem.Spec PyProof.Rows
section
variable {κ : Type} [DecidableEq κ]
end
section
variable {P : Program} {w : World} {H : Hp} {h : Heap} {a : Addr}
end
section
variable {X : Cx} {pins : List (Addr × Obj)} {σ : St} {H : Hp} {s : Shared} {a : Addr} {y v : V} {u r : Value} {o : Option V} {A : Around} {E : Value -> Shared -> Prop}
end
section
variable {X : Cx} {pins : List (Addr × Obj)} {σ : St} {H : Hp} {s : Shared} {a : Addr} {kvs : List (Key × V)} {k : Key} {u : Value} {A : Around} {E : Value -> Shared -> Prop}
end
section
variable {X : Cx} {o i e value : Expr} {pos pos' tpos : Pos} {td ty tv : TE}
end
section
variable {X : Cx} {pos : Pos}
end
structure M1 (X : Cx) (o : Expr) (m : Str) (apos : Pos) (e : Expr) (cpos : Pos) : Prop where
 base : attributeBase o m X.env (eval o X.env) = eval o X.env
 few : ((backTo cpos (starEach [e] X.env)).all (fun x => !x.1) && (backToKw cpos (keywordEach [] X.env)).all (fun x => x.1.isSome)
  && decide (([e] : List Expr).length + ([] : List Keyword).length + (if ([] : List Keyword).isEmpty then 0 else 1) < 30)) = true
 line : (apos.endLine == cpos.line) = true
 trees : backTo cpos (starEach [e] X.env) = [(false,eval e X.env)]
structure M2 (X : Cx) (o : Expr) (m : Str) (apos : Pos) (e f : Expr) (cpos : Pos) : Prop where
 base : attributeBase o m X.env (eval o X.env) = eval o X.env
 few : ((backTo cpos (starEach [e,f] X.env)).all (fun x => !x.1) && (backToKw cpos (keywordEach [] X.env)).all (fun x => x.1.isSome)
  && decide (([e,f] : List Expr).length + ([] : List Keyword).length + (if ([] : List Keyword).isEmpty then 0 else 1) < 30)) = true
 line : (apos.endLine == cpos.line) = true
 trees : backTo cpos (starEach [e,f] X.env) = [(false,eval e X.env),(false,eval f X.env)]
section
variable {X : Cx} {pins : List (Addr × Obj)} {σ : St} {H : Hp} {s : Shared} {a : Addr} {y d : V} {u r : Value} {o : Option V} {A : Around} {E : Value -> Shared -> Prop}
end
section
variable {X : Cx} {o e f : Expr} {apos cpos : Pos} {td ty tx : TE}
end
section
variable {X : Cx} {pins : List (Addr × Obj)} {σ : St} {H : Hp} {s : Shared} {a : Addr} {kvs : List (Key × V)} {A : Around} {E : Value -> Shared -> Prop}
end
section
variable {X : Cx} {pins : List (Addr × Obj)} {σ : St} {H : Hp} {s : Shared} {a : Addr} {y : V} {u : Value} {A : Around} {E : Value -> Shared -> Prop}
end
end L2
namespace L2
open PySem PySem.Spec PyProof.Rows
section
variable {κ : Type} [DecidableEq κ]
end
end L2
set_option Elab.async false
set_option linter.all false
set_option maxRecDepth 100000
namespace PySem
open Sem (wp)
open Builtin
end PySem
namespace L2
open PySem PySem.Spec PyProof.Rows
section
variable {X : Cx}
end
inductive Pl (H : Hp) : V -> Prop where
 | non : Pl H .non
 | bl (b : Bool) : Pl H (.bl b)
 | int (i : Int) : Pl H (.int i)
 | str (x : Str) : Pl H (.str x)
 | lst {a : Addr} {xs : List V} (e : H a = some (.lst xs)) : Pl H (.ref a)
 | tup {a : Addr} {xs : List V} (e : H a = some (.tup xs)) : Pl H (.ref a)
 | dK {a : Addr} {kvs : List (Key × V)} (e : H a = some (.dK kvs)) : Pl H (.ref a)
structure PEW (X : Cx) (e : Expr) (t : TE) : Prop where
 out : PE X e t
structure PAW (X : Cx) (es : List Expr) (t : TA) : Prop where
 out : PA X es t
structure PTW (X : Cx) (e : Expr) (t : TT) : Prop where
 out : PT X e t
structure PSW (X : Cx) (s : Stmt) (t : TS) : Prop where
 out : PS X s t
structure PSsW (X : Cx) (s : List Stmt) (t : TS) : Prop where
 out : PSs X s t
section
variable {X : Cx} {a b e : Expr} {es : List Expr} {ta tb te : TE} {t : TA} {pos : Pos}
theorem bU : PAW X [] rC:=⟨af⟩
theorem aj (ha : PEW X e te) (hr : PAW X es t) (hs : starEach (e :: es) X.env = (false,eval e X.env) :: starEach es X.env:=by rfl) : PAW X (e :: es) (qo te t):=⟨aa ha.out hr.out hs⟩
theorem dQ (h : PAW X es t) : PEW X (.List es pos) (rB t):=⟨cB h.out⟩
theorem qq {x1} (h : PAW X es t) : PEW X (.Tuple es x1 pos) (rF t):=⟨cU h.out⟩
theorem qh {r : R2} (hr : IxR X r) (ha : PEW X a ta) (hb : PEW X b tb) (hs : mQ b) : PEW X (.Subscript a b pos) (tOp r ta tb):=⟨aG hr ha.out hb.out hs⟩
variable {st : Stmt} {rest : List Stmt} {ts us : TS}
theorem kI : PSsW X [] aJ:=⟨bG⟩
theorem aq (h1 : PSW X st ts) (h2 : PSsW X rest us) : PSsW X (st :: rest) (qg ts us):=⟨az h1.out h2.out⟩
theorem bH (h1 : PSW X st ts) : PSsW X [st] ts:=⟨aA h1.out⟩
theorem gj (he : PEW X e te) : PSW X (.Return (some e) pos) (rD te):=⟨br he.out⟩
theorem qV (he : PEW X e te) (hs : swapsWith e none pos.line X.env = pure false:=by rfl) : PSW X (.Expr e pos) (qp te):=⟨bF he.out hs⟩
theorem nF {i : Nat} {x : Str} {pos' : Pos} (hN : X.N.Nodup) (hi : X.N[i]? = some x) (hx : Loc X.env.scope x) (he : PEW X e te) (hs : swapsWith e (some (.Name x pos')) pos.line X.env = pure false:=by rfl) (hf : X.fn x = true \/ X.env.scope.names.lookup x = some .local:=by first | exact .inl rfl | exact .inr rfl | assumption) :
  PSW X (.Assign [.Name x pos'] e pos) (kH te (aC i)):=⟨ay hN hi hx he.out hs hf⟩
theorem og {c : Expr} {a b : List Stmt} {tc : TT} {u : TS} (hc : PTW X c tc) (ha : PSsW X a ts) (hb : PSsW X b u) : PSW X (.If c a b pos) (qf tc ts u):=⟨cM hc.out ha.out hb.out⟩
theorem rK {tg iter : Expr} {body : List Stmt} {wi : TI} {g : TG} {tb : TS} (hp : PassesOwn (model X.prog X.w) X.A X.env X.xe) (hc : X.calm = true) (hi : PI X tg iter wi) (hg : PG X tg g) (hb : PSsW X body tb)
  (hs : ∀ x,foldedSetIterable iter X.env x = pure x:=by intro _; rfl) : PSW X (.For tg iter body [] pos) (qe wi g tb):=⟨pd hp hc hi hg hb.out hs⟩
theorem fR {b : List Stmt} {R : TS -> Prop} (h : PSsW X b ts) (r : R ts) : ∃ t,PSs X b t /\ R t:=⟨ts,h.out,r⟩
end
end L2
set_option Elab.async false
set_option linter.all false
set_option maxRecDepth 100000
namespace L2
open PySem PySem.Spec PyProof.Rows
def CX1 (P : Program) (w : World) : CXT:=fun outer H s E e s' => ∃ (ea t C : Addr) (B : Heap) (H' : Hp),e = .ref ea /\ s'.os = s.os /\ AllBare s'.gens /\ Un (frs outer) [] H H' s.heap s'.heap /\ HOk P w H' B /\
 Heap.FlyingW B outer ea (.ref C) (.ref t) s'.heap /\ (∀ b o,s.heap.get? b = some o -> b ∉ frs outer -> ∃ o',B.get? b = some o') /\ H' ea = none /\ E (.ref C) none H'
section
variable {P : Program} {w : World} {K : PySem.W.Frag} {mg : Str -> Option Value} {base : Heap} {N : List Str} {qual : Str} {scope : Scope} {f : Addr} {cd : Value} {A : Around} {outer : List Env} {s : Shared} {H : Hp} {E : XK}
end
end L2
set_option Elab.async false
set_option linter.all false
set_option maxRecDepth 100000
namespace L2
open PySem PySem.Spec PyProof.Rows
abbrev VEm : List Value:=[.type "ValueError",.type "Exception",.type "BaseException",.type "object"]
section
variable {X : Cx} {x : Str} {j k : Nat} {ps : List Str} {dvs : List V} {sp : Sp} {p pos cpos : Pos} {e : Expr} {es : List Expr} {t : TA} {C : Addr} {E : XK}
end
structure DefX (P : Program) (w : World) (K : PySem.W.Frag) (mg : Str -> Option Value) (base : Heap) (x : Str) (k : Nat) (ps : List Str) (dvs : List V) (sp : Sp) : Prop where
 ex : ∃ (f : Addr) (fd : FuncData) (ds : List Value),mg x = some (.ref f) /\ PySem.W.keepIn K (.ref f) = true /\ Vals dvs ds /\ Binds K fd ps ds /\ FnOk P w K mg base (CX1 P w) k f fd ps sp
section
variable {X : Cx} {x : Str} {j k : Nat} {ps : List Str} {dvs : List V} {sp : Sp} {p pos : Pos} {e : Expr} {es : List Expr} {t : TA} {E : XK}
end
section
variable {P : Program} {w : World} {K : PySem.W.Frag} {mg : Str -> Option Value} {base : Heap}
end
section
variable {X : Cx} {e v1 v2 : Expr} {es rest : List Expr} {pos : Pos} {te : TE} {n : Nat}
abbrev TF:=St -> Hp -> (Str -> Hp -> Prop) -> Prop
def PF (X : Cx) (e : Expr) (t : TF) : Prop := ∀ (pins : List (Addr × Obj)) (s : Shared) (σ : St) (H : Hp) (Q : Str -> Hp -> Prop),Inv X pins σ H s -> t σ H Q ->
 wpAny (model X.prog X.w) X.A (eval e X.env) (fun u s' => ∃ x tk H',u = .str x tk /\ Inv X pins σ H' s' /\ x.length <= 1000 /\ Q x H') X.xe s
theorem fj {x : Str} {k : Nat} {pos : Pos} (hx : x.length <= 1000:=by decide) : PF X (.Constant (.str x) k pos) (fun _ H Q => Q x H):=fun pins s σ H Q I q =>
 Calls.Constant_str (show _ from ⟨x,_,H,rfl,I.tok _,hx,q⟩)
def r0 (te : TE) : TF:=fun σ H Q => te σ H fun v H1 => (∃ x,v = .str x /\ x.length <= 1000 /\ Q x H1) \/ ∃ i : Int,v = .int i /\ i.natAbs.log2 < 1920 /\ (Str.ofString (toString i)).length <= 1000 /\ Q (Str.ofString (toString i)) H1
theorem fW (he : PE X e te) : PF X (.FormattedValue e (-1) none pos) (r0 te):=by
 intro pins s σ H Q I h
 refine FormattedValue_plain (thn (he pins s σ H _ I h) fun u s1 ⟨v,H1,I1,r,q⟩ => ?_)
 rcases q with ⟨x,rfl,hx,q⟩ | ⟨i,rfl,hd,hx,q⟩
 ·obtain ⟨tk,rfl⟩:=(show ∃ t,u = Value.str x t from r)
  exact formatField_str (fun t' tk' => ⟨x,t',H1,rfl,I1.tok _,hx,q⟩) (Nat.le_trans hx (by decide))
 ·obtain ⟨tk,rfl⟩:=(show ∃ t,u = Value.int i t from r)
  exact formatField_int_small hd ⟨_,_,H1,rfl,I1.tok _,hx,q⟩
end
end L2
set_option Elab.async false
set_option linter.all false
set_option maxRecDepth 100000
namespace L2
open PySem PySem.Spec PySem.W PySem.Builtin PySem.Builtin.Getset_descriptor
structure XCls (K : PySem.W.Frag) (C : Addr) : Prop where
 ga : findIn K (.ref C) "__getattribute__" = some (some (.builtin "BaseException.__getattribute__"))
 gt : findIn K (.ref C) "__getattr__" = some none
 cl : findIn K (.ref C) "__class__" = some (some (.builtin "object.__class__"))
 gg : specialIn K (.builtin "object.__class__") "__get__" = some (some (.builtin "getset_descriptor.__get__"))
 tk : takesIn K (.builtin "object.__class__") = some true
 ob : mroIn K C (.type "object") = some true
 be : mroIn K C (.type "BaseException") = some true
 ci : (clsIn K C).isSome = true
section
variable {prog : Program} {w : World} {A : Around} {E : Value -> Shared -> Prop} {s : Shared} {K : PySem.W.Frag} {ea C : Addr} {ob : Obj}
end
end L2
set_option Elab.async false
set_option linter.all false
set_option maxRecDepth 100000
namespace L2
open PySem PySem.Spec PyProof.Rows
section
variable {X : Cx} {pins : List (Addr × Obj)} {σ : St} {H : Hp} {s : Shared} {E : XK} {ea : Addr}
abbrev TXE:=St -> Hp -> VK -> XK -> Prop
abbrev TX:=Ends -> XK -> St -> Hp -> Prop
end
section
variable {X : Cx} {x : Str} {j k : Nat} {ps : List Str} {dvs : List V} {sp : Sp} {p pos : Pos} {e : Expr} {es : List Expr} {t : TA} {E : XK}
end
section
variable {P : Program} {w : World} {fs : List Addr} {H H1 : Hp} {h h1 : Heap} {ea C : Addr} {o : HO}
end
section
variable {X : Cx} {pins : List (Addr × Obj)} {σ : St} {H : Hp} {s : Shared} {E : XK}
end
section
variable {X : Cx} {pins : List (Addr × Obj)} {σ : St} {H : Hp} {s s' : Shared} {E : XK} {C F : Addr} {i : Nat} {x n : Str} {np pos hpos : Pos} {body : List Stmt} {b₀ : Stmt} {suite : List Stmt} {tb : TX} {ts : TS}
end
end L2
set_option Elab.async false
set_option linter.all false
set_option maxRecDepth 100000
namespace L2
open PySem PySem.Spec PyProof.Rows
structure RoomH (k : Nat) (A : Around) : Prop where
 dp : A.depth + 3 * k + 5 < recursionLimit
 un : A.units + 16 * k + 200 < cLine
structure FnOkH (P : Program) (w : World) (K : PySem.W.Frag) (mg : Str -> Option Value) (base : Heap) (CX : CXT) (k : Nat) (f : Addr) (fd : FuncData) (ps : List Str) (sp : Sp) : Prop where
 len : ∀ vs H Q E,sp vs H Q E -> vs.length = ps.length
 run : ∀ (A : Around) (outer : List Env) (s : Shared) (H : Hp) (args : Args) (us : List Value) (vs : List V) (Q : VK) (E : XK),RoomH k A -> Env0 P w K mg base A outer s H -> BindsTo s fd args (ps.zip us) -> Vals vs us -> sp vs H Q E ->
  codeAny (model P w) A (.call (.ref f) args) (CR CX outer P w H s Q E) s
structure DefH (P : Program) (w : World) (K : PySem.W.Frag) (mg : Str -> Option Value) (base : Heap) (x : Str) (k : Nat) (ps : List Str) (dvs : List V) (sp : Sp) : Prop where
 ex : ∃ (f : Addr) (fd : FuncData) (ds : List Value),mg x = some (.ref f) /\ PySem.W.keepIn K (.ref f) = true /\ Vals dvs ds /\ Binds K fd ps ds /\ FnOkH P w K mg base CX0 k f fd ps sp
section
variable {P : Program} {w : World} {K : PySem.W.Frag} {mg : Str -> Option Value} {base : Heap}
end
section
variable {X : Cx} {x : Str} {j k : Nat} {ps : List Str} {dvs : List V} {sp : Sp} {p pos : Pos} {e : Expr} {es : List Expr} {t : TA}
end
section
variable {X : Cx}
end
end L2
set_option Elab.async false
set_option linter.all false
set_option maxRecDepth 100000
namespace L2
open PySem PySem.Spec PyProof.Rows
section
variable {X : Cx}
end
end L2
set_option Elab.async false
set_option linter.all false
set_option maxRecDepth 100000
namespace L2
open PySem PySem.Spec PyProof.Rows
section
variable {prog : Program} {w : World} {A : Around} {E : Value -> Shared -> Prop} {s : Shared} {it l S : Addr} {items : Array Value}
end
section
variable {X : Cx} {a : Expr} {ta : TA} {p p2 pos pos2 : Pos}
end
end L2
set_option Elab.async false
set_option linter.all false
set_option maxRecDepth 100000
namespace L2
open PySem PySem.Spec PyProof.Rows
section
variable {X : Cx}
end
end L2
set_option Elab.async false
set_option linter.all false
set_option maxRecDepth 100000
namespace L2
open PySem PySem.Spec PyProof.Rows
theorem jx {prog : Program} {w : World} {A : Around} {R : Result -> Shared -> Prop} {s : Shared} {elt target iter cond : Expr} {scope : Scope} {pos : Pos} {it acc : Value} {env : Env} (I : Nat -> Shared -> Prop)
  (turn : ∀ n s,I n s -> wpAny (model prog w) A (pyNext it) (fun r s₁ => match r with
   | none => R (.ok .next) s₁
   | some v => wpAny (model prog w) A (letOwnedTupleGo target it v) (fun _ s₁' => wpAny (model prog w) A (assign target env v) (fun _ s₂ => wpAny (model prog w) A (isTrue cond env (eval cond env)) (fun ok s₂' =>
     if ok = true then wpAny (model prog w) A (eval elt env) (fun x s₃ =>
     wpAny (model prog w) A (call (.builtin "list.append") [acc,x]) (fun _ s₄ => ∃ m,m < n /\ I m s₄) (fun _ _ => False) s₃)
     (fun _ _ => False) s₂' else ∃ m,m < n /\ I m s₂') (fun _ _ => False) s₂) (fun _ _ => False) s₁') (fun _ _ => False) s₁) (fun _ _ => False) s)
  (n : Nat) (h : I n s) :
  codeAny (model prog w) A (.compLoop (.ListComp elt [⟨target,iter,[cond],0⟩] scope pos) 0 it acc env) R s:=by
 refine codeAny_loop rfl I (fun n s hI => ?_) n h
 show wpAny _ _ ((compTurn (.ListComp elt [⟨target,iter,[cond],0⟩] scope pos) 0 it acc env).onRaise (fun x => do noteFrame x env; theTreesLotGoes x)) _ _ s
 refine wpAny_noted ?_
 rw [compTurn_list]
 refine wpAny_bind (wpAny_standAt (wpAny_bind (wpAny_mono (turn n s hI) (fun r s₁ h₁ => ?_) fun _ _ h' => h'.elim)))
 cases r with
 | none => exact wpAny_pure h₁
 | some v =>
  refine wpAny_bind (wpAny_mono h₁ (fun _ s₁' h₁' => ?_) fun _ _ h' => h'.elim)
  refine wpAny_bind (wpAny_mono h₁' (fun _ s₂ h₂ => wpAny_bind (wpAny_mono (wpAny_tests_one h₂) (fun ok s₃ h₃ => ?_) fun _ _ h' => h'.elim)) fun _ _ h' => h'.elim)
  cases ok with
  | false => exact wpAny_pure ⟨rfl,h₃⟩
  | true => exact wpAny_bind (wpAny_bind (wpAny_mono h₃ (fun x s₄ h₄ => wpAny_bind (wpAny_mono h₄ (fun _ s₅ h₅ => wpAny_pure (wpAny_pure ⟨rfl,h₅⟩)) fun _ _ h' => h'.elim)) fun _ _ h' => h'.elim))
def l8 (J : It) (ix : List (Option Nat)) (g : TG) (tc : TT) (te : TE) (σ : St) (H : Hp) (Qd : Addr -> Hp -> Prop) : Prop:=
 ∀ D,H D = none -> ∃ W : Nat -> Nat -> St -> Hp -> Prop,(∃ m,W 0 m (aM ix σ) (upd H D (.lst []))) /\ ∀ i m σ' H',W i m σ' H' ->
  (J.stop i H' /\ Qd D H') \/ (J.go i H' /\ ∀ x H2,J.yld i H' x H2 -> g x σ' H2 fun σ3 H3 => tc σ3 H3 fun b H4 => if b = true then te σ3 H4 fun y H5 => ∃ ys,H5 D = some (.lst ys) /\ ys.length < sizeLine /\ ∃ m',m' < m /\ W (i + 1) m' σ3 (upd H5 D (.lst (ys ++ [y]))) else ∃ m',m' < m /\ W (i + 1) m' σ3 H4)
section
variable {X : Cx} {pins : List (Addr × Obj)} {σ : St} {H : Hp} {s : Shared} {N : List Str} {ix : List (Option Nat)} {scope : Scope} {fp : List Addr} {tg elt iter cond : Expr} {tc : TT} {pos spos : Pos} {J : It} {it : Addr} {tn : Nat -> Heap -> Prop} {g : TG} {te : TE} {wi : TI}
theorem nP {Qd : Addr -> Hp -> Prop} {RR : Value -> Addr -> Result -> Shared -> Prop} {E : Value -> Shared -> Prop} (I : Inv X pins σ H s) (hc : X.calm = true) (S : BlkScope X.N X.env.scope N ix scope) (T : Turn X.prog X.w X.K tg J fp it tn) (st : tn 0 s.heap) (f2 : ∀ b ∈ fp,fQ X pins H b)
  (hg : ∀ C,PG (aZ X N scope fp s H C) tg g) (ht : ∀ C,PT (aZ X N scope fp s H C) cond tc) (he : ∀ C,PE (aZ X N scope fp s H C) elt te) (hW : l8 J ix g tc te σ H Qd)
  (hR : ∀ D C s' H' m,Inv X pins σ H' s' -> s'.heap.Ns C m -> fQ X pins H' C -> Qd D H' -> RR (.ref D) C (.ok .next) s') :
  wpAny (model X.prog X.w) X.A (newList []) (fun acc s₃ => wpAny (model X.prog X.w) X.A (newFunctionEnv scope X.env.globals (bg X.env.cells scope.names []) [] X.env.qual none .none (some X.env)) (fun cenv s₄ =>
   codeAny (model X.prog X.w) X.A (.compStart (.ListComp elt [⟨tg,iter,[cond],0⟩] scope pos) 0 (.ref it) acc { cenv with scope:=relabel scope X.env }) (RR acc cenv.locals) s₄) E s₃) E s:=by
 refine wpAny_newObj_type (wpAny_newFunctionEnv S.nocell (by intro y hy; simp at hy) (fun h₁ hns₁ hsb₁ => ?_) S.kind)
 dsimp only at hns₁ hsb₁ ⊢
 generalize hH2 : s.heap.push { cls:=.type "list",dict:=none,data:=.seq ([] : List Value).toArray } = H2 at hns₁ hsb₁ ⊢
 have hC : H2.objs.size = s.heap.objs.size + 1:=by rw [<- hH2,Heap.size_push]
 have hDC : s.heap.objs.size ≠ H2.objs.size:=by rw [hC]; exact Nat.ne_of_lt (Nat.lt_succ_self _)
 have hCle : s.heap.objs.size <= H2.objs.size:=by rw [hC]; exact Nat.le_succ _
 have below : ∀ b,b < s.heap.objs.size -> b ≠ H2.objs.size:=fun b hb => by rw [hC]; exact Nat.ne_of_lt (Nat.lt_succ_of_lt hb)
 have old : ∀ b o,s.heap.get? b = some o -> h₁.get? b = some o:=fun b o e => hsb₁.extBut b o (below b (Heap.lt_size e)) (Heap.get?_push_of_some _ (hH2 ▸ Heap.get?_push_of_some _ e))
 have hacc : ∃ n,h₁.get? s.heap.objs.size = some { cls:=.type "list",data:=.seq ([] : List Value).toArray n }:=⟨_,hsb₁.extBut _ _ hDC (Heap.get?_push_of_some _ (hH2 ▸ Heap.get?_push_size _ rfl))⟩
 have st1 : tn 0 h₁:=T.keep _ _ _ st fun b _ o e => old b o e
 have fo : ∀ b ∈ fp,∃ o,s.heap.get? b = some o /\ ∀ v,o.data ≠ .cell v:=T.obj _ _ st
 have I0 : Inv (aZ X N scope fp s H H2.objs.size) pins (aM ix σ) (upd H s.heap.objs.size (.lst [])) { s with heap:=h₁,toks:=s.toks + ([] : List (Str × Value)).length }:=
  i6 I S f2 fo (Nat.le_refl _) hCle hDC old hns₁ hacc
 have freshD : H s.heap.objs.size = none:=I.hok.fresh (Nat.le_refl _)
 obtain ⟨W,⟨m0,w0⟩,turn⟩:=hW s.heap.objs.size freshD
 have cl_ne : ∀ b ∈ fp,b ≠ H2.objs.size:=fun b hb => by
  obtain ⟨o,e,_⟩:=fo b hb
  exact below b (Heap.lt_size e)
 have stat : ∀ {H' : Hp},(∀ b ∈ fp,H' b = none) -> ∀ b ∈ fp,fQ (aZ X N scope fp s H H2.objs.size) pins H' b:=fun hn b hb => by
  obtain ⟨f0,f1,f3,f4,f5,f6⟩:=f2 b hb
  exact ⟨hn b hb,cl_ne b hb,I0.ok.exfs b hb,.inl hb,(I0.ok.exf b hb).2,f6⟩
 have fr0 : ∀ b ∈ fp,(upd H s.heap.objs.size (.lst [])) b = none:=fun b hb => by
  obtain ⟨o,e,_⟩:=fo b hb
  rw [ar (Nat.ne_of_lt (Heap.lt_size e))]
  exact (f2 b hb).1
 have loop : codeAny (model X.prog X.w) X.A (.compLoop (.ListComp elt [⟨tg,iter,[cond],0⟩] scope pos) 0 (.ref it) (.ref s.heap.objs.size) (compEnvC scope (bg X.env.cells scope.names []) H2.objs.size X.env))
   (RR (.ref s.heap.objs.size) H2.objs.size) { s with heap:=h₁,toks:=s.toks + ([] : List (Str × Value)).length }:=by
  refine jx (fun n s' => ∃ i σ' H',Inv (aZ X N scope fp s H H2.objs.size) pins σ' H' s' /\ tn i s'.heap /\ (∀ b ∈ fp,H' b = none) /\ W i n σ' H') ?_ m0 ⟨0,_,_,I0,st1,fr0,w0⟩
  rintro n s3 ⟨i,σ3,H3,I3,st3,fr3,w3⟩
  rcases turn i n σ3 H3 w3 with ⟨stop,qn⟩ | ⟨go,step⟩
  ·refine thn (T.done (aZ X N scope fp s H H2.objs.size) rfl rfl rfl hc i pins s3 σ3 H3 _ I3 (stat fr3) st3 stop) fun r s4 ⟨hr,I4⟩ => ?_
   subst hr
   obtain ⟨m4,hn4,_⟩:=id I4.loc
   refine hR _ _ s4 H3 m4 ?_ hn4 (I.fpOk hCle I4.free) qn
   exact I.call' (ch:=fp) I4.os I4.base I4.hok I4.bare fun b hb => by
    obtain ⟨f0,f1,f3,f4,f5,f6⟩:=f2 b hb
    exact ⟨f4,f1,f5,f6⟩
  ·refine thn (T.item (aZ X N scope fp s H H2.objs.size) rfl rfl rfl hc i pins s3 σ3 H3 _ I3 (stat fr3) st3 go) fun r s4 ⟨u,hr,h4⟩ => ?_
   subst hr
   refine thn h4 fun _ s5 ⟨x,H5,I5,r5,y5,st5,fr5⟩ => ?_
   have I5' := I5.pinned (stat fr5) (T.obj _ _ st5)
   refine thn (hg _ _ s5 σ3 H5 x u _ I5' r5 (step x H5 y5)) fun _ s6 ⟨σ6,H6,I6,q6⟩ => ?_
   refine thn (ht _ _ s6 σ6 H6 _ I6 q6) fun ok s6' ⟨H6',I6',q6'⟩ => ?_
   cases ok with
   | false =>
    obtain ⟨m',hm,w7⟩:=q6'
    refine ⟨m',hm,i + 1,σ6,H6',I6'.unpinned,T.keep _ _ _ st5 fun b hb o e => (I6'.pin (b,o) (List.mem_append_right _ (List.mem_append_right _ (bz hb e)))).1,fun b hb => ?_,w7⟩
    obtain ⟨o,e,d⟩:=T.obj _ _ st5 b hb
    exact (I6'.pin (b,o) (List.mem_append_right _ (List.mem_append_right _ (bz hb e)))).2.1
   | true =>
    refine thn (he _ _ s6' σ6 H6' _ I6' q6') fun yv s7 ⟨y,H7,I7,r7,ys,hD7,hz7,m',hm,w7⟩ => ?_
    refine thn (aV (X:=aZ X N scope fp s H H2.objs.size) _ s7 σ6 H7 (.ref s.heap.objs.size) [y] (.ref s.heap.objs.size) [yv] (fun _ H8 => W (i + 1) m' σ6 H8) I7 rfl (.cons r7 .nil) ⟨_,ys,y,rfl,rfl,hD7,hz7,w7⟩) fun _ s8 ⟨_,H8,I8,_,w8⟩ => ?_
    refine ⟨m',hm,i + 1,σ6,H8,I8.unpinned,T.keep _ _ _ st5 fun b hb o e => (I8.pin (b,o) (List.mem_append_right _ (List.mem_append_right _ (bz hb e)))).1,fun b hb => ?_,w8⟩
    obtain ⟨o,e,d⟩:=T.obj _ _ st5 b hb
    exact (I8.pin (b,o) (List.mem_append_right _ (List.mem_append_right _ (bz hb e)))).2.1
 exact codeAny_compStart_list loop (T.self _ _ _ _ _ st1 loop)
def qS (ix : List (Option Nat)) (wi : TI) (g : TG) (tc : TT) (te : TE) : TE:=fun σ H Q => wi σ H fun J H1 => l8 J ix g tc te σ H1 fun D H' => Q (.ref D) H'
end
theorem mf {K : PySem.W.Frag} {a : Addr} {xs : List V} {ix : List (Option Nat)} {tc : TT} {te : TE} {σ : St} {H : Hp} {Qd : Addr -> Hp -> Prop} (Pv : Addr -> Nat -> List V -> Hp -> Prop)
  (h0 : ∀ D,H D = none -> Pv D 0 [] (upd H D (.lst [])))
  (hl : ∀ D i ys H',i <= xs.length -> Pv D i ys H' -> SqL K H' a xs)
  (hs : ∀ D i x ys H' (Qy : VK) (Qn : Hp -> Prop),H D = none -> xs[i]? = some x -> H' D = some (.lst ys) -> Pv D i ys H' -> (∀ y H4,H4 D = some (.lst ys) -> ys.length < sizeLine -> Pv D (i + 1) (ys ++ [y]) (upd H4 D (.lst (ys ++ [y]))) -> Qy y H4) ->
   (∀ H4,H4 D = some (.lst ys) -> Pv D (i + 1) ys H4 -> Qn H4) -> tc ((aM ix σ).set 0 (some x)) H' fun b H4 => if b = true then te ((aM ix σ).set 0 (some x)) H4 Qy else Qn H4)
  (hd : ∀ D ys H',H D = none -> H' D = some (.lst ys) -> Pv D xs.length ys H' -> Qd D H') : l8 (Itl K a) ix (aC 0) tc te σ H Qd:=by
 intro D hD
 refine ⟨fun i m σ' H' => m = xs.length - i /\ i <= xs.length /\ (σ' = aM ix σ \/ ∃ t,σ' = (aM ix σ).set 0 t) /\ ∃ ys,H' D = some (.lst ys) /\ Pv D i ys H',⟨xs.length,by simp,Nat.zero_le _,.inl rfl,[],ai,h0 D hD⟩,?_⟩
 rintro i m σ' H' ⟨rfl,hi,hσ,ys,hy,p⟩
 have q:=hl D i ys H' hi p
 by_cases hlt : i < xs.length
 ·refine .inr ⟨⟨xs,xs[i],q,by simp [hlt]⟩,fun x H2 y => ?_⟩
  obtain ⟨e1,e2⟩:=y
  subst e1
  have ex:=e2 xs q
  have es : σ'.set 0 (some x) = (aM ix σ).set 0 (some x):=by
   rcases hσ with z | ⟨t,z⟩
   ·rw [z]
   ·rw [z,List.set_set]
  show tc (σ'.set 0 (some x)) _ _
  rw [es]
  exact hs D i x ys _ _ _ hD ex hy p (fun y H4 h4 hz p4 => ⟨ys,h4,hz,xs.length - (i + 1),by omega,rfl,hlt,.inr ⟨_,rfl⟩,ys ++ [y],ai,p4⟩) fun H4 h4 p4 => ⟨xs.length - (i + 1),by omega,rfl,hlt,.inr ⟨_,rfl⟩,ys,h4,p4⟩
 ·have e : i = xs.length:=by omega
  subst e
  exact .inl ⟨⟨xs,q,Nat.le_refl _⟩,hd D ys H' hD hy p⟩
end L2
set_option Elab.async false
set_option linter.all false
set_option maxRecDepth 100000
set_option maxHeartbeats 4000000
namespace L2
open PySem PySem.Spec PyProof.Rows
open AutoSeq1 (wpAny_loadPart')
section
variable {prog : Program} {w : World} {A : Around} {E : Value -> Shared -> Prop} {s : Shared}
end
end L2
set_option Elab.async false
set_option linter.all false
set_option maxRecDepth 100000
set_option maxHeartbeats 4000000
namespace L2
open PySem PySem.Spec PyProof.Rows
section
variable {X : Cx} {pins : List (Addr × Obj)} {σ : St} {H : Hp} {s : Shared} {h' : Heap}
end
section
variable {X : Cx}
end
end L2
set_option Elab.async false
set_option linter.all false
set_option maxRecDepth 100000
set_option maxHeartbeats 4000000
namespace L2
open PySem PySem.Spec PyProof.Rows
section
variable {X : Cx} {a : Expr} {ta : TA} {p p2 pos pos2 : Pos}
end
structure DefMk (P : Program) (w : World) (K : PySem.W.Frag) (mg : Str -> Option Value) (base : Heap) (x : Str) (C : Addr) (k : Nat) (ps : List Str) (sp : Sp) : Prop where
 m : mg x = some (.ref C)
 cl : Cls K C
 ex : ∃ (f : Addr) (fd : FuncData),Mk K C f /\ Binds K fd ps [] /\ FnOk P w K mg base CX0 k f fd ps sp
structure DefMe (P : Program) (w : World) (K : PySem.W.Frag) (mg : Str -> Option Value) (base : Heap) (C : Addr) (m : Str) (k : Nat) (ps : List Str) (sp : Sp) : Prop where
 cl : Cls K C
 ex : ∃ (f : Addr) (fd : FuncData),Meth K C m f /\ Binds K fd ps [] /\ FnOk P w K mg base CX0 k f fd ps sp
end L2
set_option Elab.async false
set_option linter.all false
set_option maxRecDepth 100000
set_option maxHeartbeats 4000000
namespace L2
open PySem PySem.Spec PyProof.Rows
section
variable {prog : Program} {w : World} {A : Around} {E : Value -> Shared -> Prop} {s : Shared}
structure ZipFar (z TI TO i1 i2 : Addr) (fp1 fp2 : List Addr) : Prop where
 TIz : TI ≠ z
 TOz : TO ≠ z
 TITO : TI ≠ TO
 i1z : i1 ≠ z
 i2z : i2 ≠ z
 TIi1 : TI ≠ i1
 TIi2 : TI ≠ i2
 TOi1 : TO ≠ i1
 TOi2 : TO ≠ i2
 i12 : i1 ≠ i2
 z1 : z ∉ fp1
 TO1 : TO ∉ fp1
 i21 : i2 ∉ fp1
 z2 : z ∉ fp2
 TO2 : TO ∉ fp2
 i12' : i1 ∉ fp2
variable {z TI TO i1 i2 : Addr} {fp1 fp2 : List Addr} {n1 n2 k : Nat} {P1 P2 : Nat -> Value -> Prop} {St1 St2 : Nat -> Heap -> Prop} {a b : Value}
end
end L2
set_option Elab.async false
set_option linter.all false
set_option maxRecDepth 100000
set_option maxHeartbeats 4000000
namespace L2
open PySem PySem.Spec PyProof.Rows
section
variable {X : Cx} {pins : List (Addr × Obj)} {σ : St} {H : Hp} {s : Shared} {h' : Heap}
end
section
variable {X : Cx}
end
end L2
set_option Elab.async false
set_option linter.all false
set_option maxRecDepth 100000
set_option maxHeartbeats 4000000
namespace L2
open PySem PySem.Spec PyProof.Rows
inductive EqN (K : PySem.W.Frag) (H : Hp) : V -> V -> Prop where
 | non : EqN K H .non .non
 | tup {a b : Addr} {ns : List Int} (ha : SqT K H a (ns.map V.int)) (hb : SqT K H b (ns.map V.int)) : EqN K H (.ref a) (.ref b)
section
variable {X : Cx} {pins : List (Addr × Obj)} {σ : St} {H : Hp} {s : Shared}
theorem pA {ns : List Int} {us : List Value} (r : Vals (ns.map V.int) us) : ∀ (j : Nat) (u : Value),us[j]? = some u -> ∃ n t,ns[j]? = some n /\ u = Value.int n t:=by
 intro j u hu
 have hj : j < us.length:=(List.getElem?_eq_some_iff.mp hu).1
 have hl:=r.length
 rw [List.length_map] at hl
 obtain ⟨v,hv,rv⟩:=r.get (i:=j) (x:=V.int (ns[j]'(by omega))) (by rw [List.getElem?_map,List.getElem?_eq_getElem (by omega)]; rfl)
 rw [hu] at hv
 cases hv
 obtain ⟨t,rfl⟩:=(show ∃ t,u = Value.int _ t from rv)
 exact ⟨_,t,List.getElem?_eq_getElem (by omega),rfl⟩
end
end L2
set_option Elab.async false
set_option linter.all false
set_option maxRecDepth 100000
set_option maxHeartbeats 4000000
namespace L2
open PySem PySem.Spec PyProof.Rows
section
variable {X : Cx}
end
end L2
set_option Elab.async false
set_option linter.all false
set_option maxRecDepth 100000
set_option maxHeartbeats 4000000
namespace L2
open PySem PySem.Spec PyProof.Rows
end L2
set_option Elab.async false
set_option linter.all false
set_option maxRecDepth 100000
namespace L2
open PySem PySem.Spec PyProof.Rows
section
variable {X : Cx} {pins : List (Addr × Obj)} {σ : St} {H H' : Hp} {s : Shared} {h' : Heap}
end
section
variable {X : Cx}
def qb (ns : List Int) : Int:=ns.foldl (· + ·) 0
theorem fJ (ns : List Int) : ∀ n,n <= ns.length -> preSum (fun i => ns.getD i 0) n = (ns.take n).foldl (· + ·) 0
 | 0,_ => rfl
 | n + 1,h => by
  have hn : n < ns.length:=h
  show preSum _ n + ns.getD n 0 = _
  rw [fJ ns n (Nat.le_of_lt hn),List.take_add_one,List.getElem?_eq_getElem hn,List.foldl_append]
  simp [hn]
end
end L2
set_option Elab.async false
set_option linter.all false
set_option maxRecDepth 100000
namespace L2
open PySem PySem.Spec PyProof.Rows
section
variable {X : Cx}
end
end L2
set_option Elab.async false
set_option linter.all false
set_option maxRecDepth 100000
namespace L2
open PySem PySem.Spec PyProof.Rows
section
variable {X : Cx}
end
end L2
namespace PySem
open PyProof.Rows
namespace F
end F
section
variable {prog : Program} {w : World} {A : Around} {E : Value -> Shared -> Prop} {s : Shared}
end
end PySem
namespace L2
open PySem PySem.Spec PyProof.Rows
section
variable {X : Cx} {tg : Expr}
end
end L2
set_option Elab.async false
set_option linter.all false
set_option maxRecDepth 100000
set_option maxHeartbeats 4000000
namespace L2
open PySem PySem.Spec PyProof.Rows
section
variable {X : Cx}
end
section
variable {X : Cx}
def ro (K : PySem.W.Frag) : List V -> Hp -> VK -> Prop:=fun xs H Q => ∃ (a : Addr) (ns : List Int),xs = [.ref a] /\ SqL K H a (ns.map V.int) /\ Q (.int (qb ns)) H
theorem nM (hc : X.calm = true) : cE X (.builtin "sum") (ro X.K):=by
 intro pins s σ H xs us Q I r h
 obtain ⟨a,ns,rfl,hS,q⟩:=h
 obtain ⟨u,rfl,ru⟩:=r.one
 cases (show u = Value.ref a from ru)
 obtain ⟨its,rv,ht',hz⟩:=I.list hS
 have ht : s.heap.IsList a its.toArray:=ht'.isList
 have hlen:=rv.length
 rw [List.length_map] at hlen
 have hlt : a < s.heap.objs.size:=by obtain ⟨_,e,_⟩:=ht; exact Heap.lt_size e
 refine call_sum_walkG (wpAny_pyIter_list ht ?_)
 have W:=Walks.list (prog:=X.prog) (w:=X.w) (A:=X.A.in1) (I.ok.hd hc) s.heap.objs.size a (Nat.ne_of_lt hlt) its.toArray
 refine ⟨_,_,_,_,_,_,fun i => ns.getD i 0,rfl,W,⟨⟨_,Heap.get?_push_size _ rfl,rfl,rfl⟩,ht.at fun o e => Heap.get?_push_of_some _ e⟩,fun b hb => ?_,fun i v hv => ?_,fun h' tk t' hk => ?_⟩
 ·rcases List.mem_cons.mp hb with z | z
  ·rw [z]; show _ < (Heap.push _ _).objs.size; rw [Heap.size_push]; exact Nat.lt_succ_self _
  ·rw [List.mem_singleton.mp z]; show _ < (Heap.push _ _).objs.size; rw [Heap.size_push]; exact Nat.lt_succ_of_lt hlt
 ·have e' : its[i]? = some v:=by simpa using hv
  obtain ⟨n,t,e1,e2⟩:=pA rv i v e'
  exact ⟨t,by rw [e2]; show Value.int n t = Value.int (ns.getD i 0) t; rw [List.getD_eq_getElem?_getD,e1]; rfl⟩
 ·have I1 : Inv X pins σ H { s with heap:=h',toks:=tk }:=I.kept (t' := tk) fun b o e => hk b o (fun hm => by
   rw [List.mem_singleton.mp hm] at e
   exact Nat.lt_irrefl _ (Heap.lt_size e)) (Heap.get?_push_of_some _ e)
  refine ⟨.int (qb ns),H,I1,⟨t',?_⟩,q⟩
  show Value.int _ _ = Value.int _ _
  rw [List.size_toArray,<- hlen,fJ ns _ (Nat.le_refl _),List.take_length]
  rfl
end
end L2
set_option Elab.async false
set_option linter.all false
set_option maxRecDepth 100000
set_option maxHeartbeats 4000000
namespace L2
open PySem PySem.Spec PyProof.Rows
section
variable {prog : Program} {w : World} {A : Around} {E : Value -> Shared -> Prop} {s : Shared}
structure ZipFar3 (z TI TO i1 i2 i3 : Addr) (fp1 fp2 fp3 : List Addr) : Prop where
 TIz : TI ≠ z
 TOz : TO ≠ z
 TITO : TI ≠ TO
 i1z : i1 ≠ z
 i2z : i2 ≠ z
 i3z : i3 ≠ z
 TIi1 : TI ≠ i1
 TIi2 : TI ≠ i2
 TIi3 : TI ≠ i3
 TOi1 : TO ≠ i1
 TOi2 : TO ≠ i2
 TOi3 : TO ≠ i3
 z1 : z ∉ fp1
 TO1 : TO ∉ fp1
 i21 : i2 ∉ fp1
 i31 : i3 ∉ fp1
 z2 : z ∉ fp2
 TO2 : TO ∉ fp2
 i12 : i1 ∉ fp2
 i32 : i3 ∉ fp2
 z3 : z ∉ fp3
 TO3 : TO ∉ fp3
 i13 : i1 ∉ fp3
 i23 : i2 ∉ fp3
variable {z TI TO i1 i2 i3 : Addr} {fp1 fp2 fp3 : List Addr} {n1 n2 n3 k : Nat} {P1 P2 P3 : Nat -> Value -> Prop} {St1 St2 St3 : Nat -> Heap -> Prop} {a b c : Value}
end
section
variable {X : Cx}
end
section
variable {X : Cx}
end
theorem cX {t u : TS} {D : Ends} {σ : St} {H : Hp} (R : St -> Hp -> Prop) (h1 : ∀ σ' H',R σ' H' -> u D σ' H') (h2 : ∀ D' : Ends,(∀ σ' H',R σ' H' -> D'.nx σ' H') -> t D' σ H) : qg t u D σ H:=
 h2 { D with nx:=u D } h1
end L2
set_option Elab.async false
set_option linter.all false
set_option maxRecDepth 100000
set_option maxHeartbeats 4000000
namespace L2
open PySem PySem.Spec PyProof.Rows
structure BlkScope1 (NX : List Str) (scX : Scope) (N : List Str) (ix : List (Option Nat)) (sc : Scope) (x : Str) : Prop where
 kind : sc.kind = .function
 nd : N.Nodup
 cell : sc.names.lookup x = some .cell
 only : ∀ y ∈ sc.names,y.2 = .cell -> y.1 = x
 lay : ∀ n cl,cellsFrom n sc.names cl = (x,n) :: cl
 lays : ∀ h,pushCells h sc.names = h.push { cls:=.type "cell",data:=.cell none }
 locs : ∀ y ∈ sc.names,y.2 = .local -> sc.names.lookup y.1 = some .local
 free : ∀ y ∈ sc.names,y.2 = .free -> scX.names.lookup y.1 = some .cell \/ scX.names.lookup y.1 = some .free
 nofree : ∀ y ∈ sc.names,y.2 = .free -> y.1 ≠ x
 len : ix.length = N.length
 at_ : ∀ p ∈ N.zip ix,∀ i,p.2 = some i -> NX[i]? = some p.1 /\ sc.names.lookup p.1 = some .free
section
variable {X : Cx} {pins : List (Addr × Obj)} {σ : St} {H : Hp} {s : Shared} {N : List Str} {ix : List (Option Nat)} {scope : Scope} {fp : List Addr} {x : Str}
variable {tg elt iter : Expr} {pos spos : Pos} {J : It} {it : Addr} {tn : Nat -> Heap -> Prop} {g : TG} {te : TE} {wi : TI}
end
end L2
set_option Elab.async false
set_option linter.all false
set_option maxRecDepth 100000
namespace L2
open PySem PySem.Spec PyProof.Rows
abbrev Rise (xs : Array Nat) : Prop:=xs.toList.Pairwise (· < ·)
theorem Rise.lt {xs : Array Nat} (r : Rise xs) {i j : Nat} (hi : i < j) (hj : j < xs.size) : xs[i] < xs[j]:=by
 have:=List.pairwise_iff_getElem.mp r i j (by simpa using Nat.lt_trans hi hj) (by simpa using hj) hi
 simpa using this
theorem gH {xs : Array Nat} {j : Nat} (r : Rise xs) : ∀ (fuel lo hi : Nat),hi - lo <= fuel -> lo <= hi -> hi <= xs.size -> (∀ i (h : i < xs.size),i < lo -> xs[i] < j) -> (∀ i (h : i < xs.size),hi <= i -> j <= xs[i]) ->
  (SetTable.below.go xs j fuel lo hi <= xs.size /\ (∀ i (h : i < xs.size),i < SetTable.below.go xs j fuel lo hi -> xs[i] < j) /\ ∀ i (h : i < xs.size),SetTable.below.go xs j fuel lo hi <= i -> j <= xs[i])
 | 0,lo,hi,hf,hl,hs,h1,h2 => by
  have e : lo = hi:=by omega
  subst e
  exact ⟨hs,h1,h2⟩
 | fuel + 1,lo,hi,hf,hl,hs,h1,h2 => by
  unfold SetTable.below.go
  by_cases c : lo < hi
  ·rw [if_pos c]
   dsimp only
   have hm : (lo + hi) / 2 < xs.size:=by omega
   have eg : xs.getD ((lo + hi) / 2) j = xs[(lo + hi) / 2]:=by simp [Array.getD,hm]
   by_cases d : xs.getD ((lo + hi) / 2) j < j
   ·rw [if_pos d]
    refine gH r fuel _ _ (by omega) (by omega) hs (fun i h hi' => ?_) h2
    rcases Nat.lt_or_ge i ((lo + hi) / 2) with z | z
    ·exact Nat.lt_trans (r.lt z hm) (by rw [eg] at d; exact d)
    ·have e : i = (lo + hi) / 2:=by omega
     subst e
     rw [eg] at d
     exact d
   ·rw [if_neg d]
    refine gH r fuel _ _ (by omega) (by omega) (by omega) h1 (fun i h hi' => ?_)
    rw [eg] at d
    rcases Nat.lt_or_ge ((lo + hi) / 2) i with z | z
    ·exact Nat.le_trans (Nat.le_of_not_lt d) (Nat.le_of_lt (r.lt z h))
    ·have e : i = (lo + hi) / 2:=by omega
     subst e
     exact Nat.le_of_not_lt d
  ·rw [if_neg c]
   have e : lo = hi:=by omega
   subst e
   exact ⟨hs,h1,h2⟩
theorem gI {xs : Array Nat} (r : Rise xs) (j : Nat) : SetTable.below xs j <= xs.size /\ (∀ i (h : i < xs.size),i < SetTable.below xs j -> xs[i] < j) /\ ∀ i (h : i < xs.size),SetTable.below xs j <= i -> j <= xs[i]:=
 gH r xs.size 0 xs.size (by omega) (Nat.zero_le _) (Nat.le_refl _) (fun i h z => by omega) (fun i h z => by omega)
theorem ma {xs : Array Nat} (r : Rise xs) : SetTable.below xs 0 = 0:=by
 obtain ⟨h0,h1,_⟩:=gI r 0
 rcases Nat.eq_zero_or_pos (SetTable.below xs 0) with z | z
 ·exact z
 ·exact absurd (h1 0 (Nat.lt_of_lt_of_le z h0) z) (Nat.not_lt_zero _)
theorem l9 {xs : Array Nat} (r : Rise xs) {i : Nat} (hi : i < xs.size) : SetTable.below xs (xs[i] + 1) = i + 1:=by
 obtain ⟨h0,h1,h2⟩:=gI r (xs[i] + 1)
 rcases Nat.lt_trichotomy (SetTable.below xs (xs[i] + 1)) (i + 1) with z | z | z
 ·have:=h2 i hi (by omega)
  omega
 ·exact z
 ·have hi2 : i + 1 < xs.size:=by omega
  have a1:=h1 (i + 1) hi2 z
  have a2 : xs[i] < xs[i + 1]:=r.lt (Nat.lt_succ_self i) hi2
  omega
theorem toList_insertAt {α : Type} (xs : Array α) (p : Nat) (x : α) : (SetTable.insertAt xs p x).toList = xs.toList.take p ++ x :: xs.toList.drop p:=by
 unfold SetTable.insertAt
 simp
 rw [List.take_of_length_le (by simp)]
theorem Rise.put {xs : Array Nat} (r : Rise xs) {j : Nat} (hj : xs[SetTable.below xs j]? ≠ some j) : Rise (SetTable.insertAt xs (SetTable.below xs j) j):=by
 obtain ⟨h0,h1,h2⟩:=gI r j
 unfold Rise
 rw [toList_insertAt,List.pairwise_append]
 have tk : ∀ a ∈ xs.toList.take (SetTable.below xs j),a < j:=fun a ha => by
  obtain ⟨i,hi,rfl⟩:=List.mem_take_iff_getElem.mp ha
  have : i < SetTable.below xs j /\ i < xs.size:=by simp at hi; omega
  simpa using h1 i this.2 this.1
 have dr : ∀ b ∈ xs.toList.drop (SetTable.below xs j),j < b:=fun b hb => by
  obtain ⟨i,hi,rfl⟩:=List.mem_drop_iff_getElem.mp hb
  have hs : i + SetTable.below xs j < xs.size:=by simpa using hi
  have hle:=h2 (i + SetTable.below xs j) hs (by omega)
  have hb0 : SetTable.below xs j < xs.size:=by omega
  have hne : xs[SetTable.below xs j] ≠ j:=fun z => hj (by rw [Array.getElem?_eq_getElem hb0,z])
  have h3:=h2 (SetTable.below xs j) hb0 (Nat.le_refl _)
  have : j < xs[i + SetTable.below xs j]:=by
   rcases Nat.eq_zero_or_pos i with z | z
   ·subst z
    simp only [Nat.zero_add]
    omega
   ·have:=r.lt (i:=SetTable.below xs j) (j:=i + SetTable.below xs j) (by omega) hs
    omega
  simpa [Nat.add_comm] using this
 refine ⟨List.Pairwise.sublist (List.take_sublist _ _) r,List.pairwise_cons.mpr ⟨dr,List.Pairwise.sublist (List.drop_sublist _ _) r⟩,fun a ha b hb => ?_⟩
 rcases List.mem_cons.mp hb with e | hb
 ·rw [e]; exact tk a ha
 ·exact Nat.lt_trans (tk a ha) (dr b hb)
theorem mF (n : Nat) : Rise (Array.range n):=by
 unfold Rise
 rw [Array.toList_range]
 exact List.pairwise_lt_range
structure TabOk (t : SetTable) (led : Bool) : Prop where
 rise : Rise t.place
 nod : t.dummies = #[]
 led : t.led = led
theorem TabOk.standIn {t : SetTable} {led : Bool} (k : TabOk t led) (n : Nat) : TabOk (t.standIn n) led:=⟨mF n,rfl,k.led⟩
theorem TabOk.orStandIn {t : SetTable} {led : Bool} (k : TabOk t led) (n : Nat) : TabOk (t.orStandIn n) led:=by
 unfold SetTable.orStandIn
 split
 ·exact k
 ·exact k.standIn n
theorem mY (j : Nat) : SetTable.has #[] j = false:=by
 unfold SetTable.has
 simp
theorem gY {t : SetTable} {led : Bool} (k : TabOk t led) {h : Int} : ∀ (fuel : Nat) (p : SetTable.Probe) (j : Nat) (dm : Option Nat),p.dummy = none -> SetTable.probe.go t (fun _ => h + 1) h fuel p = some (.empty j dm) -> t.slot j = .empty /\ dm = none
 | 0,p,j,dm,_,e => by cases e
 | fuel + 1,p,j,dm,hp,e => by
  unfold SetTable.probe.go at e
  cases hs : t.slot p.j with
  | empty =>
   rw [hs] at e
   cases e
   exact ⟨hs,hp⟩
  | dummy =>
   exfalso
   unfold SetTable.slot at hs
   dsimp only at hs
   split at hs
   ·cases hs
   ·rw [k.nod,mY] at hs
    simp at hs
  | live i =>
   rw [hs] at e
   dsimp only at e
   rw [if_neg (by simp; omega)] at e
   refine gY k fuel _ j dm ?_ e
   unfold SetTable.advance
   split
   ·exact hp
   ·exact hp
theorem nR {t : SetTable} {led : Bool} (k : TabOk t led) {h : Int} {j : Nat} {b : Bool} (e : t.freeSlot h = some (j,b)) : t.place[SetTable.below t.place j]? ≠ some j /\ b = false:=by
 unfold SetTable.freeSlot SetTable.probe at e
 split at e
 ·rename_i j' dm e'
  obtain ⟨h1,rfl⟩:=gY k _ _ _ _ rfl e'
  simp at e
  obtain ⟨rfl,rfl⟩:=e
  refine ⟨fun z => ?_,rfl⟩
  unfold SetTable.slot at h1
  dsimp only at h1
  rw [if_pos (by rw [z]; simp)] at h1
  cases h1
 ·cases e
theorem mv {t : SetTable} {led : Bool} (k : TabOk t led) (es : Array (Int × Value)) (h : Int) (x : Value) : TabOk (layNew t es h x).2.1 led:=by
 unfold layNew
 split
 ·rename_i slot wd e
  obtain ⟨hj,rfl⟩:=nR k e
  have k1 : TabOk (t.put slot).1 led:=by
   refine ⟨k.rise.put hj,?_,k.led⟩
   show (if SetTable.has t.dummies slot = true then _ else t.dummies) = #[]
   rw [k.nod,mY]
   rfl
  exact k1.orStandIn _
 ·exact k.standIn _
theorem kr {t : SetTable} {led : Bool} (k : TabOk t led) (es : Array (Int × Value)) (n : Nat) : TabOk (relayAll t es n).2.1 led:=by
 unfold relayAll
 split
 ·rename_i t' order e
  dsimp only
  split
  ·unfold SetTable.relaid SetTable.laid at e
   simp only [Option.bind_eq_bind,Option.bind_eq_some_iff] at e
   obtain ⟨owner,_,e⟩:=e
   cases e
   refine ⟨?_,rfl,k.led⟩
   unfold Rise
   dsimp only
   rw [List.map_filterMap]
   refine List.Pairwise.filterMap _ (fun a a' hr b hb b' hb' => ?_) List.pairwise_lt_range
   simp only [Option.map_map,Option.mem_def,Option.map_eq_some_iff,Function.comp] at hb hb'
   obtain ⟨_,_,rfl⟩:=hb
   obtain ⟨_,_,rfl⟩:=hb'
   exact hr
  ·exact k.standIn _
 ·exact k.standIn _
abbrev byT (w : World) : Bool:=w.params.followText "set-order"
section
variable {P : Program} {w : World} {A : Around} {E : Value -> Shared -> Prop} {s : Shared}
end
end L2
set_option Elab.async false
set_option linter.all false
set_option maxRecDepth 100000
namespace L2
open PySem PySem.Spec PyProof.Rows
section
variable {P : Program} {w : World} {A : Around} {E : Value -> Shared -> Prop} {R : Result -> Shared -> Prop} {I : Addr} {fp wr : List Addr} {G : Array GenState -> Array GenState -> Prop} {n : Nat} {Pz : Nat -> Value -> Prop} {St : Nat -> Shared -> Prop}
end
section
variable {P : Program} {w : World} {A : Around} {E : Value -> Shared -> Prop} {s : Shared}
def bu (w : World) : Obj:={ cls:=.type "set",dict:=none,data:=.set #[] 0 (.fresh 0 0 (!byT w)) }
theorem nN (a : Value) {Q₁ : Value -> Shared -> Prop} (h : Q₁ (.ref s.heap.objs.size) { s with heap:=s.heap.push (bu w) }) :
  codeAny (model P w) A (.call (.builtin "set.__new__") ⟨[.type "set",a],[]⟩) (wants Q₁ E) s:=by
 refine codeAny_of_tree ?_
 show wpAny _ A.in1 (do checkBuiltinCall "set.__new__" ⟨[.type "set",a],[]⟩; again (.builtin "set.__new__" ⟨[.type "set",a],[]⟩)) _ _ s
 refine wpAny_bind (wpAny_of_eq (F.newCall_set_1 a) (wpAny_pure ⟨plainId_quiet F.plain_set_new _,codeAny_builtin F.entry_set_new ?_⟩))
 rw [Around.under_plainId F.plain_set_new _]
 unfold Builtin.«set.__new__» Builtin.Frozenset.newClass
 have hsub:=sub_set_self
 obtain ⟨hp,g,d,tk,os⟩:=s
 dsimp only
 wp_walk
 refine wpAny_askSetting (wpAny_pure ?_)
 dsimp only
 simp only [newObj]
 exact wpAny_bind (wpAny_alloc (wpAny_pure (wpAny_pure h)))
end
end L2
set_option Elab.async false
set_option linter.all false
set_option maxRecDepth 100000
namespace L2
open PySem PySem.Spec PyProof.Rows
namespace SF
theorem entry_iter : entryFor table "set.__iter__" = some Builtin.«frozenset.__iter__» := entryFor_alias (id' := "frozenset.__iter__") (by kernel_rfl) rfl (by decide +kernel) (by kernel_rfl)
theorem slot_next : Slot "set_iterator" "__next__" "set_iterator.__next__" :=
 .of (owner := "set_iterator") (n := "__next__") (by rw [typeLookup_type,builtinLookup_eq_fast]; kernel_rfl) (by decide +kernel) (by decide +kernel) (by decide +kernel) (by first | exact .inl (by decide +kernel) | exact .inr (by decide +kernel))
  (by rw [isSubtype_type]; kernel_rfl)
theorem entry_next : entryFor table "set_iterator.__next__" = some Builtin.«set_iterator.__next__» := entryFor_of_tree (by kernel_rfl)
theorem args_next (a : Value) : argsOk "set_iterator.__next__" ⟨[a],[]⟩:=by unfold argsOk; kernel_rfl
theorem slot_iter_self : Slot "set_iterator" "__iter__" "set_iterator.__iter__" :=
 .of (owner := "set_iterator") (n := "__iter__") (by rw [typeLookup_type,builtinLookup_eq_fast]; kernel_rfl) (by decide +kernel) (by decide +kernel) (by decide +kernel) (by first | exact .inl (by decide +kernel) | exact .inr (by decide +kernel))
  (by rw [isSubtype_type]; kernel_rfl)
end SF
theorem e7 {α : Type} : ∀ (l : List α) (i : Nat) (h : i < l.length),(l[i] :: l.eraseIdx i).Perm l
 | x :: r,0,_ => List.Perm.refl _
 | x :: r,i + 1,h => (List.Perm.swap _ _ _).trans (List.Perm.cons _ (e7 r i (Nat.lt_of_succ_lt_succ h)))
theorem ny {α : Type} (next : Nat -> Nat) : ∀ (fuel k : Nat) (left : List α) (out : Array α),left.length = fuel -> (pickOrder.go next fuel k left out).toList.Perm (out.toList ++ left)
 | 0,k,left,out,h => by
  rw [List.length_eq_zero_iff.mp h,List.append_nil]
  exact List.Perm.refl _
 | fuel + 1,k,left,out,h => by
  unfold pickOrder.go
  have hlt : next k % left.length < left.length:=Nat.mod_lt _ (by omega)
  rw [List.getElem?_eq_getElem hlt]
  dsimp only
  refine (ny next fuel (k + 1) _ _ (by rw [List.length_eraseIdx_of_lt hlt]; omega)).trans ?_
  rw [Array.toList_push,List.append_assoc]
  refine List.Perm.append_left _ ?_
  exact e7 _ _ hlt
theorem fX {α : Type} (next : Nat -> Nat) (xs : Array α) : (pickOrder next xs).toList.Perm xs.toList:=by
 have q:=ny next xs.size 0 xs.toList #[] (by simp)
 unfold pickOrder
 simpa using q
theorem iQ {M : Model} {A : Around} {E : Value -> Shared -> Prop} {s : Shared} {src : Source} {n : Nat} {Q : Nat -> Shared -> Prop} (hn : n ≠ 0) (h : ∀ i d',i < n -> Q i { s with drawn:=d' }) : wpAny M A (choose src n) Q E s:=
 fun _ _ _ => ⟨hn,h _ _ (Nat.mod_lt _ (Nat.pos_of_ne_zero hn))⟩
theorem iZ {M : Model} {A : Around} {E : Value -> Shared -> Prop} {α : Type} : ∀ (n : Nat) (xs : List α) (s : Shared) (Q : List α -> Shared -> Prop),xs.length = n -> (∀ ys d',ys.Perm xs -> Q ys { s with drawn:=d' }) -> wpAny M A (drawOrder n xs) Q E s
 | 0,xs,s,Q,hl,h => by
  have e : xs = []:=List.length_eq_zero_iff.mp hl
  subst e
  unfold drawOrder
  exact wpAny_pure (h [] s.drawn (List.Perm.refl _))
 | n + 1,[],s,Q,hl,h => by cases hl
 | n + 1,x :: r,s,Q,hl,h => by
  unfold drawOrder
  refine wpAny_bind (iQ (by simp) fun i d' hi => ?_)
  rw [List.getElem?_eq_getElem hi]
  dsimp only
  refine wpAny_bind (iZ n _ _ _ (by rw [List.length_eraseIdx_of_lt hi]; omega) fun ys d2 p => wpAny_pure ?_)
  exact h _ _ ((List.Perm.cons _ p).trans (e7 _ _ hi))
def IsSetIter (h : Heap) (I S : Addr) (first : Value) (i n ep : Nat) : Prop := ∃ o,h.get? I = some o /\ o.cls = .type "set_iterator" /\ o.data = .fields #[first,.int i 0,.ref S,.int n 0,.int ep 0]
theorem IsSetIter.typeIs {s : Shared} {I S : Addr} {first : Value} {i n ep : Nat} (x : IsSetIter s.heap I S first i n ep) : s.TypeIs (.ref I) "set_iterator" := let ⟨o,ho,hc,_⟩:=x; ⟨o,ho,hc⟩
def qu (w : World) (es : Array (Int × Value)) (ep : Nat) (t : SetTable) (S T : Addr) (L : List Value) (h : Heap) (i : Nat) (first : Value) : Prop:=
 (byT w = true /\ (∃ z : Nat,first = .int z 0) /\ L = (pickOrder (w.params.setOrder S ep) es).toList.map (·.2)) \/
 (byT w = false /\ (t.plain = true \/ es.size <= 1) /\ (∃ z : Nat,first = .int z 0 /\ SetTable.below t.place z = i) /\ L = es.toList.map (·.2)) \/
 (byT w = false /\ first = .ref T /\ ∃ pl : List Nat,pl.Perm (List.range es.size) /\ (∃ o e,h.get? T = some o /\ o.data = .seq (pl.map fun p : Nat => Value.int (p : Int) 0).toArray e) /\ L = pl.map fun p => (es.getD p (0,.none)).2)
structure SetSt (w : World) (es : Array (Int × Value)) (ep : Nat) (t : SetTable) (S T I : Addr) (L : List Value) (i : Nat) (h : Heap) : Prop where
 set : ∃ o,h.get? S = some o /\ o.data = .set es ep t
 it : ∃ first,IsSetIter h I S first i es.size ep /\ qu w es ep t S T L h i first
section
variable {P : Program} {w : World} {A : Around} {E : Value -> Shared -> Prop} {s : Shared} {es : Array (Int × Value)} {ep : Nat} {t : SetTable} {S T I : Addr} {L : List Value} {i : Nat}
theorem next_item (hf : t.fits es.size = true) (hk : TabOk t (!byT w)) (hL : L.length = es.size) (hTI : T ≠ I) (hSI : S ≠ I) (st : SetSt w es ep t S T I L i s.heap) (hi : i < es.size) {Q : Option Value -> Shared -> Prop}
  (h : ∀ h',Heap.SameBut I s.heap h' -> SetSt w es ep t S T I L (i + 1) h' -> Q (some (L.getD i .none)) { s with heap:=h' }) : wpAny (model P w) A (pyNext (.ref I)) Q E s:=by
 obtain ⟨⟨oS,hS,hSd⟩,first,hit,by_⟩:=st
 obtain ⟨o,ho,hc,hd⟩:=id hit
 have hLi : L.getD i .none = L[i]'(by omega):=by simp [List.getD,hL,hi]
 unfold pyNext
 refine wpAny_bind (wpAny_attempt (wpAny_callSpecial?_slot (name:=Str.ofString "__next__") hit.typeIs SF.slot_next (wpAny_call_entry SF.slot_next hit.typeIs SF.entry_next ?_ (SF.args_next _))))
 unfold Builtin.«set_iterator.__next__»
 refine wpAny_bind (m:=slotArgs "__next__" 0 _) (wpAny_pure ?_)
 refine wpAny_bind (wpAny_fieldsOf ho hd ?_)
 dsimp only
 unfold setEntries
 refine wpAny_bind (wpAny_bind (wpAny_setState_of hS hSd hf (wpAny_pure ?_)))
 rw [if_neg (by simp)]
 have upI : ∀ (f : Array Value -> Array Value),(s.heap.update I (Obj.mapFields f)).get? I = some (Obj.mapFields f o):=fun f => Heap.get?_update_self _ ho (Obj.isFreed_of_fields (Obj.data_mapFields hd _))
 have other : ∀ (f : Array Value -> Array Value) b,b ≠ I -> (s.heap.update I (Obj.mapFields f)).get? b = s.heap.get? b:=fun f b hb => Heap.get?_update_other _ _ (Ne.symm hb)
 have put1 : ∀ (h1 : Heap) (fi : Value),IsSetIter h1 I S fi i es.size ep -> IsSetIter (h1.update I (Obj.mapFields (·.setIfInBounds 1 (rawInt ((i : Int) + 1))))) I S fi (i + 1) es.size ep:=by
  rintro h1 fi ⟨o1,ho1,hc1,hd1⟩
  exact ⟨_,Heap.get?_update_self _ ho1 (Obj.isFreed_of_fields (Obj.data_mapFields hd1 _)),(Obj.cls_mapFields ..).trans hc1,by rw [Obj.data_mapFields hd1]; simp [rawInt]⟩
 have put0 : ∀ (h1 : Heap) (fi : Value) (nx : Nat),IsSetIter h1 I S fi i es.size ep -> IsSetIter (h1.update I (Obj.mapFields (·.setIfInBounds 0 (rawInt nx)))) I S (.int nx 0) i es.size ep:=by
  rintro h1 fi nx ⟨o1,ho1,hc1,hd1⟩
  exact ⟨_,Heap.get?_update_self _ ho1 (Obj.isFreed_of_fields (Obj.data_mapFields hd1 _)),(Obj.cls_mapFields ..).trans hc1,by rw [Obj.data_mapFields hd1]; simp [rawInt]⟩
 have keepS : ∀ h1,Heap.SameBut I s.heap h1 -> ∃ o,h1.get? S = some o /\ o.data = .set es ep t:=fun h1 sb => ⟨oS,(sb.2 S hSI).trans hS,hSd⟩
 rcases by_ with ⟨bt,⟨z,rfl⟩,eL⟩ | ⟨bt,pl,⟨z,rfl,hz⟩,eL⟩ | ⟨bt,rfl,pl,pp,⟨oT,eT,hT,hTd⟩,eL⟩
 ·have px:=fX (w.params.setOrder S ep) es
  have hx : i < (pickOrder (w.params.setOrder S ep) es).size:=by rw [<- Array.length_toList,px.length_eq,Array.length_toList]; exact hi
  refine wpAny_bind ?_
  unfold setNext
  refine wpAny_bind (wpAny_setState_of hS hSd hf ?_)
  unfold setsByText
  refine wpAny_bind (wpAny_bind (wpAny_askSetting (wpAny_pure ?_)))
  rw [if_pos (show (model P w).w.params.followText "set-order" = true from bt),if_neg (by simp)]
  unfold setWalk setsByText
  refine wpAny_bind (wpAny_bind (wpAny_setState_of hS hSd hf ?_))
  refine wpAny_bind (wpAny_bind (wpAny_askSetting (wpAny_pure ?_)))
  rw [if_pos (show (model P w).w.params.followText "set-order" = true from bt)]
  refine wpAny_bind (wpAny_askSetting (wpAny_pure (wpAny_pure ?_)))
  have ex : (pickOrder ((model P w).w.params.setOrder S ep) es)[((i : Nat) : Int).toNat]? = some (pickOrder (w.params.setOrder S ep) es)[i]:=by
   rw [Int.toNat_natCast]
   exact Array.getElem?_eq_getElem hx
  rw [ex]
  dsimp only [Option.map]
  refine wpAny_bind (wpAny_setField ho hd (by simp) ?_)
  obtain ⟨o1,ho1,hc1,hd1⟩:=put0 _ _ z hit
  rw [show ((z : Nat) : Int).toNat = z from Int.toNat_natCast z]
  refine wpAny_bind (wpAny_setField ho1 hd1 (by simp) (wpAny_pure ⟨_,rfl,wpAny_pure ?_⟩))
  have sb : Heap.SameBut I s.heap ((s.heap.update I (Obj.mapFields (·.setIfInBounds 0 (rawInt z)))).update I (Obj.mapFields (·.setIfInBounds 1 (rawInt ((i : Int) + 1))))):=(Heap.SameBut.update ..).trans (Heap.SameBut.update ..)
  have q:=h _ sb ⟨keepS _ sb,_,put1 _ _ (put0 _ _ z hit),.inl ⟨bt,⟨z,rfl⟩,eL⟩⟩
  rw [hLi] at q
  have eLi : L[i]'(by omega) = (pickOrder (w.params.setOrder S ep) es)[i].2:=by simp [eL]
  rw [eLi] at q
  exact q
 ·have hpz : t.place.size = es.size:=by
   simp only [SetTable.fits,Bool.and_eq_true,beq_iff_eq,decide_eq_true_eq] at hf
   exact hf.1
  have hip : i < t.place.size:=by omega
  refine wpAny_bind ?_
  unfold setNext
  refine wpAny_bind (wpAny_setState_of hS hSd hf ?_)
  unfold setsByText
  refine wpAny_bind (wpAny_bind (wpAny_askSetting (wpAny_pure ?_)))
  rw [if_neg (show ¬ ((model P w).w.params.followText "set-order" = true) from by rw [show (model P w).w.params.followText "set-order" = false from bt]; exact Bool.false_ne_true)]
  show wpAny _ _ (if (!t.plain && decide (es.size > 1)) = true then _ else _) _ _ _
  rw [if_neg (by
   rcases pl with q | q
   ·rw [q]; simp
   ·simp; omega)]
  show wpAny _ _ ((if (!t.led && !es.isEmpty) = true then _ else pure ()) >>= _) _ _ _
  rw [if_neg (by rw [hk.led,bt]; simp)]
  refine wpAny_bind (wpAny_pure (wpAny_pure ?_))
  rw [Int.toNat_natCast,hz,Array.getElem?_eq_getElem hi,Array.getElem?_eq_getElem hip]
  dsimp only
  refine wpAny_bind (wpAny_setField ho hd (by simp) ?_)
  obtain ⟨o1,ho1,hc1,hd1⟩:=put0 _ _ (t.place[i] + 1) hit
  refine wpAny_bind (wpAny_setField ho1 hd1 (by simp) (wpAny_pure ⟨_,rfl,wpAny_pure ?_⟩))
  have sb : Heap.SameBut I s.heap ((s.heap.update I (Obj.mapFields (·.setIfInBounds 0 (rawInt (t.place[i] + 1 : Nat))))).update I (Obj.mapFields (·.setIfInBounds 1 (rawInt ((i : Int) + 1))))):=(Heap.SameBut.update ..).trans (Heap.SameBut.update ..)
  have q:=h _ sb ⟨keepS _ sb,_,put1 _ _ (put0 _ _ (t.place[i] + 1) hit),.inr (.inl ⟨bt,pl,⟨_,rfl,l9 hk.rise hip⟩,eL⟩)⟩
  rw [hLi] at q
  have eLi : L[i]'(by omega) = es[i].2:=by simp [eL]
  rw [eLi] at q
  exact q
 ·have lpl : pl.length = es.size:=by rw [pp.length_eq,List.length_range]
  have hpl : pl[i]'(by omega) < es.size:=List.mem_range.mp (pp.mem_iff.mp (List.getElem_mem _))
  show wpAny _ _ (seqItems? (.ref T) >>= _) _ _ _
  unfold seqItems?
  refine wpAny_bind (wpAny_bind (wpAny_load hT ?_))
  rw [hTd]
  refine wpAny_pure ?_
  dsimp only
  have ep1 : (pl.map fun p : Nat => Value.int (p : Int) 0).toArray[((i : Nat) : Int).toNat]? = some (Value.int ((pl[i]'(by omega) : Nat) : Int) 0):=by
   rw [Int.toNat_natCast]
   simp [lpl,hi]
  rw [ep1]
  dsimp only
  unfold setNextDrawn
  refine wpAny_bind (wpAny_bind (wpAny_setState_of hS hSd hf ?_))
  dsimp only
  rw [if_neg (by simp),Int.toNat_natCast,Array.getElem?_eq_getElem hpl]
  dsimp only
  refine wpAny_pure (wpAny_bind (wpAny_setField ho hd (by simp) (wpAny_pure ⟨_,rfl,wpAny_pure ?_⟩)))
  have sb : Heap.SameBut I s.heap (s.heap.update I (Obj.mapFields (·.setIfInBounds 1 (rawInt ((i : Int) + 1))))):=Heap.SameBut.update ..
  have q:=h _ sb ⟨keepS _ sb,_,put1 _ _ hit,.inr (.inr ⟨bt,rfl,pl,pp,⟨oT,eT,(sb.2 T hTI).trans hT,hTd⟩,eL⟩)⟩
  rw [hLi] at q
  have eLi : L[i]'(by omega) = es[pl[i]'(by omega)].2:=by simp [eL,Array.getD,hpl]
  rw [eLi] at q
  exact q
theorem next_end (hh : A.handled = none) (hf : t.fits es.size = true) (hk : TabOk t (!byT w)) (hSI : S ≠ I) (st : SetSt w es ep t S T I L es.size s.heap) {Q : Option Value -> Shared -> Prop}
  (h : ∀ h',Heap.ExtBut I s.heap h' -> Q none { s with heap:=h' }) : wpAny (model P w) A (pyNext (.ref I)) Q E s:=by
 obtain ⟨⟨oS,hS,hSd⟩,first,hit,by_⟩:=st
 obtain ⟨o,ho,hc,hd⟩:=id hit
 unfold pyNext
 refine wpAny_bind (wpAny_attempt (wpAny_callSpecial?_slot (name:=Str.ofString "__next__") hit.typeIs SF.slot_next (wpAny_call_entry SF.slot_next hit.typeIs SF.entry_next ?_ (SF.args_next _))))
 unfold Builtin.«set_iterator.__next__»
 refine wpAny_bind (m:=slotArgs "__next__" 0 _) (wpAny_pure ?_)
 refine wpAny_bind (wpAny_fieldsOf ho hd ?_)
 dsimp only
 unfold setEntries
 refine wpAny_bind (wpAny_bind (wpAny_setState_of hS hSd hf (wpAny_pure ?_)))
 rw [if_neg (by simp)]
 have stop : ∀ h1,Heap.ExtBut I s.heap h1 -> wpAny (model P w) A.in1 (do let e <- newExc (.type "StopIteration") []; raiseNew e : Sem Fin) (fun fin s' => ∃ v,fin = Fin.done (Flow.ret v) /\ wpAny (model P w) A (pure (some v)) Q E s')
   (fun e s' => wpAny (model P w) A (do if <- isInstance e (.type "StopIteration") then pure none else throw e) Q E s') { s with heap:=h1 }:=by
  intro h1 e1
  refine wpAny_bind ?_
  simp only [newExc,newTuple]
  refine wpAny_bind (wpAny_newObj_type ?_ (by size_fits))
  refine wpAny_bind (m:=firstArgMember _ _) (wpAny_of_eq (a:=Value.none) (by first | rfl | (simp only [firstArgMember]; rfl)) ?_)
  refine wpAny_newObj_type ?_ (by size_fits)
  simp only [raiseNew]
  refine wpAny_bind (wpAny_handled ?_)
  rw [show A.in1.handled = none from hh]
  refine wpAny_bind (wpAny_pure (wpAny_throw ?_))
  refine wpAny_bind (wpAny_isInstance (T := "StopIteration") (b:=true) ⟨_,Heap.get?_push_size _ rfl,rfl⟩ isSubtype_stop ?_)
  exact wpAny_pure (h _ ((e1.push _).push _))
 rcases by_ with ⟨bt,⟨z,rfl⟩,eL⟩ | ⟨bt,pl,⟨z,rfl,hz⟩,eL⟩ | ⟨bt,rfl,pl,pp,⟨oT,eT,hT,hTd⟩,eL⟩
 ·have px:=fX (w.params.setOrder S ep) es
  have hx : (pickOrder (w.params.setOrder S ep) es).size = es.size:=by rw [<- Array.length_toList,px.length_eq,Array.length_toList]
  refine wpAny_bind ?_
  unfold setNext
  refine wpAny_bind (wpAny_setState_of hS hSd hf ?_)
  unfold setsByText
  refine wpAny_bind (wpAny_bind (wpAny_askSetting (wpAny_pure ?_)))
  rw [if_pos (show (model P w).w.params.followText "set-order" = true from bt),if_neg (by simp)]
  unfold setWalk setsByText
  refine wpAny_bind (wpAny_bind (wpAny_setState_of hS hSd hf ?_))
  refine wpAny_bind (wpAny_bind (wpAny_askSetting (wpAny_pure ?_)))
  rw [if_pos (show (model P w).w.params.followText "set-order" = true from bt)]
  refine wpAny_bind (wpAny_askSetting (wpAny_pure (wpAny_pure ?_)))
  have ex : (pickOrder ((model P w).w.params.setOrder S ep) es)[((es.size : Nat) : Int).toNat]? = none:=by
   rw [Int.toNat_natCast]
   exact Array.getElem?_eq_none (Nat.le_of_eq hx)
  rw [ex]
  dsimp only [Option.map]
  refine wpAny_bind (wpAny_setField ho hd (by simp) ?_)
  exact stop _ (Heap.SameBut.update ..).extBut
 ·have hpz : t.place.size = es.size:=by
   simp only [SetTable.fits,Bool.and_eq_true,beq_iff_eq,decide_eq_true_eq] at hf
   exact hf.1
  refine wpAny_bind ?_
  unfold setNext
  refine wpAny_bind (wpAny_setState_of hS hSd hf ?_)
  unfold setsByText
  refine wpAny_bind (wpAny_bind (wpAny_askSetting (wpAny_pure ?_)))
  rw [if_neg (show ¬ ((model P w).w.params.followText "set-order" = true) from by rw [show (model P w).w.params.followText "set-order" = false from bt]; exact Bool.false_ne_true)]
  show wpAny _ _ (if (!t.plain && decide (es.size > 1)) = true then _ else _) _ _ _
  rw [if_neg (by
   rcases pl with q | q
   ·rw [q]; simp
   ·simp; omega)]
  show wpAny _ _ ((if (!t.led && !es.isEmpty) = true then _ else pure ()) >>= _) _ _ _
  rw [if_neg (by rw [hk.led,bt]; simp)]
  refine wpAny_bind (wpAny_pure (wpAny_pure ?_))
  rw [Int.toNat_natCast,hz,Array.getElem?_eq_none (Nat.le_refl _)]
  dsimp only
  refine wpAny_bind (wpAny_setField ho hd (by simp) ?_)
  exact stop _ (Heap.SameBut.update ..).extBut
 ·have lpl : pl.length = es.size:=by rw [pp.length_eq,List.length_range]
  show wpAny _ _ (seqItems? (.ref T) >>= _) _ _ _
  unfold seqItems?
  refine wpAny_bind (wpAny_bind (wpAny_load hT ?_))
  rw [hTd]
  refine wpAny_pure ?_
  dsimp only
  have ep1 : (pl.map fun p : Nat => Value.int (p : Int) 0).toArray[((es.size : Nat) : Int).toNat]? = none:=by
   rw [Int.toNat_natCast]
   simp [lpl]
  rw [ep1]
  dsimp only
  refine wpAny_bind (wpAny_setField ho hd (by simp) ?_)
  have hd0:=Obj.data_mapFields hd (·.setIfInBounds 0 (rawInt 0))
  refine wpAny_bind (wpAny_setField (Heap.get?_update_self _ ho (Obj.isFreed_of_fields hd0)) hd0 (by simp) ?_)
  exact stop _ ((Heap.SameBut.update ..).trans (Heap.SameBut.update ..)).extBut
end
end L2
set_option Elab.async false
set_option linter.all false
set_option maxRecDepth 100000
namespace L2
open PySem PySem.Spec PyProof.Rows
namespace SF
theorem entry_iter_self : entryFor table "set_iterator.__iter__" = some Builtin.«dict_keyiterator.__iter__» := entryFor_alias (id' := "dict_keyiterator.__iter__") (by kernel_rfl) rfl (by decide +kernel) (by kernel_rfl)
theorem args_iter_self (a : Value) : argsOk "set_iterator.__iter__" ⟨[a],[]⟩:=by unfold argsOk; kernel_rfl
end SF
section
variable {P : Program} {w : World} {A : Around} {E : Value -> Shared -> Prop} {s : Shared} {es : Array (Int × Value)} {ep : Nat} {t : SetTable} {S T I : Addr} {L : List Value}
theorem rL (hh : A.handled = none) (hf : t.fits es.size = true) (hk : TabOk t (!byT w)) (hL : L.length = es.size) (hTI : T ≠ I) (hSI : S ≠ I) :
  WalksS P w A I [I,S,T] [I] (fun a b => b = a) es.size (fun i v => v = L.getD i .none) (fun i s => SetSt w es ep t S T I L i s.heap) where
 sub:=fun b hb => by simp at hb; simp [hb]
 grefl:=fun _ => rfl
 gtrans:=fun _ _ _ h1 h2 => h2.trans h1
 frame:=fun i s h' tk st _ k => by
  obtain ⟨⟨oS,hS,hSd⟩,first,⟨o,ho,r⟩,by_⟩:=st
  refine ⟨⟨oS,k S (by simp) _ hS,hSd⟩,first,⟨o,k I (by simp) _ ho,r⟩,?_⟩
  rcases by_ with z | z | ⟨b,e,pl,pp,⟨oT,eT,hT,hTd⟩,eL⟩
  ·exact .inl z
  ·exact .inr (.inl z)
  ·exact .inr (.inr ⟨b,e,pl,pp,⟨oT,eT,k T (by simp) _ hT,hTd⟩,eL⟩)
 item:=fun i s Q E hi st hQ => next_item hf hk hL hTI hSI st hi fun h' sb st' => hQ _ _ rfl st' ⟨fun b o hb e => (sb.2 b fun z => hb (by simp [z])).trans e,rfl,rfl,rfl,Nat.le_refl _⟩
 done:=fun s Q E st hQ => next_end hh hf hk hSI st fun h' eb => hQ _ ⟨fun b o hb e => eb b o (fun z => hb (by simp [z])) e,rfl,rfl,rfl,Nat.le_refl _⟩
 self:=fun i s Q E st hQ => by
  obtain ⟨_,first,hit,_⟩:=st
  refine wpAny_pyIter_slot hit.typeIs SF.slot_iter_self (wpAny_call_entry SF.slot_iter_self hit.typeIs SF.entry_iter_self ?_ (SF.args_iter_self _))
  show wpAny _ _ (ret (.ref I)) _ _ s
  exact wpAny_pure ⟨_,rfl,"set_iterator",_,hit.typeIs,SF.slot_next.lookup,hQ⟩
theorem ra {o : Obj} {Q : Value -> Shared -> Prop} (ho : s.heap.get? S = some o) (hex : o.ExactSet) (hd : o.data = .set es ep t) (hb : es.size < scanBound) (hf : t.fits es.size = true) (hk : TabOk t (!byT w))
  (h : ∀ (h' : Heap) (d' : Drawn) (I T : Addr) (L : List Value),L.Perm (es.toList.map (·.2)) -> SetSt w es ep t S T I L 0 h' -> (∀ b u,s.heap.get? b = some u -> h'.get? b = some u) -> s.heap.objs.size <= I -> I < h'.objs.size -> T ≠ I -> (T = S \/ s.heap.objs.size <= T) -> Q (.ref I) { s with heap:=h',drawn:=d' }) :
  wpAny (model P w) A (pyIter (.ref S)) Q E s:=by
 have hT : s.TypeIs (.ref S) "set" := ⟨o,ho,hex.1⟩
 have hSl : S < s.heap.objs.size:=Heap.lt_size ho
 refine wpAny_pyIter_slot hT F.slot_set_iter (wpAny_call_entry F.slot_set_iter hT SF.entry_iter ?_ (F.args_set_iter_1 _))
 unfold Builtin.«frozenset.__iter__» Builtin.Frozenset.slot0 Builtin.Frozenset.sizeOf setEntries
 refine wpAny_bind (wpAny_bind (m:=slotArgs "__iter__" 0 _) (wpAny_pure (wpAny_pure ?_)))
 refine wpAny_bind (wpAny_bind (wpAny_bind (wpAny_setState_of ho hd hf (wpAny_pure (wpAny_pure ?_)))))
 refine wpAny_bind ?_
 unfold setDrawn setsByText
 refine wpAny_bind (wpAny_setState_of ho hd hf ?_)
 refine wpAny_bind (wpAny_bind (wpAny_askSetting (wpAny_pure (wpAny_pure ?_))))
 show wpAny _ _ (if (!byT w && (!t.plain && decide (es.size > 1))) = true then _ else _) _ _ _
 by_cases c : (!byT w && (!t.plain && decide (es.size > 1))) = true
 ·rw [if_pos c]
  have bt : byT w = false:=by
   cases b : byT w with
   | false => rfl
   | true => rw [b] at c; simp at c
  refine wpAny_bind (iZ _ _ _ _ (by simp) fun pl d' pp => wpAny_bind ?_)
  have lpl0 : pl.length = es.size:=by rw [pp.length_eq,List.length_range]
  refine wpAny_newTuple (hsz:=by rw [List.length_map,lpl0]; exact fits_of_scanBound hb) ?_
  have lpl : pl.length = es.size:=by rw [pp.length_eq,List.length_range]
  have ho1 : (s.heap.push (seqObj "tuple" (pl.map fun i : Nat => rawInt i).toArray 0)).get? S = some o:=Heap.get?_push_of_some _ ho
  unfold setEpoch
  refine wpAny_bind (wpAny_bind (wpAny_setState_of (s:={ s with heap:=s.heap.push (seqObj "tuple" (pl.map fun i : Nat => rawInt i).toArray 0),drawn:=d' }) ho1 hd hf (wpAny_pure ?_)))
  unfold newFields
  refine wpAny_bind (wpAny_newObj_type (wpAny_pure ⟨_,rfl,"set_iterator",_,⟨_,Heap.get?_push_size _ rfl,rfl⟩,SF.slot_next.lookup,?_⟩) (by size_fits))
  refine h _ d' _ s.heap.objs.size (pl.map fun p => (es.getD p (0,.none)).2) ?_ ⟨⟨o,Heap.get?_push_of_some _ ho1,hd⟩,_,⟨_,Heap.get?_push_size _ rfl,rfl,rfl⟩,.inr (.inr ⟨bt,rfl,pl,pp,⟨_,0,Heap.get?_push_of_some _ (Heap.get?_push_size _ rfl),rfl⟩,rfl⟩)⟩
   (fun b u q => Heap.get?_push_of_some _ (Heap.get?_push_of_some _ q)) ?_ ?_ ?_ ?_
  ·refine (pp.map _).trans ?_
   rw [show (List.range es.size).map (fun p => (es.getD p (0,.none)).2) = es.toList.map (·.2) from by
    refine List.ext_getElem (by simp) fun i h1 h2 => ?_
    have hi : i < es.size:=by simpa using h1
    simp [Array.getD,hi]]
  ·rw [Heap.size_push]; exact Nat.le_succ _
  ·exact Heap.lt_size (Heap.get?_push_size _ rfl)
  ·rw [Heap.size_push]; exact Nat.ne_of_lt (Nat.lt_succ_self _)
  ·exact .inr (Nat.le_refl _)
 ·rw [if_neg c]
  refine wpAny_bind (wpAny_pure ?_)
  unfold setEpoch
  refine wpAny_bind (wpAny_bind (wpAny_setState_of ho hd hf (wpAny_pure ?_)))
  unfold newFields
  refine wpAny_bind (wpAny_newObj_type (wpAny_pure ⟨_,rfl,"set_iterator",_,⟨_,Heap.get?_push_size _ rfl,rfl⟩,SF.slot_next.lookup,?_⟩) (by size_fits))
  cases bt : byT w with
  | true =>
   refine h _ s.drawn _ S ((pickOrder (w.params.setOrder S ep) es).toList.map (·.2)) ((fX _ es).map _) ⟨⟨o,Heap.get?_push_of_some _ ho,hd⟩,_,⟨_,Heap.get?_push_size _ rfl,rfl,rfl⟩,.inl ⟨bt,⟨0,rfl⟩,rfl⟩⟩
    (fun b u q => Heap.get?_push_of_some _ q) (Nat.le_refl _) ?_ (Nat.ne_of_lt hSl) ?_
   ·rw [Heap.size_push]; exact Nat.lt_succ_self _
   ·exact .inl rfl
  | false =>
   rw [bt] at c
   have pl : t.plain = true \/ es.size <= 1:=by
    cases q : t.plain with
    | true => exact .inl rfl
    | false =>
     rw [q] at c
     simp at c
     exact .inr c
   refine h _ s.drawn _ S (es.toList.map (·.2)) (List.Perm.refl _) ⟨⟨o,Heap.get?_push_of_some _ ho,hd⟩,_,⟨_,Heap.get?_push_size _ rfl,rfl,rfl⟩,.inr (.inl ⟨bt,pl,⟨0,rfl,ma hk.rise⟩,rfl⟩)⟩
    (fun b u q => Heap.get?_push_of_some _ q) (Nat.le_refl _) ?_ (Nat.ne_of_lt hSl) ?_
   ·rw [Heap.size_push]; exact Nat.lt_succ_self _
   ·exact .inl rfl
end
end L2
set_option Elab.async false
set_option linter.all false
set_option maxRecDepth 100000
namespace L2
open PySem PySem.Spec PyProof.Rows
section
variable {P : Program} {w : World} {A : Around} {E : Value -> Shared -> Prop} {s : Shared} {S : Addr} {ns : List Int}
end
end L2
set_option Elab.async false
set_option linter.all false
set_option maxRecDepth 100000
namespace L2
open PySem PySem.Spec PyProof.Rows
section
variable {X : Cx}
end
end L2
set_option Elab.async false
set_option linter.all false
set_option maxRecDepth 100000
namespace PySem
open PyProof.Rows
section
variable {prog : Program} {w : World} {K : Type} [DecidableEq K] {knd : KeyKind prog w K} {A : Around} {E : Value -> Shared -> Prop} {s : Shared} {R : Result -> Shared -> Prop}
end
end PySem
namespace L2
open PySem PySem.Spec PyProof.Rows
section
variable {X : Cx}
end
section
variable {X : Cx} {pins : List (Addr × Obj)} {σ : St} {H : Hp} {s : Shared} {a : Addr} {z : V} {u r : Value} {A : Around} {E : Value -> Shared -> Prop} {kvs : List (Key × V)} {k : Key}
end
section
variable {X : Cx} {o e f : Expr} {apos cpos : Pos} {td ty tx : TE}
end
end L2
set_option Elab.async false
set_option linter.all false
set_option maxRecDepth 100000
namespace L2
open PySem PySem.Spec PyProof.Rows
section
variable {X : Cx} {pins : List (Addr × Obj)} {σ : St} {H : Hp} {s : Shared} {a : Addr} {o : Obj} {kvs : List (Key × V)}
end
section
variable {X : Cx} {tg : Expr}
end
section
variable {X : Cx}
end
end L2
set_option Elab.async false
set_option linter.all false
set_option maxRecDepth 100000
namespace L2
open PySem PySem.Spec PyProof.Rows
section
variable {P : Program} {w : World} {A : Around} {E : Value -> Shared -> Prop} {s : Shared}
end
end L2
set_option Elab.async false
set_option linter.all false
set_option maxRecDepth 100000
namespace L2
open PySem PySem.Spec PyProof.Rows
section
variable {X : Cx}
end
end L2
set_option Elab.async false
set_option linter.all false
set_option maxRecDepth 100000
namespace PySem
open PyProof.Rows
section
variable {prog : Program} {w : World} {A : Around} {E : Value -> Shared -> Prop} {s : Shared}
end
end PySem
namespace L2
open PySem PySem.Spec PyProof.Rows
section
variable {X : Cx} {a : Expr} {ta : TA} {p p2 pos pos2 : Pos}
end
end L2
namespace L2
open PySem PySem.Spec PyProof.Rows
section
variable {X : Cx} {N : List Str} {scope : Scope} {ix : List (Option Nat)} {elt iter cond tg : Expr} {pos spos : Pos} {te : TE} {g : TG} {wi : TI} {tc : TT}
theorem lS {i : Nat} {y : Str} {py : Pos} (hc : X.calm = true) (hN : X.N.Nodup) (hyi : X.N[i]? = some y) (hy : Loc X.env.scope y) (S : BlkScope X.N X.env.scope N ix scope) (hi : PI X tg iter wi) (hg : ∀ fp s H C,PG (aZ X N scope fp s H C) tg g) (ht : ∀ fp s H C,PT (aZ X N scope fp s H C) cond tc) (he : ∀ fp s H C,PE (aZ X N scope fp s H C) elt te)
  (hsw : swapsWith (.ListComp elt [⟨tg,iter,[cond],0⟩] scope pos) (some (.Name y py)) spos.line X.env = pure true:=by rfl)
  (hf : X.fn y = true \/ X.env.scope.names.lookup y = some .local:=by first | exact .inl rfl | exact .inr rfl | assumption)
  (hs : ∀ x,foldedSetIterable iter X.env x = pure x:=by intro _; rfl) : PS X (.Assign [.Name y py] (.ListComp elt [⟨tg,iter,[cond],0⟩] scope pos) spos) (kH (qS ix wi g tc te) (aC i)):=by
 intro pins s σ H D I h
 rw [exec_Assign_Name_used _ _ _ _ hsw]
 refine wpAny_bind (wpAny_standAt (wpAny_bind ?_))
 show wpAny _ X.A (do let _ <- comprehension (.ListComp elt [⟨tg,iter,[cond],0⟩] scope pos) scope X.env _ (newList []) false (eval iter X.env) (some (assign (.Name y py) X.env))) _ _ s
 refine wpAny_bind (wpAny_mono (wpAny_comprehension_free (use:=some (assign (.Name y py) X.env)) (Q:=fun _ s' => SP X pins D .next s') rfl hs (eR (S.clos I.ok)) S.kind S.locs
  (thn (hi pins s σ H _ I h) fun v s1 h1 => thn h1 fun itv s2 h2 => ?_)) (fun _ s' hq => wpAny_pure (wpAny_pure hq)) fun _ _ e => e)
 obtain ⟨it,fp,tn,J,H2,e,I2,T,st2,f2,hW⟩:=h2
 subst e
 refine nP (RR:=fun acc C => compPost (model X.prog X.w) X.A X.xe (some (assign (.Name y py) X.env)) (fun _ s' => SP X pins D .next s') acc C) I2 hc S T st2 f2 (hg _ _ _) (ht _ _ _) (he _ _ _) hW ?_
 intro Dl C s' H' m I' hn fC q
 show wpAny _ X.A (assign (.Name y py) X.env (.ref Dl)) _ _ s'
 refine wpAny_assign_Name (jd I' hN hyi hy (v:=.ref Dl) rfl (fun s2 I2' hsb => ?_) hf)
 obtain ⟨a,sb,ha⟩:=hsb
 refine ⟨m,hn.sameBut sb ?_,fun h3 sb3 => ⟨_,H',I2'.turned (t' := s2.toks) (fun b o hb e => (sb3.2 b hb).trans e) fC.1 fC.2.1 fC.2.2.2.1 fC.2.2.2.2.1 fC.2.2.2.2.2,q⟩⟩
 rcases ha with z | z
 ·rw [z]; exact fC.2.1
 ·exact Ne.symm (fC.2.2.2.2.1 _ _ z)
end
end L2
set_option Elab.async false
set_option linter.all false
set_option maxRecDepth 100000
namespace L2
open PySem PySem.Spec PyProof.Rows
section
variable {X : Cx} {tg : Expr}
end
section
variable {X : Cx} {a b c : Expr} {ta : TA} {p p2 pos pos2 : Pos}
end
end L2
set_option Elab.async false
set_option linter.all false
set_option maxRecDepth 100000
set_option maxHeartbeats 4000000
namespace L2
open PySem PySem.Spec PyProof.Rows
end L2
set_option Elab.async false
set_option linter.all false
set_option maxRecDepth 100000
set_option maxHeartbeats 4000000
namespace L2
open PySem PySem.Spec PyProof.Rows
section
variable {X : Cx}
end
end L2
set_option Elab.async false
set_option linter.all false
set_option maxRecDepth 100000
set_option maxHeartbeats 4000000
namespace L2
open PySem PySem.Spec PyProof.Rows
end L2
set_option Elab.async false
set_option linter.all false
set_option maxRecDepth 100000
set_option maxHeartbeats 4000000
namespace PySem
open PyProof.Rows
section
variable {prog : Program} {w : World} {K : Type} [DecidableEq K] {knd : KeyKind prog w K} {A : Around} {E : Value -> Shared -> Prop} {s : Shared} {R : Result -> Shared -> Prop}
end
end PySem
namespace L2
open PySem PySem.Spec PyProof.Rows
section
variable {X : Cx}
end
end L2
set_option Elab.async false
set_option linter.all false
set_option maxRecDepth 100000
set_option maxHeartbeats 4000000
namespace PySem
section
variable {prog : Program} {w : World} {A : Around} {E : Value -> Shared -> Prop} {s : Shared}
end
end PySem
namespace L2
open PySem PySem.Spec PyProof.Rows
section
variable {X : Cx}
end
end L2
set_option Elab.async false
set_option linter.all false
set_option maxRecDepth 100000
set_option maxHeartbeats 4000000
namespace L2
open PySem PySem.Spec PyProof.Rows
end L2
set_option Elab.async false
set_option linter.all false
set_option maxRecDepth 100000
set_option maxHeartbeats 4000000
namespace L2
open PySem PySem.Spec PyProof.Rows
section
variable {X : Cx} {pins : List (Addr × Obj)} {σ : St} {H : Hp} {s : Shared}
end
end L2
set_option Elab.async false
set_option linter.all false
set_option maxRecDepth 100000
set_option maxHeartbeats 4000000
namespace L2
open PySem PySem.Spec PyProof.Rows
section
variable {X : Cx} {pins : List (Addr × Obj)} {σ : St} {H : Hp} {s : Shared}
open Classical in
noncomputable def isR (H : Hp) (ns : List Int) (u : Value) : Bool:=decide (∃ b,u = Value.ref b /\ H b = some (.tup (ns.map V.int)))
end
end L2
set_option Elab.async false
set_option linter.all false
set_option maxRecDepth 100000
set_option maxHeartbeats 4000000
namespace L2
open PySem PySem.Spec PyProof.Rows
section
variable {X : Cx}
end
end L2
set_option Elab.async false
set_option linter.all false
set_option maxRecDepth 100000
set_option maxHeartbeats 4000000
namespace L2
open PySem PySem.Spec PyProof.Rows
section
variable {X : Cx} {pins : List (Addr × Obj)} {σ : St} {H : Hp} {s : Shared} {a : Addr} {o : Obj} {kvs : List (List Key × V)}
end
section
variable {X : Cx} {tg : Expr}
end
end L2
set_option Elab.async false
set_option linter.all false
set_option maxRecDepth 100000
set_option maxHeartbeats 4000000
namespace L2
open PySem PySem.Spec PyProof.Rows
end L2
set_option Elab.async false
set_option linter.all false
set_option maxRecDepth 100000
namespace PySem
end PySem
namespace L2
open PySem PySem.Spec PyProof.Rows
end L2
set_option Elab.async false
set_option linter.all false
set_option maxRecDepth 100000
set_option maxHeartbeats 4000000
namespace L2
open PySem PySem.Spec PyProof.Rows
section
variable {X : Cx}
end
end L2
set_option Elab.async false
set_option linter.all false
set_option maxRecDepth 100000
set_option maxHeartbeats 4000000
namespace PySem
section
variable {prog : Program} {w : World} {A : Around} {E : Value -> Shared -> Prop} {s : Shared}
end
end PySem
namespace L2
open PySem PySem.Spec PyProof.Rows
end L2
set_option Elab.async false
set_option linter.all false
set_option maxRecDepth 100000
set_option maxHeartbeats 4000000
namespace L2
open PySem PySem.Spec PyProof.Rows
abbrev NK:=Int × List Int
section
variable {X : Cx} {pins : List (Addr × Obj)} {σ : St} {H : Hp} {s : Shared} {d : Addr} {ks : List (NK × Addr)}
end
section
variable {X : Cx} {pos pos' : Pos} {o i value : Expr} {td ty tv : TE}
end
end L2
set_option Elab.async false
set_option linter.all false
set_option maxRecDepth 100000
namespace L2
open PySem PySem.Spec PyProof.Rows
structure Aloft (base : Heap) (l : List Env) (e : Addr) (cls a0 : Value) (fl : Value) (h : Heap) : Prop where
 stays : base.StaysIn h
 new : base.get? e = none
 fun_ : h.FunFrames base l
 tr : h.TracedAtW base e cls a0 fl
section
variable {P : Program} {w : World} {K : PySem.W.Frag} {mg : Str -> Option Value} {base : Heap} {N : List Str} {qual : Str} {scope : Scope} {f : Addr} {cd : Value} {A : Around} {outer : List Env} {s : Shared} {H : Hp} {E : XK}
end
section
variable {X : Cx} {pins : List (Addr × Obj)} {σ : St} {H : Hp} {s : Shared} {N : List Str} {ix : List (Option Nat)} {scope : Scope} {fp : List Addr} {tg elt iter : Expr} {pos spos : Pos} {J : It} {it : Addr} {tn : Nat -> Heap -> Prop} {g : TG} {te : TXE} {wi : TI} {Ex : XK}
end
end L2
set_option Elab.async false
set_option linter.all false
set_option maxRecDepth 100000
namespace L2
open PySem PySem.Spec PySem.W PySem.Builtin PySem.Builtin.ObjectAttr PyProof.Rows
def mroIs (K : PySem.W.Frag) (C : Addr) (as : List Addr) : Bool:=(clsIn K C).any fun cd => cd.mro == as.map Value.ref ++ VEm
section
variable {prog : Program} {w : World} {A : Around} {E : Value -> Shared -> Prop} {s : Shared} {K : PySem.W.Frag} {x C : Addr} {vs : Array Value} {name : Str} {v : Value} {as : List Addr}
end
end L2
set_option Elab.async false
set_option linter.all false
set_option maxRecDepth 100000
namespace L2
open PySem PySem.Spec PySem.W PySem.Builtin PySem.Builtin.ObjectAttr PyProof.Rows
def qA (K : PySem.W.Frag) (C : Addr) (f : Addr) : Bool:=match K.lookup C with
 | some ⟨.type "type",_,.cls cd,sl⟩ => (match cd.mro,sl.toList with
  | .ref C' :: tl,[_,_,_,_,some (.builtin n),_] => C' == C && n == "ValueError.__new__" && !cd.hasDel && tailIn K VEm tl && nsOkIn K cd.ns && nsIn K cd.ns "__init__" == some (some (.ref f))
  | _,_ => false)
 | _ => false
section
variable {prog : Program} {w : World} {A : Around} {E : Value -> Shared -> Prop} {h : Heap} {g : Array GenState} {d : Drawn} {t : Nat} {os : OsState}
variable {nm q : Str} {C N : Addr} {bs bm : List Value} {hdct : Bool} {sn : List Str} {sub : List Value} {ab : Bool} {col : Option Bool} {dd : Option Addr} {k0 k1 k2 k3 k5 : Option Value}
end
section
variable {prog : Program} {w : World} {A : Around} {E : Value -> Shared -> Prop} {s : Shared} {K : PySem.W.Frag} {x C f : Addr} {vs : Array Value}
end
end L2
set_option Elab.async false
set_option linter.all false
set_option maxRecDepth 100000
namespace L2
open PySem PySem.Spec PyProof.Rows
structure XInit (K : PySem.W.Frag) (C f : Addr) : Prop where
 ex : qA K C f = true
 fn : PySem.W.isFn K (.ref f) = true
 kp : PySem.W.keepIn K (.ref C) = true
 sa : PySem.W.findIn K (.ref C) "__setattr__" = some (some (.builtin "object.__setattr__"))
 hd : PySem.W.hasDictIn K C = true
 mr : ∃ as,mroIs K C as = true
 xc : XCls K C
section
variable {X : Cx} {k : Nat} {f C B : Addr} {fd : FuncData} {ps : List Str} {sp : Sp} {dvs : List V} {ds : List Value} {x y fl : Str} {p pos apos : Pos} {e o value : Expr} {es : List Expr} {t : TA} {ta tv : TE}
end
structure DefI (P : Program) (w : World) (K : PySem.W.Frag) (mg : Str -> Option Value) (base : Heap) (x : Str) (C f : Addr) (k : Nat) (ps : List Str) (sp : Sp) : Prop where
 m : mg x = some (.ref C)
 M : XInit K C f
 F : ∃ fd,Binds K fd ps [] /\ FnOk P w K mg base CX0 k f fd ps sp
end L2
set_option Elab.async false
set_option linter.all false
set_option maxRecDepth 100000
set_option maxHeartbeats 4000000
namespace L2
open PySem PySem.Spec PyProof.Rows
def rM (h : Heap) (mg : Str -> Option Value) : Prop := ∃ bm o,mg "__builtins__" = some (.ref bm) /\ bm ≠ builtinsNs /\ bm ≠ mainGlobals /\ h.get? bm = some o /\ o.cls = .type "module" /\ o.dict = some builtinsNs /\ o.data = .plain
end L2
set_option Elab.async false
set_option linter.all false
set_option maxRecDepth 100000
set_option maxHeartbeats 4000000
namespace L2
open PySem PySem.Spec PyProof.Rows
def qr (c : Addr) (qual : Str) (h : Heap) : Prop := ∃ o vs t,h.get? c = some o /\ o.data = .fields vs /\ vs[1]? = some (.str qual t)
def qW (f : Addr) (qual : Str) (params : Arguments) (body : Expr) (scope : Scope) (clos : List (Str × Addr)) (c' : Addr) (h : Heap) : Prop := ∃ pm ctv,h.get? f = some (PySem.W.kla_obj "<lambda>" qual params body scope clos pm c' ctv)
structure LamK (K : PySem.W.Frag) (mg : Str -> Option Value) (base : Heap) (c Pt : Addr) : Prop where
 hd : PySem.W.codeHdIn K c Pt = true
 bm : rM base mg
section
variable {X : Cx} {params : Arguments} {body : Expr} {scope : Scope} {pos : Pos} {clos : List (Str × Addr)} {c Pt : Addr}
end
end L2
set_option Elab.async false
set_option linter.all false
set_option maxRecDepth 100000
set_option maxHeartbeats 4000000
namespace L2
open PySem PySem.Spec PyProof.Rows
def oh (c : Addr) (o : Obj) (h : Heap) : Prop:=h.get? c = some o
def rO (H : Hp) (c : Addr) (v : V) : Prop := ∃ o u,H c = some (.ext (oh c o)) /\ o.data = .cell (some u) /\ RelV v u
structure LamHas (H : Hp) (f c' : Addr) (qual : Str) (params : Arguments) (body : Expr) (scope : Scope) (clos : List (Str × Addr)) (cvs : List V) : Prop where
 fn : H f = some (.ext (qW f qual params body scope clos c'))
 cd : H c' = some (.ext (qr c' qual))
 cl : Paired (fun (p : Str × Addr) v => rO H p.2 v) clos cvs
 nd : (clos.map (·.2)).Nodup
section
variable {P : Program} {w : World} {H H' : Hp} {h h' : Heap} {cs : List Addr} {fs : List Addr}
end
structure LamScope (ps fr : List Str) (sc : Scope) : Prop where
 kind : sc.kind = .function
 co : sc.isCoroutine = false
 gen : sc.isGenerator = false
 nd : (ps ++ fr).Nodup
 par : ∀ x ∈ ps,sc.names.lookup x = some .local
 fre : ∀ x ∈ fr,sc.names.lookup x = some .free
 nocell : ∀ y ∈ sc.names,y.2 ≠ .cell
 all : ∀ y ∈ sc.names,y.2 = .free -> y.1 ∈ fr
section
variable {P : Program} {w : World} {K : PySem.W.Frag} {mg : Str -> Option Value} {base : Heap} {k : Nat} {f c' : Addr} {qual : Str} {params : Arguments} {body : Expr} {scope : Scope} {clos : List (Str × Addr)} {cvs : List V} {ps : List Str} {A : Around} {outer : List Env} {s : Shared} {H : Hp} {us : List Value} {vs : List V} {Q : VK} {t : TE}
end
end L2
set_option Elab.async false
set_option linter.all false
set_option maxRecDepth 100000
set_option maxHeartbeats 4000000
namespace L2
open PySem PySem.Spec PyProof.Rows
section
variable {X : Cx} {x : Str} {p pos : Pos} {e : Expr} {es : List Expr} {t : TA} {tf : TE} {R : V -> List V -> Hp -> VK -> Prop}
end
section
variable {X : Cx} {x y : Str} {i j k : Nat} {c : Addr} {ps : List Str} {dvs : List V} {sp : Sp} {p pos : Pos} {e : Expr} {es : List Expr} {t : TA} {CX : CXT} {f : Addr} {fd : FuncData} {ds : List Value}
end
end L2
set_option Elab.async false
set_option linter.all false
set_option maxRecDepth 100000
set_option maxHeartbeats 4000000
namespace L2
open PySem PySem.Spec PyProof.Rows
open Classical in
noncomputable def r9 (cells : List (Str × Addr)) (h : Heap) (H : Hp) : Hp:=fun b => if ∃ y,cells.lookup y = some b then (h.get? b).map fun o => .ext (oh b o) else H b
structure Mk0 (K : PySem.W.Frag) (C : Addr) : Prop where
 makes : PySem.W.makesIn K C = true
 init : PySem.W.findIn K (.ref C) "__init__" = some (some (.builtin "object.__init__"))
 kp : PySem.W.keepIn K (.ref C) = true
end L2
set_option Elab.async false
set_option linter.all false
set_option maxRecDepth 100000
set_option maxHeartbeats 4000000
namespace L2
open PySem PySem.Spec PyProof.Rows
structure LamScope1 (x : Str) (fr : List Str) (sc : Scope) : Prop where
 kind : sc.kind = .function
 co : sc.isCoroutine = false
 gen : sc.isGenerator = false
 nd : (x :: fr).Nodup
 cell : sc.names.lookup x = some .cell
 only : ∀ y ∈ sc.names,y.2 = .cell -> y.1 = x
 lay : ∀ n cl,cellsFrom n sc.names cl = (x,n) :: cl
 lays : ∀ h,pushCells h sc.names = h.push { cls:=.type "cell",data:=.cell none }
 fre : ∀ y ∈ fr,sc.names.lookup y = some .free
 all : ∀ y ∈ sc.names,y.2 = .free -> y.1 ∈ fr
section
variable {P : Program} {w : World} {K : PySem.W.Frag} {mg : Str -> Option Value} {base : Heap} {k : Nat} {f c' : Addr} {qual : Str} {params : Arguments} {body : Expr} {scope : Scope} {clos : List (Str × Addr)} {cvs : List V} {x : Str} {A : Around} {outer : List Env} {s : Shared} {H : Hp} {u : Value} {v : V} {Q : VK} {t : TE}
end
end L2
set_option Elab.async false
set_option linter.all false
set_option maxRecDepth 100000
set_option maxHeartbeats 4000000
namespace L2
open PySem PySem.Spec PyProof.Rows
section
variable {X : Cx}
def rn (K : PySem.W.Frag) : List V -> Hp -> VK -> Prop:=fun xs H Q => ∃ (a : Addr) (ns : List Int),xs = [.ref a] /\ SqL K H a (ns.map V.int) /\ ns ≠ [] /\ ∀ M,M ∈ ns -> (∀ z ∈ ns,z <= M) -> Q (.int M) H
theorem nK (hc : X.calm = true) : cE X (.builtin "max") (rn X.K):=by
 intro pins s σ H xs us Q I r h
 obtain ⟨a,ns,rfl,hS,h0,h1⟩:=h
 obtain ⟨u,rfl,ru⟩:=r.one
 cases (show u = Value.ref a from ru)
 obtain ⟨its,rv,ht,hz⟩:=I.list hS
 have hlen:=rv.length
 rw [List.length_map] at hlen
 have hn' : 0 < ns.length:=List.length_pos_iff.mpr h0
 have hlt : a < s.heap.objs.size:=by obtain ⟨_,e,_⟩:=ht.isList; exact Heap.lt_size e
 refine call_max_walk (wpAny_pyIter_list ht.isList ?_)
 have W:=Walks.list (prog:=X.prog) (w:=X.w) (A:=X.A.in1) (I.ok.hd hc) s.heap.objs.size a (Nat.ne_of_lt hlt) its.toArray
 have hval : ∀ (i : Nat) (v : Value),its.toArray[i]? = some v -> ∃ t,v = .int (ns.getD i 0) t:=fun i v e => by
  have e' : its[i]? = some v:=by simpa using e
  have hi : i < ns.length:=by rw [hlen]; exact (List.getElem?_eq_some_iff.mp e').1
  obtain ⟨u,hu,ru⟩:=rv.get (i:=i) (x:=.int ns[i]) (by simp [hi])
  rw [e'] at hu
  cases hu
  obtain ⟨t,rfl⟩:=ru
  exact ⟨t,by simp [hi]⟩
 refine ⟨_,_,_,_,_,_,_,rfl,W,⟨⟨_,Heap.get?_push_size _ rfl,rfl,rfl⟩,ht.isList.push _⟩,fun b hb => ?_,by simp; omega,CmpOf.ints_gt (fun i => ns.getD i 0) hval,fun v h' tk hP hk => ?_⟩
 ·show b < (s.heap.push _).objs.size
  rw [Heap.size_push]
  rcases List.mem_cons.mp hb with rfl | hb
  ·exact Nat.lt_succ_self _
  ·rw [List.mem_singleton.mp hb]; exact Nat.lt_succ_of_lt hlt
 ·have I1 : Inv X pins σ H { s with heap:=h',toks:=tk }:=I.kept (t' := tk) fun b o e => hk b o (fun hm => by
   rw [List.mem_singleton.mp hm] at e
   exact Nat.lt_irrefl _ (Heap.lt_size e)) (Heap.get?_push_of_some _ e)
  obtain ⟨t,rfl⟩:=hval _ v hP
  have hb:=argBest_gt (fun i => ns.getD i 0) (its.toArray.size - 1)
  have hj : argBest (fun i j => decide (ns.getD i 0 > ns.getD j 0)) (its.toArray.size - 1) < ns.length:=by
   have:=hb.1
   rw [List.size_toArray] at this ⊢
   omega
  refine ⟨.int _,H,I1,⟨t,rfl⟩,h1 _ ?_ fun z hzm => ?_⟩
  ·rw [List.getD_eq_getElem?_getD,List.getElem?_eq_getElem hj,Option.getD_some]; exact List.getElem_mem hj
  ·obtain ⟨i,hi,rfl⟩:=List.getElem_of_mem hzm
   have:=hb.2 i (by rw [List.size_toArray]; omega)
   simpa [List.getD_eq_getElem?_getD,List.getElem?_eq_getElem hi] using this
end
end L2
set_option Elab.async false
set_option linter.all false
set_option maxRecDepth 100000
set_option maxHeartbeats 4000000
namespace L2
open PySem PySem.Spec PyProof.Rows
theorem g6 : ∀ {ns : List Str} {us : List Value},Vals (ns.map V.str) us -> StrsAre us ns
 | [],_,h => by cases h; exact .nil
 | n :: ns,_,h => by
  cases h with
  | cons r t =>
   obtain ⟨tk,rfl⟩:=r
   exact .cons n tk (g6 t)
theorem l7 : ∀ {ns : List Str} {us : List Value},StrsAre us ns -> Vals (ns.map V.str) us
 | _,_,.nil => .nil
 | _,_,.cons n t r => .cons ⟨t,rfl⟩ (l7 r)
section
variable {X : Cx}
theorem nr : OpR X (binaryOp .Mult) (fun x y H Q => ∃ z n,x = .str z /\ y = .int n /\ MulOk z n /\ Q (.str (Txt.mul z n)) H):=by
 intro pins s σ H x y v u Q I rx ry h
 obtain ⟨z,n,rfl,rfl,ok,q⟩:=h
 obtain ⟨t,rfl⟩:=rx
 obtain ⟨t',rfl⟩:=ry
 exact SB.mul ok fun t' k => ⟨.str _,H,I.tok _,⟨_,rfl⟩,q⟩
def rJoin : V -> List V -> Hp -> VK -> Prop:=fun x vs H Q => ∃ (z : Str) (l : Addr) (ys : List Str),x = .str z /\ vs = [.ref l] /\ H l = some (.lst (ys.map V.str)) /\ (ys.map (·.length)).sum + ys.length * z.length <= 16777216 /\ Q (.str (Txt.join z ys)) H
theorem nh : MtM X "str.join" rJoin:=by
 intro pins s σ H x vs v us Q I rx rv h
 obtain ⟨z,l,ys,rfl,rfl,hH,ok,q⟩:=h
 obtain ⟨t,rfl⟩:=rx
 obtain ⟨u,rfl,ru⟩:=rv.one
 cases ru
 obtain ⟨zz,its,n,r,hl,e⟩:=I.lstM hH
 exact join_list ⟨_,e,rfl,n,rfl⟩ (by simpa using g6 r) ok fun t' k => ⟨.str _,H,I.tok _,⟨_,rfl⟩,q⟩
end
section
variable {X : Cx} {e v1 v2 : Expr} {es rest : List Expr} {pos : Pos} {n : Nat}
abbrev TFV:=St -> Hp -> Str -> (Str -> Hp -> Prop) -> Prop
def pN (X : Cx) (n : Nat) (es : List Expr) (t : TFV) : Prop := ∀ (pins : List (Addr × Obj)) (s : Shared) (σ : St) (H : Hp) (Q : Str -> Hp -> Prop) (out : Str),out.length <= n -> Inv X pins σ H s -> t σ H out Q ->
 wpAny (model X.prog X.w) X.A (joinParts out (evalEach es X.env)) (fun u s' => ∃ x tk H',u = .str x tk /\ Inv X pins σ H' s' /\ Q x H') X.xe s
def rH : TFV:=fun _ H out Q => Q out H
def qU (t1 : TF) (t2 : TFV) : TFV:=fun σ H out Q => t1 σ H fun x H1 => t2 σ H1 (out ++ x) Q
theorem gA (hn : n <= sizeLine:=by decide) : pN X n [] rH:=fun pins s σ H Q out ho I h => joinParts_nil ⟨out,_,H,rfl,I.tok _,h⟩ (Nat.le_trans ho hn)
theorem bo {t1 : TF} {t2 : TFV} (h1 : PF X e t1) (h2 : pN X (n + 1000) es t2) (hn : n + 1000 <= sizeLine:=by decide) : pN X n (e :: es) (qU t1 t2):=by
 intro pins s σ H Q out ho I h
 refine joinParts_cons (thn (h1 pins s σ H _ I h) fun u s1 ⟨x,tk,H1,hu,I1,hx,q⟩ => ?_)
 subst hu
 have hl : (out ++ x).length <= n + 1000:=by rw [strLen_append]; omega
 exact ⟨Nat.le_trans hl hn,h2 pins s1 σ H1 Q (out ++ x) hl I1 q⟩
def qT (t : TFV) : TE:=fun σ H Q => t σ H Str.empty fun x H1 => Q (.str x) H1
theorem fI {t : TFV} (h : pN X 0 (v1 :: v2 :: rest) t) : PE X (.JoinedStr (v1 :: v2 :: rest) pos) (qT t):=by
 intro pins s σ H Q I q
 exact JoinedStr_many (thn (h pins s σ H _ Str.empty (by decide) I q) fun u s1 ⟨x,tk,H1,hu,I1,q1⟩ => ⟨.str x,H1,I1,⟨tk,hu⟩,q1⟩)
end
theorem eG (x : Str) : Str.empty ++ x = x:=by
 show Str.mk (#[] ++ x.cps) = x
 rw [Array.empty_append]
end L2
set_option Elab.async false
set_option linter.all false
set_option maxRecDepth 100000
set_option maxHeartbeats 4000000
namespace L2
open PySem PySem.Spec PyProof.Rows
def aY (val : Nat -> Str) (i : Nat) : List Str:=((List.range i).map val).foldl step_dedup []
theorem ez (val : Nat -> Str) (i : Nat) : aY val (i + 1) = step_dedup (aY val i) (val i):=by
 unfold aY; rw [List.range_succ,List.map_append,List.foldl_append]; rfl
theorem mh (s : List Str) (v : Str) : (step_dedup s v).length <= s.length + 1:=by
 unfold step_dedup
 split
 ·omega
 ·rw [List.length_append]; exact Nat.le_refl _
theorem cf (val : Nat -> Str) : ∀ i,(aY val i).length <= i
 | 0 => Nat.le_refl _
 | i + 1 => by
  rw [ez]
  have:=cf val i
  have:=mh (aY val i) (val i)
  omega
theorem StrsAre.str_at : ∀ {vs : List Value} {ns : List Str},StrsAre vs ns -> ∀ (i : Nat) (v : Value),vs[i]? = some v -> ∃ t,v = .str (ns.getD i Str.empty) t
 | _,_,.nil,i,v,h => by simp at h
 | _,_,.cons y t r,0,v,h => ⟨t,(Option.some.inj h).symm⟩
 | _,_,.cons y t r,i + 1,v,h => by
  obtain ⟨t',e⟩:=StrsAre.str_at r i v (by simpa using h)
  exact ⟨t',by simpa using e⟩
theorem StrsAre.lengthS : ∀ {vs : List Value} {ns : List Str},StrsAre vs ns -> vs.length = ns.length
 | _,_,.nil => rfl
 | _,_,.cons _ _ r => by simp [StrsAre.lengthS r]
def leS (a b : Str) : Prop := ¬ b.cps.toList < a.cps.toList
theorem leS.trans {a b c : Str} (h : leS a b) (h' : leS b c) : leS a c:=List.not_lt.mpr (List.le_trans (List.not_lt.mp h) (List.not_lt.mp h'))
theorem jb : ∀ (l : List Str) (p : Str),risingS p l = true -> (p :: l).Pairwise leS
 | [],p,_ => List.pairwise_singleton ..
 | x :: r,p,h => by
  have h' : (!ltCps x.cps.toList p.cps.toList && risingS x r) = true:=h
  obtain ⟨h1,h2⟩:=Bool.and_eq_true_iff.mp h'
  have px : leS p x:=by
   intro z
   rw [ltCps_eq,decide_eq_true z] at h1
   cases h1
  have ih:=jb r x h2
  refine List.pairwise_cons.mpr ⟨fun y hy => ?_,ih⟩
  rcases List.mem_cons.mp hy with z | z
  ·rw [z]; exact px
  ·exact px.trans ((List.pairwise_cons.mp ih).1 y z)
theorem n8 : ∀ (l : List Str),sortedS l = true -> l.Pairwise leS
 | [],_ => List.Pairwise.nil
 | x :: r,h => jb r x h
theorem gr {prog : Program} {w : World} {A : Around} {E : Value -> Shared -> Prop} {s : Shared} {a : Addr} {vs : List Value} {ss : List Str} {n : Nat} {P : Fin -> Shared -> Prop} (ho : s.heap.get? a = some (seqObj "list" vs.toArray n)) (hS : StrsAre vs ss) (h64 : vs.length < 64)
  (h : ∀ (out : Array Value) (ss' : List Str),StrsAre out.toList ss' -> ss'.Perm ss -> ss'.Pairwise leS -> P (.done (.ret .none)) { s with heap:=sortedHeap s.heap a vs out }) : wpAny (model prog w) A (Builtin.«list.sort» ⟨[.ref a],[]⟩) P E s:=
 list_sort_treeK strKind_oneLt ho hS.keysOf (fun v₁ v₂ rest e => keyKind_strs (by rw [<- e]; exact hS)) h64 fun st' hp hs => by
  obtain ⟨ss',h1,h2,h3⟩:=sorted_out_str hS hp hs
  exact h _ ss' h1 h2 (n8 _ h3)
def SetWS (P : Program) (w : World) (h : Heap) (a : Addr) (ns : List Str) : Prop:=
 ∃ o es ep t,h.get? a = some o /\ o.ExactSet /\ o.data = .set es ep t /\ ElemsOf (PySem.strKind P w) es.toList /\ (∀ e ∈ es.toList,∃ n u,e.2 = .str n u) /\ (es.toList.map fun e => strOf e.2).Perm ns /\ es.size < scanBound /\ t.fits es.size = true /\ TabOk t (!byT w)
theorem SetWS.keep {P : Program} {w : World} {h h' : Heap} {a : Addr} {ns : List Str} (x : SetWS P w h a ns) (k : ∀ o,h.get? a = some o -> h'.get? a = some o) : SetWS P w h' a ns:=by
 obtain ⟨o,es,ep,t,ho,r⟩:=x
 exact ⟨o,es,ep,t,k o ho,r⟩
section
variable {P : Program} {w : World} {A : Around} {E : Value -> Shared -> Prop} {s : Shared}
theorem mZ {k n : Str} {u : Tok} : (PySem.strKind P w).is k (.str n u) = decide (k = n):=KeyKind.is_eq_decide (strKind_is P w n u) k
theorem nC {h : Heap} {a : Addr} {o : Obj} {es es' : Array (Int × Value)} {ep : Nat} {t t' : SetTable} {ns : List Str} (ho : h.get? a = some o) (hex : o.ExactSet) (hd : o.data = .set es ep t) (hel : ElemsOf (PySem.strKind P w) es'.toList)
  (hi : ∀ e ∈ es'.toList,∃ n u,e.2 = .str n u) (hp : (es'.toList.map fun e => strOf e.2).Perm ns) (hb : es'.size < scanBound) (hf : t'.fits es'.size = true) (hk : TabOk t' (!byT w)) :
  (h.update a (Obj.putSet es' t')).get? a = some { o with data:=.set es' (ep + 1) t' } /\ SetWS P w (h.update a (Obj.putSet es' t')) a ns:=by
 have hg : (h.update a (Obj.putSet es' t')).get? a = some { o with data:=.set es' (ep + 1) t' }:=by
  have q:=Heap.get?_update_self (Obj.putSet es' t') ho (by rw [putSet_of es' t' hd]; rfl)
  rw [putSet_of es' t' hd] at q
  exact q
 exact ⟨hg,_,es',ep + 1,t',hg,hex,rfl,hel,hi,hp,hb,hf,hk⟩
theorem kM {g : Bool -> Sem Unit} (hg : ∀ (b : Bool) (s₁ : Shared) (Q' : Unit -> Shared -> Prop),Q' () s₁ -> wpAny (model P w) A (g b) Q' E s₁) {a : Addr} {o : Obj} {es es1 : Array (Int × Value)} {ep : Nat} {t t2 : SetTable} {ns : List Str} {R : Option Bool -> Shared -> Prop} {wd : Bool}
  (ho : s.heap.get? a = some o) (hex : o.ExactSet) (hd : o.data = .set es ep t) (hel : ElemsOf (PySem.strKind P w) es1.toList) (hi : ∀ e ∈ es1.toList,∃ n u,e.2 = .str n u) (hp : (es1.toList.map fun e => strOf e.2).Perm ns) (hb : es1.size < scanBound)
  (hf : t2.fits es1.size = true) (hk : TabOk t2 (!byT w)) (h : ∀ h',Heap.SameBut a s.heap h' -> SetWS P w h' a ns -> R (some true) { s with heap:=h' }) :
  wpAny (model P w) A (do
    storeSet a es1 t2
    if (!wd && t2.tooFull) = true then do
      g (relayAll t2 es1 (SetTable.grown es1.size)).2.2
      storeSet a (relayAll t2 es1 (SetTable.grown es1.size)).1 (relayAll t2 es1 (SetTable.grown es1.size)).2.1
      pure (some true)
     else pure (some true)) R E s:=by
 refine wpAny_bind (wpAny_storeSet_of ho hd ?_ (fits_of_scanBound hb))
 obtain ⟨ho1,hS1⟩:=nC (P:=P) (w:=w) ho hex hd hel hi hp hb hf hk
 have sb1:=Heap.SameBut.update s.heap a (Obj.putSet es1 t2)
 split
 ·have rp:=relayAll_perm t2 es1 (SetTable.grown es1.size)
  have rf:=relayAll_fits t2 es1 (SetTable.grown es1.size)
  have rt:=kr hk es1 (SetTable.grown es1.size)
  generalize relayAll t2 es1 (SetTable.grown es1.size) = Rl at rp rf rt ⊢
  obtain ⟨es2,t3,gave⟩:=Rl
  dsimp only at rp rf rt ⊢
  have sz : es2.size = es1.size:=by rw [<- Array.length_toList,rp.length_eq,Array.length_toList]
  have hb2 : es2.size < scanBound:=by rw [sz]; exact hb
  refine wpAny_bind (hg _ _ _ ?_)
  refine wpAny_bind (wpAny_storeSet_of ho1 rfl ?_ (fits_of_scanBound hb2))
  obtain ⟨_,hS2⟩:=nC (P:=P) (w:=w) (ns:=ns) ho1 hex rfl (hel.perm rp) (fun e he => hi e (rp.mem_iff.mp he)) ((rp.map _).trans hp) hb2 rf rt
  exact wpAny_pure (h _ (sb1.trans (Heap.SameBut.update _ a _)) hS2)
 ·exact wpAny_pure (h _ sb1 hS1)
theorem lW {a : Addr} {ns : List Str} {k : Str} {u : Tok} {Q : Bool -> Shared -> Prop} (hS : SetWS P w s.heap a ns) (hroom : ns.length + 1 < scanBound)
  (h : ∀ h' b,Heap.SameBut a s.heap h' -> SetWS P w h' a (step_dedup ns k) -> Q b { s with heap:=h' }) : wpAny (model P w) A (setAddHashed a (.str k u) ((PySem.strKind P w).hash k)) Q E s:=by
 obtain ⟨o,es,ep,t,ho,hex,hd,hel,hi,hp,hb,hf,hk⟩:=hS
 have hsz : es.size = ns.length:=by rw [<- hp.length_eq,List.length_map,Array.length_toList]
 have mem : ∀ z : Str,z ∈ ns ↔ ∃ e ∈ es.toList,(PySem.strKind P w).is z e.2 = true:=fun z => by
  rw [<- hp.mem_iff,List.mem_map]
  constructor
  ·rintro ⟨e,he,rfl⟩
   obtain ⟨n,v,e2⟩:=hi e he
   exact ⟨e,he,by rw [e2,mZ]; simp [strOf]⟩
  ·rintro ⟨e,he,q⟩
   obtain ⟨n,v,e2⟩:=hi e he
   rw [e2,mZ] at q
   exact ⟨e,he,by rw [e2]; exact (of_decide_eq_true q).symm⟩
 unfold setAddHashed setAddHashedIn
 refine wpAny_holding (wpAny_bind (wpAny_setState_of ho hd hf ?_))
 dsimp only
 rw [byScan_of (x:=.str k u) rfl hb hel]
 simp only [↓reduceIte]
 unfold setAddByScan
 refine wpAny_bind (wpAny_bind (wpAny_rule ?_))
 refine wpAny_bind (wpAny_setScan_of (strKind_is P w k u) ho hd hf hel ?_)
 cases hr : List.findIdx? (fun e => (PySem.strKind P w).is k e.2) es.toList with
 | some j =>
  dsimp only
  obtain ⟨hj,pj,_⟩:=List.findIdx?_eq_some_iff_getElem.mp hr
  have kin : k ∈ ns:=(mem k).mpr ⟨es.toList[j],List.getElem_mem hj,pj⟩
  refine wpAny_pure (wpAny_pure ?_)
  have q:=h s.heap false (Heap.SameBut.refl a s.heap) ⟨o,es,ep,t,ho,hex,hd,hel,hi,by
   unfold step_dedup
   rw [if_pos (by simpa using kin)]
   exact hp,hb,hf,hk⟩
  cases s
  exact q
 | none =>
  dsimp only
  have nin : k ∉ ns:=fun z => by
   obtain ⟨e,he,q⟩:=(mem k).mp z
   have:=List.findIdx?_eq_none_iff.mp hr e he
   rw [q] at this
   cases this
  have gw : ∀ (b : Bool) (s₁ : Shared) (Q' : Unit -> Shared -> Prop),Q' () s₁ -> wpAny (model P w) A (match b with | true => rule "set.scan.the-table-gave-way" | false => pure ()) Q' E s₁:=fun b s₁ Q' q => by
   cases b
   ·exact wpAny_pure q
   ·exact wpAny_rule q
  have lp:=layNew_perm t es ((PySem.strKind P w).hash k) (.str k u)
  have lf:=layNew_fits t es ((PySem.strKind P w).hash k) (.str k u)
  have lt:=mv hk es ((PySem.strKind P w).hash k) (.str k u)
  generalize layNew t es ((PySem.strKind P w).hash k) (.str k u) = L at lp lf lt ⊢
  obtain ⟨es1,t1,wd,gave⟩:=L
  dsimp only at lp lf lt ⊢
  rw [Array.toList_push] at lp
  have hel1 : ElemsOf (PySem.strKind P w) es1.toList:=(hel.push (strKind_is P w k u) rfl).perm lp
  have hi1 : ∀ e ∈ es1.toList,∃ n v,e.2 = .str n v:=fun e he => by
   rcases List.mem_append.mp (lp.mem_iff.mp he) with z | z
   ·exact hi e z
   ·rw [List.mem_singleton.mp z]; exact ⟨k,u,rfl⟩
  have hp1 : (es1.toList.map fun e => strOf e.2).Perm (step_dedup ns k):=by
   unfold step_dedup
   rw [if_neg (by simpa using nin)]
   refine (lp.map _).trans ?_
   rw [List.map_append]
   exact hp.append (List.Perm.refl _)
  have hb1 : es1.size < scanBound:=by rw [<- Array.length_toList,lp.length_eq,List.length_append,Array.length_toList,hsz]; exact hroom
  refine wpAny_bind (gw _ _ _ ?_)
  split
  ·refine wpAny_bind ?_
   rw [hashByValue_scannable 8 (x:=.str k u) rfl]
   refine wpAny_pure ?_
   exact kM (fun b s₁ Q' q => gw b s₁ Q' q) ho hex hd hel1 hi1 hp1 hb1 (by split <;> first | exact lf | exact SetTable.fits_plain_off lf) (by split <;> first | exact lt | exact ⟨lt.1,lt.2,lt.3⟩) fun h' sb S => wpAny_pure (h h' true sb S)
  ·refine wpAny_bind (wpAny_pure ?_)
   simp only [↓reduceIte]
   exact kM (fun b s₁ Q' q => gw b s₁ Q' q) ho hex hd hel1 hi1 hp1 hb1 lf lt fun h' sb S => wpAny_pure (h h' true sb S)
end
section
variable {P : Program} {w : World} {A : Around} {E : Value -> Shared -> Prop} {R : Result -> Shared -> Prop} {I : Addr} {fp wr : List Addr} {G : Array GenState -> Array GenState -> Prop} {n : Nat} {Pz : Nat -> Value -> Prop} {St : Nat -> Shared -> Prop}
theorem iP (W : WalksS P w A.in1 I fp wr G n Pz St) (S : Addr) (hSf : S ∉ fp) (val : Nat -> Str) (hval : ∀ i v,Pz i v -> ∃ t,v = .str (val i) t) (hb : n + 1 < scanBound) :
  ∀ (k i : Nat) (s : Shared),n - i = k -> i <= n -> St i s -> SetWS P w s.heap S (aY val i) -> (∀ s',Moved (S :: wr) G s s' -> SetWS P w s'.heap S (aY val n) -> R (.ok (.ret .none)) s') ->
   codeAny (model P w) A (.builtin "set.update.loop" ⟨[.ref S,.ref I],[]⟩) R s:=by
 have nw : S ∉ wr:=fun z => hSf (W.sub _ z)
 have up : ∀ b ∈ wr,b ∈ S :: wr:=fun b z => List.mem_cons_of_mem _ z
 intro k
 induction k with
 | zero =>
  intro i s hk hi hst hS hR
  obtain rfl : i = n:=by omega
  refine codeAny_builtin F.entry_set_update_loop ?_
  rw [Around.under_plainId F.plain_set_update_loop _]
  refine wpAny_bind (m:=pyNext (.ref I)) (W.done s _ _ hst fun s' hm => ?_)
  exact wpAny_pure (hR s' (hm.mono up) (hS.keep fun o q => hm.heap S o nw q))
 | succ k ih =>
  intro i s hk hi hst hS hR
  have hlt : i < n:=by omega
  refine codeAny_builtin F.entry_set_update_loop ?_
  rw [Around.under_plainId F.plain_set_update_loop _]
  refine wpAny_bind (m:=pyNext (.ref I)) (W.item i s _ _ hlt hst fun v s' hP hst' hm => ?_)
  obtain ⟨t,rfl⟩:=hval i v hP
  have hS' : SetWS P w s'.heap S (aY val i):=hS.keep fun o q => hm.heap S o nw q
  refine wpAny_bind (m:=holding [Value.str (val i) t] (setAdd S (.str (val i) t))) (wpAny_holding ?_)
  unfold setAdd
  refine wpAny_holding (wpAny_bind ((PySem.strKind P w).pyHash (k:=val i) (strKind_is _ _ _ _) ?_))
  have room : (aY val i).length + 1 < scanBound:=by
   have:=cf val i
   omega
  refine lW (s:={ s' with toks:=s'.toks + 1 }) hS' room fun h' b sb S2 => ?_
  rw [<- ez] at S2
  refine wpAny_pure ⟨plainId_quiet F.plain_set_update_loop _,ih (i + 1) _ (by omega) hlt (W.frame _ s' _ _ hst' (Nat.le_succ _) fun b hb o e => ?_) S2 fun s2 m2 S3 => ?_⟩
  ·rw [sb.2 b (fun z : b = S => hSf (z ▸ hb))]; exact e
  ·refine hR s2 (Moved.trans W.gtrans ((hm.mono up).then_heap (Nat.le_succ _) fun b o hb e => ?_) m2) S3
   rw [sb.2 b (fun z : b = S => hb (by rw [z]; exact List.mem_cons_self))]; exact e
end
section
variable {P : Program} {w : World} {A : Around} {E : Value -> Shared -> Prop} {s : Shared}
theorem rg (h : Heap) (hg : h.get? a = some (bu w)) : SetWS P w h a []:=
 ⟨_,#[],0,_,hg,⟨rfl,rfl,rfl⟩,rfl,(fun e he => by cases he),(fun e he => by cases he),List.Perm.refl _,by decide,rfl,⟨List.Pairwise.nil,rfl,rfl⟩⟩
set_option maxHeartbeats 3200000 in
theorem md {l : Addr} {items : Array Value} {ns : List Str} {Q : Value -> Shared -> Prop} (hh : A.handled = none) (hl : s.heap.IsList l items) (hi : StrsAre items.toList ns) (hb : items.size + 1 < scanBound)
  (h : ∀ (h' : Heap) (tk : Nat),SetWS P w h' s.heap.objs.size (aY (fun i => ns.getD i Str.empty) items.size) -> (∀ b o,b < s.heap.objs.size -> s.heap.get? b = some o -> h'.get? b = some o) -> Q (.ref s.heap.objs.size) { s with heap:=h',toks:=tk }) :
  wpAny (model P w) A (call (.type "set") [.ref l]) Q E s:=by
 obtain ⟨c,tl,hmro⟩:=F.called_set.mro
 have hmade:=F.called_set.made
 have hsub:=F.called_set.sub
 refine wpAny_call (codeAny_of_tree ?_)
 show wpAny _ _ (callAny (.type "set") _) _ _ _
 refine wpAny_pure ⟨Code.quiet_builtin _ (by decide +kernel),codeAny_builtin F.entry_type_call ?_⟩
 rw [Around.under_plain (weight_type_call_type "set" [.ref l] []) rfl]
 have h1:=F.called_set.notType
 have h2:=F.called_set.canCreate
 have hct:=F.typeCall_set_1 (.ref l)
 repeat (any_goals (first | assumption | wp_step))
 refine codeAny_mono (nN (.ref l) (E:=E) (Q₁:=fun obj s₁ => obj = .ref s.heap.objs.size /\ s₁ = { s with heap:=s.heap.push (bu w) }) ⟨rfl,rfl⟩) fun r s₁ hr => ?_
 cases r with
 | error e => exact hr
 | ok fl =>
  cases fl with
  | ret obj =>
   obtain ⟨rfl,rfl⟩:=hr
   have hS : (s.heap.push (bu w)).get? s.heap.objs.size = some (bu w):=Heap.get?_push_size _ rfl
   have hT : Shared.TypeIs { s with heap:=s.heap.push (bu w) } (.ref s.heap.objs.size) "set" := ⟨_,hS,rfl⟩
   have hli:=F.called_set.init.lookup
   have hbi:=F.called_set.init.bind (.ref s.heap.objs.size)
   repeat (any_goals (first | assumption | wp_step))
   refine codeAny_mono (codeAny_call_builtin (R:=wants (fun r s₂ => r = .none /\ ∃ h' tk,s₂ = { s with heap:=h',toks:=tk } /\ SetWS P w h' s.heap.objs.size (aY (fun i => ns.getD i Str.empty) items.size) /\
     (∀ b o,b < s.heap.objs.size -> s.heap.get? b = some o -> h'.get? b = some o)) E) F.called_set.init.plain F.entry_set_init (check_set_init_1 hT ?_)) fun r₂ s₂ hr₂ => ?_
   ·obtain ⟨ol,hol,hcl,nl,hdl⟩:=hl
    obtain ⟨ocls,odict,odata,oslots⟩:=ol
    simp only at hcl hdl
    subst hcl; subst hdl
    have hol' : (s.heap.push (bu w)).get? l = some { cls:=.type "list",dict:=odict,data:=.seq items nl,slots:=oslots }:=Heap.get?_push_of_some _ hol
    have hsls:=F.sub_list_set
    have hslf:=F.sub_list_frozenset
    have hl1 : (s.heap.push (bu w)).IsList l items:=⟨_,hol',rfl,nl,rfl⟩
    have hne : (Value.type "list" == Value.type "dict") = false:=by decide
    have hS0 : (s.heap.push (bu w)).get? s.heap.objs.size = some { cls:=.type "set",dict:=none,data:=.set #[] 0 (.fresh 0 0 (!byT w)) }:=hS
    unfold Builtin.«set.__init__» noKeywords Builtin.Frozenset.updateFrom
    generalize hPI : pyIter = PI
    wp_walk
    subst hPI
    refine wpAny_pyIter_list hl1 (wpAny_bind (wpAny_runValue ?_))
    have hlS : l < s.heap.objs.size:=Heap.lt_size hol
    have hh3 : A.in1.in1.in1.handled = none:=by simp [hh]
    have neI : l ≠ (s.heap.push (bu w)).objs.size:=by rw [Heap.size_push]; exact Nat.ne_of_lt (Nat.lt_succ_of_lt hlS)
    have nS : s.heap.objs.size ∉ [(s.heap.push (bu w)).objs.size,l]:=by
     rw [Heap.size_push]
     simp only [List.mem_cons,List.mem_singleton,List.not_mem_nil,or_false,not_or]
     exact ⟨Nat.ne_of_lt (Nat.lt_succ_self _),Nat.ne_of_gt hlS⟩
    refine iP ((Walks.list hh3 _ l neI items).toS) s.heap.objs.size nS (fun i => ns.getD i Str.empty) (fun i v hv => StrsAre.str_at hi i v (by rw [Array.getElem?_toList]; exact hv)) hb (items.size - 0) 0 _ (by omega) (Nat.zero_le _)
     ⟨⟨_,Heap.get?_push_size _ rfl,rfl,rfl⟩,(hl1.push _)⟩ ?_ ?_
    ·exact rg (w:=w) _ (Heap.get?_push_of_some _ hS)
    ·rintro ⟨h',g',d',tk',os'⟩ hm hS'
     have eg : g' = s.gens:=hm.gens
     have ed : d' = s.drawn:=hm.drawn
     have eo : os' = s.os:=hm.os
     subst eg ed eo
     refine wpAny_pure ?_
     show wpAny _ _ (ret Value.none) _ _ _
     refine wpAny_pure ⟨rfl,h',tk',rfl,hS',fun b o hb e => ?_⟩
     refine hm.heap b o ?_ (Heap.get?_push_of_some _ (Heap.get?_push_of_some _ e))
     rw [Heap.size_push]
     simp only [List.mem_cons,List.mem_singleton,List.not_mem_nil,or_false,not_or]
     exact ⟨Nat.ne_of_lt hb,Nat.ne_of_lt (Nat.lt_succ_of_lt hb)⟩
   ·cases r₂ with
    | error e => exact hr₂
    | ok fl₂ =>
     cases fl₂ with
     | ret r =>
      obtain ⟨rfl,h',tk,rfl,hS',hk'⟩:=hr₂
      repeat (any_goals (first | assumption | wp_step))
      exact h _ _ hS' hk'
     | next => exact hr₂
     | brk => exact hr₂
     | cont => exact hr₂
  | next => exact hr
  | brk => exact hr
  | cont => exact hr
end
section
variable {P : Program} {w : World} {A : Around} {E : Value -> Shared -> Prop} {s : Shared} {S : Addr} {ns : List Str}
theorem nO {Q : List Value -> Shared -> Prop} (hh : A.handled = none) (hS : SetWS P w s.heap S ns)
  (hQ : ∀ (vs : List Value) (ms : List Str) (h' : Heap) (d' : Drawn) (tk : Nat),StrsAre vs ms -> ms.Perm ns -> (∀ b u,s.heap.get? b = some u -> h'.get? b = some u) -> s.heap.objs.size <= h'.objs.size -> Q vs { s with heap:=h',drawn:=d',toks:=tk }) :
  wpAny (model P w) A (collect (.ref S)) Q E s:=by
 obtain ⟨o,es,ep,t,ho,hex,hd,hel,hi,hp,hb,hf,hk⟩:=hS
 have hSl : S < s.heap.objs.size:=Heap.lt_size ho
 unfold collect
 refine wpAny_bind (wpAny_runValue (codeAny_builtin F.entry_proto_collect ?_))
 rw [Around.under_plainId F.plain_proto_collect _]
 show wpAny _ A.in1 (newList [] >>= fun l => again (.builtin "list.__iadd__" ⟨[l,.ref S],[]⟩)) _ _ s
 refine wpAny_bind (wpAny_newObj_type ?_)
 refine wpAny_pure ⟨plainId_quiet F.plain_list_iadd _,codeAny_builtin F.entry_list_iadd ?_⟩
 rw [Around.under_plainId F.plain_list_iadd _]
 generalize hN : ({ cls:=.type "list",data:=.seq ([] : List Value).toArray } : Obj) = oN
 have ho1 : (s.heap.push oN).get? S = some o:=Heap.get?_push_of_some _ ho
 have hN1 : (s.heap.push oN).get? s.heap.objs.size = some oN:=Heap.get?_push_size _ (by rw [<- hN]; rfl)
 have ne : s.heap.objs.size ≠ S:=Nat.ne_of_gt hSl
 have hT : (⟨s.heap.push oN,s.gens,s.drawn,s.toks,s.os⟩ : Shared).TypeIs (.ref S) "set" := ⟨o,ho1,hex.1⟩
 show wpAny _ A.in1 (Builtin.List.listExtendWith (.ref s.heap.objs.size) (.ref S) (.ref s.heap.objs.size)) _ _ ⟨s.heap.push oN,s.gens,s.drawn,s.toks,s.os⟩
 unfold Builtin.List.listExtendWith
 refine wpAny_bind (wpAny_typeOf hT ?_)
 rw [if_neg (by
  have h1 : Builtin.List.listSameRef (.ref s.heap.objs.size) (.ref S) = false:=by simp [Builtin.List.listSameRef,ne]
  rw [h1]
  decide)]
 refine wpAny_bind (ra ho1 hex hd hb hf hk fun h1 d1 I T L pL st keep hI1 hI2 hTI hT2 => ?_)
 have ho2 : h1.get? S = some o:=keep S o ho1
 have hT2' : (⟨h1,s.gens,d1,s.toks,s.os⟩ : Shared).TypeIs (.ref S) "set" := ⟨o,ho2,hex.1⟩
 refine wpAny_bind (wpAny_holding ?_)
 unfold Builtin.List.listLengthHint
 refine wpAny_bind (wpAny_specialOf hT2' F.slot_set_len.lookup ?_)
 (generalize hid : ("set.__len__" : String) = id0; wp_delta; rw [show splitId id0 = some ("set","__len__") from by subst hid; decide +kernel]; subst hid)
 refine wpAny_bind (wpAny_isInstance (b:=true) hT2' sub_set_self ?_)
 show wpAny _ _ (typeOf (.ref S) >>= _) _ _ _
 refine wpAny_bind (wpAny_typeOf hT2' (wpAny_pure ?_))
 show wpAny _ A.in1 (rule "list.extend.makes-room" >>= fun _ => Builtin.List.listTouch (.ref s.heap.objs.size) >>= fun _ =>
  again (.builtin "list.extend.loop" ⟨[.ref s.heap.objs.size,.ref I,.ref s.heap.objs.size],[]⟩)) _ _ _
 refine wpAny_bind (wpAny_rule ?_)
 have hN2 : h1.get? s.heap.objs.size = some { cls:=.type "list",data:=.seq ([] : List Value).toArray }:=by rw [hN]; exact keep _ _ hN1
 refine wpAny_bind ?_
 show wpAny _ A.in1 (updateSeq s.heap.objs.size (·.push .none) >>= fun _ => updateSeq s.heap.objs.size (·.pop)) _ _ _
 refine wpAny_bind (wpAny_updateSeq hN2 rfl ?_)
 have hN3:=Heap.get?_update_self (Obj.mapSeq (·.push Value.none)) hN2 rfl
 refine wpAny_updateSeq hN3 rfl ?_
 have hN4:=Heap.get?_update_self (Obj.mapSeq (·.pop)) hN3 rfl
 have oth : ∀ b u,b ≠ s.heap.objs.size -> h1.get? b = some u -> ((h1.update s.heap.objs.size (Obj.mapSeq (·.push Value.none))).update s.heap.objs.size (Obj.mapSeq (·.pop))).get? b = some u:=
  fun b u hb q => (Heap.get?_update_other _ _ (Ne.symm hb)).trans ((Heap.get?_update_other _ _ (Ne.symm hb)).trans q)
 have lL : L.length = es.size:=by rw [pL.length_eq,List.length_map,Array.length_toList]
 have nI : s.heap.objs.size ≠ I:=by
  rw [Heap.size_push] at hI1
  exact Nat.ne_of_lt hI1
 have nT : s.heap.objs.size ≠ T:=by
  rcases hT2 with z | z
  ·rw [z]; exact ne
  ·rw [Heap.size_push] at z
   exact Nat.ne_of_lt z
 have SI : S ≠ I:=by
  rw [Heap.size_push] at hI1
  exact Nat.ne_of_lt (Nat.lt_of_lt_of_le hSl (Nat.le_trans (Nat.le_succ _) hI1))
 have W : WalksS P w A.in1 I [I,S,T] [I] (fun a b => b = a) es.size (fun i v => v = L.getD i .none) (fun i s => SetSt w es ep t S T I L i s.heap):=rL (A:=A.in1) (by simp [hh]) hf hk lL hTI SI
 have nfp : s.heap.objs.size ∉ [I,S,T]:=by
  simp only [List.mem_cons,List.not_mem_nil,or_false,not_or]
  exact ⟨nI,ne,nT⟩
 refine wpAny_pure ⟨plainId_quiet F.plain_extend_loop _,codeAny_extend_loopS W (fits_of_scanBound hb) _ nfp _ es.size 0 _ _ _ rfl (Nat.zero_le _)
  (W.frame 0 ⟨h1,s.gens,d1,s.toks,s.os⟩ _ s.toks st (Nat.le_refl _) fun b hb' u q => oth b u (fun z => nfp (z ▸ hb')) q) hN4 (ItemsOf.nil _) fun s' acc' c' hm hS' hacc => ?_⟩
 show wpAny _ A (load s.heap.objs.size >>= _) _ _ s'
 refine wpAny_bind (wpAny_load hS' (wpAny_pure ?_))
 obtain ⟨h',g',d',tk',os'⟩:=s'
 have eg : g' = s.gens:=hm.gens
 have eo : os' = s.os:=hm.os
 subst eg eo
 have eacc : acc'.toList = L:=by
  refine List.ext_getElem (by rw [Array.length_toList,hacc.1,lL]) fun i h1' h2' => ?_
  have:=hacc.2 i acc'[i] (by simp at h1'; simp [h1'])
  simp [this,h2']
 rw [eacc]
 have allI : ∀ vs : List Value,(∀ v ∈ vs,∃ n u,v = Value.str n u) -> StrsAre vs (vs.map strOf):=by
  intro vs
  induction vs with
  | nil => intro _; exact .nil
  | cons v r ih =>
   intro al
   obtain ⟨n,u,rfl⟩:=al v List.mem_cons_self
   exact .cons n u (ih fun x hx => al x (List.mem_cons_of_mem _ hx))
 refine hQ L (L.map strOf) h' d' tk' (allI L fun v hv => ?_) ?_ (fun b u q => ?_) (Nat.le_of_lt (Heap.lt_size hS'))
 ·obtain ⟨e,he,rfl⟩:=List.mem_map.mp (pL.mem_iff.mp hv)
  exact hi e he
 ·refine (pL.map _).trans ?_
  rw [List.map_map]
  exact hp
 ·have hbn : b ≠ s.heap.objs.size:=Nat.ne_of_lt (Heap.lt_size q)
  refine hm.heap b u ?_ (oth b u hbn (keep b u (Heap.get?_push_of_some _ q)))
  simp only [List.mem_cons,List.not_mem_nil,or_false,not_or]
  refine ⟨hbn,Nat.ne_of_lt (Nat.lt_of_lt_of_le (Heap.lt_size q) ?_)⟩
  rw [Heap.size_push] at hI1
  exact Nat.le_trans (Nat.le_succ _) hI1
theorem pk {Q : Value -> Shared -> Prop} (hh : A.handled = none) (hS : SetWS P w s.heap S ns) (h64 : ns.length < 64)
  (h : ∀ (l : Addr) (out : List Value) (ms : List Str) (e : Nat) (h' : Heap) (d' : Drawn) (tk : Nat),StrsAre out ms -> ms.Perm ns -> ms.Pairwise leS -> s.heap.objs.size <= l -> h'.get? l = some (seqObj "list" out.toArray e) -> (∀ b u,s.heap.get? b = some u -> h'.get? b = some u) ->
   Q (.ref l) { s with heap:=h',drawn:=d',toks:=tk }) : wpAny (model P w) A (call (.builtin "sorted") [.ref S]) Q E s:=by
 refine Calls.call_function_entry kind_sorted plain_sorted entry_sorted (args_sorted1 _) ?_
 unfold Builtin.«sorted»
 refine wpAny_bind (m:=checkCount "sorted" 1 1 _) (wpAny_pure ?_)
 refine wpAny_bind (nO (by simp [hh]) hS fun vs ms h1 d1 tk1 hI hp keep hsz1 => ?_)
 have l64 : vs.length < 64:=by
  have e1 : vs.length = ms.length:=(StrsAre.lengthS hI)
  have e2:=hp.length_eq
  omega
 refine wpAny_bind (wpAny_newList (hsz:=Nat.le_trans (Nat.le_of_lt l64) (by decide)) ?_)
 have hoL : (h1.push (seqObj "list" vs.toArray 0)).get? h1.objs.size = some (seqObj "list" vs.toArray 0):=Heap.get?_push_size _ rfl
 refine wpAny_bind (wpAny_holding (wpAny_call_entry slot_list_sort ⟨_,hoL,rfl⟩ entry_list_sort (gr hoL hI l64 fun out ns' a1 a2 a3 => ⟨_,rfl,?_⟩) (args_list_sort _)))
 obtain ⟨e,he⟩:=sortedHeap_at (vs:=vs) (out:=out) hoL
 refine wpAny_pure ⟨_,rfl,?_⟩
 refine h h1.objs.size out.toList ns' e _ d1 tk1 a1 (a2.trans hp) a3 ?_ (by simpa using he) fun b u q => ?_
 ·exact hsz1
 ·have q1:=keep b u q
  have lt:=Heap.lt_size q1
  rw [sortedHeap_old (Nat.ne_of_lt lt) (by rw [Heap.size_push]; exact Nat.lt_succ_of_lt lt)]
  exact Heap.get?_push_of_some _ q1
end
end L2
set_option Elab.async false
set_option linter.all false
set_option maxRecDepth 100000
set_option maxHeartbeats 4000000
namespace L2
open PySem PySem.Spec PyProof.Rows
abbrev dc (P : Program) (w : World) (S : Addr) (ns : List Str) : HO:=.ext fun h => SetWS P w h S ns
def bS (ns : List Str) : List Str:=ns.foldl step_dedup []
theorem gM (ns : List Str) : aY (fun i => ns.getD i Str.empty) ns.length = bS ns:=by
 unfold aY bS
 congr 1
 refine List.ext_getElem (by simp) fun i h1 h2 => ?_
 simp [List.getD,h2]
theorem mi {s : List Str} {v k : Str} : k ∈ step_dedup s v ↔ k ∈ s \/ k = v:=by
 unfold step_dedup
 split
 ·rename_i h
  have hv : v ∈ s:=by simpa using h
  exact ⟨.inl,fun z => z.elim id fun e => e ▸ hv⟩
 ·simp
theorem jI {s : List Str} {v : Str} (h : s.Nodup) : (step_dedup s v).Nodup:=by
 unfold step_dedup
 split
 ·exact h
 ·rename_i c
  have hv : v ∉ s:=by simpa using c
  exact List.nodup_append.mpr ⟨h,by simp,fun a ha b hb e => hv (by rw [<- List.mem_singleton.mp hb,<- e]; exact ha)⟩
theorem fG : ∀ (ns s : List Str) (k : Str),k ∈ ns.foldl step_dedup s ↔ k ∈ s \/ k ∈ ns
 | [],s,k => by simp
 | n :: r,s,k => by
  rw [List.foldl_cons,fG r,mi,List.mem_cons]
  constructor
  ·rintro ((h | h) | h)
   ·exact .inl h
   ·exact .inr (.inl h)
   ·exact .inr (.inr h)
  ·rintro (h | h | h)
   ·exact .inl (.inl h)
   ·exact .inl (.inr h)
   ·exact .inr h
theorem once_memS {ns : List Str} {k : Str} : k ∈ bS ns ↔ k ∈ ns:=by
 unfold bS
 rw [fG]
 simp
theorem eF : ∀ (ns s : List Str),s.Nodup -> (ns.foldl step_dedup s).Nodup
 | [],s,h => h
 | n :: r,s,h => eF r _ (jI h)
theorem lO (ns : List Str) : (bS ns).Nodup:=eF ns [] List.Pairwise.nil
theorem fF : ∀ (ns s : List Str),(ns.foldl step_dedup s).length <= s.length + ns.length
 | [],s => Nat.le_refl _
 | n :: r,s => by
  refine Nat.le_trans (fF r _) ?_
  have : (step_dedup s n).length <= s.length + 1:=by
   unfold step_dedup
   split
   ·exact Nat.le_succ _
   ·rw [List.length_append]; exact Nat.le_refl _
  rw [List.length_cons]
  omega
theorem cZ (ns : List Str) : (bS ns).length <= ns.length:=by
 have q:=fF ns []
 unfold bS
 simpa using q
section
variable {X : Cx}
theorem cw (hc : X.calm = true) : cE X (.type "set") (fun xs H Q => ∃ (a : Addr) (ns : List Str),xs = [.ref a] /\ H a = some (.lst (ns.map V.str)) /\ ns.length < 4000 /\ ∀ S,H S = none -> Q (.ref S) (upd H S (dc X.prog X.w S (bS ns)))):=by
 intro pins s σ H xs us Q I r h
 obtain ⟨a,ns,rfl,ha,hz,q⟩:=h
 obtain ⟨u,rfl,rx⟩:=vals1 r
 cases rx
 obtain ⟨_,its,n,rv,hl,e⟩:=I.lstM ha
 have hln : its.length = ns.length:=by rw [<- hl,List.length_map]
 refine md (I.ok.hd hc) ⟨_,e,rfl,n,rfl⟩ (ns:=ns) (by simpa using g6 rv) (by simp only [List.size_toArray]; unfold scanBound; omega) fun h' tk hS keep => ?_
 have k2 : ∀ b o,s.heap.get? b = some o -> h'.get? b = some o:=fun b o z => keep b o (Heap.lt_size z) z
 have hS' : SetWS X.prog X.w h' s.heap.objs.size (bS ns):=by
  simp only [List.size_toArray] at hS
  rw [hln,gM] at hS
  exact hS
 refine ⟨.ref s.heap.objs.size,_,I.laid (o:=dc X.prog X.w s.heap.objs.size (bS ns)) (t' := tk) k2 (Nat.le_refl _) (show SetWS X.prog X.w h' s.heap.objs.size (bS ns) /\ (∃ o,h'.get? s.heap.objs.size = some o) /\ ∀ h1 h2 : Heap,SetWS X.prog X.w h1 s.heap.objs.size (bS ns) -> (∀ o,h1.get? s.heap.objs.size = some o -> h2.get? s.heap.objs.size = some o) -> SetWS X.prog X.w h2 s.heap.objs.size (bS ns) from ⟨hS',?_,fun h1 h2 p kp => p.keep kp⟩),rfl,q _ (I.hok.fresh (Nat.le_refl _))⟩
 obtain ⟨o,es,ep,t,ho,_⟩:=hS'
 exact ⟨o,ho⟩
theorem bE (hc : X.calm = true) : cE X (.builtin "sorted") (fun xs H Q => ∃ (S : Addr) (ns : List Str),xs = [.ref S] /\ H S = some (dc X.prog X.w S ns) /\ ns.length < 64 /\
  ∀ (l : Addr) (ms : List Str),H l = none -> ms.Perm ns -> ms.Pairwise leS -> Q (.ref l) (upd H l (.lst (ms.map V.str)))):=by
 intro pins s σ H xs us Q I r h
 obtain ⟨S,ns,rfl,hS,h64,q⟩:=h
 obtain ⟨u,rfl,rx⟩:=vals1 r
 cases rx
 obtain ⟨p,_,_⟩:=(show ObjOk X.prog X.w H s.heap S (dc X.prog X.w S ns) from I.hok S _ hS)
 refine pk (I.ok.hd hc) p h64 fun l out ms e h' d' tk hI hp hs hle hg keep => ?_
 have I1 : Inv X pins σ (upd H l (.lst (ms.map V.str))) { s with heap:=h',toks:=tk }:=I.laid (t' := tk) keep hle ⟨by
  rw [List.length_map,hp.length_eq]
  exact Nat.le_trans (Nat.le_of_lt h64) (by decide),out,e,l7 hI,hg⟩
 exact ⟨.ref l,_,⟨I1.ok,I1.os,I1.bare,I1.base,I1.loc,I1.cell,I1.free,I1.freeC,I1.pin,I1.hok,I1.len⟩,rfl,q l ms (I.hok.fresh hle) hp hs⟩
end
end L2
set_option Elab.async false
set_option linter.all false
set_option maxRecDepth 100000
set_option maxHeartbeats 8000000
namespace My
open PySem L2
abbrev LL:=List (List Int)
abbrev LI:=List Int
abbrev OV:=Option V
theorem gi_ {α : Type} {l : List α} {i : Nat} {a : α} (h : l[i]? = some a) : ∃ h : i < l.length,l[i] = a:=List.getElem?_eq_some_iff.mp h
theorem mq_ {α : Type} {l : List α} {i : Nat} {a : α} (h : l[i]? = some a) : a ∈ l:=List.mem_of_getElem? h
theorem ma_ {α : Type} {a : α} {s t : List α} : a ∈ s ++ t ↔ a ∈ s \/ a ∈ t:=List.mem_append
theorem lm_ {α β : Type} {f : α -> β} {l : List α} : (l.map f).length = l.length:=List.length_map f
theorem qT_ {K : PySem.W.Frag} {H : Hp} {a : Addr} {xs : List V} (h : H a = some (.tup xs)) : SqT K H a xs:=SqT.of h
theorem qL_ {K : PySem.W.Frag} {H : Hp} {a : Addr} {xs : List V} (h : H a = some (.lst xs)) : SqL K H a xs:=SqL.of h
def top (i : Nat) : Stmt:=PySem.Challenge.pw_figuretell_k52_shown.main.body.getD i (.Pass ⟨0,0,0,0⟩)
abbrev dI : Stmt:=top 3
abbrev bq : Stmt:=top 4
abbrev bA : Stmt:=top 5
abbrev bD : Stmt:=top 6
abbrev bK : Stmt:=top 8
abbrev bN : Stmt:=top 9
abbrev bL : Stmt:=top 10
abbrev b4 : Stmt:=top 11
abbrev b6 : Stmt:=top 12
abbrev bC : Stmt:=top 13
abbrev a7 : Stmt:=top 14
abbrev b8 : Stmt:=top 15
abbrev bc : Stmt:=top 16
abbrev bB : Stmt:=top 17
abbrev bM : Stmt:=top 18
abbrev fM : Stmt:=top 19
theorem pS {c A B : Prop} [Decidable c] (h1 : c -> A) (h2 : ¬ c -> B) : if decide c = true then A else B:=k7 (fun h => h1 (of_decide_eq_true h)) fun h => h2 fun z => h (decide_eq_true z)
theorem q9 {c A B : Prop} [Decidable c] (h1 : ¬ c -> A) (h2 : c -> B) : if (!decide c) = true then A else B:=k7 (fun h => h1 fun z => by rw [decide_eq_true z] at h; cases h) fun h => h2 (Decidable.byContradiction fun z => h (by rw [decide_eq_false z]; rfl))
theorem ml {a b : Int} {A B : Prop} (h1 : a = b -> A) (h2 : a ≠ b -> B) : if decide (V.int a = V.int b) = true then A else B:=pS (fun h => h1 (V.int.inj h)) fun h => h2 fun z => h (congrArg V.int z)
theorem bh {a b : Int} (h : 0 < b) : 0 <= a % b /\ a % b < b:=⟨Int.emod_nonneg a (by omega),Int.emod_lt_of_pos a h⟩
theorem cX {t u : TS} {D : Ends} {σ : St} {H : Hp} (R : St -> Hp -> Prop) (h1 : ∀ σ' H',R σ' H' -> u D σ' H') (h2 : ∀ D' : Ends,(∀ σ' H',R σ' H' -> D'.nx σ' H') -> t D' σ H) : qg t u D σ H:=h2 { D with nx:=u D } h1
theorem aU {H H' : Hp} {p : Addr} {o : HO} (h : Same H H') (hp : H p = none) : Same H (upd H' p o):=fun b u e => by rw [ar (au e hp)]; exact h b u e
theorem qF {x : Int} (h : 0 <= x) : ∃ n : Nat,x = (n : Int):=⟨x.toNat,by omega⟩
theorem getD_at {α : Type} {xs : List α} {i : Nat} {d : α} (h : i < xs.length) : xs.getD i d = xs[i]:=by simp [h]
theorem fq {ns : LI} {k : Int} (h0 : 0 <= k) (h : k < (ns.length : Int)) : atI (ns.map V.int) k = some (.int (ns.getD k.toNat 0)):=by
 have hk : k.toNat < ns.length:=by omega
 have ek : k = ((k.toNat : Nat) : Int):=by omega
 have q : atI (ns.map V.int) ((k.toNat : Nat) : Int) = some (.int ns[k.toNat]):=mS (by rw [List.getElem?_map,List.getElem?_eq_getElem hk] <;> rfl)
 rw [<- ek] at q
 rw [q,getD_at hk]
abbrev Prt:=Int × Str
inductive Stt where
 | cmp (k : Str) (a b : List Prt)
 | sg (r : Str) (a : List Prt) (s : Int)
 | lk (r : Str) (a : List Prt) (q : Str) (b : List Prt)
 | no (s : Stt)
 | jn (k : Str) (s t : Stt)
 | ch (k n : Str) (s : Stt)
def eI (i : Int) : Str:=Str.ofString (toString i)
def aS (p : Prt) : Str:=if p.2 = ("" : Str) then eI p.1 else if p.1 = 1 then p.2 else eI p.1 ++ ("*" : Str) ++ p.2
def cV (ps : List Prt) : Str:=Txt.join (" + " : Str) (ps.map aS)
def cC (r : Str) (a : List Prt) : Str:=r ++ ("[" : Str) ++ cV a ++ ("]" : Str)
def aw : Stt -> Str
 | .cmp k a b => cV a ++ ((" " : Str) ++ k ++ (" " : Str)) ++ cV b
 | .sg r a s => cC r a ++ (" = " : Str) ++ eI s
 | .lk r a q b => cC r a ++ (" = " : Str) ++ cC q b
 | .no s => ("not " : Str) ++ aw s
 | .jn k s t => ("(" : Str) ++ aw s ++ ((" " : Str) ++ k ++ (" " : Str)) ++ aw t ++ (")" : Str)
 | .ch k n s => (k ++ (" " : Str) ++ n ++ (": " : Str)) ++ aw s
def aH : Stt -> Nat
 | .cmp .. => 0
 | .sg .. => 0
 | .lk .. => 0
 | .no s => 1 + aH s
 | .jn _ s t => 1 + max (aH s) (aH t)
 | .ch _ _ s => 1 + aH s
def fk (ps : List Prt) : Prop:=ps.length <= 20 /\ ∀ p ∈ ps,(0 <= p.1 /\ p.1 < 10000000) /\ p.2.length <= 20
def Wf : Stt -> Prop
 | .cmp k a b => (k = ("=" : Str) \/ k = ("<=" : Str) \/ k = ("<" : Str)) /\ fk a /\ fk b
 | .sg r a s => r.length <= 20 /\ fk a /\ 0 <= s /\ s < 10000000
 | .lk r a q b => r.length <= 20 /\ fk a /\ q.length <= 20 /\ fk b
 | .no s => Wf s
 | .jn k s t => (k = ("and" : Str) \/ k = ("or" : Str)) /\ Wf s /\ Wf t
 | .ch k n s => (k = ("some" : Str) \/ k = ("all" : Str)) /\ n.length <= 20 /\ Wf s
def ji (H : Hp) (a : Addr) (p : Prt) : Prop:=H a = some (.tup [.int p.1,.str p.2])
def SumAt (H : Hp) (v : V) (ps : List Prt) : Prop := ∃ (a : Addr) (as : List Addr),v = .ref a /\ H a = some (.tup (as.map V.ref)) /\ Paired (ji H) as ps
def StAt (H : Hp) : V -> Stt -> Prop
 | v,.cmp k a b => ∃ (x : Addr) (va vb : V),v = .ref x /\ H x = some (.tup [.str k,va,vb]) /\ SumAt H va a /\ SumAt H vb b
 | v,.sg r a s => ∃ (x : Addr) (va : V),v = .ref x /\ H x = some (.tup [.str "is",.str r,va,.int s]) /\ SumAt H va a
 | v,.lk r a q b => ∃ (x : Addr) (va vb : V),v = .ref x /\ H x = some (.tup [.str "like",.str r,va,.str q,vb]) /\ SumAt H va a /\ SumAt H vb b
 | v,.no s => ∃ (x : Addr) (vs : V),v = .ref x /\ H x = some (.tup [.str "not",vs]) /\ StAt H vs s
 | v,.jn k s t => ∃ (x : Addr) (vs vt : V),v = .ref x /\ H x = some (.tup [.str k,vs,vt]) /\ StAt H vs s /\ StAt H vt t
 | v,.ch k n s => ∃ (x : Addr) (vs : V),v = .ref x /\ H x = some (.tup [.str k,.str n,vs]) /\ StAt H vs s
abbrev gz (H H' : Hp) : Prop := ∀ (b : Addr) (xs : List V),H b = some (.tup xs) -> H' b = some (.tup xs)
theorem tkS {H H' : Hp} (s : Same H H') : gz H H' := fun b xs e => s _ _ e
theorem SumAt.same {H H' : Hp} {v : V} {ps : List Prt} (h : SumAt H v ps) (s : gz H H') : SumAt H' v ps:=by
 obtain ⟨a,as,e,h1,h2⟩:=h
 exact ⟨a,as,e,s _ _ h1,Paired.mapP h2 fun _ _ q => s _ _ q⟩
theorem StAt.same {H H' : Hp} (s : gz H H') : ∀ {st : Stt} {v : V},StAt H v st -> StAt H' v st
 | .cmp k a b,v,⟨x,va,vb,e,h,h1,h2⟩ => ⟨x,va,vb,e,s _ _ h,h1.same s,h2.same s⟩
 | .sg r a n,v,⟨x,va,e,h,h1⟩ => ⟨x,va,e,s _ _ h,h1.same s⟩
 | .lk r a q b,v,⟨x,va,vb,e,h,h1,h2⟩ => ⟨x,va,vb,e,s _ _ h,h1.same s,h2.same s⟩
 | .no t,v,⟨x,vs,e,h,h1⟩ => ⟨x,vs,e,s _ _ h,StAt.same s h1⟩
 | .jn k t u,v,⟨x,vs,vt,e,h,h1,h2⟩ => ⟨x,vs,vt,e,s _ _ h,StAt.same s h1,StAt.same s h2⟩
 | .ch k n t,v,⟨x,vs,e,h,h1⟩ => ⟨x,vs,e,s _ _ h,StAt.same s h1⟩
theorem len_app (a b : Str) : (a ++ b).length = a.length + b.length:=strLen_append a b
theorem cY {i : Int} (h0 : 0 <= i) (h1 : i < 10000000) : (eI i).length <= 20 /\ i.natAbs.log2 < 1920:=by
 have hn : i.natAbs < 10 ^ 8:=by omega
 constructor
 ·have q:=int_text_length_le10 (a:=i) (k:=8) (by decide) hn
  unfold eI
  rw [ofString_length]
  omega
 ·rcases Nat.eq_zero_or_pos i.natAbs with z | z
  ·rw [z]; decide
  ·exact (Nat.log2_lt (by omega)).mpr (Nat.lt_trans hn (by decide))
theorem i8 {p : Prt} (h : (0 <= p.1 /\ p.1 < 10000000) /\ p.2.length <= 20) : (aS p).length <= 41:=by
 have n:=(cY h.1.1 h.1.2).1
 unfold aS
 split
 ·omega
 ·split
  ·omega
  ·rw [len_app,len_app]
   have : (("*" : Str)).length = 1:=by decide
   omega
theorem mK {B : Nat} : ∀ (xs : List Nat),(∀ x ∈ xs,x <= B) -> xs.sum <= xs.length * B
 | [],_ => Nat.zero_le _
 | x :: r,h => by
  have h1:=h x List.mem_cons_self
  have h2:=mK r fun y hy => h y (List.mem_cons_of_mem _ hy)
  rw [List.sum_cons,List.length_cons,Nat.succ_mul]
  omega
theorem i9 {ps : List Prt} (h : fk ps) : ((ps.map aS).map (·.length)).sum + (ps.map aS).length * ((" + " : Str)).length <= 16777216:=by
 have l:=mK (B:=41) ((ps.map aS).map (·.length)) fun x hx => by
  obtain ⟨y,hy,rfl⟩:=List.mem_map.mp hx
  obtain ⟨p,hp,rfl⟩:=List.mem_map.mp hy
  exact i8 (h.2 p hp)
 have e : ((" + " : Str)).length = 3:=by decide
 rw [lm_,lm_] at l
 rw [e,lm_]
 have:=h.1
 omega
end My
set_option Elab.async false
set_option linter.all false
set_option maxRecDepth 100000
set_option maxHeartbeats 8000000
namespace My
open PySem L2
def mH : Sp:=fun vs H Q _ => ∃ (a : Addr) (p : Prt),vs = [.ref a] /\ ji H a p /\ ((0 <= p.1 /\ p.1 < 10000000) /\ p.2.length <= 20) /\ Q (.str (aS p)) H
def l5 : Sp:=fun vs H Q _ => ∃ (v : V) (ps : List Prt),vs = [v] /\ SumAt H v ps /\ fk ps /\ ∀ H',Same H H' -> Q (.str (cV ps)) H'
def gD : Sp:=fun vs H Q _ => ∃ (r : Str) (v : V) (ps : List Prt),vs = [.str r,v] /\ SumAt H v ps /\ fk ps /\ (cC r ps).length <= 1000000 /\ ∀ H',Same H H' -> Q (.str (cC r ps)) H'
def gF (k : Nat) : Sp:=fun vs H Q _ => ∃ (v : V) (st : Stt),vs = [v] /\ StAt H v st /\ Wf st /\ aH st <= k /\ (aw st).length <= 1000000 /\ ∀ H',Same H H' -> Q (.str (aw st)) H'
theorem V_str {a b : Str} : (V.str a = V.str b) ↔ a = b:=⟨fun h => V.str.inj h,fun h => by rw [h]⟩
theorem nt {R : Addr -> Prt -> Prop} : ∀ {as : List Addr} {ps : List Prt} {i : Nat} {y : V},Paired R as ps -> (as.map V.ref)[i]? = some y -> ∃ (a : Addr) (p : Prt),y = .ref a /\ R a p /\ ps[i]? = some p
 | _,_,_,_,.nil,h => by simp at h
 | _,_,0,_,.cons (a:=a) (b:=p) r _,h => ⟨a,p,(Option.some.inj h).symm,r,rfl⟩
 | _,_,i + 1,_,.cons _ t,h => by
  obtain ⟨a,p,e,r,q⟩:=nt (i:=i) t (by simpa using h)
  exact ⟨a,p,e,r,by simpa using q⟩
section
variable {P : Program} {w : World} {K : PySem.W.Frag} {mg : Str -> Option Value} {base : Heap} {f : Addr} {fd : FuncData} {dV : Value} {TC TJ : Addr}
theorem sc_shown_part : FnScope ["part","number","name"] ["part"] (ao bD):=⟨rfl,rfl,rfl,by decide +kernel,rfl,by decide +kernel,by decide +kernel⟩
theorem kv : FnScope ["added"] ["added"] (ao bA):=⟨rfl,rfl,rfl,by decide +kernel,rfl,by decide +kernel,by decide +kernel⟩
theorem bk_shown_sum_0 : BlkScope ["added"] (ao bA) ["part"] [none] { kind:=ScopeKind.function,names:=[(".0",NameKind.local),("part",NameKind.local),("shown_part",NameKind.globalImplicit)],isGenerator:=false,isCoroutine:=false,more:=[] }:=⟨rfl,by decide +kernel,by decide +kernel,by decide +kernel,by decide +kernel,rfl,by decide +kernel⟩
theorem gZ : FnScope ["row_name","added"] ["row_name","added"] (ao bq):=⟨rfl,rfl,rfl,by decide +kernel,rfl,by decide +kernel,by decide +kernel⟩
theorem sc_shown : FnScope ["statement","kind","name"] ["statement"] (ao dI):=⟨rfl,rfl,rfl,by decide +kernel,rfl,by decide +kernel,by decide +kernel⟩
theorem p1 (F : FunD K "shown_part" "shown_part" bD dV f fd) (bO : mg "str" = none) : FnOk P w K mg base CX0 1 f fd ["part"] mH:=by
 refine F.ok sc_shown_part (fun vs H Q E h => ?_) (fun cdv A outer s H vs Q E hr h => ?_)
 ·obtain ⟨a,p,rfl,_⟩:=h
  rfl
 obtain ⟨a,p,rfl,ha,ok,q⟩:=h
 have ha' : H a = some (.tup [.int p.1,.str p.2]):=ha
 have nl:=cY ok.1.1 ok.1.2
 refine ⟨_,(az (ay (i:=1) sc_shown_part.nd rfl (Or.inl rfl) (aG bx (pv 0) ae (fun _ _ => rfl)))
   (az (ay (i:=2) sc_shown_part.nd rfl (Or.inl rfl) (aG bx (pv 0) ae (fun _ _ => rfl)))
   (az (cM (aB cA (pv 2) av (aL _)) (aA (br (a9 bQ (by rfl) bO fS (aa (pv 1) af)))) bG)
   (aA (br (o4 (aB cA (pv 1) ae (aL _)) (pv 2) (fI (bo (fW (pv 1)) (bo fj (bo (fW (pv 2)) gA)))))))))),?_⟩
 refine ⟨_,rfl,a,_,_,_,rfl,rfl,qT_ ha',rfl,?_⟩
 refine ⟨_,rfl,a,_,_,_,rfl,rfl,qT_ ha',rfl,?_⟩
 try dsimp only [aC,aJ,List.set]
 refine ⟨_,rfl,rfl,_,rfl,pS (fun c => ?_) (fun c => ?_)⟩
 ·have c' : p.2 = ("" : Str):=V_str.mp c
  unfold aS at q
  rw [if_pos c'] at q
  exact ⟨_,rfl,_,rfl,nl.2,q⟩
 ·have c' : ¬ p.2 = ("" : Str):=fun z => c (V_str.mpr z)
  unfold aS at q
  rw [if_neg c'] at q
  refine ⟨_,rfl,rfl,_,rfl,ml (fun c1 => ?_) (fun c1 => ?_)⟩
  ·rw [if_pos c1] at q
   exact ⟨_,rfl,q⟩
  ·rw [if_neg c1] at q
   refine ⟨_,rfl,.inr ⟨_,rfl,nl.2,Nat.le_trans nl.1 (by decide),?_⟩⟩
   refine ⟨_,rfl,.inl ⟨_,rfl,Nat.le_trans ok.2 (by decide),?_⟩⟩
   show Q (.str (Str.empty ++ eI p.1 ++ ("*" : Str) ++ p.2)) H
   rw [eG]
   exact q
theorem qK (F : FunD K "shown_sum" "shown_sum" bA dV f fd) (da : DefOk P w K mg base "shown_part" 1 ["part"] [] mH) : FnOk P w K mg base CX0 2 f fd ["added"] l5:=by
 refine F.ok kv (fun vs H Q E h => ?_) (fun cdv A outer s H vs Q E hr h => ?_)
 ·obtain ⟨v,ps,rfl,_⟩:=h
  rfl
 obtain ⟨v,ps,rfl,⟨a,as,rfl,ha,hA⟩,ok,q⟩:=h
 have las : as.length = ps.length:=Paired.length hA
 refine ⟨_,(aA (br (cL PySem.F.plainAttrs_str PySem.F.slot_str_join PySem.F.type_str_join nh av (aa (kb rfl bk_shown_sum_0 (qN (pv 0)) (fun _ _ _ _ => (aP (i:=0) bk_shown_sum_0.nd rfl (Or.inl rfl))) (fun _ _ _ _ => (aK da hr (aa (pv 0) af)))) af)))),?_⟩
 refine ⟨rfl,_,rfl,a,rfl,⟨_,qT_ ha⟩,?_⟩
 refine ov (K:=K) (xs:=as.map V.ref) (fun D i ys H' => Same H H' /\ ys = ((ps.take i).map aS).map V.str) (fun D hD => ⟨ak hD _,rfl⟩) (fun D i ys H' _ ⟨e,_⟩ => qT_ (e _ _ ha)) ?_ ?_
 ·rintro D i y ys H2 Q' hD hi hy ⟨s2,rfl⟩ k'
  obtain ⟨b,p,rfl,hb,hp⟩:=nt hA hi
  have il:=(gi_ hp).1
  have okl:=ok.1
  refine ⟨_,rfl,b,p,rfl,s2 _ _ hb,ok.2 p (mq_ hp),k' _ _ hy (c5 (by rw [lm_,lm_,List.length_take]; omega)) ⟨aU s2 hD,?_⟩⟩
  rw [List.take_add_one,hp,List.map_append,List.map_append]
  rfl
 ·rintro L ys H2 hL hy ⟨s2,rfl⟩
  rw [lm_,las,List.take_length] at hy
  exact ⟨_,L,ps.map aS,rfl,rfl,hy,i9 ok,q _ s2⟩
theorem oZ (F : FunD K "shown_place" "shown_place" bq dV f fd) (aR : DefOk P w K mg base "shown_sum" 2 ["added"] [] l5) : FnOk P w K mg base CX0 3 f fd ["row_name","added"] gD:=by
 refine F.ok gZ (fun vs H Q E h => ?_) (fun cdv A outer s H vs Q E hr h => ?_)
 ·obtain ⟨r,v,ps,rfl,_⟩:=h
  rfl
 obtain ⟨r,v,ps,rfl,hs,ok,bd,q⟩:=h
 have bd' := bd
 unfold cC at bd'
 rw [len_app,len_app,len_app] at bd'
 have z : (1000000 : Nat) <= sizeLine:=by decide
 have l1 : (("[" : Str)).length = 1:=by decide
 have l2 : (("]" : Str)).length = 1:=by decide
 refine ⟨_,(aA (br (ag ah (ag ah (ag ah (pv 0) av) (aK aR hr (aa (pv 1) af))) av))),?_⟩
 refine ⟨_,rfl,_,_,rfl,rfl,by omega,_,rfl,v,ps,rfl,hs,ok,fun H' s' => ?_⟩
 refine ⟨_,_,rfl,rfl,by rw [len_app]; omega,_,_,rfl,rfl,by rw [len_app,len_app]; omega,q _ s'⟩
theorem ifT {b : Bool} {A B : Prop} (h : b = true) (a : A) : if b = true then A else B:=by rw [if_pos h]; exact a
theorem ifF {b : Bool} {A B : Prop} (h : b = false) (a : B) : if b = true then A else B:=by rw [if_neg (by rw [h]; decide)]; exact a
def gO : List V:=[.str "=",.str "<=",.str "<"]
def jQ : List V:=[.str "and",.str "or"]
def n9 (k : Nat) : Sp:=fun vs H Q _ => ∃ (v : V) (st : Stt),vs = [v] /\ StAt H v st /\ Wf st /\ aH st < k /\ (aw st).length <= 1000000 /\ ∀ H',Same H H' -> Q (.str (aw st)) H'
theorem lN {d : Nat} (F : FunD K "shown" "shown" dI dV f fd) (bw : mg "COMPARING" = some (.ref TC)) (bZ : mg "JOINING" = some (.ref TJ)) (sqC : ∀ H,SqT K H TC gO) (sqJ : ∀ H,SqT K H TJ jQ) (aR : DefOk P w K mg base "shown_sum" 2 ["added"] [] l5) (aQ : DefOk P w K mg base "shown_place" 3 ["row_name","added"] [] gD)
  (cF : DefOk P w K mg base "shown" (d + 3) ["statement"] [] (n9 d)) (bO : mg "str" = none) : FnOk P w K mg base CX0 (d + 4) f fd ["statement"] (gF d):=by
 refine F.ok sc_shown (fun vs H Q E h => ?_) (fun cdv A outer s H vs Q E hr h => ?_)
 ·obtain ⟨v,st,rfl,_⟩:=h
  rfl
 obtain ⟨v,st,rfl,hst,wf,dp,bd,q⟩:=h
 have z : (1000000 : Nat) <= sizeLine:=by decide
 refine ⟨_,(az (ay (i:=1) sc_shown.nd rfl (Or.inl rfl) (aG bx (pv 0) ae (fun _ _ => rfl)))
   (az (cM (aB fV (pv 1) (nv (v:=.ref _) rfl bw rfl) (by with_unfolding_all rfl)) (aA (br (ag ah (ag ah (aK aR hr (aa (aG bx (pv 0) ae (fun _ _ => rfl)) af) (hkj:=by omega)) (fI (bo fj (bo (fW (pv 1)) (bo fj gA))))) (aK aR hr (aa (aG bx (pv 0) ae (fun _ _ => rfl)) af) (hkj:=by omega))))) bG)
   (az (cM (aB cA (pv 1) av (aL _)) (aA (br (ag ah (ag ah (aK aQ hr (aa (aG bx (pv 0) ae (fun _ _ => rfl)) (aa (aG bx (pv 0) ae (fun _ _ => rfl)) af)) (hkj:=by omega)) av) (a9 bQ (by rfl) bO fS (aa (aG bx (pv 0) ae (fun _ _ => rfl)) af))))) bG)
   (az (cM (aB cA (pv 1) av (aL _)) (aA (br (ag ah (ag ah (aK aQ hr (aa (aG bx (pv 0) ae (fun _ _ => rfl)) (aa (aG bx (pv 0) ae (fun _ _ => rfl)) af)) (hkj:=by omega)) av) (aK aQ hr (aa (aG bx (pv 0) ae (fun _ _ => rfl)) (aa (aG bx (pv 0) ae (fun _ _ => rfl)) af)) (hkj:=by omega))))) bG)
   (az (cM (aB cA (pv 1) av (aL _)) (aA (br (ag ah av (aK cF hr (aa (aG bx (pv 0) ae (fun _ _ => rfl)) af) (hkj:=by omega))))) bG)
   (az (cM (aB fV (pv 1) (nv (v:=.ref _) rfl bZ rfl) (by with_unfolding_all rfl)) (aA (br (ag ah (ag ah (ag ah (ag ah av (aK cF hr (aa (aG bx (pv 0) ae (fun _ _ => rfl)) af) (hkj:=by omega))) (fI (bo fj (bo (fW (pv 1)) (bo fj gA))))) (aK cF hr (aa (aG bx (pv 0) ae (fun _ _ => rfl)) af) (hkj:=by omega))) av))) bG)
   (az (ay (i:=2) sc_shown.nd rfl (Or.inl rfl) (aG bx (pv 0) ae (fun _ _ => rfl)))
   (aA (br (ag ah (fI (bo (fW (pv 1)) (bo fj (bo (fW (pv 2)) (bo fj gA))))) (aK cF hr (aa (aG bx (pv 0) ae (fun _ _ => rfl)) af) (hkj:=by omega)))))))))))),?_⟩
 have sp1 : ((" " : Str)).length = 1:=by decide
 have sp3 : ((" = " : Str)).length = 3:=by decide
 cases st with
 | cmp k a b =>
  obtain ⟨x,va,vb,rfl,hx,ha,hb⟩:=hst
  obtain ⟨hk,oa,ob⟩:=wf
  have kl : k.length <= 1000 /\ inV (.str k) gO = true:=by rcases hk with rfl | rfl | rfl <;> decide +kernel
  have bd' := bd
  unfold aw at bd'
  rw [len_app,len_app] at bd'
  refine ⟨_,rfl,x,_,_,_,rfl,rfl,qT_ hx,rfl,?_⟩
  refine ⟨_,rfl,TC,_,rfl,.inr (sqC _),rfl,rfl,_,rfl,ifT kl.2 ?_⟩
  refine ⟨_,rfl,x,_,_,_,rfl,rfl,qT_ hx,rfl,va,a,rfl,ha,oa,fun H1 s1 => ?_⟩
  refine ⟨_,rfl,.inl ⟨_,rfl,kl.1,?_⟩⟩
  show ∃ i j,_
  rw [eG]
  refine ⟨_,_,rfl,rfl,by omega,?_⟩
  refine ⟨_,rfl,x,_,_,_,rfl,rfl,qT_ (s1 _ _ hx),rfl,vb,b,rfl,hb.same (tkS s1),ob,fun H2 s2 => ?_⟩
  exact ⟨_,_,rfl,rfl,by rw [len_app]; omega,q _ (s1.trans s2)⟩
 | sg r a n =>
  obtain ⟨x,va,rfl,hx,ha⟩:=hst
  obtain ⟨hr',oa,n0,n1⟩:=wf
  have bd' := bd
  unfold aw at bd'
  rw [len_app,len_app] at bd'
  refine ⟨_,rfl,x,_,_,_,rfl,rfl,qT_ hx,rfl,?_⟩
  refine ⟨_,rfl,TC,_,rfl,.inr (sqC _),rfl,rfl,_,rfl,ifF (by decide +kernel) ?_⟩
  refine ⟨_,rfl,rfl,_,rfl,ifT (decide_eq_true rfl) ?_⟩
  refine ⟨_,rfl,x,_,_,_,rfl,rfl,qT_ hx,rfl,_,rfl,x,_,_,_,rfl,rfl,qT_ hx,rfl,r,va,a,rfl,ha,oa,by omega,fun H1 s1 => ?_⟩
  exact ⟨_,_,rfl,rfl,by omega,_,rfl,x,_,_,_,rfl,rfl,qT_ (s1 _ _ hx),rfl,_,rfl,(cY n0 n1).2,_,_,rfl,rfl,by rw [len_app]; exact Nat.le_trans bd' z,q _ s1⟩
 | lk r a q' b =>
  obtain ⟨x,va,vb,rfl,hx,ha,hb⟩:=hst
  obtain ⟨hr',oa,hq',ob⟩:=wf
  have bd' := bd
  unfold aw at bd'
  rw [len_app,len_app] at bd'
  refine ⟨_,rfl,x,_,_,_,rfl,rfl,qT_ hx,rfl,?_⟩
  refine ⟨_,rfl,TC,_,rfl,.inr (sqC _),rfl,rfl,_,rfl,ifF (by decide +kernel) ?_⟩
  refine ⟨_,rfl,rfl,_,rfl,ifF (decide_eq_false fun z => absurd (V_str.mp z) (by decide +kernel)) ?_⟩
  refine ⟨_,rfl,rfl,_,rfl,ifT (decide_eq_true rfl) ?_⟩
  refine ⟨_,rfl,x,_,_,_,rfl,rfl,qT_ hx,rfl,_,rfl,x,_,_,_,rfl,rfl,qT_ hx,rfl,r,va,a,rfl,ha,oa,by omega,fun H1 s1 => ?_⟩
  refine ⟨_,_,rfl,rfl,by omega,_,rfl,x,_,_,_,rfl,rfl,qT_ (s1 _ _ hx),rfl,_,rfl,x,_,_,_,rfl,rfl,qT_ (s1 _ _ hx),rfl,q',vb,b,rfl,hb.same (tkS s1),ob,by omega,fun H2 s2 => ?_⟩
  exact ⟨_,_,rfl,rfl,by rw [len_app]; omega,q _ (s1.trans s2)⟩
 | no t =>
  obtain ⟨x,vs,rfl,hx,ht⟩:=hst
  have wt : Wf t:=wf
  have dt : 1 + aH t <= d:=dp
  have bd' := bd
  unfold aw at bd'
  rw [len_app] at bd'
  refine ⟨_,rfl,x,_,_,_,rfl,rfl,qT_ hx,rfl,?_⟩
  refine ⟨_,rfl,TC,_,rfl,.inr (sqC _),rfl,rfl,_,rfl,ifF (by decide +kernel) ?_⟩
  refine ⟨_,rfl,rfl,_,rfl,ifF (decide_eq_false fun z => absurd (V_str.mp z) (by decide +kernel)) ?_⟩
  refine ⟨_,rfl,rfl,_,rfl,ifF (decide_eq_false fun z => absurd (V_str.mp z) (by decide +kernel)) ?_⟩
  refine ⟨_,rfl,rfl,_,rfl,ifT (decide_eq_true rfl) ?_⟩
  refine ⟨_,rfl,x,_,_,_,rfl,rfl,qT_ hx,rfl,vs,t,rfl,ht,wt,by omega,by omega,fun H1 s1 => ?_⟩
  exact ⟨_,_,rfl,rfl,by omega,q _ s1⟩
 | jn k t u =>
  obtain ⟨x,vs,vt,rfl,hx,ht,hu⟩:=hst
  obtain ⟨hk,wt,wu⟩:=wf
  have dt : 1 + max (aH t) (aH u) <= d:=dp
  have kf : k.length <= 1000 /\ inV (.str k) gO = false /\ inV (.str k) jQ = true /\ decide (V.str k = V.str "is") = false /\ decide (V.str k = V.str "like") = false /\ decide (V.str k = V.str "not") = false:=by rcases hk with rfl | rfl <;> decide +kernel
  obtain ⟨k1,k2,k3,k4,k5,k6⟩:=kf
  have bd' := bd
  unfold aw at bd'
  rw [len_app,len_app,len_app,len_app] at bd'
  refine ⟨_,rfl,x,_,_,_,rfl,rfl,qT_ hx,rfl,?_⟩
  refine ⟨_,rfl,TC,_,rfl,.inr (sqC _),rfl,rfl,_,rfl,ifF k2 ?_⟩
  refine ⟨_,rfl,rfl,_,rfl,ifF k4 ?_⟩
  refine ⟨_,rfl,rfl,_,rfl,ifF k5 ?_⟩
  refine ⟨_,rfl,rfl,_,rfl,ifF k6 ?_⟩
  refine ⟨_,rfl,TJ,_,rfl,.inr (sqJ _),rfl,rfl,_,rfl,ifT k3 ?_⟩
  refine ⟨_,rfl,x,_,_,_,rfl,rfl,qT_ hx,rfl,vs,t,rfl,ht,wt,by omega,by omega,fun H1 s1 => ?_⟩
  refine ⟨_,_,rfl,rfl,by omega,?_⟩
  refine ⟨_,rfl,.inl ⟨_,rfl,k1,?_⟩⟩
  show ∃ i j,_
  rw [eG]
  refine ⟨_,_,rfl,rfl,by rw [len_app]; omega,?_⟩
  refine ⟨_,rfl,x,_,_,_,rfl,rfl,qT_ (s1 _ _ hx),rfl,vt,u,rfl,StAt.same (tkS s1) hu,wu,by omega,by omega,fun H2 s2 => ?_⟩
  exact ⟨_,_,rfl,rfl,by rw [len_app,len_app]; omega,_,_,rfl,rfl,by rw [len_app,len_app,len_app]; omega,q _ (s1.trans s2)⟩
 | ch k n t =>
  obtain ⟨x,vs,rfl,hx,ht⟩:=hst
  obtain ⟨hk,nl,wt⟩:=wf
  have dt : 1 + aH t <= d:=dp
  have kf : k.length <= 1000 /\ inV (.str k) gO = false /\ inV (.str k) jQ = false /\ decide (V.str k = V.str "is") = false /\ decide (V.str k = V.str "like") = false /\ decide (V.str k = V.str "not") = false:=by rcases hk with rfl | rfl <;> decide +kernel
  obtain ⟨k1,k2,k3,k4,k5,k6⟩:=kf
  have bd' := bd
  unfold aw at bd'
  rw [len_app] at bd'
  refine ⟨_,rfl,x,_,_,_,rfl,rfl,qT_ hx,rfl,?_⟩
  refine ⟨_,rfl,TC,_,rfl,.inr (sqC _),rfl,rfl,_,rfl,ifF k2 ?_⟩
  refine ⟨_,rfl,rfl,_,rfl,ifF k4 ?_⟩
  refine ⟨_,rfl,rfl,_,rfl,ifF k5 ?_⟩
  refine ⟨_,rfl,rfl,_,rfl,ifF k6 ?_⟩
  refine ⟨_,rfl,TJ,_,rfl,.inr (sqJ _),rfl,rfl,_,rfl,ifF k3 ?_⟩
  refine ⟨_,rfl,x,_,_,_,rfl,rfl,qT_ hx,rfl,?_⟩
  try dsimp only [aC,aJ,List.set]
  refine ⟨_,rfl,.inl ⟨_,rfl,k1,?_⟩⟩
  refine ⟨_,rfl,.inl ⟨_,rfl,Nat.le_trans nl (by decide),?_⟩⟩
  refine ⟨_,rfl,x,_,_,_,rfl,rfl,qT_ hx,rfl,vs,t,rfl,ht,wt,by omega,by omega,fun H1 s1 => ?_⟩
  exact ⟨_,_,rfl,rfl,by rw [eG]; omega,by rw [eG]; exact q _ s1⟩
end
theorem sc__law_draw : FnScope ["_law_script","_law_k","_law_cell"] ["_law_script","_law_k"] (ao bK):=⟨rfl,rfl,rfl,by decide +kernel,rfl,by decide +kernel,by decide +kernel⟩
def mW (ns : LI) (k : Int) : Int:=if (0 : Int) < (((ns.map V.int).length : Nat) : Int) then ns.getD (k % (((ns.map V.int).length : Nat) : Int)).toNat 0 % 2147483629 + k / (((ns.map V.int).length : Nat) : Int) * 7349 + 1 else 2 * k + 1
def ee (ns : LI) (k : Int) : Int:=((mW ns k * 48271 + k * k * 16807 + 3) % 2147483647) * ((mW ns k * 48271 + k * k * 16807 + 3) % 2147483647) % 2147483629
theorem cc (ns : LI) (k : Int) : 0 <= ee ns k /\ ee ns k < 2147483629:=⟨Int.emod_nonneg _ (by decide),Int.emod_lt_of_pos _ (by decide)⟩
def cO (K : PySem.W.Frag) : Sp:=fun vs H Q _ => ∃ (a : Addr) (k : Int) (ns : LI),vs = [.ref a,.int k] /\ SqL K H a (ns.map V.int) /\ ns.length <= 63 /\ 0 <= k /\ k < 2147483648 /\ Q (.int (ee ns k)) H
section
variable {P : Program} {w : World} {K : PySem.W.Frag} {mg : Str -> Option Value} {base : Heap} {f : Addr} {fd : FuncData} {dV : Value}
theorem oX (F : FunD K "_law_draw" "_law_draw" bK dV f fd) (cg : mg "len" = none) : FnOk P w K mg base CX0 1 f fd ["_law_script","_law_k"] (cO K):=by
 refine F.ok sc__law_draw (fun vs H Q E h => ?_) (fun cdv A outer s H vs Q E hr h => ?_)
 ·obtain ⟨a,k,ns,rfl,_⟩:=h
  rfl
 obtain ⟨a,k,ns,rfl,hS,h63,h0,h1,q⟩:=h
 have hl : (ns.map V.int).length = ns.length:=List.length_map _
 refine ⟨_,(az (ay (i:=2) sc__law_draw.nd rfl (Or.inl rfl) (ag a8 (ag fh ae (pv 1)) ae))
   (az (cM (aB o3 (aD ba (by rfl) cg cQ (aa (pv 0) af)) ae (aL _)) (aA (ay (i:=2) sc__law_draw.nd rfl (Or.inl rfl) (ag a8 (ag a8 (ag aF (aG aO (pv 0) (ag aF (pv 1) (aD ba (by rfl) cg cQ (aa (pv 0) af))) (fun _ _ => rfl)) ae) (ag fh (ag aW (pv 1) (aD ba (by rfl) cg cQ (aa (pv 0) af))) ae)) ae))) bG)
   (az (ay (i:=2) sc__law_draw.nd rfl (Or.inl rfl) (ag aF (ag a8 (ag a8 (ag fh (pv 2) ae) (ag fh (ag fh (pv 1) (pv 1)) ae)) ae) ae))
   (aA (br (ag aF (ag fh (pv 2) (pv 2)) ae)))))),?_⟩
 have hk : -(2 ^ 64) < k /\ k < 2 ^ 64:=⟨by omega,by omega⟩
 have hc : ∀ c : Int,-(2 ^ 64) < (c * 48271 + k * k * 16807 + 3) % 2147483647 /\ (c * 48271 + k * k * 16807 + 3) % 2147483647 < 2 ^ 64:=fun c => by
  have a1:=Int.emod_nonneg (c * 48271 + k * k * 16807 + 3) (show (2147483647 : Int) ≠ 0 by decide)
  have a2:=Int.emod_lt_of_pos (c * 48271 + k * k * 16807 + 3) (show (0 : Int) < 2147483647 by decide)
  exact ⟨by omega,by omega⟩
 refine ⟨_,rfl,_,_,rfl,rfl,.inl ⟨by decide,by decide⟩,_,_,rfl,rfl,?_⟩
 refine ⟨_,rfl,a,_,rfl,.inl hS,_,_,rfl,rfl,_,rfl,?_⟩
 refine k7 (fun c => ?_) (fun c => ?_)
 ·have c' : (0 : Int) < (((ns.map V.int).length : Nat) : Int):=of_decide_eq_true c
  rw [hl] at c'
  have c2 : (0 : Int) < (((ns.map V.int).length : Nat) : Int):=by rw [hl]; exact c'
  have c3 : (((ns.map V.int).length : Nat) : Int) < 1073741824:=by rw [hl]; omega
  have m0:=Int.emod_nonneg k (show (((ns.map V.int).length : Nat) : Int) ≠ 0 by omega)
  have m1:=Int.emod_lt_of_pos k c2
  refine ⟨_,rfl,_,rfl,_,rfl,a,_,rfl,.inl hS,_,_,rfl,rfl,c2,a,_,_,_,rfl,rfl,hS,fq m0 (by rw [hl] at m1; rw [hl]; exact m1),_,_,rfl,rfl,(by show (0 : Int) < 2147483629; decide),
   _,rfl,_,rfl,a,_,rfl,.inl hS,_,_,rfl,rfl,⟨c2,c3⟩,_,_,rfl,rfl,.inr ⟨by decide,by decide⟩,_,_,rfl,rfl,_,_,rfl,rfl,?_⟩
  refine ⟨_,rfl,_,_,rfl,rfl,.inr ⟨by decide,by decide⟩,_,rfl,_,rfl,_,_,rfl,rfl,.inl hk,_,_,rfl,rfl,.inr ⟨by decide,by decide⟩,_,_,rfl,rfl,_,_,rfl,rfl,_,_,rfl,rfl,(by show (0 : Int) < 2147483647; decide),?_⟩
  exact ⟨_,rfl,_,rfl,_,_,rfl,rfl,.inl (hc _),_,_,rfl,rfl,(by show (0 : Int) < 2147483629; decide),by unfold ee mW at q; rw [if_pos c2] at q; exact q⟩
 ·refine ⟨_,rfl,_,_,rfl,rfl,.inr ⟨by decide,by decide⟩,_,rfl,_,rfl,_,_,rfl,rfl,.inl hk,_,_,rfl,rfl,.inr ⟨by decide,by decide⟩,_,_,rfl,rfl,_,_,rfl,rfl,_,_,rfl,rfl,(by show (0 : Int) < 2147483647; decide),?_⟩
  exact ⟨_,rfl,_,rfl,_,_,rfl,rfl,.inl (hc _),_,_,rfl,rfl,(by show (0 : Int) < 2147483629; decide),by unfold ee mW at q; rw [if_neg (fun z => c (decide_eq_true z))] at q; exact q⟩
end
def ltr (L : Str) (i : Int) : Str:=⟨#[L.cps.toList.getD i.toNat 0]⟩
def bX (n : Int) (L : Str) : Str:=if n / 26 % 2 = 0 then ltr L (n / 52 % 3) else ltr L (n % 26)
def cN (n : Int) : Int:=1 + n / 156 % 6
def g9 (n : Int) : Int:=n / 936 % cN n
def fN (n : Int) (L : Str) : Str:=Txt.mul (bX n L) (g9 n) ++ ltr L (n / 5616 % 26) ++ Txt.mul (bX n L) (cN n - g9 n - 1)
def pQ : List V:=[.str "and",.str "or",.str "not",.str "some",.str "all"]
def fO (n : Int) (L : Str) : Str:=if inV (.str (fN n L)) pQ = true then fN n L ++ ("x" : Str) else fN n L
theorem i4 (c : Array Nat) : ∀ (n : Nat) (acc : Array Nat),((List.replicate n c).foldl (· ++ ·) acc).size = acc.size + n * c.size
 | 0,acc => by simp
 | n + 1,acc => by
  rw [List.replicate_succ,List.foldl_cons,i4 c n,Array.size_append,Nat.succ_mul]
  omega
theorem nj {x : Str} {k : Int} (h : x.length = 1) (h0 : 0 <= k) : (Txt.mul x k).length = k.toNat:=by
 unfold Txt.mul
 split
 ·have : k = 0:=by omega
  rw [this]
  rfl
 ·split
  ·rename_i c
   have : k = 1:=by
    rcases Bool.or_eq_true_iff.mp c with z | z
    ·exact beq_iff_eq.mp z
    ·rw [h] at z; cases z
   rw [this]
   exact h
  ·show (Array.size _) = _
   rw [i4]
   have e : x.cps.size = 1:=h
   rw [e]
   show 0 + k.toNat * 1 = _
   omega
theorem oP {x : Str} {k : Int} (h : x.length = 1) (h0 : 0 <= k) (h6 : k <= 6) : MulOk x k:=by
 unfold MulOk
 rw [h]
 have c : k = 0 \/ k = 1 \/ k = 2 \/ k = 3 \/ k = 4 \/ k = 5 \/ k = 6:=by omega
 rcases c with c | c | c | c | c | c | c
 ·subst c
  exact ⟨by decide,fun z => absurd (by decide) z,fun z => absurd (by decide) z⟩
 all_goals (subst c; refine ⟨by decide,fun _ _ => by decide,fun _ _ => by decide +kernel⟩)
theorem pW (L : Str) (i : Int) : (ltr L i).length = 1:=rfl
theorem fU (n : Int) (L : Str) : (bX n L).length = 1:=by
 unfold bX
 split <;> rfl
theorem pB {n : Int} (h : 0 <= n) : (1 <= cN n /\ cN n <= 6) /\ 0 <= g9 n /\ g9 n < cN n:=by
 have m:=bh (a:=n / 156) (b:=6) (by decide)
 have hs : 1 <= cN n /\ cN n <= 6:=by unfold cN; omega
 have m2:=bh (a:=n / 936) (b:=cN n) (by omega)
 exact ⟨hs,m2⟩
theorem jf {n : Int} (h : 0 <= n) (L : Str) : 1 <= (fN n L).length /\ (fN n L).length <= 6:=by
 obtain ⟨hs,w0,w1⟩:=pB h
 unfold fN
 rw [len_app,len_app,pW,nj (fU n L) w0,nj (fU n L) (by omega)]
 omega
theorem jg {n : Int} (h : 0 <= n) (L : Str) : 1 <= (fO n L).length /\ (fO n L).length <= 7:=by
 have:=jf h L
 unfold fO
 split
 ·rw [len_app]
  have : (("x" : Str)).length = 1:=by decide
  omega
 ·omega
def rd : Str := "abcdefghijklmnopqrstuvwxyz"
def rJ : Str := "ABCDEFGHIJKLMNOPQRSTUVWXYZ"
def nmF (ns : LI) (i : Int) : Str:=fO (ee ns (900 + i % 4)) rd
def rwF (ns : LI) (i : Int) : Str:=fO (ee ns (920 + i % 3)) rJ
def nm4 (ns : LI) : List Str:=[nmF ns 0,nmF ns 1,nmF ns 2,nmF ns 3]
def rw3 (ns : LI) : List Str:=[rwF ns 0,rwF ns 1,rwF ns 2]
theorem nq (ns : LI) (i : Int) : 1 <= (nmF ns i).length /\ (nmF ns i).length <= 7:=jg (cc _ _).1 _
theorem nz (ns : LI) (i : Int) : 1 <= (rwF ns i).length /\ (rwF ns i).length <= 7:=jg (cc _ _).1 _
theorem qG (ns : LI) (i : Int) : nmF ns i ∈ nm4 ns:=by
 have m:=bh (a:=i) (b:=4) (by decide)
 unfold nm4 nmF
 have c : i % 4 = 0 \/ i % 4 = 1 \/ i % 4 = 2 \/ i % 4 = 3:=by omega
 rcases c with c | c | c | c <;> rw [c] <;> simp
theorem pf (ns : LI) (i : Int) : rwF ns i ∈ rw3 ns:=by
 have m:=bh (a:=i) (b:=3) (by decide)
 unfold rw3 rwF
 have c : i % 3 = 0 \/ i % 3 = 1 \/ i % 3 = 2:=by omega
 rcases c with c | c | c <;> rw [c] <;> simp
theorem jv {L : Str} {i : Int} (h : L.length = 26) (h0 : 0 <= i) (h1 : i < 26) : ∃ c,atI L.cps.toList i = some c /\ ltr L i = ⟨#[c]⟩:=by
 have l : L.cps.toList.length = 26:=by rw [Array.length_toList]; exact h
 have hi : i.toNat < L.cps.toList.length:=by omega
 refine ⟨L.cps.toList[i.toNat],?_,?_⟩
 ·have:=mS (List.getElem?_eq_getElem hi)
  rw [Int.toNat_of_nonneg h0] at this
  exact this
 ·unfold ltr
  rw [getD_at hi]
def kG : Sp:=fun vs H Q _ => ∃ (n : Int) (L : Str),vs = [.int n,.str L] /\ 0 <= n /\ L.length = 26 /\ ∀ H',Same H H' -> Q (.str (fO n L)) H'
def kF (K : PySem.W.Frag) : Sp:=fun vs H Q _ => ∃ (a : Addr) (i : Int) (ns : LI),vs = [.ref a,.int i] /\ SqL K H a (ns.map V.int) /\ ns.length <= 63 /\ ∀ H',Same H H' -> Q (.str (nmF ns i)) H'
def mI (K : PySem.W.Frag) : Sp:=fun vs H Q _ => ∃ (a : Addr) (i : Int) (ns : LI),vs = [.ref a,.int i] /\ SqL K H a (ns.map V.int) /\ ns.length <= 63 /\ ∀ H',Same H H' -> Q (.str (rwF ns i)) H'
section
variable {P : Program} {w : World} {K : PySem.W.Frag} {mg : Str -> Option Value} {base : Heap} {f : Addr} {fd : FuncData} {dV : Value}
theorem sc__law_word : FnScope ["_law_number","_law_letters","_law_first","_law_size","_law_at","_law_found"] ["_law_number","_law_letters"] (ao bN):=⟨rfl,rfl,rfl,by decide +kernel,rfl,by decide +kernel,by decide +kernel⟩
theorem ku : FnScope ["_law_script","_law_number"] ["_law_script","_law_number"] (ao bL):=⟨rfl,rfl,rfl,by decide +kernel,rfl,by decide +kernel,by decide +kernel⟩
theorem lV : FnScope ["_law_script","_law_number"] ["_law_script","_law_number"] (ao b4):=⟨rfl,rfl,rfl,by decide +kernel,rfl,by decide +kernel,by decide +kernel⟩
theorem p5 (F : FunD K "_law_word" "_law_word" bN dV f fd) : FnOk P w K mg base CX0 1 f fd ["_law_number","_law_letters"] kG:=by
 refine F.ok sc__law_word (fun vs H Q E h => ?_) (fun cdv A outer s H vs Q E hr h => ?_)
 ·obtain ⟨n,L,rfl,_⟩:=h
  rfl
 obtain ⟨n,L,rfl,n0,l26,q⟩:=h
 have lz : L.length <= sizeLine:=by rw [l26]; decide
 obtain ⟨hs,w0,w1⟩:=pB n0
 have wl:=jf n0 L
 refine fR (aq (PSW.mk (ay (i:=2) sc__law_word.nd rfl (Or.inl rfl) (aG mq (pv 1) (ag aF (pv 0) ae) (fun _ _ => rfl))))
   (aq (PSW.mk (cM (aB cA (ag aF (ag aW (pv 0) ae) ae) ae (aL _)) (aA (ay (i:=2) sc__law_word.nd rfl (Or.inl rfl) (aG mq (pv 1) (ag aF (ag aW (pv 0) ae) ae) (fun _ _ => rfl)))) bG))
   (aq (PSW.mk (ay (i:=3) sc__law_word.nd rfl (Or.inl rfl) (ag a8 ae (ag aF (ag aW (pv 0) ae) ae))))
   (aq (PSW.mk (ay (i:=4) sc__law_word.nd rfl (Or.inl rfl) (ag aF (ag aW (pv 0) ae) (pv 3))))
   (aq (PSW.mk (ay (i:=5) sc__law_word.nd rfl (Or.inl rfl) (ag ah (ag ah (ag nr (pv 2) (pv 4)) (aG mq (pv 1) (ag aF (ag aW (pv 0) ae) ae) (fun _ _ => rfl))) (ag nr (pv 2) (ag mD (ag mD (pv 3) (pv 4)) ae)))))
   (aq (og (PTW.mk (aB fV (pv 5) (cU (aa av (aa av (aa av (aa av (aa av af)))))) (by with_unfolding_all rfl))) (bH (PSW.mk (ay (i:=5) sc__law_word.nd rfl (Or.inl rfl) (ag ah (pv 5) av)))) kI)
   (bH (PSW.mk (br (pv 5)))))))))) ?_
 have m26:=bh (a:=n) (b:=26) (by decide)
 obtain ⟨c0,e0,f0⟩:=jv l26 m26.1 m26.2
 refine ⟨_,rfl,_,rfl,_,_,rfl,rfl,(by show (0 : Int) < 26; decide),_,_,_,rfl,rfl,lz,e0,?_⟩
 rw [<- f0]
 try dsimp only [aC,aJ,List.set]
 refine cX (fun σ' H' => σ' = [some (.int n),some (.str L),some (.str (bX n L)),none,none,none] /\ H' = H) ?_ (fun D' nxt => ?_)
 rotate_left
 ·refine ⟨_,rfl,_,_,rfl,rfl,⟨by decide,by decide⟩,_,_,rfl,rfl,(by show (0 : Int) < 2; decide),rfl,_,rfl,ml (fun c => ?_) (fun c => ?_)⟩
  ·have m3:=bh (a:=n / 52) (b:=3) (by decide)
   obtain ⟨c1,e1,f1⟩:=jv l26 m3.1 (show n / 52 % 3 < 26 by omega)
   refine ⟨_,rfl,_,rfl,_,_,rfl,rfl,⟨by decide,by decide⟩,_,_,rfl,rfl,(by show (0 : Int) < 3; decide),_,_,_,rfl,rfl,lz,e1,nxt _ _ ⟨?_,rfl⟩⟩
   unfold bX
   rw [if_pos c,f1]
   rfl
  ·refine nxt _ _ ⟨?_,rfl⟩
   unfold bX
   rw [if_neg c]
   rfl
 rintro σ' H' ⟨rfl,rfl⟩
 refine ⟨_,rfl,_,_,rfl,rfl,⟨by decide,by decide⟩,_,_,rfl,rfl,(by show (0 : Int) < 6; decide),_,_,rfl,rfl,?_⟩
 try dsimp only [aC,aJ,List.set]
 refine ⟨_,rfl,_,_,rfl,rfl,⟨by decide,by decide⟩,_,rfl,_,_,rfl,rfl,(show 0 < cN n by omega),?_⟩
 try dsimp only [aC,aJ,List.set]
 have m5:=bh (a:=n / 5616) (b:=26) (by decide)
 obtain ⟨c2,e2,f2⟩:=jv l26 m5.1 m5.2
 have fl:=fU n L
 have wl0:=wl.2
 unfold fN at wl0
 rw [len_app,len_app] at wl0
 have z6 : (100 : Nat) <= sizeLine:=by decide
 have x1 : (Str.ofString "x").length = 1:=by decide
 refine ⟨_,rfl,_,rfl,_,_,rfl,rfl,oP fl w0 (show g9 n <= 6 by omega),_,rfl,_,rfl,_,_,rfl,rfl,⟨by decide,by decide⟩,_,_,rfl,rfl,(by show (0 : Int) < 26; decide),_,_,_,rfl,rfl,lz,e2,?_⟩
 rw [<- f2]
 refine ⟨_,_,rfl,rfl,(show (Txt.mul (bX n L) (g9 n)).length + (ltr L (n / 5616 % 26)).length <= sizeLine by omega),?_⟩
 refine ⟨_,rfl,_,rfl,_,rfl,_,_,rfl,rfl,_,_,rfl,rfl,_,_,rfl,rfl,oP fl (show 0 <= cN n - g9 n - 1 by omega) (show cN n - g9 n - 1 <= 6 by omega),?_⟩
 refine ⟨_,_,rfl,rfl,(show (Txt.mul (bX n L) (g9 n) ++ ltr L (n / 5616 % 26)).length + (Txt.mul (bX n L) (cN n - g9 n - 1)).length <= sizeLine by rw [len_app]; omega),?_⟩
 have ew : (Txt.mul (bX n L) (n / 936 % (1 + n / 156 % 6)) ++ ltr L (n / 5616 % 26) ++ Txt.mul (bX n L) (1 + n / 156 % 6 - n / 936 % (1 + n / 156 % 6) - 1)) = fN n L:=rfl
 rw [ew]
 dsimp only [aC,aJ,List.set]
 refine cX (fun σ' H1 => σ' = [some (.int n),some (.str L),some (.str (bX n L)),some (.int (cN n)),some (.int (g9 n)),some (.str (fO n L))] /\ Same H' H1) ?_ (fun D' nxt => ?_)
 rotate_left
 ·refine ⟨_,rfl,(by show 5 <= sizeLine; decide),fun t ht => ?_⟩
  have st:=ak ht (HO.tup pQ)
  refine ⟨t,pQ,rfl,.inr (qT_ ai),rfl,rfl,_,rfl,?_⟩
  cases c : inV (.str (fN n L)) pQ with
  | true =>
   refine mn ⟨_,rfl,_,_,rfl,rfl,by omega,nxt _ _ ⟨?_,st⟩⟩
   unfold fO
   rw [if_pos c]
   rfl
  | false =>
   refine pT (nxt _ _ ⟨?_,st⟩)
   unfold fO
   rw [if_neg (by rw [c]; decide)]
   rfl
 rintro σ' H1 ⟨rfl,s1⟩
 exact ⟨_,rfl,q _ s1⟩
theorem p0 (F : FunD K "_law_name" "_law_name" bL dV f fd) (ax : DefOk P w K mg base "_law_draw" 1 ["_law_script","_law_k"] [] (cO K)) (bJ : DefOk P w K mg base "_law_word" 1 ["_law_number","_law_letters"] [] kG) : FnOk P w K mg base CX0 2 f fd ["_law_script","_law_number"] (kF K):=by
 refine F.ok ku (fun vs H Q E h => ?_) (fun cdv A outer s H vs Q E hr h => ?_)
 ·obtain ⟨a,i,ns,rfl,_⟩:=h
  rfl
 obtain ⟨a,i,ns,rfl,hS,h63,q⟩:=h
 have m:=bh (a:=i) (b:=4) (by decide)
 refine ⟨_,(aA (br (aK bJ hr (aa (aK ax hr (aa (pv 0) (aa (ag a8 ae (ag aF (pv 1) ae)) af))) (aa av af))))),?_⟩
 exact ⟨_,rfl,_,rfl,_,_,rfl,rfl,(by show (0 : Int) < 4; decide),_,_,rfl,rfl,a,_,ns,rfl,hS,h63,(show (0 : Int) <= 900 + i % 4 by omega),(show 900 + i % 4 < 2147483648 by omega),_,rd,rfl,(cc _ _).1,by decide +kernel,fun H' s' => q _ s'⟩
theorem p3 (F : FunD K "_law_row" "_law_row" b4 dV f fd) (ax : DefOk P w K mg base "_law_draw" 1 ["_law_script","_law_k"] [] (cO K)) (bJ : DefOk P w K mg base "_law_word" 1 ["_law_number","_law_letters"] [] kG) : FnOk P w K mg base CX0 2 f fd ["_law_script","_law_number"] (mI K):=by
 refine F.ok lV (fun vs H Q E h => ?_) (fun cdv A outer s H vs Q E hr h => ?_)
 ·obtain ⟨a,i,ns,rfl,_⟩:=h
  rfl
 obtain ⟨a,i,ns,rfl,hS,h63,q⟩:=h
 have m:=bh (a:=i) (b:=3) (by decide)
 refine ⟨_,(aA (br (aK bJ hr (aa (aK ax hr (aa (pv 0) (aa (ag a8 ae (ag aF (pv 1) ae)) af))) (aa av af))))),?_⟩
 exact ⟨_,rfl,_,rfl,_,_,rfl,rfl,(by show (0 : Int) < 3; decide),_,_,rfl,rfl,a,_,ns,rfl,hS,h63,(show (0 : Int) <= 920 + i % 3 by omega),(show 920 + i % 3 < 2147483648 by omega),_,rJ,rfl,(cc _ _).1,by decide +kernel,fun H' s' => q _ s'⟩
end
def bP (ps : List Prt) : List Str:=(ps.filter fun p => decide (p.2 ≠ ("" : Str))).map (·.2)
def cy : Stt -> List Str
 | .cmp _ a b => bP a ++ bP b
 | .sg _ a _ => bP a
 | .lk _ a _ b => bP a ++ bP b
 | .no s => cy s
 | .jn _ s t => cy s ++ cy t
 | .ch _ n s => (cy s).filter fun x => decide (x ≠ n)
def cD : Stt -> List Str
 | .cmp .. => []
 | .sg r _ _ => [r]
 | .lk r _ q _ => [r,q]
 | .no s => cD s
 | .jn _ s t => cD s ++ cD t
 | .ch _ _ s => cD s
structure IsNm (zs xs : List Str) : Prop where
 so : zs.Pairwise leS
 nd : zs.Nodup
 mem : ∀ x,x ∈ zs ↔ x ∈ xs
theorem IsNm.of_sorted {ms ns : List Str} (p : ms.Perm (bS ns)) (so : ms.Pairwise leS) : IsNm ms ns:=
 ⟨so,p.nodup_iff.mpr (lO ns),fun x => by rw [p.mem_iff,once_memS]⟩
theorem IsNm.congr {zs xs ys : List Str} (h : IsNm zs xs) (e : ∀ x,x ∈ xs ↔ x ∈ ys) : IsNm zs ys:=⟨h.so,h.nd,fun x => (h.mem x).trans (e x)⟩
theorem fZ (ps : List Prt) (p : Prt) : bP (ps ++ [p]) = bP ps ++ (if p.2 = ("" : Str) then [] else [p.2]):=by
 unfold bP
 rw [List.filter_append,List.map_append]
 congr 1
 by_cases c : p.2 = ("" : Str)
 ·rw [if_pos c,List.filter_cons_of_neg (by simp [c])]; rfl
 ·rw [if_neg c,List.filter_cons_of_pos (by simp [c])]; rfl
theorem oQ {x : Str} (h : 1 <= x.length) : x ≠ ("" : Str):=fun z => by
 rw [z] at h
 exact absurd h (by decide)
theorem Paired.snocP : ∀ {R : Addr -> Prt -> Prop} {as : List Addr} {ps : List Prt} {a : Addr} {p : Prt},Paired R as ps -> R a p -> Paired R (as ++ [a]) (ps ++ [p])
 | _,_,_,_,_,.nil,h => .cons h .nil
 | _,_,_,_,_,.cons q t,h => .cons q (Paired.snocP t h)
structure SmOk (ns : LI) (ps : List Prt) : Prop where
 ok : fk ps
 le : ps.length <= 8
 nm : ∀ x ∈ bP ps,x ∈ nm4 ns
theorem SmOk.nlen {ns : LI} {ps : List Prt} (h : SmOk ns ps) : (bP ps).length <= 8:=by
 unfold bP
 rw [lm_]
 exact Nat.le_trans (List.length_filter_le ..) h.le
theorem SmOk.tlen {ns : LI} {ps : List Prt} (h : SmOk ns ps) : (cV ps).length <= 400:=by
 unfold cV Txt.join
 rw [size_glued]
 have l:=mK (B:=41) ((ps.map aS).map (·.length)) fun x hx => by
  obtain ⟨y,hy,rfl⟩:=List.mem_map.mp hx
  obtain ⟨p,hp,rfl⟩:=List.mem_map.mp hy
  exact i8 (h.ok.2 p hp)
 have e : ((" + " : Str)).length = 3:=by decide
 rw [lm_,lm_] at l
 rw [e,lm_]
 have:=h.le
 omega
theorem SmOk.snoc {ns : LI} {ps : List Prt} {p : Prt} (h : SmOk ns ps) (l : ps.length < 8) (hp : (0 <= p.1 /\ p.1 < 10000000) /\ p.2.length <= 20) (hn : p.2 = ("" : Str) \/ p.2 ∈ nm4 ns) : SmOk ns (ps ++ [p]):=by
 refine ⟨⟨by rw [List.length_append,List.length_singleton]; omega,fun q hq => ?_⟩,by rw [List.length_append,List.length_singleton]; omega,fun x hx => ?_⟩
 ·rcases ma_.mp hq with z | z
  ·exact h.ok.2 q z
  ·rw [List.mem_singleton.mp z]; exact hp
 ·rw [fZ] at hx
  rcases ma_.mp hx with z | z
  ·exact h.nm x z
  ·by_cases c : p.2 = ("" : Str)
   ·rw [if_pos c] at z; cases z
   ·rw [if_neg c] at z
    rw [List.mem_singleton.mp z]
    exact hn.resolve_left c
theorem SmOk.nil (ns : LI) : SmOk ns []:=⟨⟨Nat.zero_le _,fun p h => by cases h⟩,Nat.zero_le _,fun x h => by cases h⟩
def mG (K : PySem.W.Frag) : Sp:=fun vs H Q _ => ∃ (a : Addr) (i : Int) (ns : LI),vs = [.ref a,.int i] /\ SqL K H a (ns.map V.int) /\ ns.length <= 63 /\ (0 <= i /\ i < 1000000) /\
 ∀ (l nl : Addr) (v : V) (ps : List Prt) (H' : Hp),Same H H' -> H' l = some (.lst [v,.str (cV ps),.ref nl]) -> SumAt H' v ps -> SmOk ns ps -> H' nl = some (.lst ((bP ps).map V.str)) -> H nl = none -> Q (.ref l) H'
structure LsI (H0 : Hp) (ns : LI) (Lp Lt Ln : Addr) (ps : List Prt) (H : Hp) : Prop where
 s : Same H0 H
 p : ∃ as : List Addr,H Lp = some (.lst (as.map V.ref)) /\ Paired (ji H) as ps
 t : H Lt = some (.lst ((ps.map aS).map V.str))
 n : H Ln = some (.lst ((bP ps).map V.str))
 ok : SmOk ns ps
structure Three3 (H0 : Hp) (Lp Lt Ln : Addr) : Prop where
 pt : Lp ≠ Lt
 pn : Lp ≠ Ln
 tn : Lt ≠ Ln
 fp : H0 Lp = none
 ft : H0 Lt = none
 fn : H0 Ln = none
theorem LsI.same {H0 H H' : Hp} {ns : LI} {Lp Lt Ln : Addr} {ps : List Prt} (h : LsI H0 ns Lp Lt Ln ps H) (s : Same H H') : LsI H0 ns Lp Lt Ln ps H' := by
 obtain ⟨as,h1,h2⟩:=h.p
 exact ⟨h.s.trans s,⟨as,s _ _ h1,Paired.mapP h2 fun _ _ q => s _ _ q⟩,s _ _ h.t,s _ _ h.n,h.ok⟩
theorem LsI.add {H0 H : Hp} {ns : LI} {Lp Lt Ln T : Addr} {ps : List Prt} {p : Prt} {as : List Addr} (h : LsI H0 ns Lp Lt Ln ps H) (d : Three3 H0 Lp Lt Ln) (ha : H Lp = some (.lst (as.map V.ref))) (hT : H T = none) (ok : SmOk ns (ps ++ [p])) :
  (p.2 = ("" : Str) -> LsI H0 ns Lp Lt Ln (ps ++ [p]) (upd (upd (upd H T (.tup [.int p.1,.str p.2])) Lp (.lst (as.map V.ref ++ [.ref T]))) Lt (.lst ((ps.map aS).map V.str ++ [.str (aS p)])))) /\
  (p.2 ≠ ("" : Str) -> LsI H0 ns Lp Lt Ln (ps ++ [p]) (upd (upd (upd (upd H T (.tup [.int p.1,.str p.2])) Lp (.lst (as.map V.ref ++ [.ref T]))) Lt (.lst ((ps.map aS).map V.str ++ [.str (aS p)]))) Ln (.lst ((bP ps).map V.str ++ [.str p.2])))):=by
 obtain ⟨as',h1,h2⟩:=h.p
 rw [ha] at h1
 have ea : as' = as:=by
  have e:=HO.lst.inj (Option.some.inj h1)
  have e' := congrArg (List.map fun v : V => match v with | .ref a => a | _ => 0) e
  rw [List.map_map,List.map_map] at e'
  have id1 : ∀ l : List Addr,l.map ((fun v : V => match v with | .ref a => a | _ => 0) ∘ V.ref) = l:=fun l => List.map_id' l
  rw [id1,id1] at e'
  exact e'.symm
 subst ea
 have nTp : Lp ≠ T:=au ha hT
 have nTt : Lt ≠ T:=au h.t hT
 have nTn : Ln ≠ T:=au h.n hT
 have fT : H0 T = none:=h.s.free hT
 have et : (ps.map aS).map V.str ++ [V.str (aS p)] = ((ps ++ [p]).map aS).map V.str:=by rw [List.map_append,List.map_append]; rfl
 obtain ⟨H3,e3⟩ : ∃ H3,upd (upd (upd H T (.tup [.int p.1,.str p.2])) Lp (.lst (as'.map V.ref ++ [.ref T]))) Lt (.lst ((ps.map aS).map V.str ++ [.str (aS p)])) = H3:=⟨_,rfl⟩
 have s3 : Same H0 H3:=by rw [<- e3]; exact aU (aU (aU h.s fT) d.fp) d.ft
 have k3 : ∀ b o,b ≠ Lp -> b ≠ Lt -> H b = some o -> H3 b = some o:=fun b o n1 n2 e => by
  rw [<- e3,ar n2,ar n1,ar (au e hT)]; exact e
 have tk : gz H H3:=fun b xs e => k3 b _ (nk e ha (by intro z; cases z)) (nk e h.t (by intro z; cases z)) e
 have hp3 : H3 Lp = some (.lst ((as' ++ [T]).map V.ref)):=by rw [<- e3,ar d.pt,ai,List.map_append]; rfl
 have hT3 : H3 T = some (.tup [.int p.1,.str p.2]):=by rw [<- e3,ar (Ne.symm nTt),ar (Ne.symm nTp),ai]
 have ht3 : H3 Lt = some (.lst (((ps ++ [p]).map aS).map V.str)):=by rw [<- e3,ai,et]
 have hn3:=k3 _ _ (Ne.symm d.pn) (Ne.symm d.tn) h.n
 have P3 : Paired (ji H3) (as' ++ [T]) (ps ++ [p]):=Paired.snocP (Paired.mapP h2 fun _ _ q => tk _ _ q) hT3
 rw [e3]
 refine ⟨fun c => ⟨s3,⟨_,hp3,P3⟩,ht3,?_,ok⟩,fun c => ?_⟩
 ·rw [fZ,if_pos c,List.append_nil]
  exact hn3
 ·refine ⟨aU s3 d.fn,⟨_,by rw [ar d.pn]; exact hp3,Paired.mapP P3 fun b q e => ?_⟩,by rw [ar d.tn]; exact ht3,?_,ok⟩
  ·show (upd H3 Ln _) b = _
   rw [ar (nk e hn3 (by intro z; cases z))]
   exact e
  ·rw [ai,fZ,if_neg c,List.map_append]
   rfl
theorem getD_in {xs : LI} {i : Int} {lo hi : Int} (h0 : 0 <= i) (h1 : i < (xs.length : Int)) (h : ∀ x ∈ xs,lo <= x /\ x < hi) : lo <= xs.getD i.toNat 0 /\ xs.getD i.toNat 0 < hi:=by
 have hi : i.toNat < xs.length:=by omega
 rw [getD_at hi]
 exact h _ (List.getElem_mem hi)
section
variable {P : Program} {w : World} {K : PySem.W.Frag} {mg : Str -> Option Value} {base : Heap} {f : Addr} {fd : FuncData} {dV : Value}
theorem sc__law_sum : FnScope ["_law_script","_law_at","_law_number","_law_many","_law_parts","_law_texts","_law_names","_law_k","_law_name_here","_law_one"] ["_law_script","_law_at"] (ao b6):=⟨rfl,rfl,rfl,by decide +kernel,rfl,by decide +kernel,by decide +kernel⟩
theorem pZ (F : FunD K "_law_sum" "_law_sum" b6 dV f fd) (ax : DefOk P w K mg base "_law_draw" 1 ["_law_script","_law_k"] [] (cO K)) (bI : DefOk P w K mg base "_law_name" 2 ["_law_script","_law_number"] [] (kF K)) (eH : mg "range" = none) (bO : mg "str" = none) (pJ : mg "int" = none) (kL : mg "tuple" = none) : FnOk P w K mg base CX0 3 f fd ["_law_script","_law_at"] (mG K):=by
 refine F.ok sc__law_sum (fun vs H Q E h => ?_) (fun cdv A outer s H vs Q E hr h => ?_)
 ·obtain ⟨a,i,ns,rfl,_⟩:=h
  rfl
 obtain ⟨a,i,ns,rfl,hS,h63,⟨i0,i1⟩,k⟩:=h
 refine fR (aq (PSW.mk (ay (i:=2) sc__law_sum.nd rfl (Or.inl rfl) (aK ax hr (aa (pv 0) (aa (pv 1) af)))))
   (aq (PSW.mk (ay (i:=3) sc__law_sum.nd rfl (Or.inl rfl) (ag a8 ae (ag aF (pv 2) ae))))
   (aq (PSW.mk (cM (aB cA (ag aF (ag aW (pv 2) ae) ae) ae (aL _)) (aA (ay (i:=3) sc__law_sum.nd rfl (Or.inl rfl) ae)) bG))
   (aq (PSW.mk (ay (i:=4) sc__law_sum.nd rfl (Or.inl rfl) (cB af)))
   (aq (PSW.mk (ay (i:=5) sc__law_sum.nd rfl (Or.inl rfl) (cB af)))
   (aq (PSW.mk (ay (i:=6) sc__law_sum.nd rfl (Or.inl rfl) (cB af)))
   (aq (rK PassesOwn.never rfl (ja rfl eH (aa (pv 3) af)) (aP (i:=7) sc__law_sum.nd rfl (Or.inl rfl)) (aq (PSW.mk (ay (i:=2) sc__law_sum.nd rfl (Or.inl rfl) (aK ax hr (aa (pv 0) (aa (ag a8 (ag a8 (pv 1) ae) (pv 7)) af)))))
   (aq (PSW.mk (ay (i:=8) sc__law_sum.nd rfl (Or.inl rfl) (aK bI hr (aa (pv 0) (aa (ag aW (pv 2) ae) af)))))
   (bH (og (PTW.mk (aB cA (ag aF (pv 2) ae) ae (aL _))) (aq (nF (i:=9) sc__law_sum.nd rfl (Or.inl rfl) (qh aO (dQ (aj (PEW.mk ae) (aj (PEW.mk ae) (aj (PEW.mk (ag aF (ag aW (pv 2) ae) ae)) (aj (PEW.mk (ag aF (ag aW (pv 2) ae) ae)) bU))))) (PEW.mk (ag aF (ag aW (pv 2) ae) ae)) (fun _ _ => rfl)))
   (aq (PSW.mk (bF (cL PySem.F.plainAttrs_list PySem.F.slot_list_append PySem.F.type_list_append aV (pv 4) (aa (cU (aa (pv 9) (aa av af))) af))))
   (bH (PSW.mk (bF (cL PySem.F.plainAttrs_list PySem.F.slot_list_append PySem.F.type_list_append aV (pv 5) (aa (a9 bQ (by rfl) bO fS (aa (pv 9) af)) af))))))) (bH (og (PTW.mk (aB cA (ag aF (pv 2) ae) ae (aL _))) (aq (PSW.mk (bF (cL PySem.F.plainAttrs_list PySem.F.slot_list_append PySem.F.type_list_append aV (pv 4) (aa (cU (aa ae (aa (pv 8) af))) af))))
   (aq (PSW.mk (bF (cL PySem.F.plainAttrs_list PySem.F.slot_list_append PySem.F.type_list_append aV (pv 5) (aa (pv 8) af))))
   (bH (PSW.mk (bF (cL PySem.F.plainAttrs_list PySem.F.slot_list_append PySem.F.type_list_append aV (pv 6) (aa (pv 8) af))))))) (aq (nF (i:=9) sc__law_sum.nd rfl (Or.inl rfl) (qh aO (dQ (aj (PEW.mk ae) (aj (PEW.mk ae) (aj (PEW.mk (ag a8 ae (ag aF (ag aW (pv 2) ae) ae))) bU)))) (PEW.mk (ag aF (ag aW (pv 2) ae) ae)) (fun _ _ => rfl)))
   (aq (PSW.mk (bF (cL PySem.F.plainAttrs_list PySem.F.slot_list_append PySem.F.type_list_append aV (pv 4) (aa (cU (aa (pv 9) (aa (pv 8) af))) af))))
   (aq (qV (PEW.mk (cL PySem.F.plainAttrs_list PySem.F.slot_list_append PySem.F.type_list_append aV (pv 5) (aa (ag ah (aG aO (cB (aa (ag ah (a9 bQ (by rfl) bO fS (aa (pv 9) af)) av) (aa av af))) (a9 nH (by rfl) pJ qw (aa (nu cA (pv 9) ae (aL _)) af)) (fun _ _ => rfl)) (pv 8)) af))))
   (bH (PSW.mk (bF (cL PySem.F.plainAttrs_list PySem.F.slot_list_append PySem.F.type_list_append aV (pv 6) (aa (pv 8) af)))))))))))))))
   (bH (gj (dQ (aj (PEW.mk (a9 hZ (by rfl) kL oo (aa (pv 4) af))) (aj (PEW.mk (cL PySem.F.plainAttrs_str PySem.F.slot_str_join PySem.F.type_str_join nh av (aa (pv 5) af))) (aj (PEW.mk (pv 6)) bU))))))))))))) ?_
 refine ⟨_,rfl,_,rfl,a,i,ns,rfl,hS,h63,i0,by omega,?_⟩
 try dsimp only [aC,aJ,List.set]
 obtain ⟨d0,ed0⟩ : ∃ d0,ee ns i = d0:=⟨_,rfl⟩
 have d00:=cc ns i
 rw [ed0] at d00 ⊢
 refine ⟨_,rfl,_,_,rfl,rfl,(by show (0 : Int) < 3; decide),_,_,rfl,rfl,?_⟩
 try dsimp only [aC,aJ,List.set]
 refine cX (t:=qf _ _ _) (fun σ' H' => ∃ (many : Nat) (v2 : OV),many <= 8 /\ σ' = [some (.ref a),some (.int i),v2,some (.int many),none,none,none,none,none,none] /\ H' = H) ?_ (fun D' nxt => ?_)
 rotate_left
 ·have m3:=bh (a:=d0) (b:=3) (by decide)
  refine ⟨_,rfl,_,_,rfl,rfl,⟨by decide,by decide⟩,_,_,rfl,rfl,(by show (0 : Int) < 6; decide),rfl,_,rfl,ml (fun c => ?_) (fun c => ?_)⟩
  ·exact nxt _ _ ⟨8,_,by decide,rfl,rfl⟩
  ·obtain ⟨m,em⟩:=qF (x:=1 + d0 % 3) (by omega)
   refine nxt _ _ ⟨m,some (.int d0),by omega,?_,rfl⟩
   show [some (V.ref a),some (V.int i),some (V.int d0),some (V.int (1 + d0 % 3)),none,none,none,none,none,none] = _
   rw [em]
 rintro σ' H' ⟨many,v2,m8,rfl,rfl⟩
 refine ⟨(by show 0 <= sizeLine; decide),fun Lp hLp => ?_⟩
 refine ⟨(by show 0 <= sizeLine; decide),fun Lt hLt => ?_⟩
 refine ⟨(by show 0 <= sizeLine; decide),fun Ln hLn => ?_⟩
 have u1:=ak hLp (HO.lst [])
 have u2:=ak hLt (HO.lst [])
 have u3:=ak hLn (HO.lst [])
 have d3 : Three3 H' Lp Lt Ln:=⟨au ai hLt,au (u2 _ _ ai) hLn,au ai hLn,hLp,u1.free hLt,(u1.trans u2).free hLn⟩
 have I0 : LsI H' ns Lp Lt Ln [] (upd (upd (upd H' Lp (.lst [])) Lt (.lst [])) Ln (.lst [])):=⟨u1.trans (u2.trans u3),⟨[],(u2.trans u3) _ _ ai,.nil⟩,u3 _ _ ai,ai,SmOk.nil ns⟩
 try dsimp only [aC,aJ,List.set]
 refine cX (t:=qe _ _ _) (fun σ' H1 => ∃ (ps : List Prt) (v2 v7 v8 v9 : OV),σ' = [some (.ref a),some (.int i),v2,some (.int many),some (.ref Lp),some (.ref Lt),some (.ref Ln),v7,v8,v9] /\ LsI H' ns Lp Lt Ln ps H1) ?_ (fun D' nxt => ?_)
 rotate_left
 ·refine ⟨_,rfl,(many : Int),rfl,by omega,by omega,?_⟩
  refine i5 (fun j σ' H1 => ∃ (ps : List Prt) (v2 v7 v8 v9 : OV),σ' = [some (.ref a),some (.int i),v2,some (.int many),some (.ref Lp),some (.ref Lt),some (.ref Ln),v7,v8,v9] /\ LsI H' ns Lp Lt Ln ps H1 /\ ps.length = j) ⟨[],v2,none,none,none,rfl,I0,rfl⟩ ?_ ?_
  ·rintro j σ' H1 hj ⟨ps,v2,v7,v8,v9,rfl,I1,lp⟩
   rw [Int.toNat_natCast] at hj
   have hS1:=I1.s.seq hS
   refine ⟨_,rfl,_,rfl,_,_,rfl,rfl,_,rfl,_,_,rfl,rfl,a,i + 1 + (0 + (j : Int)),ns,rfl,hS1,h63,by omega,by omega,?_⟩
   try dsimp only [aC,aJ,List.set]
   obtain ⟨n,en⟩ : ∃ n,ee ns (i + 1 + (0 + (j : Int))) = n:=⟨_,rfl⟩
   have nb:=cc ns (i + 1 + (0 + (j : Int)))
   rw [en] at nb ⊢
   refine ⟨_,rfl,_,rfl,_,_,rfl,rfl,⟨by decide,by decide⟩,a,n / 3,ns,rfl,hS1,h63,fun H2 s2 => ?_⟩
   try dsimp only [aC,aJ,List.set]
   obtain ⟨nm,enm⟩ : ∃ nm,nmF ns (n / 3) = nm:=⟨_,rfl⟩
   have nl:=nq ns (n / 3)
   have nin:=qG ns (n / 3)
   rw [enm] at nl nin ⊢
   have nne:=oQ nl.1
   have I2:=I1.same s2
   obtain ⟨as,ha,hA⟩:=I2.p
   have las : as.length = ps.length:=Paired.length hA
   have lsn:=I2.ok.nlen
   have z20 : ∀ m : Nat,m <= 100 -> m <= sizeLine:=fun m h => Nat.le_trans h (by decide)
   refine ⟨_,rfl,_,_,rfl,rfl,(by show (0 : Int) < 3; decide),rfl,_,rfl,ml (fun c => ?_) (fun c => ?_)⟩
   ·have q1:=bh (a:=n / 9) (b:=1000000) (by decide)
    have q2:=bh (a:=n / 9) (b:=30) (by decide)
    have q4:=bh (a:=n / 3) (b:=4) (by decide)
    refine ⟨_,rfl,_,_,rfl,rfl,⟨by decide,by decide⟩,_,_,rfl,rfl,(by show (0 : Int) < 1000000; decide),_,rfl,_,_,rfl,rfl,⟨by decide,by decide⟩,_,_,rfl,rfl,(by show (0 : Int) < 30; decide),(by show 4 <= sizeLine; decide),fun Lx hLx => ?_⟩
    have ux:=ak hLx (HO.lst ([0,999999,n / 9 % 1000000,n / 9 % 30].map V.int))
    obtain ⟨one,eo⟩ : ∃ one,([0,999999,n / 9 % 1000000,n / 9 % 30] : LI).getD (n / 3 % 4).toNat 0 = one:=⟨_,rfl⟩
    have ob : 0 <= one /\ one < 10000000:=by
     rw [<- eo]
     refine getD_in q4.1 q4.2 fun x hx => ?_
     simp only [List.mem_cons,List.not_mem_nil,or_false] at hx
     rcases hx with rfl | rfl | rfl | rfl <;> omega
    refine ⟨_,rfl,_,_,rfl,rfl,⟨by decide,by decide⟩,_,_,rfl,rfl,(by show (0 : Int) < 4; decide),Lx,_,_,_,rfl,rfl,qL_ ai,fq (ns:=[0,999999,n / 9 % 1000000,n / 9 % 30]) q4.1 q4.2,?_⟩
    try dsimp only [aC,aJ,List.set]
    rw [eo]
    obtain ⟨H3,e3⟩ : ∃ H3,upd H2 Lx (HO.lst [V.int 0,V.int 999999,V.int (n / 9 % 1000000),V.int (n / 9 % 30)]) = H3:=⟨_,rfl⟩
    have ux' : Same H2 H3:=by rw [<- e3]; exact ux
    rw [e3]
    have I3:=I2.same ux'
    have ha3:=ux' _ _ ha
    refine ⟨_,rfl,.inl ⟨rfl,_,qL_ ha3⟩,_,rfl,(by show 2 <= sizeLine; decide),fun T hT => ?_⟩
    have nTp : Lp ≠ T:=au ha3 hT
    have add:=(I3.add (p:=(one,("" : Str))) d3 ha3 hT (I3.ok.snoc (by omega) ⟨ob,by show 0 <= 20; decide⟩ (.inl rfl))).1 rfl
    refine ⟨Lp,_,_,rfl,rfl,by rw [ar nTp]; exact ha3,z20 _ (by rw [lm_]; omega),?_⟩
    have nTt : Lt ≠ T:=au I3.t hT
    have ht4 : (upd (upd H3 T (HO.tup [V.int one,V.str ("" : Str)])) Lp (HO.lst (as.map V.ref ++ [V.ref T]))) Lt = some (.lst ((ps.map aS).map V.str)):=by rw [ar (Ne.symm d3.pt),ar nTt]; exact I3.t
    refine ⟨_,rfl,.inl ⟨rfl,_,qL_ ht4⟩,_,rfl,_,rfl,(cY ob.1 ob.2).2,Lt,_,_,rfl,rfl,ht4,z20 _ (by rw [lm_,lm_]; omega),?_⟩
    have ep : aS (one,("" : Str)) = eI one:=if_pos rfl
    rw [ep] at add
    exact ⟨ps ++ [(one,("" : Str))],_,_,_,_,rfl,add,by rw [List.length_append,List.length_singleton,lp]⟩
   ·refine ⟨_,rfl,_,_,rfl,rfl,(by show (0 : Int) < 3; decide),rfl,_,rfl,ml (fun c1 => ?_) (fun c1 => ?_)⟩
    ·have add:=fun T hT => (I2.add (T:=T) (p:=(1,nm)) d3 ha hT (I2.ok.snoc (by omega) ⟨(show (0 : Int) <= 1 /\ (1 : Int) < 10000000 by decide),(show nm.length <= 20 by omega)⟩ (.inr nin))).2 nne
     refine ⟨_,rfl,.inl ⟨rfl,_,qL_ ha⟩,_,rfl,(by show 2 <= sizeLine; decide),fun T hT => ?_⟩
     have nTp : Lp ≠ T:=au ha hT
     have nTt : Lt ≠ T:=au I2.t hT
     have nTn : Ln ≠ T:=au I2.n hT
     refine ⟨Lp,_,_,rfl,rfl,by rw [ar nTp]; exact ha,z20 _ (by rw [lm_]; omega),?_⟩
     have ht4 : (upd (upd H2 T (HO.tup [V.int 1,V.str nm])) Lp (HO.lst (as.map V.ref ++ [V.ref T]))) Lt = some (.lst ((ps.map aS).map V.str)):=by rw [ar (Ne.symm d3.pt),ar nTt]; exact I2.t
     refine ⟨_,rfl,.inl ⟨rfl,_,qL_ ht4⟩,_,rfl,Lt,_,_,rfl,rfl,ht4,z20 _ (by rw [lm_,lm_]; omega),?_⟩
     have hn5 : (upd (upd (upd H2 T (HO.tup [V.int 1,V.str nm])) Lp (HO.lst (as.map V.ref ++ [V.ref T]))) Lt (HO.lst ((ps.map aS).map V.str ++ [V.str nm]))) Ln = some (.lst ((bP ps).map V.str)):=by rw [ar (Ne.symm d3.tn),ar (Ne.symm d3.pn),ar nTn]; exact I2.n
     refine ⟨_,rfl,.inl ⟨rfl,_,qL_ hn5⟩,_,rfl,Ln,_,_,rfl,rfl,hn5,z20 _ (by rw [lm_]; omega),?_⟩
     have ep : aS (1,nm) = nm:=(if_neg nne).trans (if_pos rfl)
     have ad:=add T hT
     rw [ep] at ad
     exact ⟨ps ++ [(1,nm)],_,_,_,_,rfl,ad,by rw [List.length_append,List.length_singleton,lp]⟩
    ·have q1:=bh (a:=n / 12) (b:=20) (by decide)
     have q3:=bh (a:=n / 36) (b:=3) (by decide)
     refine ⟨_,rfl,_,_,rfl,rfl,⟨by decide,by decide⟩,_,_,rfl,rfl,(by show (0 : Int) < 20; decide),_,_,rfl,rfl,(by show 3 <= sizeLine; decide),fun Lx hLx => ?_⟩
     have ux:=ak hLx (HO.lst ([20,2,1 + n / 12 % 20].map V.int))
     obtain ⟨one,eo⟩ : ∃ one,([20,2,1 + n / 12 % 20] : LI).getD (n / 36 % 3).toNat 0 = one:=⟨_,rfl⟩
     have ob : 1 <= one /\ one < 10000000:=by
      rw [<- eo]
      refine getD_in q3.1 q3.2 fun x hx => ?_
      simp only [List.mem_cons,List.not_mem_nil,or_false] at hx
      rcases hx with rfl | rfl | rfl <;> omega
     refine ⟨_,rfl,_,_,rfl,rfl,⟨by decide,by decide⟩,_,_,rfl,rfl,(by show (0 : Int) < 3; decide),Lx,_,_,_,rfl,rfl,qL_ ai,fq (ns:=[20,2,1 + n / 12 % 20]) q3.1 q3.2,?_⟩
     try dsimp only [aC,aJ,List.set]
     rw [eo]
     obtain ⟨H3,e3⟩ : ∃ H3,upd H2 Lx (HO.lst [V.int 20,V.int 2,V.int (1 + n / 12 % 20)]) = H3:=⟨_,rfl⟩
     have ux' : Same H2 H3:=by rw [<- e3]; exact ux
     rw [e3]
     have I3:=I2.same ux'
     have ha3:=ux' _ _ ha
     have ob0 : (0 : Int) <= one:=by omega
     have nsl:=cY ob0 ob.2
     have st1 : ((Str.ofString "*")).length = 1:=by decide
     refine ⟨_,rfl,.inl ⟨rfl,_,qL_ ha3⟩,_,rfl,_,rfl,(by show 2 <= sizeLine; decide),fun T hT => ?_⟩
     have nTp : Lp ≠ T:=au ha3 hT
     have nTt : Lt ≠ T:=au I3.t hT
     have nTn : Ln ≠ T:=au I3.n hT
     have add:=(I3.add (T:=T) (p:=(one,nm)) d3 ha3 hT (I3.ok.snoc (by omega) ⟨(show 0 <= one /\ one < 10000000 from ⟨ob0,ob.2⟩),(show nm.length <= 20 by omega)⟩ (.inr nin))).2 nne
     refine ⟨Lp,_,_,rfl,rfl,by rw [ar nTp]; exact ha3,z20 _ (by rw [lm_]; omega),?_⟩
     obtain ⟨H4,e4⟩ : ∃ H4,upd (upd H3 T (HO.tup [V.int one,V.str nm])) Lp (HO.lst (as.map V.ref ++ [V.ref T])) = H4:=⟨_,rfl⟩
     have ht4 : H4 Lt = some (.lst ((ps.map aS).map V.str)):=by rw [<- e4,ar (Ne.symm d3.pt),ar nTt]; exact I3.t
     have hn4 : H4 Ln = some (.lst ((bP ps).map V.str)):=by rw [<- e4,ar (Ne.symm d3.pn),ar nTn]; exact I3.n
     rw [e4] at add ⊢
     refine ⟨_,rfl,.inl ⟨rfl,_,qL_ ht4⟩,_,rfl,_,rfl,nsl.2,_,_,rfl,rfl,z20 _ (show (eI one).length + _ <= 100 by omega),(by show 2 <= sizeLine; decide),fun Ly hLy => ?_⟩
     have uy:=ak hLy (HO.lst [V.str (eI one ++ Str.ofString "*"),V.str (Str.ofString "")])
     have nyt : Lt ≠ Ly:=au ht4 hLy
     have nyn : Ln ≠ Ly:=au hn4 hLy
     obtain ⟨x,ex1,ex2,ex3⟩ : ∃ x : Str,atI [V.str (eI one ++ Str.ofString "*"),V.str (Str.ofString "")] (if decide (V.int one = V.int 1) = true then 1 else 0) = some (.str x) /\ aS (one,nm) = x ++ nm /\ x.length <= 40:=by
      by_cases c2 : one = 1
      ·refine ⟨Str.ofString "",by rw [decide_eq_true (congrArg V.int c2)]; rfl,?_,by decide⟩
       have e1 : aS (one,nm) = nm:=(if_neg nne).trans (if_pos c2)
       rw [e1]
       exact (eG nm).symm
      ·refine ⟨eI one ++ Str.ofString "*",by rw [decide_eq_false fun z => c2 (V.int.inj z)]; rfl,(if_neg nne).trans (if_neg c2),by rw [len_app]; omega⟩
     refine ⟨_,rfl,rfl,.inr ⟨_,rfl,Ly,_,_,_,rfl,rfl,qL_ ai,ex1,_,rfl,_,_,rfl,rfl,z20 _ (by omega),?_⟩⟩
     rw [<- ex2]
     refine ⟨Lt,_,_,rfl,rfl,by rw [ar nyt]; exact ht4,z20 _ (by rw [lm_,lm_]; omega),?_⟩
     have hn6 : (upd (upd H4 Ly (HO.lst [V.str (eI one ++ Str.ofString "*"),V.str (Str.ofString "")])) Lt (HO.lst ((ps.map aS).map V.str ++ [V.str (aS (one,nm))]))) Ln = some (.lst ((bP ps).map V.str)):=by rw [ar (Ne.symm d3.tn),ar nyn]; exact hn4
     refine ⟨_,rfl,.inl ⟨rfl,_,qL_ hn6⟩,_,rfl,Ln,_,_,rfl,rfl,hn6,z20 _ (by rw [lm_]; omega),?_⟩
     refine ⟨ps ++ [(one,nm)],_,_,_,_,rfl,add.same fun b o e => ?_,by rw [List.length_append,List.length_singleton,lp]⟩
     have nb : b ≠ Ly:=fun z => by rw [z,ar (Ne.symm nyn),ar (Ne.symm nyt),hLy] at e; cases e
     by_cases c1 : b = Ln
     ·rw [c1,ai] at e ⊢; exact e
     ·rw [ar c1] at e ⊢
      by_cases c2 : b = Lt
      ·rw [c2,ai] at e ⊢; exact e
      ·rw [ar c2] at e ⊢
       rw [ar nb]; exact e
  ·rintro σ' H1 ⟨ps,v2,v7,v8,v9,rfl,I1,lp⟩
   exact nxt _ _ ⟨ps,v2,v7,v8,v9,rfl,I1⟩
 rintro σ' H1 ⟨ps,v2,v7,v8,v9,rfl,I1⟩
 obtain ⟨as,ha,hA⟩:=I1.p
 refine ⟨_,rfl,Lp,_,rfl,.inl ⟨qL_ ha,fun T hT => ?_⟩⟩
 have uT:=ak hT (HO.tup (as.map V.ref))
 refine ⟨rfl,_,rfl,_,Lt,ps.map aS,rfl,rfl,uT _ _ I1.t,i9 I1.ok.ok,_,rfl,(by show 3 <= sizeLine; decide),fun l hl => ?_⟩
 have ul:=ak hl (HO.lst [V.ref T,V.str (Txt.join (" + " : Str) (ps.map aS)),V.ref Ln])
 exact k l Ln (.ref T) ps _ (I1.s.trans (uT.trans ul)) ai ⟨T,as,rfl,ul _ _ ai,Paired.mapP hA fun _ _ q => (uT.trans ul) _ _ q⟩ I1.ok ((uT.trans ul) _ _ I1.n) d3.fn
end
structure It where
 st : Stt
 v : V
 nl : Addr
 rl : Addr
 names : List Str
 rows : List Str
structure ItAt (ns : LI) (H : Hp) (a : Addr) (it : It) : Prop where
 li : H a = some (.lst [it.v,.str (aw it.st),.int (aH it.st : Int),.ref it.nl,.ref it.rl])
 sv : StAt H it.v it.st
 hn : H it.nl = some (.lst (it.names.map V.str))
 hr : H it.rl = some (.lst (it.rows.map V.str))
 wf : Wf it.st
 nm : IsNm it.names (cy it.st)
 rs : IsNm it.rows (cD it.st)
 ni : ∀ x ∈ it.names,x ∈ nm4 ns
 ri : ∀ x ∈ it.rows,x ∈ rw3 ns
theorem ItAt.same {ns : LI} {H H' : Hp} {a : Addr} {it : It} (h : ItAt ns H a it) (s : Same H H') : ItAt ns H' a it:=
 ⟨s _ _ h.li,StAt.same (tkS s) h.sv,s _ _ h.hn,s _ _ h.hr,h.wf,h.nm,h.rs,h.ni,h.ri⟩
def Off (L a : Addr) (it : It) : Prop:=a ≠ L /\ it.nl ≠ L /\ it.rl ≠ L
theorem ItAt.off {ns : LI} {H : Hp} {a L : Addr} {it : It} {xs ys : List V} (h : ItAt ns H a it) (o : Off L a it) (hL : H L = some (.lst xs)) : ItAt ns (upd H L (.lst ys)) a it:=
 ⟨by rw [ar o.1]; exact h.li,StAt.same (fun b zs e => by rw [ar (nk e hL (by intro z; cases z))]; exact e) h.sv,by rw [ar o.2.1]; exact h.hn,by rw [ar o.2.2]; exact h.hr,h.wf,h.nm,h.rs,h.ni,h.ri⟩
theorem g5 : ∀ {ps vs : List Str},ps.Nodup -> (∀ p ∈ ps,p ∈ vs) -> ps.length <= vs.length
 | [],_,_,_ => Nat.zero_le _
 | p :: ps,vs,nd,h => by
  have nd' := List.nodup_cons.mp nd
  have hp:=h p List.mem_cons_self
  have:=g5 (vs:=vs.erase p) nd'.2 fun q hq => (List.mem_erase_of_ne (show q ≠ p from fun z => nd'.1 (by rw [<- z]; exact hq))).mpr (h q (List.mem_cons_of_mem _ hq))
  rw [List.length_erase_of_mem hp] at this
  have:=List.length_pos_of_mem hp
  rw [List.length_cons]
  omega
theorem ItAt.few {ns : LI} {H : Hp} {a : Addr} {it : It} (h : ItAt ns H a it) : it.names.length <= 4 /\ it.rows.length <= 3:=⟨g5 h.nm.nd h.ni,g5 h.rs.nd h.ri⟩
theorem pP (a b c : Str) : a ++ b ++ c = a ++ (b ++ c):=Str.append_assoc a b c
theorem m9 (r f n : Str) : r ++ ("[" : Str) ++ f ++ ("] = " : Str) ++ n = r ++ ("[" : Str) ++ f ++ ("]" : Str) ++ (" = " : Str) ++ n:=by
 rw [show ("] = " : Str) = ("]" : Str) ++ (" = " : Str) from by decide +kernel]
 simp only [pP]
theorem m7 (r f q g : Str) : r ++ ("[" : Str) ++ f ++ ("] = " : Str) ++ q ++ ("[" : Str) ++ g ++ ("]" : Str) = r ++ ("[" : Str) ++ f ++ ("]" : Str) ++ (" = " : Str) ++ (q ++ ("[" : Str) ++ g ++ ("]" : Str)):=by
 rw [show ("] = " : Str) = ("]" : Str) ++ (" = " : Str) from by decide +kernel]
 simp only [pP]
theorem lq (f k g : Str) : f ++ (" " : Str) ++ k ++ (" " : Str) ++ g = f ++ ((" " : Str) ++ k ++ (" " : Str)) ++ g:=by simp only [pP]
def gE (K : PySem.W.Frag) : Sp:=fun vs H Q _ => ∃ (a : Addr) (i : Int) (ns : LI),vs = [.ref a,.int i] /\ SqL K H a (ns.map V.int) /\ ns.length <= 63 /\ (0 <= i /\ i < 100000) /\
 ∀ (l : Addr) (it : It) (H' : Hp),Same H H' -> ItAt ns H' l it -> H l = none -> H it.nl = none -> H it.rl = none -> aH it.st = 0 -> (aw it.st).length <= 900 -> Q (.ref l) H'
theorem nX {j : Int} (j0 : 0 <= j) (j1 : j < 5) : ∃ κ : Str,atI [V.str (Str.ofString "="),V.str (Str.ofString "<="),V.str (Str.ofString "<"),V.str (Str.ofString "is"),V.str (Str.ofString "like")] j = some (.str κ) /\ κ.length <= 4 /\ (κ = Str.ofString "is" \/ κ = Str.ofString "like" \/ ((κ = Str.ofString "=" \/ κ = Str.ofString "<=" \/ κ = Str.ofString "<") /\ κ ≠ Str.ofString "is" /\ κ ≠ Str.ofString "like")):=by
 have c : j = 0 \/ j = 1 \/ j = 2 \/ j = 3 \/ j = 4:=by omega
 rcases c with c | c | c | c | c <;> subst c
 ·exact ⟨_,rfl,by decide +kernel,.inr (.inr ⟨.inl rfl,by decide +kernel⟩)⟩
 ·exact ⟨_,rfl,by decide +kernel,.inr (.inr ⟨.inr (.inl rfl),by decide +kernel⟩)⟩
 ·exact ⟨_,rfl,by decide +kernel,.inr (.inr ⟨.inr (.inr rfl),by decide +kernel⟩)⟩
 ·exact ⟨_,rfl,by decide +kernel,.inl rfl⟩
 ·exact ⟨_,rfl,by decide +kernel,.inr (.inl rfl)⟩
section
variable {P : Program} {w : World} {K : PySem.W.Frag} {mg : Str -> Option Value} {base : Heap} {f : Addr} {fd : FuncData} {dV : Value}
theorem sc__law_plain : FnScope ["_law_script","_law_at","_law_number","_law_one","_law_first","_law_names","_law_other","_law_second","_law_more","_law_row_here","_law_last","_law_kind","_law_sign","_law_shown_one"] ["_law_script","_law_at"] (ao bC):=⟨rfl,rfl,rfl,by decide +kernel,rfl,by decide +kernel,by decide +kernel⟩
theorem o2 (F : FunD K "_law_plain" "_law_plain" bC dV f fd) (ax : DefOk P w K mg base "_law_draw" 1 ["_law_script","_law_k"] [] (cO K)) (c9 : DefOk P w K mg base "_law_sum" 3 ["_law_script","_law_at"] [] (mG K)) (c8 : DefOk P w K mg base "_law_row" 2 ["_law_script","_law_number"] [] (mI K)) (bO : mg "str" = none) (bV : mg "sorted" = none) (fP : mg "set" = none) : FnOk P w K mg base CX0 4 f fd ["_law_script","_law_at"] (gE K):=by
 refine F.ok sc__law_plain (fun vs H Q E h => ?_) (fun cdv A outer s H vs Q E hr h => ?_)
 ·obtain ⟨a,i,ns,rfl,_⟩:=h
  rfl
 obtain ⟨a,i,ns,rfl,hS,h63,⟨i0,i1⟩,k⟩:=h
 refine fR (aq (PSW.mk (ay (i:=2) sc__law_plain.nd rfl (Or.inl rfl) (aK ax hr (aa (pv 0) (aa (pv 1) af)))))
   (aq (PSW.mk (kq (aK c9 hr (aa (pv 0) (aa (ag a8 (pv 1) ae) af))) (kd rfl (aX (aP (i:=3) sc__law_plain.nd rfl (Or.inl rfl)) (aX (aP (i:=4) sc__law_plain.nd rfl (Or.inl rfl)) (aX (aP (i:=5) sc__law_plain.nd rfl (Or.inl rfl)) gB))))))
   (aq (PSW.mk (kq (aK c9 hr (aa (pv 0) (aa (ag a8 (pv 1) ae) af))) (kd rfl (aX (aP (i:=6) sc__law_plain.nd rfl (Or.inl rfl)) (aX (aP (i:=7) sc__law_plain.nd rfl (Or.inl rfl)) (aX (aP (i:=8) sc__law_plain.nd rfl (Or.inl rfl)) gB))))))
   (aq (PSW.mk (ay (i:=9) sc__law_plain.nd rfl (Or.inl rfl) (aK c8 hr (aa (pv 0) (aa (ag aW (pv 2) ae) af)))))
   (aq (PSW.mk (ay (i:=10) sc__law_plain.nd rfl (Or.inl rfl) (aK c8 hr (aa (pv 0) (aa (ag aW (pv 2) ae) af)))))
   (aq (nF (i:=11) sc__law_plain.nd rfl (Or.inl rfl) (qh aO (dQ (aj (PEW.mk av) (aj (PEW.mk av) (aj (PEW.mk av) (aj (PEW.mk av) (aj (PEW.mk av) bU)))))) (PEW.mk (ag aF (pv 2) ae)) (fun _ _ => rfl)))
   (aq (og (PTW.mk (aB cA (pv 11) av (aL _))) (aq (nF (i:=12) sc__law_plain.nd rfl (Or.inl rfl) (qh aO (dQ (aj (PEW.mk ae) (aj (PEW.mk ae) (aj (PEW.mk ae) (aj (PEW.mk (ag aF (ag aW (pv 2) ae) ae)) bU))))) (PEW.mk (ag aF (ag aW (pv 2) ae) ae)) (fun _ _ => rfl)))
   (bH (gj (dQ (aj (PEW.mk (cU (aa av (aa (pv 9) (aa (pv 3) (aa (pv 12) af)))))) (aj (PEW.mk (ag ah (ag ah (ag ah (ag ah (pv 9) av) (pv 4)) av) (a9 bQ (by rfl) bO fS (aa (pv 12) af)))) (aj (PEW.mk ae) (aj (PEW.mk (aD ((bE rfl)) (by rfl) bV cW (aa (a9 ((cw rfl)) (by rfl) fP gJ (aa (pv 5) af)) af))) (aj (PEW.mk (cB (aa (pv 9) af))) bU))))))))) kI)
   (aq (PSW.mk (ay (i:=5) sc__law_plain.nd rfl (Or.inl rfl) (aD ((bE rfl)) (by rfl) bV cW (aa (a9 ((cw rfl)) (by rfl) fP gJ (aa (ag mC (pv 5) (pv 8)) af)) af))))
   (aq (og (PTW.mk (aB cA (pv 11) av (aL _))) (aq (PSW.mk (ay (i:=13) sc__law_plain.nd rfl (Or.inl rfl) (ag ah (ag ah (ag ah (ag ah (ag ah (ag ah (ag ah (pv 9) av) (pv 4)) av) (pv 10)) av) (pv 7)) av)))
   (bH (gj (dQ (aj (qq (aj (PEW.mk av) (aj (PEW.mk (pv 9)) (aj (PEW.mk (pv 3)) (aj (PEW.mk (pv 10)) (aj (PEW.mk (pv 6)) bU)))))) (aj (PEW.mk (pv 13)) (aj (PEW.mk ae) (aj (PEW.mk (pv 5)) (aj (PEW.mk (aD ((bE rfl)) (by rfl) bV cW (aa (a9 ((cw rfl)) (by rfl) fP gJ (aa (cB (aa (pv 9) (aa (pv 10) af))) af)) af))) bU))))))))) kI)
   (bH (gj (dQ (aj (PEW.mk (cU (aa (pv 11) (aa (pv 3) (aa (pv 6) af))))) (aj (PEW.mk (ag ah (ag ah (ag ah (ag ah (pv 4) av) (pv 11)) av) (pv 7))) (aj (PEW.mk ae) (aj (PEW.mk (pv 5)) (aj (PEW.mk (cB af)) bU))))))))))))))))) ?_
 refine ⟨_,rfl,_,rfl,a,i,ns,rfl,hS,h63,i0,by omega,?_⟩
 try dsimp only [aC,aJ,List.set]
 obtain ⟨n,en⟩ : ∃ n,ee ns i = n:=⟨_,rfl⟩
 have n0:=cc ns i
 rw [en] at n0 ⊢
 refine ⟨_,rfl,_,rfl,_,_,rfl,rfl,a,i + 1,ns,rfl,hS,h63,⟨by omega,by omega⟩,fun l1 nl1 va pa H1 s1 hl1 ha oa hn1 f1 => ?_⟩
 refine ⟨l1,_,rfl,qL_ hl1,rfl,_,_,rfl,_,_,rfl,_,_,rfl,rfl,?_⟩
 try dsimp only [aC,aJ,List.set]
 refine ⟨_,rfl,_,rfl,_,_,rfl,rfl,a,i + 10,ns,rfl,s1.seq hS,h63,⟨by omega,by omega⟩,fun l2 nl2 vb pb H2 s2 hl2 hb ob hn2 f2 => ?_⟩
 refine ⟨l2,_,rfl,qL_ hl2,rfl,_,_,rfl,_,_,rfl,_,_,rfl,rfl,?_⟩
 try dsimp only [aC,aJ,List.set]
 have s02:=s1.trans s2
 have ha2:=ha.same (tkS s2)
 have hn1' := s2 _ _ hn1
 refine ⟨_,rfl,_,rfl,_,_,rfl,rfl,⟨by decide,by decide⟩,a,n / 5,ns,rfl,s02.seq hS,h63,fun H3 s3 => ?_⟩
 try dsimp only [aC,aJ,List.set]
 have s03:=s02.trans s3
 refine ⟨_,rfl,_,rfl,_,_,rfl,rfl,⟨by decide,by decide⟩,a,n / 15,ns,rfl,s03.seq hS,h63,fun H4 s4 => ?_⟩
 try dsimp only [aC,aJ,List.set]
 have s24:=s3.trans s4
 have s04:=s02.trans s24
 obtain ⟨r,er⟩ : ∃ r,rwF ns (n / 5) = r:=⟨_,rfl⟩
 obtain ⟨q,eq⟩ : ∃ q,rwF ns (n / 15) = q:=⟨_,rfl⟩
 have rl:=nz ns (n / 5)
 have ri:=pf ns (n / 5)
 have ql:=nz ns (n / 15)
 have qi:=pf ns (n / 15)
 rw [er] at rl ri ⊢
 rw [eq] at ql qi ⊢
 refine ⟨(by show 5 <= sizeLine; decide),fun lk hlk => ?_⟩
 have m5:=bh (a:=n) (b:=5) (by decide)
 obtain ⟨κ,ek,kl,kc⟩:=nX m5.1 m5.2
 have s5:=ak hlk (HO.lst [V.str (Str.ofString "="),V.str (Str.ofString "<="),V.str (Str.ofString "<"),V.str (Str.ofString "is"),V.str (Str.ofString "like")])
 refine ⟨_,rfl,_,_,rfl,rfl,(by show (0 : Int) < 5; decide),lk,_,_,_,rfl,rfl,qL_ ai,ek,?_⟩
 obtain ⟨H5,e5⟩ : ∃ H5,upd H4 lk (HO.lst [V.str (Str.ofString "="),V.str (Str.ofString "<="),V.str (Str.ofString "<"),V.str (Str.ofString "is"),V.str (Str.ofString "like")]) = H5:=⟨_,rfl⟩
 rw [e5] at s5 ⊢
 try dsimp only [aC,aJ,List.set]
 have s25:=s24.trans s5
 have s05:=s02.trans s25
 have ha5:=ha2.same (tkS s25)
 have hb5:=hb.same (tkS s25)
 have hn1'' := s25 _ _ hn1'
 have hn2'' := s25 _ _ hn2
 have la:=oa.tlen
 have lb:=ob.tlen
 have na:=oa.nlen
 have nb:=ob.nlen
 have zz : ∀ m : Nat,m <= 10000 -> m <= sizeLine:=fun m h => Nat.le_trans h (by decide)
 have c1 : (Str.ofString "[").length = 1:=by decide
 have c2 : (Str.ofString "] = ").length = 4:=by decide
 have c3 : (Str.ofString "]").length = 1:=by decide
 have c4 : (Str.ofString " ").length = 1:=by decide
 refine ⟨_,rfl,rfl,_,rfl,pS (fun c => ?_) (fun c => ?_)⟩
 ·have c' : κ = Str.ofString "is" := V_str.mp c
  have q4:=bh (a:=n / 45) (b:=4) (by decide)
  have q1:=bh (a:=n / 45) (b:=1000000) (by decide)
  refine ⟨_,rfl,_,_,rfl,rfl,⟨by decide,by decide⟩,_,_,rfl,rfl,(by show (0 : Int) < 1000000; decide),(by show 4 <= sizeLine; decide),fun lx hlx => ?_⟩
  have s6:=ak hlx (HO.lst ([0,1,999999,n / 45 % 1000000].map V.int))
  obtain ⟨sg,es⟩ : ∃ sg,([0,1,999999,n / 45 % 1000000] : LI).getD (n / 45 % 4).toNat 0 = sg:=⟨_,rfl⟩
  have sb : 0 <= sg /\ sg < 10000000:=by
   rw [<- es]
   refine getD_in q4.1 q4.2 fun x hx => ?_
   simp only [List.mem_cons,List.not_mem_nil,or_false] at hx
   rcases hx with rfl | rfl | rfl | rfl <;> omega
  refine ⟨_,rfl,_,_,rfl,rfl,⟨by decide,by decide⟩,_,_,rfl,rfl,(by show (0 : Int) < 4; decide),lx,_,_,_,rfl,rfl,qL_ ai,fq (ns:=[0,1,999999,n / 45 % 1000000]) q4.1 q4.2,?_⟩
  rw [es]
  obtain ⟨H6,e6⟩ : ∃ H6,upd H5 lx (HO.lst [V.int 0,V.int 1,V.int 999999,V.int (n / 45 % 1000000)]) = H6:=⟨_,rfl⟩
  have s6' : Same H5 H6:=by rw [<- e6]; exact s6
  rw [e6]
  try dsimp only [aC,aJ,List.set]
  have nsl:=cY sb.1 sb.2
  refine ⟨_,rfl,_,rfl,_,rfl,(by show 4 <= sizeLine; decide),fun T hT => ?_⟩
  have s7:=ak hT (HO.tup [V.str (Str.ofString "is"),V.str r,va,V.int sg])
  refine ⟨_,rfl,_,_,rfl,rfl,zz _ (by omega),_,rfl,_,_,rfl,rfl,zz _ (by rw [len_app]; omega),_,_,rfl,rfl,zz _ (by rw [len_app,len_app]; omega),_,rfl,_,rfl,nsl.2,_,_,rfl,rfl,zz _ (by rw [len_app,len_app,len_app]; show _ + (eI sg).length <= 10000; omega),?_⟩
  have s57:=s6'.trans s7
  refine ⟨_,rfl,nl1,bP pa,rfl,s57 _ _ hn1'',by omega,fun S hS' => ?_⟩
  have s8:=ak hS' (dc P w S (bS (bP pa)))
  have ol:=cZ (bP pa)
  refine ⟨S,_,rfl,ai,by omega,fun lz ms hlz pz so => ?_⟩
  have s9:=ak hlz (HO.lst (ms.map V.str))
  refine ⟨_,rfl,(by show 1 <= sizeLine; decide),fun lr hlr => ?_⟩
  have s10:=ak hlr (HO.lst [V.str r])
  refine ⟨(by show 5 <= sizeLine; decide),fun l hl => ?_⟩
  have s11:=ak hl (HO.lst [V.ref T,V.str (r ++ Str.ofString "[" ++ cV pa ++ Str.ofString "] = " ++ eI sg),V.int 0,V.ref lz,V.ref lr])
  have t7:=s8.trans (s9.trans (s10.trans s11))
  have g7:=s05.trans s57
  refine k l ⟨.sg r pa sg,.ref T,lz,lr,ms,[r]⟩ _ (g7.trans t7) ⟨?_,⟨T,va,rfl,t7 _ _ ai,ha5.same (tkS (s57.trans t7))⟩,(s10.trans s11) _ _ ai,s11 _ _ ai,⟨by omega,oa.ok,sb.1,sb.2⟩,IsNm.of_sorted pz so,⟨List.pairwise_singleton ..,List.nodup_cons.mpr ⟨by simp,List.nodup_nil⟩,fun x => Iff.rfl⟩,fun x hx => ?_,fun x hx => by rw [List.mem_singleton.mp hx]; exact ri⟩ ((g7.trans (s8.trans (s9.trans s10))).free hl) ((g7.trans s8).free hlz) ((g7.trans (s8.trans s9)).free hlr) rfl ?_
  ·rw [ai]
   show some (HO.lst [V.ref T,V.str (r ++ Str.ofString "[" ++ cV pa ++ Str.ofString "] = " ++ eI sg),V.int 0,V.ref lz,V.ref lr]) = _
   rw [m9]
   rfl
  ·exact oa.nm x (once_memS.mp (pz.mem_iff.mp hx))
  ·show (cC r pa ++ (" = " : Str) ++ eI sg).length <= 900
   unfold cC
   rw [<- m9,len_app,len_app,len_app,len_app]
   have : (("] = " : Str)).length = 4:=by decide
   have : (("[" : Str)).length = 1:=by decide
   omega
 ·have nis : κ ≠ Str.ofString "is" := fun z => c (V_str.mpr z)
  try dsimp only [aC,aJ,List.set]
  refine cX (t:=kH _ _) (fun σ' H8 => ∃ (lz : Addr) (ms : List Str),σ' = [some (.ref a),some (.int i),some (.int n),some va,some (.str (cV pa)),some (.ref lz),some vb,some (.str (cV pb)),some (.ref nl2),some (.str r),some (.str q),some (.str κ),none,none] /\ Same H5 H8 /\ H8 lz = some (.lst (ms.map V.str)) /\ H lz = none /\ IsNm ms (bP pa ++ bP pb)) ?_ (fun D' nxt => ?_)
  rotate_left
  ·refine ⟨_,rfl,_,rfl,nl1,nl2,_,_,rfl,rfl,hn1'',hn2'',zz _ (by rw [lm_,lm_]; omega),fun lc hlc => ?_⟩
   have s6:=ak hlc (HO.lst ((bP pa).map V.str ++ (bP pb).map V.str))
   refine ⟨lc,bP pa ++ bP pb,rfl,by rw [ai,List.map_append],by rw [List.length_append]; omega,fun S hS' => ?_⟩
   have s7:=ak hS' (dc P w S (bS (bP pa ++ bP pb)))
   have ol:=cZ (bP pa ++ bP pb)
   rw [List.length_append] at ol
   refine ⟨S,_,rfl,ai,by omega,fun lz ms hlz pz so => ?_⟩
   exact nxt _ _ ⟨lz,ms,rfl,s6.trans (s7.trans (ak hlz (HO.lst (ms.map V.str)))),ai,(s05.trans (s6.trans s7)).free hlz,IsNm.of_sorted pz so⟩
  rintro σ' H8 ⟨lz,ms,rfl,s58,hz8,fz,isn⟩
  have isi : ∀ x ∈ ms,x ∈ nm4 ns:=fun x hx => by
   rcases ma_.mp ((isn.mem x).mp hx) with z | z
   ·exact oa.nm x z
   ·exact ob.nm x z
  have g8:=s05.trans s58
  have ha8:=ha5.same (tkS s58)
  have hb8:=hb5.same (tkS s58)
  refine ⟨_,rfl,rfl,_,rfl,pS (fun c => ?_) (fun c => ?_)⟩
  ·refine ⟨_,rfl,_,_,rfl,rfl,zz _ (by omega),_,rfl,_,_,rfl,rfl,zz _ (by rw [len_app]; omega),_,_,rfl,rfl,zz _ (by rw [len_app,len_app]; omega),_,rfl,_,_,rfl,rfl,zz _ (by rw [len_app,len_app,len_app]; omega),_,_,rfl,rfl,zz _ (by rw [len_app,len_app,len_app,len_app]; omega),_,rfl,_,_,rfl,rfl,zz _ (by rw [len_app,len_app,len_app,len_app,len_app]; omega),_,_,rfl,rfl,zz _ (by rw [len_app,len_app,len_app,len_app,len_app,len_app]; omega),?_⟩
   try dsimp only [aC,aJ,List.set]
   refine ⟨_,rfl,_,rfl,_,rfl,_,rfl,(by show 5 <= sizeLine; decide),fun T hT => ?_⟩
   have s9:=ak hT (HO.tup [V.str (Str.ofString "like"),V.str r,va,V.str q,vb])
   refine ⟨_,rfl,_,rfl,_,rfl,_,rfl,(by show 2 <= sizeLine; decide),fun ly hly => ?_⟩
   have s10:=ak hly (HO.lst [V.str r,V.str q])
   refine ⟨ly,[r,q],rfl,ai,(by show 2 < 4000; decide),fun S2 hS2 => ?_⟩
   have s11:=ak hS2 (dc P w S2 (bS [r,q]))
   have ol2:=cZ [r,q]
   refine ⟨S2,_,rfl,ai,Nat.lt_of_le_of_lt ol2 (by show 2 < 64; decide),fun lr mr hlr pr sor => ?_⟩
   have s12:=ak hlr (HO.lst (mr.map V.str))
   refine ⟨(by show 5 <= sizeLine; decide),fun l hl => ?_⟩
   have s13:=ak hl (HO.lst [V.ref T,V.str (r ++ Str.ofString "[" ++ cV pa ++ Str.ofString "] = " ++ q ++ Str.ofString "[" ++ cV pb ++ Str.ofString "]"),V.int 0,V.ref lz,V.ref lr])
   have t9:=s10.trans (s11.trans (s12.trans s13))
   have isr : IsNm mr [r,q]:=IsNm.of_sorted pr sor
   refine k l ⟨.lk r pa q pb,.ref T,lz,lr,ms,mr⟩ _ (g8.trans (s9.trans t9)) ⟨?_,⟨T,va,vb,rfl,t9 _ _ ai,ha8.same (tkS (s9.trans t9)),hb8.same (tkS (s9.trans t9))⟩,(s9.trans t9) _ _ hz8,s13 _ _ ai,⟨by omega,oa.ok,by omega,ob.ok⟩,isn,isr,isi,fun x hx => ?_⟩ ((g8.trans (s9.trans (s10.trans (s11.trans s12)))).free hl) fz ((g8.trans (s9.trans (s10.trans s11))).free hlr) rfl ?_
   ·rw [ai]
    show some (HO.lst [V.ref T,V.str (r ++ Str.ofString "[" ++ cV pa ++ Str.ofString "] = " ++ q ++ Str.ofString "[" ++ cV pb ++ Str.ofString "]"),V.int 0,V.ref lz,V.ref lr]) = _
    rw [m7]
    rfl
   ·have:=(isr.mem x).mp hx
    simp only [List.mem_cons,List.not_mem_nil,or_false] at this
    rcases this with rfl | rfl
    ·exact ri
    ·exact qi
   ·show (cC r pa ++ (" = " : Str) ++ cC q pb).length <= 900
    unfold cC
    rw [<- m7,len_app,len_app,len_app,len_app,len_app,len_app,len_app]
    have : (("] = " : Str)).length = 4:=by decide
    have : (("[" : Str)).length = 1:=by decide
    have : (("]" : Str)).length = 1:=by decide
    omega
  ·have nlk : κ ≠ Str.ofString "like" := fun z => c (V_str.mpr z)
   have kc' : κ = Str.ofString "=" \/ κ = Str.ofString "<=" \/ κ = Str.ofString "<" := by
    rcases kc with z | z | z
    ·exact absurd z nis
    ·exact absurd z nlk
    ·exact z.1
   refine ⟨_,rfl,_,rfl,_,rfl,(by show 3 <= sizeLine; decide),fun T hT => ?_⟩
   have s9:=ak hT (HO.tup [V.str κ,va,vb])
   refine ⟨_,rfl,_,_,rfl,rfl,zz _ (by omega),_,rfl,_,_,rfl,rfl,zz _ (by rw [len_app]; omega),_,_,rfl,rfl,zz _ (by rw [len_app,len_app]; omega),_,rfl,_,_,rfl,rfl,zz _ (by rw [len_app,len_app,len_app]; omega),?_⟩
   refine ⟨_,rfl,(by show 0 <= sizeLine; decide),fun lr hlr => ?_⟩
   have s10:=ak hlr (HO.lst [])
   refine ⟨(by show 5 <= sizeLine; decide),fun l hl => ?_⟩
   have s11:=ak hl (HO.lst [V.ref T,V.str (cV pa ++ Str.ofString " " ++ κ ++ Str.ofString " " ++ cV pb),V.int 0,V.ref lz,V.ref lr])
   have t9:=s10.trans s11
   refine k l ⟨.cmp κ pa pb,.ref T,lz,lr,ms,[]⟩ _ (g8.trans (s9.trans t9)) ⟨?_,⟨T,va,vb,rfl,t9 _ _ ai,ha8.same (tkS (s9.trans t9)),hb8.same (tkS (s9.trans t9))⟩,(s9.trans t9) _ _ hz8,s11 _ _ ai,⟨kc',oa.ok,ob.ok⟩,isn,⟨List.Pairwise.nil,List.nodup_nil,fun x => Iff.rfl⟩,isi,fun x hx => by cases hx⟩ ((g8.trans (s9.trans s10)).free hl) fz ((g8.trans s9).free hlr) rfl ?_
   ·rw [ai]
    show some (HO.lst [V.ref T,V.str (cV pa ++ Str.ofString " " ++ κ ++ Str.ofString " " ++ cV pb),V.int 0,V.ref lz,V.ref lr]) = _
    rw [lq]
    rfl
   ·show (cV pa ++ ((" " : Str) ++ κ ++ (" " : Str)) ++ cV pb).length <= 900
    rw [<- lq,len_app,len_app,len_app,len_app]
    have : ((" " : Str)).length = 1:=by decide
    omega
end
def mJ (K : PySem.W.Frag) : Sp:=fun vs H Q _ => ∃ (a b : Addr) (n : Int) (ns : LI) (it : It),vs = [.ref a,.ref b,.int n] /\ SqL K H a (ns.map V.int) /\ ns.length <= 63 /\ 0 <= n /\ ItAt ns H b it /\ (aw it.st).length <= 100000 /\
 ∀ (l : Addr) (it' : It) (H' : Hp),Same H H' -> ItAt ns H' l it' -> H l = none -> (it'.nl = it.nl \/ H it'.nl = none) -> it'.rl = it.rl -> aH it'.st = 1 + aH it.st -> (aw it'.st).length <= (aw it.st).length + 30 -> Q (.ref l) H'
def nB : Sp:=fun vs H Q _ => ∃ (b c : Addr) (n : Int) (ns : LI) (it jt : It),vs = [.ref b,.ref c,.int n] /\ ItAt ns H b it /\ ItAt ns H c jt /\ (aw it.st).length <= 100000 /\ (aw jt.st).length <= 100000 /\
 ∀ (l : Addr) (it' : It) (H' : Hp),Same H H' -> ItAt ns H' l it' -> H l = none -> H it'.nl = none -> H it'.rl = none -> aH it'.st = 1 + max (aH it.st) (aH jt.st) -> (aw it'.st).length <= (aw it.st).length + (aw jt.st).length + 7 -> Q (.ref l) H'
theorem IsNm.filter {zs xs : List Str} (h : IsNm zs xs) (p : Str -> Bool) : IsNm (zs.filter p) (xs.filter p):=
 ⟨h.so.filter _,h.nd.filter _,fun x => by rw [List.mem_filter,List.mem_filter,h.mem]⟩
theorem qa {ns : List Str} {i : Nat} {y : V} (h : (ns.map V.str)[i]? = some y) : ∃ z,y = V.str z /\ ns[i]? = some z:=by
 rw [List.getElem?_map] at h
 cases e : ns[i]? with
 | none => rw [e] at h; cases h
 | some z => rw [e] at h; exact ⟨z,(Option.some.inj h).symm,rfl⟩
theorem qj {xs : List Str} {i : Nat} {x : Str} {p : Str -> Bool} (h : xs[i]? = some x) : (xs.take (i + 1)).filter p = (xs.take i).filter p ++ (if p x = true then [x] else []):=by
 rw [List.take_add_one,h,List.filter_append]
 congr 1
 by_cases c : p x = true
 ·rw [if_pos c]; exact List.filter_cons_of_pos c
 ·rw [if_neg c]; exact List.filter_cons_of_neg c
theorem pV (a k b : Str) : ("(" : Str) ++ a ++ (" " : Str) ++ k ++ (" " : Str) ++ b ++ (")" : Str) = ("(" : Str) ++ a ++ ((" " : Str) ++ k ++ (" " : Str)) ++ b ++ (")" : Str):=by simp only [pP]
theorem pX {a b : Nat} : (if (b : Int) > (a : Int) then (b : Int) else (a : Int)) = ((max a b : Nat) : Int):=by
 split <;> omega
section
variable {P : Program} {w : World} {K : PySem.W.Frag} {mg : Str -> Option Value} {base : Heap} {f : Addr} {fd : FuncData} {dV : Value}
theorem sc__law_wrapped : FnScope ["_law_script","_law_item","_law_number","_law_statement","_law_line","_law_deep","_law_names","_law_rows","_law_kind","_law_name_here","_law_left"] ["_law_script","_law_item","_law_number"] (ao a7):=⟨rfl,rfl,rfl,by decide +kernel,rfl,by decide +kernel,by decide +kernel⟩
theorem bk__law_wrapped_0 : BlkScope ["_law_script","_law_item","_law_number","_law_statement","_law_line","_law_deep","_law_names","_law_rows","_law_kind","_law_name_here","_law_left"] (ao a7) ["_law_one","_law_name_here"] [none,some 9] { kind:=ScopeKind.function,names:=[(".0",NameKind.local),("_law_one",NameKind.local),("_law_name_here",NameKind.free)],isGenerator:=false,isCoroutine:=false,more:=[] }:=⟨rfl,by decide +kernel,by decide +kernel,by decide +kernel,by decide +kernel,rfl,by decide +kernel⟩
theorem sc__law_two : FnScope ["_law_one","_law_other","_law_number","_law_kind","_law_line","_law_names"] ["_law_one","_law_other","_law_number"] (ao b8):=⟨rfl,rfl,rfl,by decide +kernel,rfl,by decide +kernel,by decide +kernel⟩
theorem p6 (F : FunD K "_law_wrapped" "_law_wrapped" a7 dV f fd) (bI : DefOk P w K mg base "_law_name" 2 ["_law_script","_law_number"] [] (kF K)) : FnOk P w K mg base CX0 3 f fd ["_law_script","_law_item","_law_number"] (mJ K):=by
 refine F.ok sc__law_wrapped (fun vs H Q E h => ?_) (fun cdv A outer s H vs Q E hr h => ?_)
 ·obtain ⟨a,b,n,ns,it,rfl,_⟩:=h
  rfl
 obtain ⟨a,b,n,ns,it,rfl,hS,h63,n0,I,bd,k⟩:=h
 obtain ⟨st,v,nl,rl,names,rows⟩:=it
 have few : names.length <= 4:=I.few.1
 have zz : ∀ m : Nat,m <= 200000 -> m <= sizeLine:=fun m h => Nat.le_trans h (by decide)
 refine fR (aq (PSW.mk (kq (pv 1) (kd rfl (aX (aP (i:=3) sc__law_wrapped.nd rfl (Or.inl rfl)) (aX (aP (i:=4) sc__law_wrapped.nd rfl (Or.inl rfl)) (aX (aP (i:=5) sc__law_wrapped.nd rfl (Or.inl rfl)) (aX (aP (i:=6) sc__law_wrapped.nd rfl (Or.inl rfl)) (aX (aP (i:=7) sc__law_wrapped.nd rfl (Or.inl rfl)) gB))))))))
   (aq (og (PTW.mk (aB cA (ag aF (pv 2) ae) ae (aL _))) (bH (gj (dQ (aj (PEW.mk (cU (aa av (aa (pv 3) af)))) (aj (PEW.mk (ag ah av (pv 4))) (aj (PEW.mk (ag a8 (pv 5) ae)) (aj (PEW.mk (pv 6)) (aj (PEW.mk (pv 7)) bU)))))))) kI)
   (aq (PSW.mk (ay (i:=8) sc__law_wrapped.nd rfl (Or.inl rfl) (aG aO (cB (aa av (aa av af))) (ag mD (ag aF (pv 2) ae) ae) (fun _ _ => rfl))))
   (aq (PSW.mk (ay (i:=9) sc__law_wrapped.nd rfl (Or.inr rfl) (aK bI hr (aa (pv 0) (aa (ag aW (pv 2) ae) af)))))
   (aq (PSW.mk (lS (i:=10) rfl sc__law_wrapped.nd rfl (Or.inl rfl) bk__law_wrapped_0 (ke (pv 6)) (fun _ _ _ _ => (aP (i:=0) bk__law_wrapped_0.nd rfl (Or.inl rfl))) (fun _ _ _ _ => (aB rk (pv 0) (pv 1) (aL _))) (fun _ _ _ _ => (pv 0))))
   (bH (gj (dQ (aj (PEW.mk (cU (aa (pv 8) (aa (pv 9) (aa (pv 3) af))))) (aj (PEW.mk (ag ah (ag ah (ag ah (ag ah (pv 8) av) (pv 9)) av) (pv 4))) (aj (PEW.mk (ag a8 (pv 5) ae)) (aj (PEW.mk (pv 10)) (aj (PEW.mk (pv 7)) bU))))))))))))) ?_
 refine ⟨_,rfl,b,_,rfl,qL_ I.li,rfl,_,_,rfl,_,_,rfl,_,_,rfl,_,_,rfl,_,_,rfl,rfl,?_⟩
 try dsimp only [aC,aJ,List.set]
 have dd : ((aH st : Nat) : Int) + 1 = ((1 + aH st : Nat) : Int):=by omega
 refine ⟨_,rfl,_,_,rfl,rfl,(by show (0 : Int) < 3; decide),rfl,_,rfl,ml (fun c => ?_) (fun c => ?_)⟩
 ·refine ⟨_,rfl,(by show 2 <= sizeLine; decide),fun T hT => ?_⟩
  have s1:=ak hT (HO.tup [V.str (Str.ofString "not"),v])
  have l4 : (Str.ofString "not ").length = 4:=by decide
  have l4' : (("not " : Str)).length = 4:=by decide
  refine ⟨_,rfl,_,_,rfl,rfl,zz _ (by show _ + (aw st).length <= _; have : (aw st).length <= 100000:=bd; omega),_,rfl,_,_,rfl,rfl,_,rfl,_,rfl,(by show 5 <= sizeLine; decide),fun l hl => ?_⟩
  have s2:=ak hl (HO.lst [V.ref T,V.str (Str.ofString "not " ++ aw st),V.int ((aH st : Int) + 1),V.ref nl,V.ref rl])
  have s12:=s1.trans s2
  refine k l ⟨.no st,.ref T,nl,rl,names,rows⟩ _ s12 ⟨?_,⟨T,v,rfl,s2 _ _ ai,StAt.same (tkS s12) I.sv⟩,s12 _ _ I.hn,s12 _ _ I.hr,I.wf,I.nm,I.rs,I.ni,I.ri⟩ (s1.free hl) (.inl rfl) rfl rfl ?_
  ·rw [ai]
   show some (HO.lst [V.ref T,V.str (Str.ofString "not " ++ aw st),V.int ((aH st : Int) + 1),V.ref nl,V.ref rl]) = _
   rw [dd]
   rfl
  ·show (("not " : Str) ++ aw st).length <= _
   rw [len_app]
   show _ <= (aw st).length + 30
   omega
 ·have m3:=bh (a:=n) (b:=3) (by decide)
  refine ⟨(by show 2 <= sizeLine; decide),fun Lk hLk => ?_⟩
  have s1:=ak hLk (HO.lst [V.str (Str.ofString "some"),V.str (Str.ofString "all")])
  obtain ⟨κ,ek,kl,kc⟩ : ∃ κ : Str,atI [V.str (Str.ofString "some"),V.str (Str.ofString "all")] (n % 3 - 1) = some (.str κ) /\ κ.length <= 4 /\ (κ = ("some" : Str) \/ κ = ("all" : Str)):=by
   have e : n % 3 = 1 \/ n % 3 = 2:=by omega
   rcases e with e | e <;> rw [e]
   ·exact ⟨_,rfl,by decide +kernel,.inl rfl⟩
   ·exact ⟨_,rfl,by decide +kernel,.inr rfl⟩
  refine ⟨_,rfl,_,_,rfl,rfl,(by show (0 : Int) < 3; decide),_,_,rfl,rfl,Lk,_,_,_,rfl,rfl,qL_ ai,ek,?_⟩
  try dsimp only [aC,aJ,List.set]
  obtain ⟨H1,e1⟩ : ∃ H1,upd H Lk (HO.lst [V.str (Str.ofString "some"),V.str (Str.ofString "all")]) = H1:=⟨_,rfl⟩
  rw [e1] at s1 ⊢
  refine ⟨_,rfl,_,rfl,_,_,rfl,rfl,⟨by decide,by decide⟩,a,n / 3,ns,rfl,s1.seq hS,h63,fun H2 s2 => ?_⟩
  try dsimp only [aC,aJ,List.set]
  obtain ⟨nm,enm⟩ : ∃ nm,nmF ns (n / 3) = nm:=⟨_,rfl⟩
  have nml:=nq ns (n / 3)
  rw [enm] at nml ⊢
  have s02:=s1.trans s2
  have hn2 : H2 nl = some (.lst (names.map V.str)):=s02 _ _ I.hn
  refine cX (t:=kH _ _) (fun σ' H3 => ∃ lf : Addr,σ' = [some (.ref a),some (.ref b),some (.int n),some v,some (.str (aw st)),some (.int (aH st : Int)),some (.ref nl),some (.ref rl),some (.str κ),some (.str nm),some (.ref lf)] /\ Same H2 H3 /\ H lf = none /\ H3 lf = some (.lst ((names.filter fun x => decide (x ≠ nm)).map V.str))) ?_ (fun D' nxt => ?_)
  rotate_left
  ·refine ⟨_,rfl,nl,rfl,⟨_,qL_ hn2⟩,?_⟩
   refine mf (K:=K) (xs:=names.map V.str) (fun D j ys H' => Same H2 H' /\ ys = ((names.take j).filter fun x => decide (x ≠ nm)).map V.str) (fun D hD => ⟨ak hD _,rfl⟩) (fun D j ys H' _ ⟨e,_⟩ => qL_ (e _ _ hn2)) ?_ ?_
   ·rintro D j y ys H' Qy Qn hD hj hy ⟨hs,rfl⟩ ky kn
    obtain ⟨x,rfl,hx⟩:=qa hj
    have fl:=List.length_filter_le (fun x => decide (x ≠ nm)) (names.take j)
    rw [List.length_take] at fl
    refine ⟨_,rfl,_,rfl,rfl,_,rfl,q9 (fun c => ?_) (fun c => ?_)⟩
    ·have c' : x ≠ nm:=fun z => c (V_str.mpr z)
     refine ⟨_,rfl,ky _ _ hy (c5 (by rw [lm_]; omega)) ⟨aU hs hD,?_⟩⟩
     rw [qj hx,if_pos (decide_eq_true c'),List.map_append]
     rfl
    ·have c' : ¬ x ≠ nm:=fun z => z (V_str.mp c)
     refine kn _ hy ⟨hs,?_⟩
     rw [qj hx,if_neg (fun z => c' (of_decide_eq_true z)),List.append_nil]
   ·rintro lf ys H3 fl hy ⟨s3,rfl⟩
    rw [lm_,List.take_length] at hy
    exact nxt _ _ ⟨lf,rfl,s3,s02.free fl,hy⟩
  rintro σ' H3 ⟨lf,rfl,s3,ff,hlf⟩
  have s03:=s02.trans s3
  have l1 : (Str.ofString " ").length = 1:=by decide
  have l2 : (Str.ofString ": ").length = 2:=by decide
  have bd' : (aw st).length <= 100000:=bd
  refine ⟨_,rfl,_,rfl,_,rfl,(by show 3 <= sizeLine; decide),fun T hT => ?_⟩
  have s4:=ak hT (HO.tup [V.str κ,V.str nm,v])
  refine ⟨_,rfl,_,_,rfl,rfl,zz _ (by omega),_,rfl,_,_,rfl,rfl,zz _ (by rw [len_app]; omega),_,_,rfl,rfl,zz _ (by rw [len_app,len_app]; omega),_,rfl,_,_,rfl,rfl,zz _ (by rw [len_app,len_app,len_app]; omega),?_⟩
  refine ⟨_,rfl,_,_,rfl,rfl,_,rfl,_,rfl,(by show 5 <= sizeLine; decide),fun l hl => ?_⟩
  have s5:=ak hl (HO.lst [V.ref T,V.str (κ ++ Str.ofString " " ++ nm ++ Str.ofString ": " ++ aw st),V.int ((aH st : Int) + 1),V.ref lf,V.ref rl])
  have s05:=s03.trans (s4.trans s5)
  refine k l ⟨.ch κ nm st,.ref T,lf,rl,names.filter fun x => decide (x ≠ nm),rows⟩ _ s05 ⟨?_,⟨T,v,rfl,s5 _ _ ai,StAt.same (tkS s05) I.sv⟩,(s4.trans s5) _ _ hlf,s05 _ _ I.hr,⟨kc,by omega,I.wf⟩,I.nm.filter _,I.rs,fun x hx => I.ni x (List.mem_filter.mp hx).1,I.ri⟩ ((s03.trans s4).free hl) (.inr ff) rfl rfl ?_
  ·rw [ai]
   show some (HO.lst [V.ref T,V.str (κ ++ Str.ofString " " ++ nm ++ Str.ofString ": " ++ aw st),V.int ((aH st : Int) + 1),V.ref lf,V.ref rl]) = _
   rw [dd]
   rfl
  ·show (κ ++ (" " : Str) ++ nm ++ (": " : Str) ++ aw st).length <= (aw st).length + 30
   rw [len_app,len_app,len_app,len_app]
   have : ((" " : Str)).length = 1:=by decide
   have : ((": " : Str)).length = 2:=by decide
   omega
theorem qL (F : FunD K "_law_two" "_law_two" b8 dV f fd) (jh : mg "max" = none) (bV : mg "sorted" = none) (fP : mg "set" = none) : FnOk P w K mg base CX0 1 f fd ["_law_one","_law_other","_law_number"] nB:=by
 refine F.ok sc__law_two (fun vs H Q E h => ?_) (fun cdv A outer s H vs Q E hr h => ?_)
 ·obtain ⟨b,c,n,ns,it,jt,rfl,_⟩:=h
  rfl
 obtain ⟨b,c,n,ns,it,jt,rfl,I,J,bi,bj,k⟩:=h
 obtain ⟨st,v,nl,rl,names,rows⟩:=it
 obtain ⟨st2,v2,nl2,rl2,names2,rows2⟩:=jt
 have few : names.length <= 4 /\ rows.length <= 3:=I.few
 have few2 : names2.length <= 4 /\ rows2.length <= 3:=J.few
 have zz : ∀ m : Nat,m <= 300000 -> m <= sizeLine:=fun m h => Nat.le_trans h (by decide)
 have bi' : (aw st).length <= 100000:=bi
 have bj' : (aw st2).length <= 100000:=bj
 refine fR (aq (PSW.mk (ay (i:=3) sc__law_two.nd rfl (Or.inl rfl) (aG aO (cB (aa av (aa av af))) (ag aF (pv 2) ae) (fun _ _ => rfl))))
   (aq (PSW.mk (ay (i:=4) sc__law_two.nd rfl (Or.inl rfl) (ag ah (ag ah (ag ah (ag ah (ag ah (ag ah av (aG aO (pv 0) ae (fun _ _ => rfl))) av) (pv 3)) av) (aG aO (pv 1) ae (fun _ _ => rfl))) av)))
   (aq (PSW.mk (ay (i:=5) sc__law_two.nd rfl (Or.inl rfl) (aD ((bE rfl)) (by rfl) bV cW (aa (a9 ((cw rfl)) (by rfl) fP gJ (aa (ag mC (aG aO (pv 0) ae (fun _ _ => rfl)) (aG aO (pv 1) ae (fun _ _ => rfl))) af)) af))))
   (bH (gj (dQ (aj (qq (aj (PEW.mk (pv 3)) (aj (PEW.mk (aG aO (pv 0) ae (fun _ _ => rfl))) (aj (PEW.mk (aG aO (pv 1) ae (fun _ _ => rfl))) bU)))) (aj (PEW.mk (pv 4)) (aj (PEW.mk (ag a8 ae (aD (nJ rfl) (by rfl) jh om (aa (aG aO (pv 0) ae (fun _ _ => rfl)) (aa (aG aO (pv 1) ae (fun _ _ => rfl)) af))))) (aj (PEW.mk (pv 5)) (aj (PEW.mk (aD ((bE rfl)) (by rfl) bV cW (aa (a9 ((cw rfl)) (by rfl) fP gJ (aa (ag mC (aG aO (pv 0) ae (fun _ _ => rfl)) (aG aO (pv 1) ae (fun _ _ => rfl))) af)) af))) bU))))))))))) ?_
 refine ⟨(by show 2 <= sizeLine; decide),fun Lk hLk => ?_⟩
 have s1:=ak hLk (HO.lst [V.str (Str.ofString "and"),V.str (Str.ofString "or")])
 have m2:=bh (a:=n) (b:=2) (by decide)
 obtain ⟨κ,ek,kl,kc⟩ : ∃ κ : Str,atI [V.str (Str.ofString "and"),V.str (Str.ofString "or")] (n % 2) = some (.str κ) /\ κ.length <= 3 /\ (κ = ("and" : Str) \/ κ = ("or" : Str)):=by
  have e : n % 2 = 0 \/ n % 2 = 1:=by omega
  rcases e with e | e <;> rw [e]
  ·exact ⟨_,rfl,by decide +kernel,.inl rfl⟩
  ·exact ⟨_,rfl,by decide +kernel,.inr rfl⟩
 refine ⟨_,rfl,_,_,rfl,rfl,(by show (0 : Int) < 2; decide),Lk,_,_,_,rfl,rfl,qL_ ai,ek,?_⟩
 try dsimp only [aC,aJ,List.set]
 obtain ⟨H1,e1⟩ : ∃ H1,upd H Lk (HO.lst [V.str (Str.ofString "and"),V.str (Str.ofString "or")]) = H1:=⟨_,rfl⟩
 rw [e1] at s1 ⊢
 have I1:=I.same s1
 have J1:=J.same s1
 have l1 : (Str.ofString "(").length = 1:=by decide
 have l2 : (Str.ofString " ").length = 1:=by decide
 have l3 : (Str.ofString ")").length = 1:=by decide
 refine ⟨_,rfl,b,_,_,_,rfl,rfl,qL_ I1.li,rfl,_,_,rfl,rfl,zz _ (by show _ + (aw st).length <= _; omega),_,_,rfl,rfl,zz _ (by rw [len_app]; show _ + (aw st).length + _ <= _; omega),_,rfl,_,_,rfl,rfl,zz _ (by rw [len_app,len_app]; show _ + (aw st).length + _ + _ <= _; omega),_,_,rfl,rfl,zz _ (by rw [len_app,len_app,len_app]; show _ + (aw st).length + _ + _ + _ <= _; omega),_,rfl,c,_,_,_,rfl,rfl,qL_ J1.li,rfl,_,_,rfl,rfl,zz _ (by rw [len_app,len_app,len_app,len_app]; show _ + (aw st).length + _ + _ + _ + (aw st2).length <= _; omega),_,_,rfl,rfl,zz _ (by rw [len_app,len_app,len_app,len_app,len_app]; show _ + (aw st).length + _ + _ + _ + (aw st2).length + _ <= _; omega),?_⟩
 try dsimp only [aC,aJ,List.set]
 obtain ⟨ln,eln⟩ : ∃ ln,Str.ofString "(" ++ aw st ++ Str.ofString " " ++ κ ++ Str.ofString " " ++ aw st2 ++ Str.ofString ")" = ln:=⟨_,rfl⟩
 have eln2 : ln = aw (.jn κ st st2):=by rw [<- eln]; exact pV _ _ _
 rw [eln]
 refine cX (t:=kH _ _) (fun σ' H2 => ∃ (lz : Addr) (ms : List Str),σ' = [some (.ref b),some (.ref c),some (.int n),some (.str κ),some (.str ln),some (.ref lz)] /\ Same H1 H2 /\ H2 lz = some (.lst (ms.map V.str)) /\ H lz = none /\ IsNm ms (names ++ names2)) ?_ (fun D' nxt => ?_)
 rotate_left
 ·refine ⟨_,rfl,b,_,_,_,rfl,rfl,qL_ I1.li,rfl,_,rfl,c,_,_,_,rfl,rfl,qL_ J1.li,rfl,nl,nl2,_,_,rfl,rfl,I1.hn,J1.hn,zz _ (by rw [lm_,lm_]; show names.length + names2.length <= _; omega),fun lc hlc => ?_⟩
  have s6:=ak hlc (HO.lst (names.map V.str ++ names2.map V.str))
  refine ⟨lc,names ++ names2,rfl,by rw [ai,List.map_append],by rw [List.length_append]; omega,fun S hS' => ?_⟩
  have s7:=ak hS' (dc P w S (bS (names ++ names2)))
  have ol:=cZ (names ++ names2)
  rw [List.length_append] at ol
  refine ⟨S,_,rfl,ai,by omega,fun lz ms hlz pz so => ?_⟩
  exact nxt _ _ ⟨lz,ms,rfl,s6.trans (s7.trans (ak hlz (HO.lst (ms.map V.str)))),ai,(s1.trans (s6.trans s7)).free hlz,IsNm.of_sorted pz so⟩
 rintro σ' H2 ⟨lz,ms,rfl,s2,hz,fz,isn⟩
 have s02:=s1.trans s2
 have I2:=I.same s02
 have J2:=J.same s02
 refine ⟨_,rfl,_,rfl,b,_,_,_,rfl,rfl,qL_ I2.li,rfl,_,rfl,c,_,_,_,rfl,rfl,qL_ J2.li,rfl,(by show 3 <= sizeLine; decide),fun T hT => ?_⟩
 have s3:=ak hT (HO.tup [V.str κ,v,v2])
 have s03:=s02.trans s3
 have I3:=I.same s03
 have J3:=J.same s03
 refine ⟨_,rfl,_,rfl,b,_,_,_,rfl,rfl,qL_ I3.li,rfl,_,rfl,c,_,_,_,rfl,rfl,qL_ J3.li,rfl,_,_,rfl,_,_,rfl,rfl,_,rfl,?_⟩
 refine ⟨_,rfl,b,_,_,_,rfl,rfl,qL_ I3.li,rfl,_,rfl,c,_,_,_,rfl,rfl,qL_ J3.li,rfl,rl,rl2,_,_,rfl,rfl,I3.hr,J3.hr,zz _ (by rw [lm_,lm_]; show rows.length + rows2.length <= _; omega),fun lc hlc => ?_⟩
 have s4:=ak hlc (HO.lst (rows.map V.str ++ rows2.map V.str))
 refine ⟨lc,rows ++ rows2,rfl,by rw [ai,List.map_append],by rw [List.length_append]; omega,fun S hS' => ?_⟩
 have s5:=ak hS' (dc P w S (bS (rows ++ rows2)))
 have ol:=cZ (rows ++ rows2)
 rw [List.length_append] at ol
 refine ⟨S,_,rfl,ai,by omega,fun lr mr hlr pr sor => ?_⟩
 have s6:=ak hlr (HO.lst (mr.map V.str))
 have isr : IsNm mr (rows ++ rows2):=IsNm.of_sorted pr sor
 refine ⟨(by show 5 <= sizeLine; decide),fun l hl => ?_⟩
 have s7:=ak hl (HO.lst [V.ref T,V.str ln,V.int (1 + (if (aH st2 : Int) > (aH st : Int) then (aH st2 : Int) else (aH st : Int))),V.ref lz,V.ref lr])
 have t4:=s4.trans (s5.trans (s6.trans s7))
 have s07:=s03.trans t4
 refine k l ⟨.jn κ st st2,.ref T,lz,lr,ms,mr⟩ _ s07 ⟨?_,⟨T,v,v2,rfl,t4 _ _ ai,StAt.same (tkS s07) I.sv,StAt.same (tkS s07) J.sv⟩,(s3.trans t4) _ _ hz,s7 _ _ ai,⟨kc,I.wf,J.wf⟩,isn.congr fun x => ?_,isr.congr fun x => ?_,fun x hx => ?_,fun x hx => ?_⟩ ((s03.trans (s4.trans (s5.trans s6))).free hl) fz ((s03.trans (s4.trans s5)).free hlr) rfl ?_
 ·rw [ai]
  show some (HO.lst [V.ref T,V.str ln,V.int (1 + (if (aH st2 : Int) > (aH st : Int) then (aH st2 : Int) else (aH st : Int))),V.ref lz,V.ref lr]) = _
  rw [pX,eln2]
  have : (1 : Int) + ((max (aH st) (aH st2) : Nat) : Int) = ((1 + max (aH st) (aH st2) : Nat) : Int):=by omega
  rw [this]
  rfl
 ·show x ∈ names ++ names2 ↔ x ∈ cy st ++ cy st2
  rw [List.mem_append,List.mem_append,I.nm.mem,J.nm.mem]
 ·show x ∈ rows ++ rows2 ↔ x ∈ cD st ++ cD st2
  rw [List.mem_append,List.mem_append,I.rs.mem,J.rs.mem]
 ·rcases ma_.mp ((isn.mem x).mp hx) with z | z
  ·exact I.ni x z
  ·exact J.ni x z
 ·rcases ma_.mp ((isr.mem x).mp hx) with z | z
  ·exact I.ri x z
  ·exact J.ri x z
 ·show (aw (.jn κ st st2)).length <= (aw st).length + (aw st2).length + 7
  rw [<- eln2,<- eln,len_app,len_app,len_app,len_app,len_app,len_app]
  omega
end
def IR (ns : LI) (L : Addr) (H : Hp) (a : Addr) (it : It) : Prop:=ItAt ns H a it /\ Off L a it
def LIa (ns : LI) (L : Addr) (as : List Addr) (its : List It) (H : Hp) : Prop:=H L = some (.lst (as.map V.ref)) /\ Paired (IR ns L H) as its
def szI (it : It) : Nat:=(aw it.st).length + 7
def tot (its : List It) : Nat:=(its.map szI).sum
theorem LIa.same {ns : LI} {L : Addr} {as : List Addr} {its : List It} {H H' : Hp} (h : LIa ns L as its H) (s : Same H H') : LIa ns L as its H' := ⟨s _ _ h.1,Paired.mapP h.2 fun _ _ q => ⟨q.1.same s,q.2⟩⟩
theorem LIa.upd {ns : LI} {L : Addr} {as : List Addr} {its : List It} {H : Hp} {xs ys : List V} (h : Paired (IR ns L H) as its) (hL : H L = some (.lst xs)) : Paired (IR ns L (upd H L (.lst ys))) as its:=Paired.mapP h fun _ _ q => ⟨q.1.off q.2 hL,q.2⟩
theorem i7 {α β : Type} {R : α -> β -> Prop} : ∀ {as : List α} {bs : List β} {a : α} {b : β},Paired R as bs -> R a b -> Paired R (as ++ [a]) (bs ++ [b])
 | _,_,_,_,.nil,h => .cons h .nil
 | _,_,_,_,.cons q t,h => .cons q (i7 t h)
theorem gi {α β : Type} {R : α -> β -> Prop} : ∀ {bs : List β} {as : List α} {b : β},Paired R as (bs ++ [b]) -> ∃ as' a,as = as' ++ [a] /\ Paired R as' bs /\ R a b
 | [],_,_,.cons (a:=a) q .nil => ⟨[],a,rfl,.nil,q⟩
 | _ :: bs,_,_,.cons (a:=a) q t => by
  obtain ⟨as',a',e,h,r⟩:=gi (bs:=bs) t
  exact ⟨a :: as',a',by rw [e]; rfl,.cons q h,r⟩
theorem dJ {α : Type} {xs : List α} (h : xs ≠ []) : ∃ ys y,xs = ys ++ [y]:=⟨xs.dropLast,xs.getLast h,(List.dropLast_concat_getLast h).symm⟩
theorem LIa.pop {ns : LI} {L : Addr} {as : List Addr} {its : List It} {it : It} {H : Hp} (h : LIa ns L as (its ++ [it]) H) : ∃ as' a,as = as' ++ [a] /\ LIa ns L as' its (L2.upd H L (.lst (as'.map V.ref))) /\ ItAt ns (L2.upd H L (.lst (as'.map V.ref))) a it /\ Off L a it:=by
 obtain ⟨as',a,e,h2,r⟩:=gi h.2
 exact ⟨as',a,e,⟨ai,LIa.upd h2 h.1⟩,r.1.off r.2 h.1,r.2⟩
theorem LIa.push {ns : LI} {L a : Addr} {as : List Addr} {its : List It} {it : It} {H : Hp} (h : LIa ns L as its H) (i : ItAt ns H a it) (o : Off L a it) : LIa ns L (as ++ [a]) (its ++ [it]) (L2.upd H L (.lst (as.map V.ref ++ [V.ref a]))):=
 ⟨by rw [ai,List.map_append]; rfl,i7 (LIa.upd h.2 h.1) ⟨i.off o h.1,o⟩⟩
theorem pop_at {as : List Addr} {a : Addr} : ((as ++ [a]).map V.ref)[((as ++ [a]).map V.ref).length - 1]? = some (V.ref a) /\ ((as ++ [a]).map V.ref).dropLast = as.map V.ref:=by
 rw [List.map_append]
 constructor
 ·rw [List.length_append]
  show (as.map V.ref ++ [V.ref a])[(as.map V.ref).length + 1 - 1]? = _
  rw [Nat.add_sub_cancel,List.getElem?_append_right (Nat.le_refl _),Nat.sub_self]
  rfl
 ·exact List.dropLast_concat
theorem bT (its : List It) (it : It) : tot (its ++ [it]) = tot its + szI it:=by
 unfold tot
 rw [List.map_append,List.sum_append]
 show _ + (szI it + 0) = _
 rw [Nat.add_zero]
theorem nD : ∀ {its : List It} {it : It},it ∈ its -> szI it <= tot its
 | x :: its,it,h => by
  have e : tot (x :: its) = szI x + tot its:=by unfold tot; rw [List.map_cons,List.sum_cons]
  rw [e]
  rcases List.mem_cons.mp h with z | z
  ·rw [z]; omega
  ·have:=nD z
   omega
theorem ka {ns : LI} {L : Addr} {H : Hp} : ∀ {as : List Addr} {its : List It} {i : Nat} {y : V},Paired (IR ns L H) as its -> (as.map V.ref)[i]? = some y -> ∃ (a : Addr) (it : It),y = .ref a /\ IR ns L H a it /\ its[i]? = some it
 | _,_,_,_,.nil,h => by simp at h
 | _,_,0,_,.cons (a:=a) (b:=p) r _,h => ⟨a,p,(Option.some.inj h).symm,r,rfl⟩
 | _,_,i + 1,_,.cons _ t,h => by
  obtain ⟨a,p,e,r,q⟩:=ka (i:=i) t (by simpa using h)
  exact ⟨a,p,e,r,by simpa using q⟩
theorem qY {t1 t2 t3 : TT} {σ : St} {H : Hp} {A B : Hp -> Prop} {b1 b2 b3 : Bool} (h1 : ∀ Q : Bool -> Hp -> Prop,Q b1 H -> t1 σ H Q) (h2 : ∀ Q : Bool -> Hp -> Prop,Q b2 H -> t2 σ H Q) (h3 : ∀ Q : Bool -> Hp -> Prop,Q b3 H -> t3 σ H Q) (h : if (b1 && (b2 && b3)) = true then A H else B H) : qd t1 (qd t2 t3) σ H fun b H1 => if b = true then A H1 else B H1:=by
 refine h1 _ ?_
 cases b1 with
 | false => exact pT h
 | true =>
  refine mn (h2 _ ?_)
  cases b2 with
  | false => exact pT h
  | true => exact mn (h3 _ h)
theorem qX {t1 t2 : TT} {σ : St} {H : Hp} {A B : Hp -> Prop} {b1 b2 : Bool} (h1 : ∀ Q : Bool -> Hp -> Prop,Q b1 H -> t1 σ H Q) (h2 : ∀ Q : Bool -> Hp -> Prop,Q b2 H -> t2 σ H Q) (h : if (b1 && b2) = true then A H else B H) : qd t1 t2 σ H fun b H1 => if b = true then A H1 else B H1:=by
 refine h1 _ ?_
 cases b1 with
 | false => exact pT h
 | true => exact mn (h2 _ h)
theorem pq : ∀ (its : List It) (z : Int),(its.map fun it => ((szI it : Nat) : Int)).foldl (· + ·) z = z + ((tot its : Nat) : Int)
 | [],z => (Int.add_zero z).symm
 | x :: its,z => by
  have e : tot (x :: its) = szI x + tot its:=by unfold tot; rw [List.map_cons,List.sum_cons]
  rw [List.map_cons,List.foldl_cons,pq its,e]
  omega
theorem qc (its : List It) : qb (its.map fun it => ((szI it : Nat) : Int)) = ((tot its : Nat) : Int):=by
 unfold qb
 rw [pq,Int.zero_add]
theorem j9 {H : Hp} {L l : Addr} {it : It} {o : HO} (hL : H L = some o) (f : H l = none) (fn : H it.nl = none) (fr : H it.rl = none) : Off L l it:=
 ⟨fun z => (by rw [z,hL] at f; cases f),fun z => (by rw [z,hL] at fn; cases fn),fun z => (by rw [z,hL] at fr; cases fr)⟩
structure Few (its : List It) : Prop where
 tt : tot its <= 1700
 dd : ∀ it ∈ its,aH it.st + its.length <= 20
def kE (K : PySem.W.Frag) : Sp:=fun vs H Q _ => ∃ (a : Addr) (ns : LI),vs = [.ref a] /\ SqL K H a (ns.map V.int) /\ ns.length <= 63 /\
 ∀ (L : Addr) (as : List Addr) (its : List It) (H' : Hp),Same H H' -> H L = none -> LIa ns L as its H' -> its ≠ [] -> Few its -> Q (.ref L) H'
section
variable {P : Program} {w : World} {K : PySem.W.Frag} {mg : Str -> Option Value} {base : Heap} {f : Addr} {fd : FuncData} {dV : Value}
theorem sc__law_items : FnScope ["_law_script","_law_items_here","_law_k","_law_number","_law_size","_law_deep","_law_other"] ["_law_script"] (ao bc):=⟨rfl,rfl,rfl,by decide +kernel,rfl,by decide +kernel,by decide +kernel⟩
theorem bk__law_items_0 : BlkScope ["_law_script","_law_items_here","_law_k","_law_number","_law_size","_law_deep","_law_other"] (ao bc) ["_law_item"] [none] { kind:=ScopeKind.function,names:=[(".0",NameKind.local),("_law_item",NameKind.local),("len",NameKind.globalImplicit)],isGenerator:=false,isCoroutine:=false,more:=[] }:=⟨rfl,by decide +kernel,by decide +kernel,by decide +kernel,by decide +kernel,rfl,by decide +kernel⟩
theorem bk__law_items_1 : BlkScope ["_law_script","_law_items_here","_law_k","_law_number","_law_size","_law_deep","_law_other"] (ao bc) ["_law_item"] [none] { kind:=ScopeKind.function,names:=[(".0",NameKind.local),("_law_item",NameKind.local)],isGenerator:=false,isCoroutine:=false,more:=[] }:=⟨rfl,by decide +kernel,by decide +kernel,by decide +kernel,by decide +kernel,rfl,by decide +kernel⟩
theorem oY (F : FunD K "_law_items" "_law_items" bc dV f fd) (ax : DefOk P w K mg base "_law_draw" 1 ["_law_script","_law_k"] [] (cO K)) (bp : DefOk P w K mg base "_law_plain" 4 ["_law_script","_law_at"] [] (gE K)) (bW : DefOk P w K mg base "_law_two" 1 ["_law_one","_law_other","_law_number"] [] nB) (cq : DefOk P w K mg base "_law_wrapped" 3 ["_law_script","_law_item","_law_number"] [] (mJ K)) (cg : mg "len" = none) (pK : mg "min" = none) (jh : mg "max" = none) (pM : mg "sum" = none) (eH : mg "range" = none) : FnOk P w K mg base CX0 5 f fd ["_law_script"] (kE K):=by
 refine F.ok sc__law_items (fun vs H Q E h => ?_) (fun cdv A outer s H vs Q E hr h => ?_)
 ·obtain ⟨a,ns,rfl,_⟩:=h
  rfl
 obtain ⟨a,ns,rfl,hS,h63,k⟩:=h
 refine ⟨_,(az (ay (i:=1) sc__law_items.nd rfl (Or.inl rfl) (cB (aa (aK bp hr (aa (pv 0) (aa ae af))) af)))
   (az (pd PassesOwn.never rfl (ja rfl eH (aa (aD (nL rfl) (by rfl) pK qx (aa (aD ba (by rfl) cg cQ (aa (pv 0) af)) (aa ae af))) af)) (aP (i:=2) sc__law_items.nd rfl (Or.inl rfl)) (az (ay (i:=3) sc__law_items.nd rfl (Or.inl rfl) (aK ax hr (aa (pv 0) (aa (ag a8 ae (pv 2)) af))))
   (az (ay (i:=4) sc__law_items.nd rfl (Or.inl rfl) (aD ((nM rfl)) (by rfl) pM qy (aa (kb rfl bk__law_items_0 (ke (pv 1)) (fun _ _ _ _ => (aP (i:=0) bk__law_items_0.nd rfl (Or.inl rfl))) (fun _ _ _ _ => (ag a8 (aD fu (by rfl) cg cQ (aa (aG (k8 K) (pv 0) ae (fun _ _ => rfl)) af)) ae))) af)))
   (az (ay (i:=5) sc__law_items.nd rfl (Or.inl rfl) (ag a8 (aD ((nK rfl)) (by rfl) jh om (aa (kb rfl bk__law_items_1 (ke (pv 1)) (fun _ _ _ _ => (aP (i:=0) bk__law_items_1.nd rfl (Or.inl rfl))) (fun _ _ _ _ => (aG (k8 K) (pv 0) ae (fun _ _ => rfl)))) af)) (aD ba (by rfl) cg cQ (aa (pv 1) af))))
   (aA (cM (PW.pt (fY (aB fH (pv 5) ae (aL _)) (fY (aB fH (pv 4) ae (aL _)) (gC (aB fH (ag aF (pv 3) ae) ae (aL _)))))) (aA (bF (cL PySem.F.plainAttrs_list PySem.F.slot_list_append PySem.F.type_list_append aV (pv 1) (aa (aK bp hr (aa (pv 0) (aa (ag a8 ae (ag fh ae (pv 2))) af))) af)))) (aA (cM (PW.pt (fY (aB fH (pv 5) ae (aL _)) (fY (aB o3 (aD ba (by rfl) cg cQ (aa (pv 1) af)) ae (aL _)) (gC (aB fH (ag aF (pv 3) ae) ae (aL _)))))) (az (ay (i:=6) sc__law_items.nd rfl (Or.inl rfl) (gW PySem.F.plainAttrs_list PySem.F.slot_list_pop PySem.F.type_list_pop gS (pv 1)))
   (aA (bF (cL PySem.F.plainAttrs_list PySem.F.slot_list_append PySem.F.type_list_append aV (pv 1) (aa (aK bW hr (aa (gW PySem.F.plainAttrs_list PySem.F.slot_list_pop PySem.F.type_list_pop gS (pv 1)) (aa (pv 6) (aa (ag aW (pv 3) ae) af)))) af))))) (aA (cM (PW.pt (fY (aB fH (pv 5) ae (aL _)) (gC (aB fH (pv 4) ae (aL _))))) (aA (bF (cL PySem.F.plainAttrs_list PySem.F.slot_list_append PySem.F.type_list_append aV (pv 1) (aa (aK cq hr (aa (pv 0) (aa (gW PySem.F.plainAttrs_list PySem.F.slot_list_pop PySem.F.type_list_pop gS (pv 1)) (aa (ag aW (pv 3) ae) af)))) af)))) bG))))))))))
   (aA (br (pv 1))))),?_⟩
 refine ⟨_,rfl,a,0,ns,rfl,hS,h63,⟨by decide,by decide⟩,fun l0 it0 H0 s0 I0 f0 fn0 fr0 d0 b0 => ?_⟩
 refine ⟨(by show 1 <= sizeLine; decide),fun L hL => ?_⟩
 have sL:=ak hL (HO.lst [V.ref l0])
 have oL : Off L l0 it0:=⟨au I0.li hL,au I0.hn hL,au I0.hr hL⟩
 have fL : H L = none:=s0.free hL
 have LI0 : LIa ns L [l0] [it0] (upd H0 L (HO.lst [V.ref l0])):=⟨ai,.cons ⟨I0.same sL,oL⟩ .nil⟩
 have few0 : Few [it0]:=⟨by show szI it0 + 0 <= 1700; unfold szI; omega,fun it h => by rw [List.mem_singleton.mp h,d0]; show 0 + 1 <= 20; decide⟩
 obtain ⟨H1,e1⟩ : ∃ H1,upd H0 L (HO.lst [V.ref l0]) = H1:=⟨_,rfl⟩
 have s01 : Same H H1:=by rw [<- e1]; exact s0.trans sL
 rw [e1] at LI0 ⊢
 try dsimp only [aC,aJ,List.set]
 refine cX (t:=qe _ _ _) (fun σ' H' => ∃ (as : List Addr) (its : List It) (v2 v3 v4 v5 v6 : OV),σ' = [some (.ref a),some (.ref L),v2,v3,v4,v5,v6] /\ Same H H' /\ LIa ns L as its H' /\ its ≠ [] /\ Few its) ?_ (fun D' nxt => ?_)
 rotate_left
 ·refine ⟨_,rfl,a,_,rfl,.inl (s01.seq hS),_,_,rfl,_,rfl,?_,?_,?_⟩
  ·split <;> omega
  ·rw [lm_]
   split <;> omega
  refine i5 (fun i σ' H' => ∃ (as : List Addr) (its : List It) (v2 v3 v4 v5 v6 : OV),σ' = [some (.ref a),some (.ref L),v2,v3,v4,v5,v6] /\ Same H H' /\ LIa ns L as its H' /\ its ≠ [] /\ Few its) ⟨[l0],[it0],none,none,none,none,none,rfl,s01,LI0,by simp,few0⟩ ?_ ?_
  ·rintro i σ' H2 hi ⟨as,its,v2,v3,v4,v5,v6,rfl,s2,LI,ne,few⟩
   have hi' : i < 64:=by
    rw [lm_] at hi
    split at hi <;> omega
   have hS2:=s2.seq hS
   have la : as.length = its.length:=Paired.length LI.2
   have tt:=few.tt
   have li20 : its.length <= 20:=by
    obtain ⟨ys,y,e⟩:=dJ ne
    have:=few.dd y (by rw [e]; simp)
    omega
   refine ⟨_,rfl,_,rfl,_,_,rfl,rfl,a,50 + (0 + (i : Int)),ns,rfl,hS2,h63,by omega,by omega,?_⟩
   try dsimp only [aC,aJ,List.set]
   obtain ⟨n,en⟩ : ∃ n,ee ns (50 + (0 + (i : Int))) = n:=⟨_,rfl⟩
   have n0:=cc ns (50 + (0 + (i : Int)))
   rw [en] at n0 ⊢
   refine cX (t:=kH _ _) (fun σ' H' => σ' = [some (.ref a),some (.ref L),some (.int (0 + (i : Int))),some (.int n),some (.int ((tot its : Nat) : Int)),v5,v6] /\ Same H2 H') ?_ (fun D1 nxt1 => ?_)
   rotate_left
   ·refine ⟨_,rfl,L,rfl,⟨_,qL_ LI.1⟩,?_⟩
    refine iX (K:=K) (xs:=as.map V.ref) (fun D j ys H' => Same H2 H' /\ ys = ((its.take j).map fun it => ((szI it : Nat) : Int)).map V.int) (fun D hD => ⟨ak hD _,rfl⟩) (fun D j ys H' _ ⟨e,_⟩ => qL_ (e _ _ LI.1)) ?_ ?_
    ·rintro D j y ys H3 Q' hD hj hy ⟨s3,rfl⟩ k'
     obtain ⟨b,it,rfl,hb,hit⟩:=ka LI.2 hj
     have ib:=hb.1.same s3
     have sz:=nD (mq_ hit)
     have jl:=(gi_ hit).1
     unfold szI at sz
     refine ⟨_,rfl,b,_,_,_,rfl,rfl,qL_ ib.li,rfl,_,rfl,Nat.le_trans (show (aw it.st).length <= 1700 by omega) (by decide),_,_,rfl,rfl,k' _ _ hy (c5 (by rw [lm_,lm_,List.length_take]; omega)) ⟨aU s3 hD,?_⟩⟩
     rw [List.take_add_one,hit,List.map_append,List.map_append]
     rfl
    ·rintro D ys H3 hD hy ⟨s3,rfl⟩
     rw [lm_,la,List.take_length] at hy
     refine ⟨D,_,rfl,qL_ hy,nxt1 _ _ ⟨?_,s3⟩⟩
     rw [qc]
     rfl
   rintro σ' H3 ⟨rfl,s3⟩
   have LI3:=LI.same s3
   refine cX (t:=kH _ _) (fun σ' H' => ∃ M : Nat,σ' = [some (.ref a),some (.ref L),some (.int (0 + (i : Int))),some (.int n),some (.int ((tot its : Nat) : Int)),some (.int ((M : Int) + (its.length : Int))),v6] /\ Same H3 H' /\ ∀ it ∈ its,aH it.st <= M) ?_ (fun D1 nxt1 => ?_)
   rotate_left
   ·refine ⟨_,rfl,L,rfl,⟨_,qL_ LI3.1⟩,?_⟩
    refine iX (K:=K) (xs:=as.map V.ref) (fun D j ys H' => Same H3 H' /\ ys = ((its.take j).map fun it => ((aH it.st : Nat) : Int)).map V.int) (fun D hD => ⟨ak hD _,rfl⟩) (fun D j ys H' _ ⟨e,_⟩ => qL_ (e _ _ LI3.1)) ?_ ?_
    ·rintro D j y ys H4 Q' hD hj hy ⟨s4,rfl⟩ k'
     obtain ⟨b,it,rfl,hb,hit⟩:=ka LI3.2 hj
     have ib:=hb.1.same s4
     have jl:=(gi_ hit).1
     refine ⟨_,rfl,b,_,_,_,rfl,rfl,qL_ ib.li,rfl,k' _ _ hy (c5 (by rw [lm_,lm_,List.length_take]; omega)) ⟨aU s4 hD,?_⟩⟩
     rw [List.take_add_one,hit,List.map_append,List.map_append]
     rfl
    ·rintro D ys H4 hD hy ⟨s4,rfl⟩
     rw [lm_,la,List.take_length] at hy
     refine ⟨D,_,rfl,qL_ hy,?_,fun M hM hle => ?_⟩
     ·intro z
      exact ne (List.map_eq_nil_iff.mp z)
     obtain ⟨it,hit,eM⟩:=List.mem_map.mp hM
     refine ⟨_,rfl,L,_,rfl,.inl (qL_ (s4 _ _ LI3.1)),_,_,rfl,rfl,nxt1 _ _ ⟨aH it.st,?_,s4,fun jt hj => ?_⟩⟩
     ·rw [lm_,la,<- eM]
      rfl
     ·have:=hle _ (List.mem_map.mpr ⟨jt,hj,rfl⟩)
      omega
   rintro σ' H4 ⟨M,rfl,s4,hM⟩
   have LI4:=LI3.same s4
   have s04:=s2.trans (s3.trans s4)
   have hS4:=s04.seq hS
   have sm : ∀ m : Nat,m <= 100 -> m <= sizeLine:=fun m h => Nat.le_trans h (by decide)
   refine qY (b1:=decide ((M : Int) + (its.length : Int) < 20)) (b2:=decide (((tot its : Nat) : Int) < 780)) (b3:=decide (n % 8 < 2)) (fun Q q => ⟨_,rfl,_,_,rfl,rfl,_,rfl,q⟩) (fun Q q => ⟨_,rfl,_,_,rfl,rfl,_,rfl,q⟩) (fun Q q => ⟨_,rfl,_,_,rfl,rfl,(by show (0 : Int) < 8; decide),_,_,rfl,rfl,_,rfl,q⟩) (k7 (fun c => ?_) (fun _ => ?_))
   ·simp only [Bool.and_eq_true,decide_eq_true_eq] at c
    obtain ⟨c1,c2,_⟩:=c
    refine ⟨_,rfl,.inl ⟨rfl,_,qL_ LI4.1⟩,_,rfl,_,rfl,_,_,rfl,rfl,.inl ⟨by decide,by decide⟩,_,_,rfl,rfl,a,100 + 19 * (0 + (i : Int)),ns,rfl,hS4,h63,⟨by omega,by omega⟩,fun l it H5 s5 I5 f5 fn5 fr5 d5 b5 => ?_⟩
    have LI5:=LI4.same s5
    have o5 : Off L l it:=j9 LI4.1 f5 fn5 fr5
    refine ⟨L,_,_,rfl,rfl,LI5.1,sm _ (by rw [lm_]; omega),?_⟩
    refine ⟨as ++ [l],its ++ [it],_,_,_,_,_,rfl,aU (s04.trans s5) fL,LI5.push I5 o5,by simp,⟨?_,fun jt hj => ?_⟩⟩
    ·rw [bT]
     unfold szI
     omega
    ·rw [List.length_append,List.length_singleton]
     rcases ma_.mp hj with z | z
     ·have:=hM jt z
      omega
     ·rw [List.mem_singleton.mp z,d5]
      omega
   refine qY (b1:=decide ((M : Int) + (its.length : Int) < 20)) (b2:=decide ((1 : Int) < ((as.map V.ref).length : Int))) (b3:=decide (n % 8 < 5)) (fun Q q => ⟨_,rfl,_,_,rfl,rfl,_,rfl,q⟩) (fun Q q => ⟨_,rfl,L,_,rfl,.inl (qL_ LI4.1),_,_,rfl,rfl,_,rfl,q⟩) (fun Q q => ⟨_,rfl,_,_,rfl,rfl,(by show (0 : Int) < 8; decide),_,_,rfl,rfl,_,rfl,q⟩) (k7 (fun c => ?_) (fun _ => ?_))
   ·simp only [Bool.and_eq_true,decide_eq_true_eq] at c
    obtain ⟨c1,c2,_⟩:=c
    rw [lm_] at c2
    obtain ⟨its1,jt,e1⟩:=dJ ne
    subst e1
    have ne1 : its1 ≠ []:=fun z => by rw [z] at la; simp at la; omega
    obtain ⟨its2,it,e2⟩:=dJ ne1
    subst e2
    obtain ⟨as1,c',ea1,LI5,J5,oJ⟩:=LI4.pop
    subst ea1
    refine ⟨_,rfl,.inl ⟨rfl,_,qL_ LI4.1⟩,L,_,_,rfl,rfl,LI4.1,pop_at.1,?_⟩
    rw [pop_at.2]
    try dsimp only [aC,aJ,List.set]
    obtain ⟨H5,e5⟩ : ∃ H5,upd H4 L (HO.lst (as1.map V.ref)) = H5:=⟨_,rfl⟩
    have s05 : Same H H5:=by rw [<- e5]; exact aU s04 fL
    rw [e5] at LI5 J5 ⊢
    obtain ⟨as2,b',ea2,LI6,I6,oI⟩:=LI5.pop
    subst ea2
    have J6:=J5.off (ys:=as2.map V.ref) oJ LI5.1
    rw [bT,bT] at tt
    unfold szI at tt
    refine ⟨_,rfl,.inl ⟨rfl,_,qL_ LI5.1⟩,_,rfl,.inl ⟨rfl,_,qL_ LI5.1⟩,L,_,_,rfl,rfl,LI5.1,pop_at.1,?_⟩
    rw [pop_at.2]
    obtain ⟨H6,e6⟩ : ∃ H6,upd H5 L (HO.lst (as2.map V.ref)) = H6:=⟨_,rfl⟩
    have s06 : Same H H6:=by rw [<- e6]; exact aU s05 fL
    rw [e6] at LI6 I6 J6 ⊢
    refine ⟨_,rfl,_,rfl,_,_,rfl,rfl,⟨by decide,by decide⟩,b',c',n / 8,ns,it,jt,rfl,I6,J6,by omega,by omega,fun l it' H7 s7 I7 f7 fn7 fr7 d7 b7 => ?_⟩
    have LI7:=LI6.same s7
    have o7 : Off L l it' := j9 LI6.1 f7 fn7 fr7
    have ll : (its2 ++ [it] ++ [jt]).length = its2.length + 2:=by simp
    rw [ll] at c1 li20
    have la2 : as2.length = its2.length:=Paired.length LI6.2
    refine ⟨L,_,_,rfl,rfl,LI7.1,sm _ (by rw [lm_]; omega),?_⟩
    refine ⟨as2 ++ [l],its2 ++ [it'],_,_,_,_,_,rfl,aU (s06.trans s7) fL,LI7.push I7 o7,by simp,⟨?_,fun kt hk => ?_⟩⟩
    ·rw [bT]
     unfold szI
     omega
    ·rw [List.length_append,List.length_singleton]
     rcases ma_.mp hk with z | z
     ·have:=hM kt (by simp [z])
      omega
     ·rw [List.mem_singleton.mp z,d7]
      have h1:=hM it (by simp)
      have h2:=hM jt (by simp)
      omega
   refine qX (b1:=decide ((M : Int) + (its.length : Int) < 20)) (b2:=decide (((tot its : Nat) : Int) < 980)) (fun Q q => ⟨_,rfl,_,_,rfl,rfl,_,rfl,q⟩) (fun Q q => ⟨_,rfl,_,_,rfl,rfl,_,rfl,q⟩) (k7 (fun c => ?_) (fun _ => ?_))
   ·simp only [Bool.and_eq_true,decide_eq_true_eq] at c
    obtain ⟨c1,c2⟩:=c
    obtain ⟨its1,it,e1⟩:=dJ ne
    subst e1
    obtain ⟨as1,b',ea1,LI5,I5,oI⟩:=LI4.pop
    subst ea1
    rw [bT] at tt c2
    unfold szI at tt c2
    refine ⟨_,rfl,.inl ⟨rfl,_,qL_ LI4.1⟩,_,rfl,_,rfl,.inl ⟨rfl,_,qL_ LI4.1⟩,L,_,_,rfl,rfl,LI4.1,pop_at.1,?_⟩
    rw [pop_at.2]
    obtain ⟨H5,e5⟩ : ∃ H5,upd H4 L (HO.lst (as1.map V.ref)) = H5:=⟨_,rfl⟩
    have s05 : Same H H5:=by rw [<- e5]; exact aU s04 fL
    rw [e5] at LI5 I5 ⊢
    refine ⟨_,rfl,_,_,rfl,rfl,⟨by decide,by decide⟩,a,b',n / 8,ns,it,rfl,s05.seq hS,h63,Int.ediv_nonneg n0.1 (by decide),I5,by omega,fun l it' H7 s7 I7 f7 fn7 fr7 d7 b7 => ?_⟩
    have LI7:=LI5.same s7
    have o7 : Off L l it' := by
     refine ⟨fun z => ?_,fun z => ?_,fun z => ?_⟩
     ·rw [z,LI5.1] at f7; cases f7
     ·rcases fn7 with q | q
      ·exact oI.2.1 (q ▸ z)
      ·rw [z,LI5.1] at q; cases q
     ·exact oI.2.2 (fr7 ▸ z)
    have ll : (its1 ++ [it]).length = its1.length + 1:=by simp
    rw [ll] at c1 li20
    have la1 : as1.length = its1.length:=Paired.length LI5.2
    refine ⟨L,_,_,rfl,rfl,LI7.1,sm _ (by rw [lm_]; omega),?_⟩
    refine ⟨as1 ++ [l],its1 ++ [it'],_,_,_,_,_,rfl,aU (s05.trans s7) fL,LI7.push I7 o7,by simp,⟨?_,fun kt hk => ?_⟩⟩
    ·rw [bT]
     unfold szI
     omega
    ·rw [List.length_append,List.length_singleton]
     rcases ma_.mp hk with z | z
     ·have:=hM kt (by simp [z])
      omega
     ·rw [List.mem_singleton.mp z,d7]
      have h1:=hM it (by simp)
      omega
   ·exact ⟨as,its,_,_,_,_,_,rfl,s04,LI4,ne,few⟩
  ·rintro σ' H2 ⟨as,its,v2,v3,v4,v5,v6,rfl,s2,LI,ne,few⟩
   exact nxt _ _ ⟨as,its,v2,v3,v4,v5,v6,rfl,s2,LI,ne,few⟩
 rintro σ' H2 ⟨as,its,v2,v3,v4,v5,v6,rfl,s2,LI,ne,few⟩
 exact ⟨_,rfl,k L as its H2 s2 fL LI ne few⟩
end
def kD (K : PySem.W.Frag) : Sp:=fun vs H Q _ => ∃ (a : Addr) (ns : LI),vs = [.ref a] /\ SqL K H a (ns.map V.int) /\ ns.length <= 63 /\
 ∀ (l : Addr) (it : It) (H' : Hp),Same H H' -> ItAt ns H' l it -> aH it.st <= 20 -> (aw it.st).length <= 2000 -> Q (.ref l) H'
section
variable {P : Program} {w : World} {K : PySem.W.Frag} {mg : Str -> Option Value} {base : Heap} {f : Addr} {fd : FuncData} {dV : Value}
theorem sc__law_built : FnScope ["_law_script","_law_items_here","_law_other","_law_statement","_law_line","_law_deep","_law_names","_law_rows"] ["_law_script"] (ao bB):=⟨rfl,rfl,rfl,by decide +kernel,rfl,by decide +kernel,by decide +kernel⟩
theorem oW (F : FunD K "_law_built" "_law_built" bB dV f fd) (ax : DefOk P w K mg base "_law_draw" 1 ["_law_script","_law_k"] [] (cO K)) (c7 : DefOk P w K mg base "_law_items" 5 ["_law_script"] [] (kE K)) (bW : DefOk P w K mg base "_law_two" 1 ["_law_one","_law_other","_law_number"] [] nB) (cg : mg "len" = none) : FnOk P w K mg base CX0 6 f fd ["_law_script"] (kD K):=by
 refine F.ok sc__law_built (fun vs H Q E h => ?_) (fun cdv A outer s H vs Q E hr h => ?_)
 ·obtain ⟨a,ns,rfl,_⟩:=h
  rfl
 obtain ⟨a,ns,rfl,hS,h63,k⟩:=h
 refine fR (aq (PSW.mk (ay (i:=1) sc__law_built.nd rfl (Or.inl rfl) (aK c7 hr (aa (pv 0) af))))
   (aq (PSW.mk (lU PassesOwn.never (aB o3 (aD ba (by rfl) cg cQ (aa (pv 1) af)) ae (aL _)) (az (ay (i:=2) sc__law_built.nd rfl (Or.inl rfl) (gW PySem.F.plainAttrs_list PySem.F.slot_list_pop PySem.F.type_list_pop gS (pv 1)))
   (aA (bF (cL PySem.F.plainAttrs_list PySem.F.slot_list_append PySem.F.type_list_append aV (pv 1) (aa (aK bW hr (aa (gW PySem.F.plainAttrs_list PySem.F.slot_list_pop PySem.F.type_list_pop gS (pv 1)) (aa (pv 2) (aa (aD ba (by rfl) cg cQ (aa (pv 1) af)) af)))) af)))))))
   (aq (PSW.mk (kq (aG aO (pv 1) ae (fun _ _ => rfl)) (kd rfl (aX (aP (i:=3) sc__law_built.nd rfl (Or.inl rfl)) (aX (aP (i:=4) sc__law_built.nd rfl (Or.inl rfl)) (aX (aP (i:=5) sc__law_built.nd rfl (Or.inl rfl)) (aX (aP (i:=6) sc__law_built.nd rfl (Or.inl rfl)) (aX (aP (i:=7) sc__law_built.nd rfl (Or.inl rfl)) gB))))))))
   (aq (PSW.mk (cM (aB cA (ag aF (aK ax hr (aa (pv 0) (aa ae af))) ae) ae (aL _)) (aA (lU PassesOwn.never (PW.pt (fY (aB fH (pv 5) ae (aL _)) (gC (aB fH (aD fu (by rfl) cg cQ (aa (pv 4) af)) ae (aL _))))) (az (ay (i:=3) sc__law_built.nd rfl (Or.inl rfl) (cU (aa av (aa (pv 3) af))))
   (az (ay (i:=4) sc__law_built.nd rfl (Or.inl rfl) (ag ah av (pv 4)))
   (aA (ay (i:=5) sc__law_built.nd rfl (Or.inl rfl) (ag a8 (pv 5) ae))))))) bG))
   (bH (gj (dQ (aj (PEW.mk (pv 3)) (aj (PEW.mk (pv 4)) (aj (PEW.mk (pv 5)) (aj (PEW.mk (pv 6)) (aj (PEW.mk (pv 7)) bU)))))))))))) ?_
 refine ⟨_,rfl,a,ns,rfl,hS,h63,fun L as0 its0 H1 s1 fL LI0 ne0 few0 => ?_⟩
 try dsimp only [aC,aJ,List.set]
 have sm : ∀ m : Nat,m <= 100 -> m <= sizeLine:=fun m h => Nat.le_trans h (by decide)
 refine cX (t:=mL _ _) (fun σ' H' => ∃ (as : List Addr) (it : It) (v2 : OV),σ' = [some (.ref a),some (.ref L),v2,none,none,none,none,none] /\ Same H H' /\ LIa ns L as [it] H' /\ Few [it]) ?_ (fun D' nxt => ?_)
 rotate_left
 ·refine nG (fun mm σ' H' => ∃ (as : List Addr) (its : List It) (v2 : OV),mm = its.length /\ σ' = [some (.ref a),some (.ref L),v2,none,none,none,none,none] /\ Same H H' /\ LIa ns L as its H' /\ its ≠ [] /\ Few its) ⟨_,as0,its0,none,rfl,rfl,s1,LI0,ne0,few0⟩ ?_
  rintro mm σ' H4 ⟨as,its,v2,rfl,rfl,s04,LI4,ne,few⟩
  have la : as.length = its.length:=Paired.length LI4.2
  have tt:=few.tt
  refine ⟨_,rfl,L,_,rfl,.inl (qL_ LI4.1),_,_,rfl,rfl,_,rfl,k7 (fun c => ?_) (fun c => ?_)⟩
  ·have c2:=of_decide_eq_true c
   rw [lm_] at c2
   refine ⟨fun σ' H' => ∃ m',m' < its.length /\ ∃ (as : List Addr) (its : List It) (v2 : OV),m' = its.length /\ σ' = [some (.ref a),some (.ref L),v2,none,none,none,none,none] /\ Same H H' /\ LIa ns L as its H' /\ its ≠ [] /\ Few its,fun _ _ h => h,?_⟩
   obtain ⟨its1,jt,e1⟩:=dJ ne
   subst e1
   have ne1 : its1 ≠ []:=fun z => by rw [z] at la; simp at la; omega
   obtain ⟨its2,it,e2⟩:=dJ ne1
   subst e2
   obtain ⟨as1,c',ea1,LI5,J5,oJ⟩:=LI4.pop
   subst ea1
   refine ⟨_,rfl,.inl ⟨rfl,_,qL_ LI4.1⟩,L,_,_,rfl,rfl,LI4.1,pop_at.1,?_⟩
   rw [pop_at.2]
   try dsimp only [aC,aJ,List.set]
   obtain ⟨H5,e5⟩ : ∃ H5,upd H4 L (HO.lst (as1.map V.ref)) = H5:=⟨_,rfl⟩
   have s05 : Same H H5:=by rw [<- e5]; exact aU s04 fL
   rw [e5] at LI5 J5 ⊢
   obtain ⟨as2,b',ea2,LI6,I6,oI⟩:=LI5.pop
   subst ea2
   have J6:=J5.off (ys:=as2.map V.ref) oJ LI5.1
   rw [bT,bT] at tt
   unfold szI at tt
   refine ⟨_,rfl,.inl ⟨rfl,_,qL_ LI5.1⟩,_,rfl,.inl ⟨rfl,_,qL_ LI5.1⟩,L,_,_,rfl,rfl,LI5.1,pop_at.1,?_⟩
   rw [pop_at.2]
   obtain ⟨H6,e6⟩ : ∃ H6,upd H5 L (HO.lst (as2.map V.ref)) = H6:=⟨_,rfl⟩
   have s06 : Same H H6:=by rw [<- e6]; exact aU s05 fL
   rw [e6] at LI6 I6 J6 ⊢
   refine ⟨_,rfl,_,rfl,L,_,rfl,.inl (qL_ LI6.1),b',c',_,ns,it,jt,rfl,I6,J6,by omega,by omega,fun l it' H7 s7 I7 f7 fn7 fr7 d7 b7 => ?_⟩
   have LI7:=LI6.same s7
   have o7 : Off L l it' := j9 LI6.1 f7 fn7 fr7
   have ll : (its2 ++ [it] ++ [jt]).length = its2.length + 2:=by simp
   have dd:=few.dd
   rw [ll] at dd
   have la2 : as2.length = its2.length:=Paired.length LI6.2
   have h1:=dd it (by simp)
   have h2:=dd jt (by simp)
   refine ⟨L,_,_,rfl,rfl,LI7.1,sm _ (by rw [lm_]; omega),?_⟩
   refine ⟨(its2 ++ [it']).length,by simp,as2 ++ [l],its2 ++ [it'],_,rfl,rfl,aU (s06.trans s7) fL,LI7.push I7 o7,by simp,⟨?_,fun kt hk => ?_⟩⟩
   ·rw [bT]
    unfold szI
    omega
   ·rw [List.length_append,List.length_singleton]
    rcases ma_.mp hk with z | z
    ·have:=dd kt (by simp [z])
     omega
    ·rw [List.mem_singleton.mp z,d7]
     omega
  ·have c2 : ¬ (1 : Int) < ((as.map V.ref).length : Int):=fun z => c (decide_eq_true z)
   rw [lm_] at c2
   obtain ⟨its1,it,e1⟩:=dJ ne
   have e0 : its1 = []:=by
    cases its1 with
    | nil => rfl
    | cons x r => rw [e1] at la; simp at la; omega
   subst e0 e1
   exact nxt _ _ ⟨as,it,v2,rfl,s04,LI4,few⟩
 rintro σ' H2 ⟨as,it,v2,rfl,s2,LI,few⟩
 obtain ⟨b,I,ea⟩ : ∃ b,ItAt ns H2 b it /\ as = [b]:=by
  cases LI.2 with
  | cons q t =>
   cases t
   exact ⟨_,q.1,rfl⟩
 subst ea
 obtain ⟨st0,v0,nl,rl,names,rows⟩:=it
 have tt : (aw st0).length + 7 + 0 <= 1700:=few.tt
 have dd : aH st0 + 1 <= 20:=few.dd _ List.mem_cons_self
 refine ⟨_,rfl,L,_,_,_,rfl,rfl,qL_ LI.1,rfl,b,_,rfl,qL_ I.li,rfl,_,_,rfl,_,_,rfl,_,_,rfl,_,_,rfl,_,_,rfl,rfl,?_⟩
 try dsimp only [aC,aJ,List.set]
 have hS2:=s2.seq hS
 refine cX (t:=qf _ _ _) (fun σ' H' => ∃ (v : V) (st : Stt),σ' = [some (.ref a),some (.ref L),v2,some v,some (.str (aw st)),some (.int (aH st : Int)),some (.ref nl),some (.ref rl)] /\ Same H2 H' /\ StAt H' v st /\ Wf st /\ cy st = cy st0 /\ cD st = cD st0 /\ aH st <= 20 /\ (aw st).length <= 2000) ?_ (fun D' nxt => ?_)
 rotate_left
 ·refine ⟨_,rfl,a,99,ns,rfl,hS2,h63,by decide,by decide,_,_,rfl,rfl,(by show (0 : Int) < 4; decide),rfl,_,rfl,ml (fun c => ?_) (fun c => ?_)⟩
  ·refine nG (fun mm σ' H' => ∃ (v : V) (st : Stt),mm = 20 - aH st /\ σ' = [some (.ref a),some (.ref L),v2,some v,some (.str (aw st)),some (.int (aH st : Int)),some (.ref nl),some (.ref rl)] /\ Same H2 H' /\ StAt H' v st /\ Wf st /\ cy st = cy st0 /\ cD st = cD st0 /\ aH st <= 20 /\ (aw st).length <= 2000) ⟨_,v0,st0,rfl,rfl,Same.refl _,I.sv,I.wf,rfl,rfl,by omega,by omega⟩ ?_
   rintro mm σ' H3 ⟨v,st,rfl,rfl,s3,hst,wf,ef,er,d20,l20⟩
   refine qX (b1:=decide ((aH st : Int) < 20)) (b2:=decide (((aw st).length : Int) < 997)) (fun Q q => ⟨_,rfl,_,_,rfl,rfl,_,rfl,q⟩) (fun Q q => ⟨_,rfl,_,rfl,Nat.le_trans l20 (by decide),_,_,rfl,rfl,_,rfl,q⟩) (k7 (fun c => ?_) (fun _ => ?_))
   ·simp only [Bool.and_eq_true,decide_eq_true_eq] at c
    refine ⟨fun σ' H' => ∃ m',m' < 20 - aH st /\ ∃ (v : V) (st : Stt),m' = 20 - aH st /\ σ' = [some (.ref a),some (.ref L),v2,some v,some (.str (aw st)),some (.int (aH st : Int)),some (.ref nl),some (.ref rl)] /\ Same H2 H' /\ StAt H' v st /\ Wf st /\ cy st = cy st0 /\ cD st = cD st0 /\ aH st <= 20 /\ (aw st).length <= 2000,fun _ _ h => h,?_⟩
    refine ⟨_,rfl,(by show 2 <= sizeLine; decide),fun T hT => ?_⟩
    have s4:=ak hT (HO.tup [V.str (Str.ofString "not"),v])
    have l4 : (Str.ofString "not ").length = 4:=by decide
    try dsimp only [aC,aJ,List.set]
    refine ⟨_,rfl,_,_,rfl,rfl,Nat.le_trans (show _ + (aw st).length <= 3000 by omega) (by decide),?_⟩
    try dsimp only [aC,aJ,List.set]
    refine ⟨_,rfl,_,_,rfl,rfl,20 - aH (.no st),?_,.ref T,.no st,rfl,?_,s3.trans s4,⟨T,v,rfl,ai,StAt.same (tkS s4) hst⟩,wf,ef,er,?_,?_⟩
    ·show 20 - (1 + aH st) < _
     omega
    ·show [some (V.ref a),some (V.ref L),v2,some (V.ref T),some (V.str (Str.ofString "not " ++ aw st)),some (V.int ((aH st : Int) + 1)),some (V.ref nl),some (V.ref rl)] = _
     have : (aH st : Int) + 1 = ((1 + aH st : Nat) : Int):=by omega
     rw [this]
     rfl
    ·show 1 + aH st <= 20
     omega
    ·show (("not " : Str) ++ aw st).length <= 2000
     rw [len_app]
     have : (("not " : Str)).length = 4:=by decide
     omega
   ·exact nxt _ _ ⟨v,st,rfl,s3,hst,wf,ef,er,d20,l20⟩
  ·exact nxt _ _ ⟨v0,st0,rfl,Same.refl _,I.sv,I.wf,rfl,rfl,by omega,by omega⟩
 rintro σ' H3 ⟨v,st,rfl,s3,hst,wf,ef,er,d20,l20⟩
 refine ⟨_,rfl,_,rfl,_,rfl,_,rfl,_,rfl,(by show 5 <= sizeLine; decide),fun l hl => ?_⟩
 have s4:=ak hl (HO.lst [v,V.str (aw st),V.int (aH st : Int),V.ref nl,V.ref rl])
 have s34:=s3.trans s4
 exact k l ⟨st,v,nl,rl,names,rows⟩ _ (s2.trans s34) ⟨ai,StAt.same (tkS s4) hst,s34 _ _ I.hn,s34 _ _ I.hr,wf,by rw [show cy (It.mk st v nl rl names rows).st = cy st0 from ef]; exact I.nm,by rw [show cD (It.mk st v nl rl names rows).st = cD st0 from er]; exact I.rs,I.ni,I.ri⟩ d20 l20
end
def g4 (K : PySem.W.Frag) : Sp:=fun vs H Q _ => ∃ (a : Addr) (ns : LI) (it : It),vs = [.ref a] /\ ItAt ns H a it /\ aH it.st <= 20 /\ (aw it.st).length <= 2000 /\ ∀ H',Same H H' -> Q (.bl true) H'
def nA (K : PySem.W.Frag) : Sp:=fun vs H Q _ => ∃ (a : Addr) (ns : LI),vs = [.ref a] /\ SqL K H a (ns.map V.int) /\ ns.length <= 63 /\ ∀ H',Q (.bl true) H'
theorem lj (K : PySem.W.Frag) : PySem.W.kitOne K (.type "str") (.type "str") = some true:=by with_unfolding_all rfl
section
variable {P : Program} {w : World} {K : PySem.W.Frag} {mg : Str -> Option Value} {base : Heap} {f : Addr} {fd : FuncData} {dV : Value}
theorem sc__law_told : FnScope ["_law_item","_law_found"] ["_law_item"] (ao bM):=⟨rfl,rfl,rfl,by decide +kernel,rfl,by decide +kernel,by decide +kernel⟩
theorem sc_law : FnScope ["_law_script","_law_item"] ["_law_script"] (ao fM):=⟨rfl,rfl,rfl,by decide +kernel,rfl,by decide +kernel,by decide +kernel⟩
theorem n4 (F : FunD K "_law_told" "_law_told" bM dV f fd) (cF : DefOk P w K mg base "shown" 24 ["statement"] [] (gF 20)) (dN : mg "isinstance" = none) (bO : mg "str" = none) : FnOk P w K mg base CX0 25 f fd ["_law_item"] (g4 K):=by
 refine F.ok sc__law_told (fun vs H Q E h => ?_) (fun cdv A outer s H vs Q E hr h => ?_)
 ·obtain ⟨a,ns,it,rfl,_⟩:=h
  rfl
 obtain ⟨a,ns,it,rfl,I,d20,l20,k⟩:=h
 refine ⟨_,(az (ay (i:=1) sc__law_told.nd rfl (Or.inl rfl) (aK cF hr (aa (aG aO (pv 0) ae (fun _ _ => rfl)) af)))
   (aA (br (mE (aD ot (by rfl) dN hX (aa (pv 1) (aa (p7 (v:=.ty "str") rfl bO fS rfl) af))) (o6 (nu cA (pv 1) (aG aO (pv 0) ae (fun _ _ => rfl)) (aL _))))))),?_⟩
 refine ⟨_,rfl,a,_,_,_,rfl,rfl,qL_ I.li,rfl,it.v,it.st,rfl,I.sv,I.wf,d20,by omega,fun H1 s1 => ?_⟩
 try dsimp only [aC,aJ,List.set]
 refine ⟨_,rfl,_,_,_,_,rfl,TyOf.str _,lj K,_,rfl,mn ?_⟩
 refine ⟨_,rfl,_,rfl,a,_,_,_,rfl,rfl,qL_ (s1 _ _ I.li),rfl,rfl,?_⟩
 rw [decide_eq_true rfl]
 exact k _ s1
theorem qJ (F : FunD K "law" "law" fM dV f fd) (c6 : DefOk P w K mg base "_law_built" 6 ["_law_script"] [] (kD K)) (bp : DefOk P w K mg base "_law_plain" 4 ["_law_script","_law_at"] [] (gE K)) (cb : DefOk P w K mg base "_law_told" 25 ["_law_item"] [] (g4 K)) : FnOk P w K mg base CX0 26 f fd ["_law_script"] (nA K):=by
 refine F.ok sc_law (fun vs H Q E h => ?_) (fun cdv A outer s H vs Q E hr h => ?_)
 ·obtain ⟨a,ns,rfl,_⟩:=h
  rfl
 obtain ⟨a,ns,rfl,hS,h63,k⟩:=h
 refine ⟨_,(az (ay (i:=1) sc_law.nd rfl (Or.inl rfl) (aK c6 hr (aa (pv 0) af)))
   (aA (br (mE (aK cb hr (aa (pv 1) af)) (mE (aK cb hr (aa (aK bp hr (aa (pv 0) (aa ae af))) af)) (o6 (aK cb hr (aa (pv 1) af)))))))),?_⟩
 refine ⟨_,rfl,a,ns,rfl,hS,h63,fun l it H1 s1 I d20 l20 => ?_⟩
 try dsimp only [aC,aJ,List.set]
 refine ⟨_,rfl,l,ns,it,rfl,I,d20,l20,fun H2 s2 => ⟨_,rfl,mn ?_⟩⟩
 have s12:=s1.trans s2
 refine ⟨_,rfl,a,0,ns,rfl,s12.seq hS,h63,⟨by decide,by decide⟩,fun l2 it2 H3 s3 I3 _ _ _ d3 b3 => ?_⟩
 refine ⟨l2,ns,it2,rfl,I3,by omega,by omega,fun H4 s4 => ⟨_,rfl,mn ?_⟩⟩
 exact ⟨_,rfl,l,ns,it,rfl,I.same (s2.trans (s3.trans s4)),d20,l20,fun H5 _ => k H5⟩
end
theorem qR {K : PySem.W.Frag} {a : Addr} {x y z : Str} {td : Option Addr} {tn : Nat} {tsl : Array (Option Value)} {t0 t1 t2 : Tok} (h : K.lookup a = some ⟨.type "tuple",td,.seq #[.str x t0,.str y t1,.str z t2] tn,tsl⟩) (H : Hp) : SqT K H a [.str x,.str y,.str z]:=
 .inr ⟨_,_,_,h,rfl,rfl,(by show 3 <= sizeLine; decide),.cons ⟨_,rfl⟩ (.cons ⟨_,rfl⟩ (.cons ⟨_,rfl⟩ .nil))⟩
theorem qQ {K : PySem.W.Frag} {a : Addr} {x y : Str} {td : Option Addr} {tn : Nat} {tsl : Array (Option Value)} {t0 t1 : Tok} (h : K.lookup a = some ⟨.type "tuple",td,.seq #[.str x t0,.str y t1] tn,tsl⟩) (H : Hp) : SqT K H a [.str x,.str y]:=
 .inr ⟨_,_,_,h,rfl,rfl,(by show 2 <= sizeLine; decide),.cons ⟨_,rfl⟩ (.cons ⟨_,rfl⟩ .nil)⟩
section
variable {P : Program} {w : World} {K : PySem.W.Frag} {mg : Str -> Option Value} {base : Heap} {f : Addr} {fd : FuncData} {dV : Value} {TC TJ : Addr}
theorem jc (F : FunD K "shown" "shown" dI dV f fd) (m : mg "shown" = some (.ref f)) (kp : PySem.W.keepIn K (.ref f) = true) (b : Binds K fd ["statement"] []) (bw : mg "COMPARING" = some (.ref TC)) (bZ : mg "JOINING" = some (.ref TJ)) (sqC : ∀ H,SqT K H TC gO) (sqJ : ∀ H,SqT K H TJ jQ) (aR : DefOk P w K mg base "shown_sum" 2 ["added"] [] l5) (aQ : DefOk P w K mg base "shown_place" 3 ["row_name","added"] [] gD) (bO : mg "str" = none) :
  ∀ d : Nat,FnOk P w K mg base CX0 (d + 4) f fd ["statement"] (gF d)
 | 0 => lN F bw bZ sqC sqJ aR aQ ⟨f,fd,[],m,kp,.nil,b,⟨(fun vs H Q E ⟨v,st,_,_,_,h,_⟩ => absurd h (Nat.not_lt_zero _)),(fun A outer s H args us vs Q E hr he hb hv ⟨v,st,_,_,_,h,_⟩ => absurd h (Nat.not_lt_zero _))⟩⟩ bO
 | d + 1 => lN F bw bZ sqC sqJ aR aQ ⟨f,fd,[],m,kp,.nil,b,(jc F m kp b bw bZ sqC sqJ aR aQ bO d).imp fun vs H Q E ⟨v,st,h1,h2,h3,h4,h5⟩ => ⟨v,st,h1,h2,h3,Nat.lt_succ_iff.mp h4,h5⟩⟩ bO
end
@[elab_as_elim] theorem mw {motive : List Value -> Prop} {us : List Value} (hl : us.length = 1) (h : ∀ a0,motive [a0]) : motive us:=match us,hl with | [a0],_ => h _
@[elab_as_elim] theorem mx {motive : List Value -> Prop} {us : List Value} (hl : us.length = 2) (h : ∀ a0 a1,motive [a0,a1]) : motive us:=match us,hl with | [a0,a1],_ => h _ _
@[elab_as_elim] theorem rb {motive : List Value -> Prop} {us : List Value} (hl : us.length = 3) (h : ∀ a0 a1 a2,motive [a0,a1,a2]) : motive us:=match us,hl with | [a0,a1,a2],_ => h _ _ _
@[elab_as_elim] theorem se {motive : List Value -> Prop} {us : List Value} (hl : us.length = 4) (h : ∀ a0 a1 a2 a3,motive [a0,a1,a2,a3]) : motive us:=match us,hl with | [a0,a1,a2,a3],_ => h _ _ _ _
@[elab_as_elim] theorem sf {motive : List Value -> Prop} {us : List Value} (hl : us.length = 5) (h : ∀ a0 a1 a2 a3 a4,motive [a0,a1,a2,a3,a4]) : motive us:=match us,hl with | [a0,a1,a2,a3,a4],_ => h _ _ _ _ _
@[elab_as_elim] theorem sh {motive : List Value -> Prop} {us : List Value} (hl : us.length = 6) (h : ∀ a0 a1 a2 a3 a4 a5,motive [a0,a1,a2,a3,a4,a5]) : motive us:=match us,hl with | [a0,a1,a2,a3,a4,a5],_ => h _ _ _ _ _ _
@[elab_as_elim] theorem si {motive : List Value -> Prop} {us : List Value} (hl : us.length = 7) (h : ∀ a0 a1 a2 a3 a4 a5 a6,motive [a0,a1,a2,a3,a4,a5,a6]) : motive us:=match us,hl with | [a0,a1,a2,a3,a4,a5,a6],_ => h _ _ _ _ _ _ _
theorem all_mk {l : PySem.W.OpenLaw} {w : World} {K : PySem.W.Frag} {h : Heap} {mg : Str -> Option Value} {fa : Addr} (X : K.In h) (G : h.Ns mainGlobals mg) (hfa : mg "law" = some (.ref fa))
  {jJ dz ey cS eh eu ei e8 e9 dy cx fb dw dv el oC : Addr} {oV oj iE hV j8 jr gU gG j4 jk j7 jq j5 jm lJ kN lK kO iC hU gv gk lM kP iB hJ iA hG j6 jo qI oi : Option Addr} {ph iO kC g0 kx kB kz lX lY iM gy lZ iL iK kA qP : Array (Option Value)} {oU oH oz o9 kQ ox iz ir ij iJ eO ia j3 jP jH ko fD jC gT gN gL gX d9 gK jX jL jD kh fv jy j2 jO jG km fB jB jY jM jE ki fw jz lG k9 kX lP gc kT lH lg kY lQ gd kU iy iq ig iI eN h9 gu gq gn gx dP gm lI lh kZ lR gf kW iw ip ie iH eK h8 iv ik ic iG eJ h7 jZ jN jF kj fA jA qH oG oy o8 me ow : Value}
  (jj : PySem.W.nsIn K mainGlobals "shown" = some (some (.ref jJ))) (jR : K.lookup jJ = some ⟨oU,oV,.func (PySem.W.fnOf "shown" "shown" (aN dI) (aI dI) (ao dI) .none oH oz o9 oj kQ ox),ph⟩) (jw : PySem.W.codeIn K kQ "shown" = true) (fE : PySem.W.keepIn K (.ref jJ) = true)
  (dh : PySem.W.nsIn K mainGlobals "shown_part" = some (some (.ref dz))) (dG : K.lookup dz = some ⟨iz,iE,.func (PySem.W.fnOf "shown_part" "shown_part" (aN bD) (aI bD) (ao bD) .none ir ij iJ hV eO ia),iO⟩) (dn : PySem.W.codeIn K eO "shown_part" = true) (cn : PySem.W.keepIn K (.ref dz) = true)
  (dX : PySem.W.nsIn K mainGlobals "shown_sum" = some (some (.ref ey))) (eE : K.lookup ey = some ⟨j3,j8,.func (PySem.W.fnOf "shown_sum" "shown_sum" (aN bA) (aI bA) (ao bA) .none jP jH ko jr fD jC),kC⟩) (d8 : PySem.W.codeIn K fD "shown_sum" = true) (cK : PySem.W.keepIn K (.ref ey) = true)
  (cP : PySem.W.nsIn K mainGlobals "shown_place" = some (some (.ref cS))) (cT : K.lookup cS = some ⟨gT,gU,.func (PySem.W.fnOf "shown_place" "shown_place" (aN bq) (aI bq) (ao bq) .none gN gL gX gG d9 gK),g0⟩) (cR : PySem.W.codeIn K d9 "shown_place" = true) (b9 : PySem.W.keepIn K (.ref cS) = true)
  (dR : PySem.W.nsIn K mainGlobals "_law_draw" = some (some (.ref eh))) (eA : K.lookup eh = some ⟨jX,j4,.func (PySem.W.fnOf "_law_draw" "_law_draw" (aN bK) (aI bK) (ao bK) .none jL jD kh jk fv jy),kx⟩) (dY : PySem.W.codeIn K fv "_law_draw" = true) (cG : PySem.W.keepIn K (.ref eh) = true)
  (dW : PySem.W.nsIn K mainGlobals "_law_word" = some (some (.ref eu))) (eD : K.lookup eu = some ⟨j2,j7,.func (PySem.W.fnOf "_law_word" "_law_word" (aN bN) (aI bN) (ao bN) .none jO jG km jq fB jB),kB⟩) (d6 : PySem.W.codeIn K fB "_law_word" = true) (cJ : PySem.W.keepIn K (.ref eu) = true)
  (dS : PySem.W.nsIn K mainGlobals "_law_name" = some (some (.ref ei))) (eB : K.lookup ei = some ⟨jY,j5,.func (PySem.W.fnOf "_law_name" "_law_name" (aN bL) (aI bL) (ao bL) .none jM jE ki jm fw jz),kz⟩) (dZ : PySem.W.codeIn K fw "_law_name" = true) (cH : PySem.W.keepIn K (.ref ei) = true)
  (eS : PySem.W.nsIn K mainGlobals "_law_row" = some (some (.ref e8))) (fc : K.lookup e8 = some ⟨lG,lJ,.func (PySem.W.fnOf "_law_row" "_law_row" (aN b4) (aI b4) (ao b4) .none k9 kX lP kN gc kT),lX⟩) (eW : PySem.W.codeIn K gc "_law_row" = true) (dA : PySem.W.keepIn K (.ref e8) = true)
  (eU : PySem.W.nsIn K mainGlobals "_law_sum" = some (some (.ref e9))) (fe : K.lookup e9 = some ⟨lH,lK,.func (PySem.W.fnOf "_law_sum" "_law_sum" (aN b6) (aI b6) (ao b6) .none lg kY lQ kO gd kU),lY⟩) (eX : PySem.W.codeIn K gd "_law_sum" = true) (dB : PySem.W.keepIn K (.ref e9) = true)
  (dg : PySem.W.nsIn K mainGlobals "_law_plain" = some (some (.ref dy))) (dF : K.lookup dy = some ⟨iy,iC,.func (PySem.W.fnOf "_law_plain" "_law_plain" (aN bC) (aI bC) (ao bC) .none iq ig iI hU eN h9),iM⟩) (dk : PySem.W.codeIn K eN "_law_plain" = true) (cm : PySem.W.keepIn K (.ref dy) = true)
  (cu : PySem.W.nsIn K mainGlobals "_law_wrapped" = some (some (.ref cx))) (cz : K.lookup cx = some ⟨gu,gv,.func (PySem.W.fnOf "_law_wrapped" "_law_wrapped" (aN a7) (aI a7) (ao a7) .none gq gn gx gk dP gm),gy⟩) (cv : PySem.W.codeIn K dP "_law_wrapped" = true) (bR : PySem.W.keepIn K (.ref cx) = true)
  (eV : PySem.W.nsIn K mainGlobals "_law_two" = some (some (.ref fb))) (fg : K.lookup fb = some ⟨lI,lM,.func (PySem.W.fnOf "_law_two" "_law_two" (aN b8) (aI b8) (ao b8) .none lh kZ lR kP gf kW),lZ⟩) (eY : PySem.W.codeIn K gf "_law_two" = true) (dC : PySem.W.keepIn K (.ref fb) = true)
  (df : PySem.W.nsIn K mainGlobals "_law_items" = some (some (.ref dw))) (dE : K.lookup dw = some ⟨iw,iB,.func (PySem.W.fnOf "_law_items" "_law_items" (aN bc) (aI bc) (ao bc) .none ip ie iH hJ eK h8),iL⟩) (dj : PySem.W.codeIn K eK "_law_items" = true) (ck : PySem.W.keepIn K (.ref dw) = true)
  (de : PySem.W.nsIn K mainGlobals "_law_built" = some (some (.ref dv))) (dD : K.lookup dv = some ⟨iv,iA,.func (PySem.W.fnOf "_law_built" "_law_built" (aN bB) (aI bB) (ao bB) .none ik ic iG hG eJ h7),iK⟩) (di : PySem.W.codeIn K eJ "_law_built" = true) (cj : PySem.W.keepIn K (.ref dv) = true)
  (dU : PySem.W.nsIn K mainGlobals "_law_told" = some (some (.ref el))) (eC : K.lookup el = some ⟨jZ,j6,.func (PySem.W.fnOf "_law_told" "_law_told" (aN bM) (aI bM) (ao bM) .none jN jF kj jo fA jA),kA⟩) (d4 : PySem.W.codeIn K fA "_law_told" = true) (cI : PySem.W.keepIn K (.ref el) = true)
  (mR : PySem.W.nsIn K mainGlobals "law" = some (some (.ref oC))) (oM : K.lookup oC = some ⟨qH,qI,.func (PySem.W.fnOf "law" "law" (aN fM) (aI fM) (ao fM) .none oG oy o8 oi me ow),qP⟩) (oq : PySem.W.codeIn K me "law" = true) (oK : PySem.W.keepIn K (.ref oC) = true)
  (pD : PySem.W.nsIn K mainGlobals "len" = some none)
  (kJ : PySem.W.nsIn K mainGlobals "range" = some none)
  (kK : PySem.W.nsIn K mainGlobals "tuple" = some none)
  (mO : PySem.W.nsIn K mainGlobals "list" = some none)
  (dM : PySem.W.nsIn K mainGlobals "isinstance" = some none)
  (pC : PySem.W.nsIn K mainGlobals "int" = some none)
  (y_bool : PySem.W.nsIn K mainGlobals "bool" = some none)
  (pH : PySem.W.nsIn K mainGlobals "str" = some none)
  (hE : PySem.W.nsIn K mainGlobals "sorted" = some none)
  (pG : PySem.W.nsIn K mainGlobals "set" = some none)
  (pE : PySem.W.nsIn K mainGlobals "max" = some none)
  (pF : PySem.W.nsIn K mainGlobals "min" = some none)
  (pI : PySem.W.nsIn K mainGlobals "sum" = some none)
  {gb : Addr} (dq : PySem.W.nsIn K mainGlobals "COMPARING" = some (some (.ref gb)))
  {iR : Addr} (eZ : PySem.W.nsIn K mainGlobals "JOINING" = some (some (.ref iR)))
  {td_COMPARING : Option Addr} {tn_COMPARING : Nat} {tsl_COMPARING : Array (Option Value)} {tk0_COMPARING tk1_COMPARING tk2_COMPARING : Tok} (tp_COMPARING : K.lookup gb = some ⟨.type "tuple",td_COMPARING,.seq #[.str "=" tk0_COMPARING,.str "<=" tk1_COMPARING,.str "<" tk2_COMPARING] tn_COMPARING,tsl_COMPARING⟩)
  {td_JOINING : Option Addr} {tn_JOINING : Nat} {tsl_JOINING : Array (Option Value)} {tk0_JOINING tk1_JOINING : Tok} (tp_JOINING : K.lookup iR = some ⟨.type "tuple",td_JOINING,.seq #[.str "and" tk0_JOINING,.str "or" tk1_JOINING] tn_JOINING,tsl_JOINING⟩) :
  ∃ fd : FuncData,(∀ (s : Shared) (v : Value),BindsTo s fd ⟨[v],[]⟩ [("_law_script",v)]) /\ ∀ base : Heap,K.In base -> base.Ns mainGlobals mg -> FnOk l.prog w K mg base CX0 26 fa fd ["_law_script"] (nA K):=by
 have e:=hfa.symm.trans (PySem.W.mg_of X G mR)
 cases e
 have F_shown:=bf (st:=dI) jR jw fE
 have b_shown:=F_shown.binds (ps:=["statement"]) fun _ _ _ _ _ _ us hl => mw hl fun _ => rfl
 have nc:=PySem.W.mg_of X G jj
 have F_shown_part:=bf (st:=bD) dG dn cn
 have b_shown_part:=F_shown_part.binds (ps:=["part"]) fun _ _ _ _ _ _ us hl => mw hl fun _ => rfl
 have jW:=PySem.W.mg_of X G dh
 have F_shown_sum:=bf (st:=bA) eE d8 cK
 have b_shown_sum:=F_shown_sum.binds (ps:=["added"]) fun _ _ _ _ _ _ us hl => mw hl fun _ => rfl
 have lD:=PySem.W.mg_of X G dX
 have F_shown_place:=bf (st:=bq) cT cR b9
 have b_shown_place:=F_shown_place.binds (ps:=["row_name","added"]) fun _ _ _ _ _ _ us hl => mx hl fun _ _ => rfl
 have iu:=PySem.W.mg_of X G cP
 have F__law_draw:=bf (st:=bK) eA dY cG
 have b__law_draw:=F__law_draw.binds (ps:=["_law_script","_law_k"]) fun _ _ _ _ _ _ us hl => mx hl fun _ _ => rfl
 have lu:=PySem.W.mg_of X G dR
 have F__law_word:=bf (st:=bN) eD d6 cJ
 have b__law_word:=F__law_word.binds (ps:=["_law_number","_law_letters"]) fun _ _ _ _ _ _ us hl => mx hl fun _ _ => rfl
 have lC:=PySem.W.mg_of X G dW
 have F__law_name:=bf (st:=bL) eB dZ cH
 have b__law_name:=F__law_name.binds (ps:=["_law_script","_law_number"]) fun _ _ _ _ _ _ us hl => mx hl fun _ _ => rfl
 have lA:=PySem.W.mg_of X G dS
 have F__law_row:=bf (st:=b4) fc eW dA
 have b__law_row:=F__law_row.binds (ps:=["_law_script","_law_number"]) fun _ _ _ _ _ _ us hl => mx hl fun _ _ => rfl
 have my:=PySem.W.mg_of X G eS
 have F__law_sum:=bf (st:=b6) fe eX dB
 have b__law_sum:=F__law_sum.binds (ps:=["_law_script","_law_at"]) fun _ _ _ _ _ _ us hl => mx hl fun _ _ => rfl
 have mz:=PySem.W.mg_of X G eU
 have F__law_plain:=bf (st:=bC) dF dk cm
 have b__law_plain:=F__law_plain.binds (ps:=["_law_script","_law_at"]) fun _ _ _ _ _ _ us hl => mx hl fun _ _ => rfl
 have jV:=PySem.W.mg_of X G dg
 have F__law_wrapped:=bf (st:=a7) cz cv bR
 have b__law_wrapped:=F__law_wrapped.binds (ps:=["_law_script","_law_item","_law_number"]) fun _ _ _ _ _ _ us hl => rb hl fun _ _ _ => rfl
 have gQ:=PySem.W.mg_of X G cu
 have F__law_two:=bf (st:=b8) fg eY dC
 have b__law_two:=F__law_two.binds (ps:=["_law_one","_law_other","_law_number"]) fun _ _ _ _ _ _ us hl => rb hl fun _ _ _ => rfl
 have mB:=PySem.W.mg_of X G eV
 have F__law_items:=bf (st:=bc) dE dj ck
 have b__law_items:=F__law_items.binds (ps:=["_law_script"]) fun _ _ _ _ _ _ us hl => mw hl fun _ => rfl
 have jU:=PySem.W.mg_of X G df
 have F__law_built:=bf (st:=bB) dD di cj
 have b__law_built:=F__law_built.binds (ps:=["_law_script"]) fun _ _ _ _ _ _ us hl => mw hl fun _ => rfl
 have jT:=PySem.W.mg_of X G de
 have F__law_told:=bf (st:=bM) eC d4 cI
 have b__law_told:=F__law_told.binds (ps:=["_law_item"]) fun _ _ _ _ _ _ us hl => mw hl fun _ => rfl
 have lB:=PySem.W.mg_of X G dU
 have F_law:=bf (st:=fM) oM oq oK
 have b_law:=F_law.binds (ps:=["_law_script"]) fun _ _ _ _ _ _ us hl => mw hl fun _ => rfl
 have sd:=PySem.W.mg_of X G mR
 have cg:=PySem.W.mg_none_of X G pD
 have eH:=PySem.W.mg_none_of X G kJ
 have kL:=PySem.W.mg_none_of X G kK
 have r8:=PySem.W.mg_none_of X G mO
 have dN:=PySem.W.mg_none_of X G dM
 have pJ:=PySem.W.mg_none_of X G pC
 have r6:=PySem.W.mg_none_of X G y_bool
 have bO:=PySem.W.mg_none_of X G pH
 have bV:=PySem.W.mg_none_of X G hE
 have fP:=PySem.W.mg_none_of X G pG
 have jh:=PySem.W.mg_none_of X G pE
 have pK:=PySem.W.mg_none_of X G pF
 have pM:=PySem.W.mg_none_of X G pI
 have bw:=PySem.W.mg_of X G dq
 have bZ:=PySem.W.mg_of X G eZ
 refine ⟨PySem.W.fnOf "law" "law" (aN fM) (aI fM) (ao fM) .none oG oy o8 oi me ow,fun s v => .of_eq rfl,fun base _ _ => ?_⟩
 have da : DefOk l.prog w K mg base "shown_part" 1 ["part"] [] (mH):=⟨_,_,[],jW,cn,.nil,b_shown_part,p1 F_shown_part bO⟩
 have aR : DefOk l.prog w K mg base "shown_sum" 2 ["added"] [] (l5):=⟨_,_,[],lD,cK,.nil,b_shown_sum,qK F_shown_sum da⟩
 have aQ : DefOk l.prog w K mg base "shown_place" 3 ["row_name","added"] [] (gD):=⟨_,_,[],iu,b9,.nil,b_shown_place,oZ F_shown_place aR⟩
 have GSH:=(jc F_shown nc fE b_shown bw bZ (qR tp_COMPARING) (qQ tp_JOINING) aR aQ bO 20)
 have cF:=(show DefOk l.prog w K mg base "shown" 24 ["statement"] [] (gF 20) from ⟨_,_,[],nc,fE,.nil,b_shown,GSH⟩)
 have ax : DefOk l.prog w K mg base "_law_draw" 1 ["_law_script","_law_k"] [] (cO K):=⟨_,_,[],lu,cG,.nil,b__law_draw,oX F__law_draw cg⟩
 have bJ : DefOk l.prog w K mg base "_law_word" 1 ["_law_number","_law_letters"] [] (kG):=⟨_,_,[],lC,cJ,.nil,b__law_word,p5 F__law_word ⟩
 have bI : DefOk l.prog w K mg base "_law_name" 2 ["_law_script","_law_number"] [] (kF K):=⟨_,_,[],lA,cH,.nil,b__law_name,p0 F__law_name ax bJ⟩
 have c8 : DefOk l.prog w K mg base "_law_row" 2 ["_law_script","_law_number"] [] (mI K):=⟨_,_,[],my,dA,.nil,b__law_row,p3 F__law_row ax bJ⟩
 have c9 : DefOk l.prog w K mg base "_law_sum" 3 ["_law_script","_law_at"] [] (mG K):=⟨_,_,[],mz,dB,.nil,b__law_sum,pZ F__law_sum ax bI eH bO pJ kL⟩
 have bp : DefOk l.prog w K mg base "_law_plain" 4 ["_law_script","_law_at"] [] (gE K):=⟨_,_,[],jV,cm,.nil,b__law_plain,o2 F__law_plain ax c9 c8 bO bV fP⟩
 have cq : DefOk l.prog w K mg base "_law_wrapped" 3 ["_law_script","_law_item","_law_number"] [] (mJ K):=⟨_,_,[],gQ,bR,.nil,b__law_wrapped,p6 F__law_wrapped bI⟩
 have bW : DefOk l.prog w K mg base "_law_two" 1 ["_law_one","_law_other","_law_number"] [] (nB):=⟨_,_,[],mB,dC,.nil,b__law_two,qL F__law_two jh bV fP⟩
 have c7 : DefOk l.prog w K mg base "_law_items" 5 ["_law_script"] [] (kE K):=⟨_,_,[],jU,ck,.nil,b__law_items,oY F__law_items ax bp bW cq cg pK jh pM eH⟩
 have c6 : DefOk l.prog w K mg base "_law_built" 6 ["_law_script"] [] (kD K):=⟨_,_,[],jT,cj,.nil,b__law_built,oW F__law_built ax c7 bW cg⟩
 have cb : DefOk l.prog w K mg base "_law_told" 25 ["_law_item"] [] (g4 K):=⟨_,_,[],lB,cI,.nil,b__law_told,n4 F__law_told cF dN bO⟩
 exact qJ F_law c6 bp cb
theorem walk {l : PySem.W.OpenLaw} {q : Program} {loose : List Str} {XP : (Str -> Option Value) -> Heap -> Prop} {YP : World -> Heap -> Prop} {d : DefRec} {K : Params -> PySem.W.Frag} (hn : l.most = some 63) (hdf : d.params.defaults = [])
  (hY : ∀ (w : World) (h : Heap),YP w h -> (K w.params).In h)
  (F : ∀ (w : World) (mg : Str -> Option Value) (fa : Addr) (h : Heap),(K w.params).In h -> h.Ns mainGlobals mg -> mg d.name = some (.ref fa) ->
   ∃ fd : FuncData,(∀ (s : Shared) (u : Value),BindsTo s fd ⟨[u],[]⟩ [("_law_script",u)]) /\ ∀ base : Heap,(K w.params).In base -> base.Ns mainGlobals mg -> FnOk l.prog w (K w.params) mg base CX0 26 fa fd ["_law_script"] (nA (K w.params))) :
  PySem.W.WalkO q loose XP YP l.row.toRowW d [] (fun f vs => PySem.call f vs):=
 L2.walk_of (n:=63) (k:=26) (x := "_law_script") (CX:=fun _ => CX0) (sp:=fun w => nA (K w.params)) hn (by decide) hdf ⟨rfl,by decide,by decide⟩ hY F (fun _ _ a ns hl _ hS => ⟨a,ns,rfl,hS,hl,fun _ => rfl⟩) fun _ _ _ _ _ z => z
end My
open PySem PySem.W PyProof.Rows
set_option maxRecDepth 100000 in
set_option maxHeartbeats 0 in
theorem PySem.Challenge.cw_figuretell_k52_shown_holds : PySem.Challenge.rw_figuretell_k52_shown.Holds := by
 w_on; o_law; k_head; (case hw => w_witness2)
 k_fill
 refine My.walk (l:=PySem.Challenge.rw_figuretell_k52_shown) rfl rfl (fun w h Y => PySem.W.kIn_of Y) ?F
 case F =>
  intro w mg fa h KX G hmg
  refine' My.all_mk KX G hmg ?jj ?jR ?jw ?fE ?dh ?dG ?dn ?cn ?dX ?eE ?d8 ?cK ?cP ?cT ?cR ?b9 ?dR ?eA ?dY ?cG ?dW ?eD ?d6 ?cJ ?dS ?eB ?dZ ?cH ?eS ?fc ?eW ?dA ?eU ?fe ?eX ?dB ?dg ?dF ?dk ?cm ?cu ?cz ?cv ?bR ?eV ?fg ?eY ?dC ?df ?dE ?dj ?ck ?de ?dD ?di ?cj ?dU ?eC ?d4 ?cI ?mR ?oM ?oq ?oK ?pD ?kJ ?kK ?mO ?dM ?pC ?y_bool ?pH ?hE ?pG ?pE ?pF ?pI ?dq ?eZ ?tp_COMPARING ?tp_JOINING
  (case jj => k_is); (case jR => k_is); (case jw => k_is); (case fE => k_is)
  (case dh => k_is); (case dG => k_is); (case dn => k_is); (case cn => k_is)
  (case dX => k_is); (case eE => k_is); (case d8 => k_is); (case cK => k_is)
  (case cP => k_is); (case cT => k_is); (case cR => k_is); (case b9 => k_is)
  (case dR => k_is); (case eA => k_is); (case dY => k_is); (case cG => k_is)
  (case dW => k_is); (case eD => k_is); (case d6 => k_is); (case cJ => k_is)
  (case dS => k_is); (case eB => k_is); (case dZ => k_is); (case cH => k_is)
  (case eS => k_is); (case fc => k_is); (case eW => k_is); (case dA => k_is)
  (case eU => k_is); (case fe => k_is); (case eX => k_is); (case dB => k_is)
  (case dg => k_is); (case dF => k_is); (case dk => k_is); (case cm => k_is)
  (case cu => k_is); (case cz => k_is); (case cv => k_is); (case bR => k_is)
  (case eV => k_is); (case fg => k_is); (case eY => k_is); (case dC => k_is)
  (case df => k_is); (case dE => k_is); (case dj => k_is); (case ck => k_is)
  (case de => k_is); (case dD => k_is); (case di => k_is); (case cj => k_is)
  (case dU => k_is); (case eC => k_is); (case d4 => k_is); (case cI => k_is)
  (case mR => k_is); (case oM => k_is); (case oq => k_is); (case oK => k_is)
  (case pD => k_is); (case kJ => k_is); (case kK => k_is); (case mO => k_is); (case dM => k_is); (case pC => k_is); (case y_bool => k_is); (case pH => k_is); (case hE => k_is); (case pG => k_is); (case pE => k_is); (case pF => k_is); (case pI => k_is)
  (case dq => k_is)
  (case eZ => k_is)
  (case tp_COMPARING => k_is)
  (case tp_JOINING => k_is)
