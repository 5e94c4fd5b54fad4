import PyProof.Rows.All
import Wide.All
import OpenK.AllK
import Wide.FinOn
import Lean
import PyProof.EqAt
import PyProof.EqKinds
import PyProof.TupleCall
import PyProof.NeKinds
import PyProof.ExcBaseAll.ValueError
import PyProof.ExcClass3
import OpenK.KOwn
import PyProof.Rows.FStr
import KE.KTryMore
import PyProof.ExcAttrAll.ValueError
import KE.KDictList
import PyProof.CompMap
import PyProof.Draws
import PyProof.ListRange
import PyProof.ZipIter
import PyProof.EnumMake
import PyProof.CollectIter
import PyProof.SetRoads
import PyProof.Rows.SortShell
import PyProof.Rows.SortWalk
import PyProof.ExcInit
import PyProof.InstStoreFacts
import PyProof.MinMaxWalk
import PyProof.Rows.StrJoin2
import PyProof.StrBlock2
import PyProof.Rows.SortStr
import PyProof.StrLawsIdx
import PyProof.StrBlockI
import PyProof.StrLoop
import PyProof.StrWalks
import KE.KIntText
import PyProof.ReprStr
import PySem.Challenge.RW_figuretell_k54_no_statement
set_option Elab.async false
set_option linter.all false
set_option maxRecDepth 100000
namespace L2
open PySem PySem.Spec PyProof.Rows
abbrev Key:=Sum Int Str
def zL : Key -> Value -> Bool
 | .inl k,v => Value.isInt k v
 | .inr x,v => Value.isStrOf x v
def Lg (w : World) : Key -> Int
 | .inl k => hashInt k
 | .inr x => hashStr w x
theorem cB : ∀ {k : Key} {v : Value},zL k v = true -> (∃ i t,k = Sum.inl i /\ v = Value.int i t) \/ (∃ x t,k = Sum.inr x /\ v = Value.str x t)
 | .inl i,v,h => by
  obtain ⟨t,e⟩:=Value.isInt_shape (k:=i) (v:=v) h
  exact .inl ⟨i,t,rfl,e⟩
 | .inr x,v,h => by
  obtain ⟨t,e⟩:=Value.isStrOf_shape (x:=x) (v:=v) h
  exact .inr ⟨x,t,rfl,e⟩
theorem Fo (i : Int) (t : Tok) : zL (.inl i) (.int i t) = true:=by simp [zL,Value.isInt]
theorem Fp (x : Str) (t : Tok) : zL (.inr x) (.str x t) = true:=by simp [zL,Value.isStrOf]
theorem Jt (a b : Int) : decide ((Sum.inl a : Key) = Sum.inl b) = (a == b):=by
 by_cases e : a = b
 ·subst e; simp
 ·have h : ¬ (Sum.inl a : Key) = Sum.inl b:=fun q => e (Sum.inl.inj q)
  rw [decide_eq_false h]
  exact (beq_eq_false_iff_ne.mpr e).symm
theorem Jw (a b : Str) : decide ((Sum.inr a : Key) = Sum.inr b) = decide (a = b):=by
 by_cases e : a = b
 ·subst e; simp
 ·have h : ¬ (Sum.inr a : Key) = Sum.inr b:=fun q => e (Sum.inr.inj q)
  rw [decide_eq_false h,decide_eq_false e]
theorem Ju (a : Int) (b : Str) : decide ((Sum.inl a : Key) = Sum.inr b) = false:=decide_eq_false (fun q => nomatch q)
theorem Jv (a : Str) (b : Int) : decide ((Sum.inr a : Key) = Sum.inl b) = false:=decide_eq_false (fun q => nomatch q)
def gF (prog : Program) (w : World) : PySem.KeyKind prog w Key where
 is:=zL
 hash:=Lg w
 inj:=fun v a b ha hb => by
  rcases cB ha with ⟨i,t,rfl,rfl⟩ | ⟨x,t,rfl,rfl⟩
  ·rcases cB hb with ⟨j,u,rfl,e⟩ | ⟨y,u,rfl,e⟩
   ·injection e with e1 _; rw [e1]
   ·exact nomatch e
  ·rcases cB hb with ⟨j,u,rfl,e⟩ | ⟨y,u,rfl,e⟩
   ·exact nomatch e
   ·injection e with e1 _; rw [e1]
 byValue:=fun k v h => by
  rcases cB h with ⟨i,t,rfl,rfl⟩ | ⟨x,t,rfl,rfl⟩ <;> rfl
 pyHash:=fun hv h => by
  rcases cB hv with ⟨i,t,rfl,rfl⟩ | ⟨x,t,rfl,rfl⟩
  ·exact wpAny_pyHash_int h
  ·exact wpAny_pyHash_str h
 eqBool:=fun hu hv h => by
  rcases cB hu with ⟨i,t,rfl,rfl⟩ | ⟨x,t,rfl,rfl⟩
  ·rcases cB hv with ⟨j,u,rfl,rfl⟩ | ⟨y,u,rfl,rfl⟩
   ·rw [Jt] at h; exact wpAny_eqBool_int h
   ·rw [Ju] at h; exact SeqAt.EqAt.int_str i t y u _ _ _ _ h
  ·rcases cB hv with ⟨j,u,rfl,rfl⟩ | ⟨y,u,rfl,rfl⟩
   ·rw [Jv] at h; exact SeqAt.EqAt.str_int x t j u _ _ _ _ h
   ·rw [Jw] at h; exact wpAny_eqBool_str h
 «strs» := fun k x t v h => by
  rcases cB h with ⟨i,u,rfl,e⟩ | ⟨y,u,rfl,e⟩
  ·exact nomatch e
  ·injection e with e1 _
   subst e1
   cases v <;> rfl
theorem Cw (prog : Program) (w : World) (i : Int) (t : Tok) : (gF prog w).is (.inl i) (.int i t) = true:=Fo i t
theorem Cy (prog : Program) (w : World) (x : Str) (t : Tok) : (gF prog w).is (.inr x) (.str x t) = true:=Fp x t
end L2
namespace L2
open PySem PySem.Spec PyProof.Rows
inductive V where
 | non | bl (b : Bool) | int (i : Int) | str (x : Str) | byt (b : Array UInt8) | flt (b : UInt64) | ref (a : Addr) | ty (n : String)
 deriving DecidableEq
def RelV : V -> Value -> Prop
 | .non,u => u = Value.none
 | .bl b,u => u = Value.bool b
 | .int i,u => ∃ t,u = Value.int i t
 | .str x,u => ∃ t,u = Value.str x t
 | .byt b,u => ∃ t,u = Value.bytes b t
 | .flt b,u => ∃ t,u = Value.float b t
 | .ref a,u => u = Value.ref a
 | .ty n,u => u = Value.type n
abbrev Vals : List V -> List Value -> Prop:=Paired RelV
theorem Vals.length {xs : List V} {us : List Value} (r : Vals xs us) : xs.length = us.length:=Paired.length r
theorem Vals.get : ∀ {xs : List V} {us : List Value} {i : Nat} {x : V},Vals xs us -> xs[i]? = some x -> ∃ u,us[i]? = some u /\ RelV x u
 | _,_,_,_,.nil,e => by simp at e
 | _,_,0,_,.cons r _,e => by simp at e; subst e; exact ⟨_,rfl,r⟩
 | _,_,i + 1,x,.cons _ t,e => by
  obtain ⟨u,h1,h2⟩:=Vals.get (i:=i) (x:=x) t (by simpa using e)
  exact ⟨u,by simpa using h1,h2⟩
theorem Vals.append : ∀ {xs ys : List V} {us ws : List Value},Vals xs us -> Vals ys ws -> Vals (xs ++ ys) (us ++ ws)
 | _,_,_,_,.nil,s => s
 | _,_,_,_,.cons r t,s => .cons r (Vals.append t s)
def RelO : Option V -> Option Value -> Prop
 | some v,some u => RelV v u
 | none,none => True
 | _,_ => False
def KV {κ : Type} : List (κ × V) -> List (κ × Value) -> Prop:=Paired fun (p : κ × V) (q : κ × Value) => p.1 = q.1 /\ RelV p.2 q.2
def kV : Key -> V
 | .inl i => .int i
 | .inr x => .str x
inductive HO where
  | lst (xs : List V)
  | tup (xs : List V)
  | dK (kvs : List (Key × V)) | dT (kvs : List (List Key × V))
  | set (S : Int -> Bool) (n : Nat)
  | ins (C dx : Addr) (fs : List (Str × V))
  | own (x : Addr)
  | xd (fs : List (Str × V))
  | met (f x : Addr)
  | rng (lo hi : Int)
  | frz (o : Obj) (u : HO)
  | tbl (ps : Array Value)
  | ext (φ : Heap -> Prop)
abbrev Hp:=Addr -> Option HO
def upd (H : Hp) (a : Addr) (o : HO) : Hp:=fun b => if b = a then some o else H b
theorem af {H : Hp} {a : Addr} {o : HO} : upd H a o a = some o:=by unfold upd; rw [if_pos rfl]
theorem az {H : Hp} {a b : Addr} {o : HO} (h : b ≠ a) : upd H a o b = H b:=by unfold upd; rw [if_neg h]
theorem xy {H : Hp} {a b : Addr} {o u : HO} (h : H a = some o) (h' : H b = some u) (d : o ≠ u) : a ≠ b:=by
 intro e; subst e; rw [h] at h'; exact d (Option.some.inj h')
theorem aA {H : Hp} {a b : Addr} {o : HO} (h : H a = some o) (h' : H b = none) : a ≠ b:=by
 intro e; subst e; rw [h] at h'; cases h'
section
variable (P : Program) (w : World)
def ObjOk (H : Hp) (h : Heap) (a : Addr) : HO -> Prop
 | .lst xs => xs.length <= sizeLine /\ ∃ (its : List Value) (n : Nat),Vals xs its /\ h.get? a = some { cls:=.type "list",data:=.seq its.toArray n }
 | .tup xs => xs.length <= sizeLine /\ ∃ its : List Value,Vals xs its /\ IsTup h a its.toArray
 | .dK kvs => kvs.length <= sizeLine /\ (a == sysModules) = false /\ ∃ vs,KV kvs vs /\ h.DictOf (gF P w) a vs
 | .dT kvs => kvs.length <= sizeLine /\ (a == sysModules) = false /\ ∃ xs : List (List Key × Addr × Value),
   Paired (fun (p : List Key × V) (q : List Key × Addr × Value) => p.1 = q.1 /\ H q.2.1 = some (.tup (p.1.map kV)) /\ RelV p.2 q.2.2) kvs xs /\
   ∃ o es ep,h.get? a = some o /\ o.ExactDict /\ o.data = .dict es ep /\ es.toList = xs.map (entryOfKey (tupleKind (gF P w))) /\ (xs.map (·.1)).Nodup
 | .set S n => h.SetOf (intKind P w) a S n
 | .ins C dx fs => H dx = some (.own a) /\ fs.length <= 1000 /\ dx ≠ a /\ h.get? a = some (PySem.W.instObj C dx) /\
   ∃ mA,h.Ns1 dx mA /\ (∀ f,RelO (fs.lookup f) (mA f)) /\ PySem.Within mA (fs.map (·.1))
 | .own _ => ∃ o,h.get? a = some o
 | .xd fs => ∃ mA,h.Ns1 a mA /\ ∀ f,RelO (fs.lookup f) (mA f)
 | .rng lo hi => ∃ t u v,h.get? a = some { cls:=.type "range",data:=.fields #[.int lo t,.int hi u,.int 1 v] }
 | .frz o u => h.get? a = some o /\ ObjOk H h a u
 | .tbl ps => h.get? a = some { cls:=.none,data:=.fields ps }
 | .met f x => h.get? a = some (PySem.W.methodObj (.ref f) (.ref x))
 | .ext φ => φ h /\ (∃ o,h.get? a = some o) /\ ∀ h1 h2 : Heap,φ h1 -> (∀ o,h1.get? a = some o -> h2.get? a = some o) -> φ h2
def HOk (H : Hp) (h : Heap) : Prop := ∀ a o,H a = some o -> ObjOk P w H h a o
end
section
variable {P : Program} {w : World} {H H' : Hp} {h h' : Heap} {a : Addr} {o : HO}
theorem ObjOk.lt (x : ObjOk P w H h a o) : a < h.objs.size:=by
 cases o with
 | lst xs => obtain ⟨_,_,_,_,e⟩:=x; exact Heap.lt_size e
 | tup xs => obtain ⟨_,_,_,p⟩:=x; exact p.lt
 | dK kvs => obtain ⟨_,_,_,_,o,_,_,e,_⟩:=x; exact Heap.lt_size e
 | dT kvs => obtain ⟨_,_,_,_,o,_,_,e,_⟩:=x; exact Heap.lt_size e
 | set S n => obtain ⟨o,_,_,_,e,_⟩:=x; exact Heap.lt_size e
 | ins C dx fs => obtain ⟨_,_,_,e,_⟩:=x; exact Heap.lt_size e
 | own y => obtain ⟨_,e⟩:=x; exact Heap.lt_size e
 | xd fs => obtain ⟨_,⟨_,_,_,e,_⟩,_⟩:=x; exact Heap.lt_size e
 | rng lo hi => obtain ⟨_,_,_,e⟩:=x; exact Heap.lt_size e
 | frz ob u => obtain ⟨e,_⟩:=x; exact Heap.lt_size e
 | tbl ps => exact Heap.lt_size (show h.get? a = some _ from x)
 | met f y => exact Heap.lt_size (show h.get? a = some _ from x)
 | ext φ => obtain ⟨_,⟨_,e⟩,_⟩:=x; exact Heap.lt_size e
theorem Paired.mapP {α β : Type} {F G : α -> β -> Prop} : ∀ {l₁ : List α} {l₂ : List β},Paired F l₁ l₂ -> (∀ a b,F a b -> G a b) -> Paired G l₁ l₂
 | _,_,.nil,_ => .nil
 | _,_,.cons r t,f => .cons (f _ _ r) (Paired.mapP t f)
theorem ObjOk.stay (x : ObjOk P w H h a o) (k : ∀ b u,(b = a \/ H b = some (.own a)) -> h.get? b = some u -> h'.get? b = some u)
  (ho : ∀ b,H b = some (.own a) -> H' b = some (.own a)) (ht : ∀ b xs,H b = some (.tup xs) -> H' b = some (.tup xs)) : ObjOk P w H' h' a o:=by
 induction o with
 | lst xs => obtain ⟨z,its,n,r,e⟩:=x; exact ⟨z,its,n,r,k _ _ (.inl rfl) e⟩
 | tup xs => obtain ⟨z,its,r,ob,e,c⟩:=x; exact ⟨z,its,r,ob,k _ _ (.inl rfl) e,c⟩
 | dK kvs => obtain ⟨z,y,vs,r,ob,es,ep,e,c⟩:=x; exact ⟨z,y,vs,r,ob,es,ep,k _ _ (.inl rfl) e,c⟩
 | dT kvs =>
  obtain ⟨z,y,xs,r,ob,es,ep,e,c⟩:=x
  exact ⟨z,y,xs,Paired.mapP r fun p q z => ⟨z.1,ht _ _ z.2.1,z.2.2⟩,ob,es,ep,k _ _ (.inl rfl) e,c⟩
 | set S n => obtain ⟨ob,es,ep,t,e,c⟩:=x; exact ⟨ob,es,ep,t,k _ _ (.inl rfl) e,c⟩
 | ins C dx fs =>
  obtain ⟨d,z,ne,e,mA,⟨od,es,ep,e2,c⟩,r⟩:=x
  exact ⟨ho _ d,z,ne,k _ _ (.inl rfl) e,mA,⟨od,es,ep,k _ _ (.inr d) e2,c⟩,r⟩
 | own y => obtain ⟨ob,e⟩:=x; exact ⟨ob,k _ _ (.inl rfl) e⟩
 | xd fs => obtain ⟨mA,⟨od,es,ep,e,c⟩,r⟩:=x; exact ⟨mA,⟨od,es,ep,k _ _ (.inl rfl) e,c⟩,r⟩
 | rng lo hi => obtain ⟨t,u,v,e⟩:=x; exact ⟨t,u,v,k _ _ (.inl rfl) e⟩
 | frz ob u ih => obtain ⟨e,q⟩:=x; exact ⟨k _ _ (.inl rfl) e,ih q⟩
 | tbl ps =>
  have e : h.get? a = some { cls:=.none,data:=.fields ps }:=x
  show h'.get? a = some { cls:=.none,data:=.fields ps }
  exact k a _ (.inl rfl) e
 | met f y =>
  have e : h.get? a = some (PySem.W.methodObj (.ref f) (.ref y)):=x
  show h'.get? a = some (PySem.W.methodObj (.ref f) (.ref y))
  exact k a _ (.inl rfl) e
 | ext φ => obtain ⟨p,⟨o,e⟩,st⟩:=x; exact ⟨st _ _ p fun o q => k _ _ (.inl rfl) q,⟨o,k _ _ (.inl rfl) e⟩,st⟩
theorem HOk.lt (x : HOk P w H h) (e : H a = some o) : a < h.objs.size:=(x a o e).lt
theorem HOk.fresh (x : HOk P w H h) (e : h.objs.size <= a) : H a = none:=by
 cases q : H a with
 | none => rfl
 | some u => exact absurd (Nat.lt_of_lt_of_le (x.lt q) e) (Nat.lt_irrefl _)
theorem HOk.kept (x : HOk P w H h) (k : ∀ b u,h.get? b = some u -> h'.get? b = some u) : HOk P w H h' := fun a o e =>
 (x a o e).stay (fun b u _ q => k b u q) (fun _ q => q) fun _ _ q => q
theorem HOk.laid (x : HOk P w H h) (k : ∀ b u,h.get? b = some u -> h'.get? b = some u) (hp : h.objs.size <= a) (new : ObjOk P w (upd H a o) h' a o) : HOk P w (upd H a o) h' := fun b u e => by
 have hn:=x.fresh hp
 by_cases hb : b = a
 ·subst hb; rw [af] at e; cases e; exact new
 ·rw [az hb] at e
  exact (x b u e).stay (fun c v _ q => k c v q) (fun c q => by rw [az (aA q hn)]; exact q) fun c xs q => by rw [az (aA q hn)]; exact q
end
def Rd (H : Hp) (a : Addr) (u : HO) : Prop:=H a = some u \/ ∃ o,H a = some (.frz o u)
theorem Rd.ok {P : Program} {w : World} {H : Hp} {h : Heap} {a : Addr} {u : HO} (r : Rd H a u) (x : HOk P w H h) : ObjOk P w H h a u:=by
 rcases r with r | ⟨o,r⟩
 ·exact x a u r
 ·obtain ⟨_,q⟩:=x a _ r
  exact q
def Mut : Option HO -> Prop
 | some (.lst _) => True
 | some (.dK _) => True
 | some (.dT _) => True
 | some (.set _ _) => True
 | some (.ins _ _ _) => True
 | some (.ext _) => True
 | _ => False
section
variable {P : Program} {w : World} {H : Hp} {h h' : Heap} {x e : Addr} {o' : HO}
theorem HOk.write (ok : HOk P w H h) (mu : Mut (H x)) (he : e = x \/ H e = some (.own x)) (k : ∀ b u,b ≠ e -> h.get? b = some u -> h'.get? b = some u) (heo : ∃ u,h'.get? e = some u)
  (new : ObjOk P w (upd H x o') h' x o') : HOk P w (upd H x o') h' := fun b u q => by
 have nown : ∀ c y,H c = some (.own y) -> c ≠ x:=fun c y r z => by subst z; rw [r] at mu; exact mu
 have ntup : ∀ c xs,H c = some (.tup xs) -> c ≠ x:=fun c xs r z => by subst z; rw [r] at mu; exact mu
 by_cases hb : b = x
 ·subst hb; rw [af] at q; cases q; exact new
 ·rw [az hb] at q
  by_cases hbe : b = e
  ·have q' : H b = some (.own x):=by
    rcases he with z | z
    ·exact absurd (hbe.trans z) hb
    ·rw [hbe]; exact z
   rw [q] at q'; cases q'
   obtain ⟨v,hv⟩:=heo
   exact ⟨v,by rw [hbe]; exact hv⟩
  ·refine (ok b u q).stay (fun c v hc r => k c v ?_ r) (fun c r => by rw [az (nown c b r)]; exact r) fun c xs r => by rw [az (ntup c xs r)]; exact r
   rcases hc with rfl | hc
   ·exact hbe
   ·rintro rfl
    rcases he with z | z
    ·exact nown c b hc z
    ·rw [hc] at z; cases z; exact hb rfl
end
structure Un (fs ex : List Addr) (H H' : Hp) (h h' : Heap) : Prop where
 keep : ∀ b o,h.get? b = some o -> H b = none -> b ∉ fs -> b ∉ ex -> h'.get? b = some o
 slot : ∀ b o,h.get? b = some o -> H b = none -> b ∈ fs -> b ∉ ex -> ∃ sl,h'.get? b = some { o with slots:=sl }
 free : ∀ b o,h.get? b = some o -> H b = none -> b ∉ ex -> H' b = none
 there : ∀ b o,h.get? b = some o -> b ∉ ex -> ∃ o',h'.get? b = some o'
 tups : ∀ b xs,H b = some (.tup xs) -> H' b = some (.tup xs)
 frzs : ∀ b o u,H b = some (.frz o u) -> H' b = some (.frz o u)
 tbls : ∀ b ps,H b = some (.tbl ps) -> ∃ more,H' b = some (.tbl (ps ++ more))
section
variable {fs fs' ex ex' : List Addr} {H H1 H2 : Hp} {h h1 h2 h' : Heap} {a x e : Addr} {o : HO}
theorem Un.any (u : Un fs ex H H1 h h1) {b : Addr} {ob : Obj} (q : h.get? b = some ob) (n : H b = none) (hx : b ∉ ex) : ∃ sl,h1.get? b = some { ob with slots:=sl }:=by
 by_cases hb : b ∈ fs
 ·exact u.slot b ob q n hb hx
 ·exact ⟨ob.slots,u.keep b ob q n hb hx⟩
theorem Un.kept (k : ∀ b u,h.get? b = some u -> h'.get? b = some u) : Un fs ex H H h h' :=
 ⟨fun b ob q _ _ _ => k b ob q,fun b ob q _ _ _ => ⟨ob.slots,k b ob q⟩,fun _ _ _ n _ => n,fun b ob q _ => ⟨ob,k b ob q⟩,fun _ _ q => q,fun _ _ _ q => q,fun _ ps q => ⟨#[],by rw [q]; simp⟩⟩
theorem Un.refl : Un fs ex H H h h:=Un.kept fun _ _ q => q
theorem Un.laid (k : ∀ b u,h.get? b = some u -> h'.get? b = some u) (hp : h.objs.size <= a) (hn : H a = none) : Un fs ex H (upd H a o) h h' where
 keep:=fun b u q _ _ _ => k b u q
 slot:=fun b u q _ _ _ => ⟨u.slots,k b u q⟩
 free:=fun b u q n _ => by rw [az (Nat.ne_of_lt (Nat.lt_of_lt_of_le (Heap.lt_size q) hp))]; exact n
 there:=fun b u q _ => ⟨u,k b u q⟩
 tups:=fun b xs q => by rw [az (aA q hn)]; exact q
 frzs:=fun b u xs q => by rw [az (aA q hn)]; exact q
 tbls:=fun b ps q => ⟨#[],by rw [az (aA q hn),q]; simp⟩
theorem Un.write (mu : Mut (H x)) (he : e = x \/ H e = some (.own x)) (k : ∀ b u,b ≠ e -> h.get? b = some u -> h'.get? b = some u) (heo : ∃ u,h'.get? e = some u) : Un fs ex H (upd H x o) h h' := by
 have hx : ∀ b,H b = none -> b ≠ x:=fun b n z => by subst z; rw [n] at mu; exact mu
 have hb : ∀ b,H b = none -> b ≠ e:=fun b n z => by
  subst z
  rcases he with r | r
  ·exact hx b n r
  ·rw [n] at r; cases r
 have hm : ∀ b u,H b = some u -> ¬ Mut (some u) -> b ≠ x:=fun b u q nm z => by subst z; rw [q] at mu; exact nm mu
 refine ⟨fun b u q n _ _ => k b u (hb b n) q,fun b u q n _ _ => ⟨u.slots,k b u (hb b n) q⟩,fun b u q n _ => by rw [az (hx b n)]; exact n,fun b u q _ => ?_,
  fun b xs q => by rw [az (hm b _ q fun z => z)]; exact q,fun b u xs q => by rw [az (hm b _ q fun z => z)]; exact q,fun b ps q => ⟨#[],by rw [az (hm b _ q fun z => z),q]; simp⟩⟩
 by_cases hbe : b = e
 ·subst hbe; exact heo
 ·exact ⟨u,k b u hbe q⟩
end
def trk (h : Heap) (H : Hp) : List Addr:=(List.range h.objs.size).filter fun a => (H a).isSome
def AF (h : Heap) (H : Hp) : Heap:=PySem.W.hideAll h (trk h H)
theorem Fm (h : Heap) (H : Hp) : (AF h H).objs.size = h.objs.size:=PySem.W.hideAll_size _ _
theorem Gp {h : Heap} {H : Hp} {b : Addr} {o : Obj} (e : h.get? b = some o) (n : H b = none) : (AF h H).get? b = some o:=
 PySem.W.hideAll_get _ e fun hm => by
  have q : (H b).isSome = true:=(List.mem_filter.mp hm).2
  rw [n] at q; simp at q
theorem Il {h : Heap} {H : Hp} {b : Addr} {o : Obj} (e : (AF h H).get? b = some o) : h.get? b = some o /\ H b = none:=by
 have e' : h.get? b = some o:=PySem.W.of_hideAll (trk h H) e
 refine ⟨e',?_⟩
 cases q : H b with
 | none => rfl
 | some x =>
  have hm : b ∈ trk h H:=List.mem_filter.mpr ⟨List.mem_range.mpr (Heap.lt_size e'),by simp [q]⟩
  have z : (AF h H).get? b = none:=PySem.W.hideAll_none (trk h H) hm
  rw [z] at e; cases e
def HL (g h : Heap) (L : Addr) : List (Addr × Obj):=(List.range h.objs.size).filterMap fun a => if a = L \/ (g.get? a).isSome = true then none else (h.get? a).map fun o => (a,o)
def rest (g h : Heap) (L d : Addr) : List (Addr × Obj):=(HL g h L).filter fun p => decide (p.1 ≠ d)
end L2
namespace L2
open PySem PySem.Spec PyProof.Rows
structure Mod (K : PySem.W.Frag) (mg : Str -> Option Value) (base : Heap) : Prop where
 kin : K.In base
 glob : base.Ns mainGlobals mg
 blt : ∃ mb,base.Ns builtinsNs mb /\ ∀ x : Str,x ≠ "__name__" -> mb x = bootBuiltins x
 nolimit : base.NoLimit
structure Cx where
 prog : Program
 w : World
 K : PySem.W.Frag
 mg : Str -> Option Value
 base : Heap
 A : Around
 N : List Str
 s₀ : Shared
 H₀ : Hp
 env : Env
 outer : List Env
 stack : List Env
 ex : List Addr
 fn : Str -> Bool
 calm : Bool
 pn : List (Addr × Obj)
 xe : Value -> Shared -> Prop
def frs (l : List Env) : List Addr:=l.filterMap (·.frame)
abbrev Cx.fs (X : Cx) : List Addr:=frs X.outer
def Vis (sc : Scope) (x : Str) : Prop:=sc.names.lookup x = some .local \/ sc.names.lookup x = some .cell \/ sc.names.lookup x = some .free
def Loc (sc : Scope) (x : Str) : Prop:=sc.names.lookup x = some .local \/ sc.names.lookup x = some .cell
def Look (env : Env) (h : Heap) (m : Str -> Option Value) (x : Str) (u : Value) : Prop:=
 (env.kindOf x = some .local /\ m x = some u) \/ ((env.kindOf x = some .cell \/ env.kindOf x = some .free) /\ ∃ c,env.cells.lookup x = some c /\ h.IsCell c (some u))
structure Cx.Ok (X : Cx) : Prop where
 mod : Mod X.K X.mg X.base
 kind : X.env.scope.kind = .function
 glob : X.env.globals = mainGlobals
 blt : X.env.builtins = builtinsNs
 above : X.s₀.heap.objs.size <= X.env.locals
 inj : ∀ x y c,X.env.cells.lookup x = some c -> X.env.cells.lookup y = some c -> x = y
 has : ∀ x,(X.env.kindOf x = some .cell \/ X.env.kindOf x = some .free) -> ∃ c,X.env.cells.lookup x = some c
 cab : ∀ x c,X.fn x = true -> X.env.cells.lookup x = some c -> X.s₀.heap.objs.size <= c
 hd : X.calm = true -> X.A.handled = none
 frames : X.A.frames = some X.stack
 stk : X.stack = X.outer \/ (X.stack = X.env :: X.outer /\ X.env.frame = some X.env.locals)
 exf : ∀ b ∈ X.ex,b ≠ X.env.locals /\ ∀ x c,X.env.cells.lookup x = some c -> c ≠ b
 bs : ∀ b o,X.base.get? b = some o -> X.s₀.heap.get? b = some o /\ X.H₀ b = none
 bsz : X.base.objs.size <= X.s₀.heap.objs.size
 noex : ∀ b o,X.base.get? b = some o -> b ∉ X.ex
 exfs : ∀ b ∈ X.ex,b ∉ X.fs
 funs : X.s₀.heap.FunFrames X.base X.outer
 frf : ∀ b ∈ X.fs,X.H₀ b = none
structure Inv (X : Cx) (pins : List (Addr × Obj)) (σ : List (Option V)) (H : Hp) (s : Shared) : Prop where
 ok : X.Ok
 os : s.os = X.s₀.os
 bare : AllBare s.gens
 base : Un X.fs X.ex X.H₀ H X.s₀.heap s.heap
 loc : ∃ m,s.heap.Ns X.env.locals m /\ ∀ (i : Nat) (x : Str) (v : V),X.N[i]? = some x -> σ[i]? = some (some v) -> Vis X.env.scope x -> ∃ u,RelV v u /\ Look X.env s.heap m x u
 cell : ∀ x c,X.env.cells.lookup x = some c -> ∃ v,s.heap.IsCell c v
 free : H X.env.locals = none
 freeC : ∀ x c,X.env.cells.lookup x = some c -> H c = none
 pin : ∀ p ∈ X.pn ++ pins,s.heap.get? p.1 = some p.2 /\ H p.1 = none /\ p.1 ≠ X.env.locals /\ p.1 ∉ X.fs /\ ∀ v,p.2.data ≠ .cell v
 hok : HOk X.prog X.w H s.heap
 len : σ.length = X.N.length
section
variable {X : Cx} {pins : List (Addr × Obj)} {σ : List (Option V)} {H H' : Hp} {s : Shared} {h' : Heap}
theorem Cx.Ok.nofr (ok : X.Ok) {b : Addr} {o : Obj} (e : X.base.get? b = some o) : b ∉ X.fs:=fun hb => by
 have:=(ok.funs.mem hb).1
 rw [e] at this; cases this
theorem Inv.bs (I : Inv X pins σ H s) : ∀ b o,X.base.get? b = some o -> s.heap.get? b = some o /\ H b = none:=fun b o e =>
 ⟨I.base.keep b o (I.ok.bs b o e).1 (I.ok.bs b o e).2 (I.ok.nofr e) (I.ok.noex b o e),I.base.free b o (I.ok.bs b o e).1 (I.ok.bs b o e).2 (I.ok.noex b o e)⟩
theorem Inv.bk (I : Inv X pins σ H s) : ∀ b o,X.base.get? b = some o -> s.heap.get? b = some o:=fun b o e => (I.bs b o e).1
theorem Inv.mod (I : Inv X pins σ H s) : Mod X.K X.mg X.base:=I.ok.mod
theorem Inv.kIn (I : Inv X pins σ H s) : X.K.In s.heap:=I.ok.mod.kin.keeps I.bk
theorem Inv.lt (I : Inv X pins σ H s) : X.env.locals < s.heap.objs.size:=let ⟨_,hn,_⟩:=I.loc; hn.lt
theorem Inv.sz (I : Inv X pins σ H s) : X.s₀.heap.objs.size <= s.heap.objs.size:=Nat.le_trans I.ok.above (Nat.le_of_lt I.lt)
theorem Inv.nofs (I : Inv X pins σ H s) {a : Addr} (h : s.heap.objs.size <= a) : a ∉ X.fs:=fun hb => by
 obtain ⟨_,o,ho,_⟩:=I.ok.funs.mem hb
 exact absurd (Nat.lt_of_lt_of_le (Heap.lt_size ho) (Nat.le_trans I.sz h)) (Nat.lt_irrefl _)
theorem Inv.cne (I : Inv X pins σ H s) : ∀ x c,X.env.cells.lookup x = some c -> c ≠ X.env.locals:=fun x c e z => by
 obtain ⟨v,o,ho,hd⟩:=I.cell x c e
 obtain ⟨m,⟨o',es,ep,ho',hd',_⟩,_⟩:=I.loc
 rw [z,ho'] at ho; cases ho; rw [hd'] at hd; cases hd
theorem Inv.funs (I : Inv X pins σ H s) : s.heap.FunFrames X.base X.outer:=by
 have all : ∀ (l : List Env),(∀ b ∈ frs l,b ∈ X.fs) -> X.s₀.heap.FunFrames X.base l -> s.heap.FunFrames X.base l:=by
  intro l
  induction l with
  | nil => intro _ _; trivial
  | cons env r ih =>
   intro hs hl
   obtain ⟨hk,⟨L,o,hf,hn,ho,hd⟩,hr⟩:=hl
   have hL : L ∈ X.fs:=hs L (by unfold frs; rw [List.filterMap_cons,hf]; exact List.mem_cons_self)
   obtain ⟨sl,e⟩:=I.base.slot L o ho (I.ok.frf L hL) hL fun z => I.ok.exfs L z hL
   exact ⟨hk,⟨L,_,hf,hn,e,hd⟩,ih (fun b hb => hs b (by unfold frs; rw [List.filterMap_cons,hf]; exact List.mem_cons_of_mem _ hb)) hr⟩
 exact all X.outer (fun _ hb => hb) I.ok.funs
theorem Inv.stack (I : Inv X pins σ H s) : s.heap.FunFrames X.base X.stack:=by
 rcases I.ok.stk with e | ⟨e,hf⟩
 ·rw [e]; exact I.funs
 ·rw [e]
  obtain ⟨m,hn,_⟩:=I.loc
  refine .cons (by rw [I.ok.kind]; decide) hf hn ?_ I.funs
  exact Heap.get?_none_of_le (Nat.le_trans I.ok.bsz I.ok.above)
theorem Inv.stkSub (I : Inv X pins σ H s) : ∀ b ∈ frs X.stack,b ∈ X.env.locals :: X.fs:=fun b hb => by
 rcases I.ok.stk with e | ⟨e,hf⟩
 ·rw [e] at hb; exact List.mem_cons_of_mem _ hb
 ·rw [e] at hb
  unfold frs at hb
  rw [List.filterMap_cons,hf] at hb
  exact hb
theorem Inv.stkFree (I : Inv X pins σ H s) : ∀ b ∈ frs X.stack,H b = none:=fun b hb => by
 rcases List.mem_cons.mp (I.stkSub b hb) with e | hb
 ·rw [e]; exact I.free
 ·obtain ⟨_,o,ho,_⟩:=I.ok.funs.mem hb
  exact I.base.free b o ho (I.ok.frf b hb) fun z => I.ok.exfs b z hb
theorem Inv.step {g' : Array GenState} {t' : Nat} {d' : Drawn} {ch : List Addr} (I : Inv X pins σ H s)
  (hch : ∀ b ∈ ch,(b ∈ X.ex \/ X.s₀.heap.objs.size <= b) /\ b ≠ X.env.locals /\ (∀ x c,X.env.cells.lookup x = some c -> c ≠ b) /\ ∀ p ∈ X.pn ++ pins,p.1 ≠ b)
  (keep : ∀ b o,b ≠ X.env.locals -> b ∉ X.fs -> b ∉ ch -> s.heap.get? b = some o -> H b = none -> h'.get? b = some o)
  (slot : ∀ b o,b ≠ X.env.locals -> b ∈ X.fs -> b ∉ ch -> s.heap.get? b = some o -> H b = none -> ∃ sl,h'.get? b = some { o with slots:=sl }) (free : ∀ b o,b ∉ ch -> s.heap.get? b = some o -> H b = none -> H' b = none)
  (there : ∀ b o,b ∉ ch -> s.heap.get? b = some o -> ∃ o',h'.get? b = some o')
  (tups : ∀ b xs,H b = some (.tup xs) -> H' b = some (.tup xs)) (frzs : ∀ b o u,H b = some (.frz o u) -> H' b = some (.frz o u)) (tbls : ∀ b ps,H b = some (.tbl ps) -> ∃ more,H' b = some (.tbl (ps ++ more)))
  (ns : ∀ m,s.heap.Ns X.env.locals m -> h'.Ns X.env.locals m) (hok : HOk X.prog X.w H' h') (hg : AllBare g') :
  Inv X pins σ H' { s with heap:=h',gens:=g',drawn:=d',toks:=t' }:=by
 have neL : ∀ b o,X.s₀.heap.get? b = some o -> b ≠ X.env.locals:=fun b o e => Nat.ne_of_lt (Nat.lt_of_lt_of_le (Heap.lt_size e) I.ok.above)
 have neC : ∀ b o,X.s₀.heap.get? b = some o -> b ∉ X.ex -> b ∉ ch:=fun b o e hx hb => by
  rcases (hch b hb).1 with z | z
  ·exact hx z
  ·exact absurd (Nat.lt_of_lt_of_le (Heap.lt_size e) z) (Nat.lt_irrefl _)
 have cellK : ∀ x c,X.env.cells.lookup x = some c -> ∀ v,s.heap.IsCell c v -> h'.IsCell c v:=fun x c e v ⟨o,ho,hd⟩ => by
  have nch : c ∉ ch:=fun z => (hch c z).2.2.1 x c e rfl
  by_cases hc : c ∈ X.fs
  ·obtain ⟨sl,q⟩:=slot c o (I.cne x c e) hc nch ho (I.freeC x c e)
   exact ⟨_,q,hd⟩
  ·exact ⟨o,keep c o (I.cne x c e) hc nch ho (I.freeC x c e),hd⟩
 refine ⟨I.ok,I.os,hg,⟨fun b o e n hb hx => ?_,fun b o e n hb hx => ?_,fun b o e n hx => ?_,fun b o e hx => ?_,fun b xs e => tups b xs (I.base.tups b xs e),fun b o xs e => frzs b o xs (I.base.frzs b o xs e),fun b ps e => ?_⟩,?_,fun x c e => ?_,?_,fun x c e => ?_,fun p hp => ?_,hok,I.len⟩
 ·exact keep b o (neL b o e) hb (neC b o e hx) (I.base.keep b o e n hb hx) (I.base.free b o e n hx)
 ·obtain ⟨sl,e1⟩:=I.base.slot b o e n hb hx
  obtain ⟨sl',e2⟩:=slot b _ (neL b o e) hb (neC b o e hx) e1 (I.base.free b o e n hx)
  exact ⟨sl',e2⟩
 ·obtain ⟨o',e1⟩:=I.base.there b o e hx
  exact free b o' (neC b o e hx) e1 (I.base.free b o e n hx)
 ·obtain ⟨o',e1⟩:=I.base.there b o e hx
  exact there b o' (neC b o e hx) e1
 ·obtain ⟨m1,e1⟩:=I.base.tbls b ps e
  obtain ⟨m2,e2⟩:=tbls b _ e1
  exact ⟨m1 ++ m2,by rw [e2,Array.append_assoc]⟩
 ·obtain ⟨m,hn,hl⟩:=I.loc
  refine ⟨m,ns m hn,fun i x v e1 e2 e3 => ?_⟩
  obtain ⟨u,r,l⟩:=hl i x v e1 e2 e3
  refine ⟨u,r,?_⟩
  rcases l with l | ⟨k,c,e,z⟩
  ·exact .inl l
  ·exact .inr ⟨k,c,e,cellK x c e _ z⟩
 ·obtain ⟨v,z⟩:=I.cell x c e
  exact ⟨v,cellK x c e v z⟩
 ·obtain ⟨m,⟨o,_,_,ho,_⟩,_⟩:=I.loc
  exact free _ o (fun z => (hch _ z).2.1 rfl) ho I.free
 ·obtain ⟨v,o,ho,hd⟩:=I.cell x c e
  exact free c o (fun z => (hch c z).2.2.1 x c e rfl) ho (I.freeC x c e)
 ·obtain ⟨e,n,ne,nf,d⟩:=I.pin p hp
  have nch : p.1 ∉ ch:=fun z => (hch p.1 z).2.2.2 p hp rfl
  exact ⟨keep p.1 p.2 ne nf nch e n,free p.1 p.2 nch e n,ne,nf,d⟩
theorem Inv.un {t' : Nat} (I : Inv X pins σ H s) (u : Un X.fs [] H H' s.heap h') (hok : HOk X.prog X.w H' h') : Inv X pins σ H' { s with heap:=h',toks:=t' }:=by
 obtain ⟨m,⟨o,es,ep,ho,r⟩,_⟩:=id I.loc
 obtain ⟨sl,hL⟩:=u.any ho I.free (by simp)
 exact I.step (g' := s.gens) (d' := s.drawn) (ch:=[]) (fun _ z => nomatch z) (fun b o _ hb _ e n => u.keep b o e n hb (by simp)) (fun b o _ hb _ e n => u.slot b o e n hb (by simp)) (fun b o _ e n => u.free b o e n (by simp)) (fun b o _ e => u.there b o e (by simp)) u.tups u.frzs u.tbls (fun m' hm => by
  obtain ⟨o',es',ep',ho',r'⟩:=hm
  rw [ho] at ho'; cases ho'
  exact ⟨_,es',ep',hL,r'⟩) hok I.bare
theorem Inv.call {g' : Array GenState} {t' : Nat} {d' : Drawn} {ch : List Addr} (I : Inv X pins σ H s) (u : Un (frs X.stack) ch H H' s.heap h') (hok : HOk X.prog X.w H' h') (hg : AllBare g')
  (hch : ∀ b ∈ ch,(b ∈ X.ex \/ X.s₀.heap.objs.size <= b) /\ b ≠ X.env.locals /\ (∀ x c,X.env.cells.lookup x = some c -> c ≠ b) /\ ∀ p ∈ X.pn ++ pins,p.1 ≠ b) :
  Inv X pins σ H' { s with heap:=h',gens:=g',drawn:=d',toks:=t' }:=by
 obtain ⟨m,⟨o,es,ep,ho,r⟩,_⟩:=id I.loc
 obtain ⟨sl,hL⟩:=u.any ho I.free fun z => (hch _ z).2.1 rfl
 exact I.step (ch:=ch) hch (fun b o hL hb hc e n => u.keep b o e n (fun z => (List.mem_cons.mp (I.stkSub b z)).elim hL hb) hc) (fun b o _ _ hc e n => u.any e n hc) (fun b o hc e n => u.free b o e n hc) (fun b o hc e => u.there b o e hc) u.tups u.frzs u.tbls (fun m' hm => by
  obtain ⟨o',es',ep',ho',r'⟩:=hm
  rw [ho] at ho'; cases ho'
  exact ⟨_,es',ep',hL,r'⟩) hok hg
theorem Inv.turned {t' : Nat} {it : Addr} (I : Inv X pins σ H s) (k : ∀ b o,b ≠ it -> s.heap.get? b = some o -> h'.get? b = some o) (hn : H it = none) (hL : it ≠ X.env.locals)
  (h1 : it ∈ X.ex \/ X.s₀.heap.objs.size <= it) (h2 : ∀ x c,X.env.cells.lookup x = some c -> c ≠ it) (h3 : ∀ p ∈ X.pn ++ pins,p.1 ≠ it) : Inv X pins σ H { s with heap:=h',toks:=t' }:=by
 have nit : ∀ b u,H b = some u -> b ≠ it:=fun b u e z => by rw [z,hn] at e; cases e
 refine I.step (g' := s.gens) (d' := s.drawn) (ch:=[it]) (fun b hb => ?_) (fun b o _ _ hc e _ => k b o (fun z => hc (by simp [z])) e) (fun b o _ _ hc e _ => ⟨o.slots,k b o (fun z => hc (by simp [z])) e⟩) (fun _ _ _ _ n => n)
  (fun b o hc e => ⟨o,k b o (fun z => hc (by simp [z])) e⟩) (fun _ _ e => e) (fun _ _ _ e => e) (fun b ps e => ⟨#[],by rw [e]; simp⟩) (fun m hm => ?_) (fun b u e => ?_) I.bare
 ·have e : b = it:=by simpa using hb
  subst e
  exact ⟨h1,hL,h2,h3⟩
 ·obtain ⟨o,es,ep,ho,r⟩:=hm
  exact ⟨o,es,ep,k _ o (Ne.symm hL) ho,r⟩
 ·refine (I.hok b u e).stay (fun c v hc q => k c v ?_ q) (fun _ q => q) fun _ _ q => q
  rcases hc with z | z
  ·rw [z]; exact nit b u e
  ·exact nit c _ z
theorem Inv.tok (I : Inv X pins σ H s) (t : Nat) : Inv X pins σ H { s with toks:=t }:=I.un (h' := s.heap) (t' := t) Un.refl I.hok
theorem Inv.kept {t' : Nat} (I : Inv X pins σ H s) (k : ∀ b u,s.heap.get? b = some u -> h'.get? b = some u) : Inv X pins σ H { s with heap:=h',toks:=t' }:=I.un (Un.kept k) (I.hok.kept k)
theorem Inv.laid {a : Addr} {o : HO} {t' : Nat} (I : Inv X pins σ H s) (k : ∀ b u,s.heap.get? b = some u -> h'.get? b = some u) (hp : s.heap.objs.size <= a) (new : ObjOk X.prog X.w (upd H a o) h' a o) :
  Inv X pins σ (upd H a o) { s with heap:=h',toks:=t' }:=I.un (Un.laid k hp (I.hok.fresh hp)) (I.hok.laid k hp new)
theorem Inv.write {x e : Addr} {o : HO} {t' : Nat} (I : Inv X pins σ H s) (mu : Mut (H x)) (he : e = x \/ H e = some (.own x)) (k : ∀ b u,b ≠ e -> s.heap.get? b = some u -> h'.get? b = some u) (heo : ∃ u,h'.get? e = some u)
  (new : ObjOk X.prog X.w (upd H x o) h' x o) : Inv X pins σ (upd H x o) { s with heap:=h',toks:=t' }:=I.un (Un.write mu he k heo) (I.hok.write mu he k heo new)
theorem Inv.pins_of {pins' : List (Addr × Obj)} (I : Inv X pins σ H s) (h : ∀ p ∈ pins',s.heap.get? p.1 = some p.2 /\ H p.1 = none /\ p.1 ≠ X.env.locals /\ p.1 ∉ X.fs /\ ∀ v,p.2.data ≠ .cell v) : Inv X pins' σ H s:=
 ⟨I.ok,I.os,I.bare,I.base,I.loc,I.cell,I.free,I.freeC,fun p hp => (List.mem_append.mp hp).elim (fun z => I.pin p (List.mem_append_left _ z)) (h p),I.hok,I.len⟩
theorem xA {N : List Str} (hN : N.Nodup) {i j : Nat} {x : Str} (a : N[i]? = some x) (b : N[j]? = some x) : i = j:=by
 obtain ⟨h1,e1⟩:=List.getElem?_eq_some_iff.mp a
 obtain ⟨h2,e2⟩:=List.getElem?_eq_some_iff.mp b
 exact (List.getElem_inj hN).mp (e1.trans e2.symm)
theorem zS {M : Model} {A : Around} {E : Value -> Shared -> Prop} {i : Nat} {x : Str} {v : V} {u : Value} {Q : Unit -> Shared -> Prop} (I : Inv X pins σ H s) (hN : X.N.Nodup) (hi : X.N[i]? = some x) (hx : Loc X.env.scope x) (r : RelV v u)
  (h : ∀ s',Inv X pins (σ.set i (some v)) H s' -> (∃ a,Heap.SameBut a s.heap s'.heap /\ (a = X.env.locals \/ X.env.cells.lookup x = some a)) -> Q () s') (hf : X.fn x = true \/ X.env.scope.names.lookup x = some .local:=by first | exact .inl rfl | exact .inr rfl | assumption) : wpAny M A (storeName X.env x u) Q E s:=by
 obtain ⟨m,hn,hl⟩:=id I.loc
 have hcls : (X.env.scope.kind == .class || (X.env.scope.kind == .module && X.env.locals != X.env.globals)) = false:=by rw [I.ok.kind]; rfl
 have hiσ : i < σ.length:=by rw [I.len]; exact (List.getElem?_eq_some_iff.mp hi).1
 have cne:=I.cne
 have tracked : ∀ {a : Addr} {h' : Heap},(∃ o,s.heap.get? a = some o /\ H a = none) -> Heap.SameBut a s.heap h' -> HOk X.prog X.w H h' := fun {a h'} ha hs b ob e => by
  obtain ⟨_,_,hfree⟩:=ha
  refine (I.hok b ob e).stay (fun c w' hc q => (hs.2 c ?_).trans q) (fun _ q => q) fun _ _ q => q
  rintro rfl
  rcases hc with rfl | hc
  ·rw [hfree] at e; cases e
  ·rw [hfree] at hc; cases hc
 rcases hx with hk | hk
 ·refine wpAny_storeName_local hk hn (fun h' hn' hs => ?_) hcls
  obtain ⟨oL,_,_,hoL,_⟩:=id hn
  refine h _ ⟨I.ok,I.os,I.bare,⟨fun b o e n hb hx => ?_,fun b o e n hb hx => ?_,I.base.free,fun b o e hx => ?_,I.base.tups,I.base.frzs,I.base.tbls⟩,⟨_,hn',fun j y v' e1 e2 e3 => ?_⟩,fun y c e => ?_,I.free,I.freeC,fun p hp => ?_,tracked ⟨oL,hoL,I.free⟩ hs,by simpa using I.len⟩ ⟨_,hs,.inl rfl⟩
  ·exact (hs.2 b (Nat.ne_of_lt (Nat.lt_of_lt_of_le (Heap.lt_size e) I.ok.above))).trans (I.base.keep b o e n hb hx)
  ·obtain ⟨sl,e1⟩:=I.base.slot b o e n hb hx
   exact ⟨sl,(hs.2 b (Nat.ne_of_lt (Nat.lt_of_lt_of_le (Heap.lt_size e) I.ok.above))).trans e1⟩
  ·obtain ⟨o',e1⟩:=I.base.there b o e hx
   exact ⟨o',(hs.2 b (Nat.ne_of_lt (Nat.lt_of_lt_of_le (Heap.lt_size e) I.ok.above))).trans e1⟩
  ·by_cases hj : j = i
   ·subst hj
    rw [hi] at e1; cases e1
    rw [List.getElem?_set_self hiσ] at e2
    cases e2
    exact ⟨u,r,.inl ⟨hk,by simp⟩⟩
   ·rw [List.getElem?_set_ne (Ne.symm hj)] at e2
    obtain ⟨u',r',q⟩:=hl j y v' e1 e2 e3
    refine ⟨u',r',?_⟩
    rcases q with ⟨k,e⟩ | ⟨k,c,e,z⟩
    ·refine .inl ⟨k,?_⟩
     have : y ≠ x:=fun e => hj (xA hN e1 (e ▸ hi))
     simp [this,e]
    ·exact .inr ⟨k,c,e,z.sameBut hs (cne y c e)⟩
  ·obtain ⟨w',z⟩:=I.cell y c e
   exact ⟨w',z.sameBut hs (cne y c e)⟩
  ·obtain ⟨e,n,ne,nf,d⟩:=I.pin p hp
   exact ⟨(hs.2 p.1 ne).trans e,n,ne,nf,d⟩
 ·have hfn : X.fn x = true:=by
   rcases hf with z | z
   ·exact z
   ·rw [z] at hk; cases hk
  obtain ⟨c,hc⟩:=I.ok.has x (.inl hk)
  obtain ⟨w',z⟩:=I.cell x c hc
  refine wpAny_storeName_cell I.ok.kind hk hc z (fun h' hc' hs => ?_)
  obtain ⟨oc,hoc,hocd⟩:=id z
  refine h { s with heap:=h' } ⟨I.ok,I.os,I.bare,⟨fun b o e n hb hx => ?_,fun b o e n hb hx => ?_,I.base.free,fun b o e hx => ?_,I.base.tups,I.base.frzs,I.base.tbls⟩,⟨m,hn.sameBut hs (Ne.symm (cne x c hc)),fun j y v' e1 e2 e3 => ?_⟩,fun y c' e => ?_,I.free,I.freeC,fun p hp => ?_,tracked ⟨oc,hoc,I.freeC x c hc⟩ hs,by simpa using I.len⟩ ⟨c,hs,.inr hc⟩
  ·exact (hs.2 b (Nat.ne_of_lt (Nat.lt_of_lt_of_le (Heap.lt_size e) (I.ok.cab x c hfn hc)))).trans (I.base.keep b o e n hb hx)
  ·obtain ⟨sl,e1⟩:=I.base.slot b o e n hb hx
   exact ⟨sl,(hs.2 b (Nat.ne_of_lt (Nat.lt_of_lt_of_le (Heap.lt_size e) (I.ok.cab x c hfn hc)))).trans e1⟩
  ·obtain ⟨o',e1⟩:=I.base.there b o e hx
   exact ⟨o',(hs.2 b (Nat.ne_of_lt (Nat.lt_of_lt_of_le (Heap.lt_size e) (I.ok.cab x c hfn hc)))).trans e1⟩
  ·by_cases hj : j = i
   ·subst hj
    rw [hi] at e1; cases e1
    rw [List.getElem?_set_self hiσ] at e2
    cases e2
    exact ⟨u,r,.inr ⟨.inl hk,c,hc,hc'⟩⟩
   ·rw [List.getElem?_set_ne (Ne.symm hj)] at e2
    obtain ⟨u',r',q⟩:=hl j y v' e1 e2 e3
    refine ⟨u',r',?_⟩
    rcases q with q | ⟨k,c',e,z'⟩
    ·exact .inl q
    ·refine .inr ⟨k,c',e,z'.sameBut hs ?_⟩
     rintro rfl
     exact hj (xA hN e1 (I.ok.inj _ _ _ e hc ▸ hi))
  ·by_cases hcc : c' = c
   ·subst hcc; exact ⟨_,hc'⟩
   ·obtain ⟨w2,z2⟩:=I.cell y c' e
    exact ⟨w2,z2.sameBut hs hcc⟩
  ·obtain ⟨e,n,ne,nf,d⟩:=I.pin p hp
   refine ⟨(hs.2 p.1 ?_).trans e,n,ne,nf,d⟩
   intro q
   rw [q,hoc] at e
   have q' : oc = p.2:=Option.some.inj e
   exact d w' (by rw [<- q']; exact hocd)
theorem sx {M : Model} {A : Around} {E : Value -> Shared -> Prop} {i : Nat} {x : Str} {v : V} {u : Value} {Q : Unit -> Shared -> Prop} (I : Inv X pins σ H s) (hN : X.N.Nodup) (hi : X.N[i]? = some x) (hx : Loc X.env.scope x) (r : RelV v u)
  (h : ∀ s',Inv X pins (σ.set i (some v)) H s' -> Q () s') (hf : X.fn x = true \/ X.env.scope.names.lookup x = some .local:=by first | exact .inl rfl | exact .inr rfl | assumption) : wpAny M A (storeName X.env x u) Q E s:=
 zS I hN hi hx r (fun s' I' _ => h s' I') hf
theorem Inv.call' {s' : Shared} {ch : List Addr} (I : Inv X pins σ H s) (ho : s'.os = s.os) (u : Un (frs X.stack) ch H H' s.heap s'.heap) (hok : HOk X.prog X.w H' s'.heap) (hg : AllBare s'.gens)
  (hch : ∀ b ∈ ch,(b ∈ X.ex \/ X.s₀.heap.objs.size <= b) /\ b ≠ X.env.locals /\ (∀ x c,X.env.cells.lookup x = some c -> c ≠ b) /\ ∀ p ∈ X.pn ++ pins,p.1 ≠ b) : Inv X pins σ H' s' := by
 obtain ⟨h',g',d',t',o'⟩:=s'
 have e : o' = s.os:=ho
 subst e
 exact I.call (g' := g') (t' := t') (d' := d') u hok hg hch
end
abbrev XK:=Value -> Option Addr -> Hp -> Prop
abbrev St:=List (Option V)
abbrev VK:=V -> Hp -> Prop
abbrev TE:=St -> Hp -> VK -> Prop
abbrev TT:=St -> Hp -> (Bool -> Hp -> Prop) -> Prop
abbrev TA:=St -> Hp -> (List V -> Hp -> Prop) -> Prop
structure Ends where
 nx : St -> Hp -> Prop
 rt : VK
 bk : St -> Hp -> Prop:=fun _ _ => False
 ct : St -> Hp -> Prop:=fun _ _ => False
abbrev TS:=Ends -> St -> Hp -> Prop
def EP (X : Cx) (pins : List (Addr × Obj)) (σ : St) (Q : VK) (u : Value) (s' : Shared) : Prop := ∃ v H',Inv X pins σ H' s' /\ RelV v u /\ Q v H'
def TP (X : Cx) (pins : List (Addr × Obj)) (σ : St) (Q : Bool -> Hp -> Prop) (b : Bool) (s' : Shared) : Prop := ∃ H',Inv X pins σ H' s' /\ Q b H'
def AP (X : Cx) (pins : List (Addr × Obj)) (σ : St) (Q : List V -> Hp -> Prop) (us : List Value) (s' : Shared) : Prop := ∃ vs H',Inv X pins σ H' s' /\ Vals vs us /\ Q vs H'
def SP (X : Cx) (pins : List (Addr × Obj)) (D : Ends) (f : Flow) (s' : Shared) : Prop:=
 match f with
 | .next => ∃ σ' H',Inv X pins σ' H' s' /\ D.nx σ' H'
 | .brk => ∃ σ' H',Inv X pins σ' H' s' /\ D.bk σ' H'
 | .cont => ∃ σ' H',Inv X pins σ' H' s' /\ D.ct σ' H'
 | .ret u => ∃ v σ' H',Inv X pins σ' H' s' /\ RelV v u /\ D.rt v H'
def PE (X : Cx) (e : Expr) (t : TE) : Prop:=
 ∀ (pins : List (Addr × Obj)) (s : Shared) (σ : St) (H : Hp) (Q : VK),Inv X pins σ H s -> t σ H Q -> wpAny (model X.prog X.w) X.A (eval e X.env) (EP X pins σ Q) X.xe s
def PT (X : Cx) (e : Expr) (t : TT) : Prop:=
 ∀ (pins : List (Addr × Obj)) (s : Shared) (σ : St) (H : Hp) (Q : Bool -> Hp -> Prop),Inv X pins σ H s -> t σ H Q -> wpAny (model X.prog X.w) X.A (isTrue e X.env (eval e X.env)) (TP X pins σ Q) X.xe s
def PW (X : Cx) (e : Expr) (t : TT) : Prop:=
 ∀ (whole : Sem Value) (pins : List (Addr × Obj)) (s : Shared) (σ : St) (H : Hp) (Q : Bool -> Hp -> Prop),Inv X pins σ H s -> t σ H Q -> wpAny (model X.prog X.w) X.A (isTrue e X.env whole) (TP X pins σ Q) X.xe s
theorem PW.pt {X : Cx} {e : Expr} {t : TT} (h : PW X e t) : PT X e t:=h _
def PA (X : Cx) (es : List Expr) (t : TA) : Prop:=
 ∀ (pos : Pos) (pins : List (Addr × Obj)) (s : Shared) (σ : St) (H : Hp) (Q : List V -> Hp -> Prop),Inv X pins σ H s -> t σ H Q -> wpAny (model X.prog X.w) X.A (spliced (backTo pos (starEach es X.env))) (AP X pins σ Q) X.xe s
def PS (X : Cx) (st : Stmt) (t : TS) : Prop:=
 ∀ (pins : List (Addr × Obj)) (s : Shared) (σ : St) (H : Hp) (D : Ends),Inv X pins σ H s -> t D σ H -> wpAny (model X.prog X.w) X.A (exec st X.env) (SP X pins D) X.xe s
def PSs (X : Cx) (st : List Stmt) (t : TS) : Prop:=
 ∀ (pins : List (Addr × Obj)) (s : Shared) (σ : St) (H : Hp) (D : Ends),Inv X pins σ H s -> t D σ H -> wpAny (model X.prog X.w) X.A (execs st X.env) (SP X pins D) X.xe s
theorem thn {α : Type} {t : Sem α} {Q Q' : α -> Shared -> Prop} {M : Model} {A : Around} {E : Value -> Shared -> Prop} {s : Shared} (h : wpAny M A t Q E s) (hQ : ∀ a s,Q a s -> Q' a s) : wpAny M A t Q' E s:=wpAny_mono h hQ fun _ _ x => x
end L2
namespace L2
open PySem PySem.Spec PyProof.Rows
section
variable {X : Cx}
def yj (i : Nat) : TE:=fun σ H Q => ∃ v,σ[i]? = some (some v) /\ Q v H
def tC (v : V) : TE:=fun _ H Q => Q v H
theorem JN {i : Nat} {x : Str} {pos : Pos} (hN : X.N[i]? = some x) (hv : Vis X.env.scope x) (hd : (x == ("__debug__" : Str)) = false:=by decide) (hcd : (x == ("__classdict__" : Str)) = false:=by decide) : PE X (.Name x pos) (yj i):=by
 intro pins s σ H Q I h
 obtain ⟨v,e,h⟩:=h
 obtain ⟨m,hn,hl⟩:=I.loc
 obtain ⟨u,r,l⟩:=hl i x v hN e hv
 have fin : EP X pins σ Q u s:=⟨v,H,I,r,h⟩
 rcases l with ⟨hk,hm⟩ | ⟨hk,c,hc,hcell⟩
 ·exact wpAny_Name (wpAny_loadName_local I.ok.kind hk hn hm fin) hd
 ·rcases hk with hk | hk
  ·exact wpAny_Name (wpAny_loadName_cell I.ok.kind hk hc hcell fin) hd
  ·exact wpAny_Name (wpAny_loadName_free I.ok.kind hk hc hcell fin hcd) hd
theorem ag {i j pos} : PE X (.Constant (.int i) j pos) (tC (.int i)):=fun _ _ _ H _ I h => wpAny_Constant_int ⟨.int i,H,I.tok _,⟨_,rfl⟩,h⟩
theorem jO {b j pos} : PE X (.Constant (.bool b) j pos) (tC (.bl b)):=fun _ _ _ H _ I h => Constant_bool ⟨.bl b,H,I,rfl,h⟩
theorem JM {j pos} : PE X (.Constant .none j pos) (tC .non):=fun _ _ _ H _ I h => Constant_none ⟨.non,H,I,rfl,h⟩
theorem ar {x j pos} : PE X (.Constant (.str x) j pos) (tC (.str x)):=fun _ _ _ H _ I h => Calls.Constant_str ⟨.str x,H,I.tok _,⟨_,rfl⟩,h⟩
def Gl (X : Cx) (x : Str) : Prop:=X.env.kindOf x = some .globalImplicit
theorem jN {E : Value -> Shared -> Prop} {pins : List (Addr × Obj)} {s : Shared} {σ : St} {H : Hp} {x : Str} {u : Value} {pos : Pos} {Q : Value -> Shared -> Prop} (I : Inv X pins σ H s) (hg : Gl X x) (hm : X.mg x = some u) (h : Q u s)
  (hd : (x == ("__debug__" : Str)) = false:=by decide) : wpAny (model X.prog X.w) X.A (eval (.Name x pos) X.env) Q E s:=
 Calls.Name_function_global I.ok.kind hg (Calls.loadGlobal_global (by rw [I.ok.glob]; exact I.mod.glob.keeps I.bk) hm h) hd
theorem AR {E : Value -> Shared -> Prop} {pins : List (Addr × Obj)} {s : Shared} {σ : St} {H : Hp} {x : Str} {u : Value} {pos : Pos} {Q : Value -> Shared -> Prop} (I : Inv X pins σ H s) (hg : Gl X x) (hm : X.mg x = none) (hv : bootBuiltins x = some u) (h : Q u s)
  (hn : x ≠ "__name__" := by decide) (hd : (x == ("__debug__" : Str)) = false:=by decide) : wpAny (model X.prog X.w) X.A (eval (.Name x pos) X.env) Q E s:=by
 obtain ⟨mb,h1,h2⟩:=I.mod.blt
 exact Calls.Name_function_global I.ok.kind hg (Calls.loadGlobal_builtin (by rw [I.ok.glob]; exact I.mod.glob.keeps I.bk) hm (by rw [I.ok.blt]; exact h1.keeps I.bk) ((h2 x hn).trans hv) h) hd
theorem bw {x : Str} {v : V} {u : Value} {pos : Pos} (hg : Gl X x) (hm : X.mg x = some u) (r : RelV v u) (hd : (x == ("__debug__" : Str)) = false:=by decide) : PE X (.Name x pos) (tC v):=
 fun _ _ _ H _ I h => jN I hg hm ⟨v,H,I,r,h⟩ hd
theorem Bk {x : Str} {v : V} {u : Value} {pos : Pos} (hg : Gl X x) (hm : X.mg x = none) (hv : bootBuiltins x = some u) (r : RelV v u) (hn : x ≠ "__name__" := by decide) (hd : (x == ("__debug__" : Str)) = false:=by decide) : PE X (.Name x pos) (tC v):=
 fun _ _ _ H _ I h => AR I hg hm hv ⟨v,H,I,r,h⟩ hn hd
variable {a b : Expr} {ta tb : TE} {pos : Pos}
def tB (t : TE) : TT:=fun σ H Q => t σ H fun x H1 => ∃ c,x = .bl c /\ Q c H1
theorem dD {e : Expr} {t : TE} (h : PE X e t) (he : ∀ whole,isTrue e X.env whole = (do let v <- whole; standAt e.pos; holding [v] (truthy v)):=by intro _; rfl) : PT X e (tB t):=by
 intro pins s σ H Q I hw
 refine isTrue_plain (thn (h pins s σ H _ I hw) fun v s1 ⟨x,H1,I1,r1,q1⟩ => ?_) (he _)
 obtain ⟨d,rfl,q⟩:=q1
 cases r1
 exact wpAny_truthy_bool ⟨H1,I1,q⟩
variable {tA tB' : TT} {rest : List Expr}
def IU (t u : TT) : TT:=fun σ H Q => t σ H fun c H1 => if c = true then u σ H1 Q else Q false H1
def tOr (t u : TT) : TT:=fun σ H Q => t σ H fun c H1 => if c = true then Q true H1 else u σ H1 Q
def Ls (t : TT) : TT:=fun σ H Q => t σ H fun c H1 => Q (!c) H1
theorem sf (ha : PT X a tA) : PW X (.BoolOp .And [a] pos) tA:=by
 intro wh pins s σ H Q I h
 refine isTrue_and (thn (ha pins s σ H Q I h) fun c s1 e => ?_)
 cases c with
 | true => exact isTrue_and_nil e
 | false => exact e
theorem DR (ha : PT X a tA) : PW X (.BoolOp .Or [a] pos) tA:=by
 intro wh pins s σ H Q I h
 refine isTrue_or (thn (ha pins s σ H Q I h) fun c s1 e => ?_)
 cases c with
 | false => exact isTrue_or_nil e
 | true => exact e
theorem rg (ha : PT X a tA) (hb : PW X (.BoolOp .And (b :: rest) pos) tB') : PW X (.BoolOp .And (a :: b :: rest) pos) (IU tA tB'):=by
 intro wh pins s σ H Q I h
 refine isTrue_and (thn (ha pins s σ H _ I h) fun c s1 ⟨H1,I1,q1⟩ => ?_)
 cases c with
 | true => exact hb wh pins s1 σ H1 Q I1 q1
 | false => exact ⟨H1,I1,q1⟩
theorem Hc (ha : PT X a tA) (hb : PW X (.BoolOp .Or (b :: rest) pos) tB') : PW X (.BoolOp .Or (a :: b :: rest) pos) (tOr tA tB'):=by
 intro wh pins s σ H Q I h
 refine isTrue_or (thn (ha pins s σ H _ I h) fun c s1 ⟨H1,I1,q1⟩ => ?_)
 cases c with
 | true => exact ⟨H1,I1,q1⟩
 | false => exact hb wh pins s1 σ H1 Q I1 q1
theorem gj (ha : PT X a tA) : PT X (.UnaryOp .Not a pos) (Ls tA):=by
 intro pins s σ H Q I h
 exact isTrue_not (ha pins s σ H (fun c H1 => Q (!c) H1) I h)
def KQ (ta tb : TE) : TE:=fun σ H Q => ta σ H fun x H1 => ∃ c,x = .bl c /\ if c = true then tb σ H1 Q else Q (.bl false) H1
theorem G6 {op} {t : TE} (h : PE X a t) : PE X (.BoolOp op [a] pos) t:=fun pins s σ H Q I hw => BoolOp_one (h pins s σ H Q I hw)
theorem GY (ha : PE X a ta) (hb : PE X (.BoolOp .And (b :: rest) pos) tb) : PE X (.BoolOp .And (a :: b :: rest) pos) (KQ ta tb):=by
 intro pins s σ H Q I h
 refine BoolOp_and (thn (ha pins s σ H _ I h) fun v s1 ⟨x,H1,I1,r1,q1⟩ => ?_)
 obtain ⟨c,rfl,q1⟩:=q1
 cases r1
 refine wpAny_truthy_bool ?_
 cases c with
 | true => exact hb pins s1 σ H1 Q I1 q1
 | false => exact ⟨.bl false,H1,I1,rfl,q1⟩
def tIf (t : TT) (ta tb : TE) : TE:=fun σ H Q => t σ H fun c H1 => if c = true then ta σ H1 Q else tb σ H1 Q
theorem G4 {c : Expr} (hc : PT X c tA) (ha : PE X a ta) (hb : PE X b tb) : PE X (.IfExp c a b pos) (tIf tA ta tb):=by
 intro pins s σ H Q I h
 refine wpAny_IfExp (thn (hc pins s σ H _ I h) fun d s1 ⟨H1,I1,q1⟩ => ?_)
 cases d with
 | true => exact ha pins s1 σ H1 Q I1 q1
 | false => exact hb pins s1 σ H1 Q I1 q1
end
end L2
namespace L2
open PySem PySem.Spec PyProof.Rows
def SqL (K : PySem.W.Frag) (H : Hp) (a : Addr) (xs : List V) : Prop:=
 Rd H a (.lst xs) \/
  ∃ (o : Obj) (its : Array Value) (n : Nat),K.lookup a = some o /\ o.cls = .type "list" /\ o.dict = none /\ o.data = .seq its n /\ its.size <= sizeLine /\ Vals xs its.toList
def SqT (K : PySem.W.Frag) (H : Hp) (a : Addr) (xs : List V) : Prop:=
 Rd H a (.tup xs) \/
  ∃ (o : Obj) (its : Array Value) (n : Nat),K.lookup a = some o /\ o.cls = .type "tuple" /\ o.data = .seq its n /\ its.size <= sizeLine /\ Vals xs its.toList
def K8 : Value -> Option V
 | .none => some .non
 | .bool b => some (.bl b)
 | .int i _ => some (.int i)
 | .str x _ => some (.str x)
 | .bytes b _ => some (.byt b)
 | .float b _ => some (.flt b)
 | .ref a => some (.ref a)
 | .type n => some (.ty n)
 | _ => none
theorem RelV.abs {x : V} {u : Value} (r : RelV x u) : K8 u = some x:=by
 cases x with
 | non => cases r; rfl
 | bl _ => cases r; rfl
 | int _ => obtain ⟨t,rfl⟩:=r; rfl
 | str _ => obtain ⟨t,rfl⟩:=r; rfl
 | byt _ => obtain ⟨t,rfl⟩:=r; rfl
 | flt _ => obtain ⟨t,rfl⟩:=r; rfl
 | ref _ => cases r; rfl
 | ty _ => cases r; rfl
theorem RelV.inj {x y : V} {u : Value} (r : RelV x u) (q : RelV y u) : x = y:=Option.some.inj (r.abs.symm.trans q.abs)
theorem Vals.inj : ∀ {xs ys : List V} {us : List Value},Vals xs us -> Vals ys us -> xs = ys
 | _,_,_,.nil,.nil => rfl
 | _,_,_,.cons r t,.cons r' t' => by rw [r.inj r',Vals.inj t t']
section
variable {X : Cx} {pins : List (Addr × Obj)} {σ : St} {H : Hp} {s : Shared} {a : Addr} {xs ys : List V}
theorem SqL.of {K : PySem.W.Frag} (h : H a = some (.lst xs)) : SqL K H a xs:=.inl (.inl h)
theorem SqT.of {K : PySem.W.Frag} (h : H a = some (.tup xs)) : SqT K H a xs:=.inl (.inl h)
theorem Inv.list (I : Inv X pins σ H s) (h : SqL X.K H a xs) : ∃ its : List Value,Vals xs its /\ PlainL s.heap a its.toArray /\ xs.length <= sizeLine:=by
 rcases h with h | ⟨o,its,n,hk,hc,hd,hs,hz,r⟩
 ·obtain ⟨z,its,n,r,e⟩:=h.ok I.hok
  exact ⟨its,r,⟨_,n,e,rfl,rfl,rfl⟩,z⟩
 ·refine ⟨its.toList,r,⟨o,n,I.kIn a o hk,hc,hd,by simpa using hs⟩,?_⟩
  have e:=r.length
  simp only [Array.length_toList] at e
  omega
theorem Inv.tuple (I : Inv X pins σ H s) (h : SqT X.K H a xs) : ∃ its : List Value,Vals xs its /\ IsTup s.heap a its.toArray /\ xs.length <= sizeLine:=by
 rcases h with h | ⟨o,its,n,hk,hc,hs,hz,r⟩
 ·obtain ⟨z,its,r,p⟩:=h.ok I.hok
  exact ⟨its,r,p,z⟩
 ·refine ⟨its.toList,r,⟨o,I.kIn a o hk,hc,n,by simpa using hs⟩,?_⟩
  have e:=r.length
  simp only [Array.length_toList] at e
  omega
theorem Inv.list_inj (I : Inv X pins σ H s) (h : SqL X.K H a xs) (h' : SqL X.K H a ys) : xs = ys:=by
 obtain ⟨its,r,⟨o,n,e,_,_,d⟩,_⟩:=I.list h
 obtain ⟨its',r',⟨o',n',e',_,_,d'⟩,_⟩:=I.list h'
 rw [e] at e'; cases e'
 rw [d] at d'
 injection d' with d1 _
 have : its = its' := by simpa using congrArg Array.toList d1
 subst this
 exact r.inj r'
theorem Inv.tuple_inj (I : Inv X pins σ H s) (h : SqT X.K H a xs) (h' : SqT X.K H a ys) : xs = ys:=by
 obtain ⟨its,r,⟨o,e,_,n,d⟩,_⟩:=I.tuple h
 obtain ⟨its',r',⟨o',e',_,n',d'⟩,_⟩:=I.tuple h'
 rw [e] at e'; cases e'
 rw [d] at d'
 injection d' with d1 _
 have : its = its' := by simpa using congrArg Array.toList d1
 subst this
 exact r.inj r'
end
abbrev Cx.wish (X : Cx) (E : Value -> Shared -> Prop) : Cx:={ X with xe:=E }
abbrev Cx.nox (X : Cx) : Cx:=X.wish fun _ _ => False
theorem Cx.Ok.wish {X : Cx} (ok : X.Ok) (E : Value -> Shared -> Prop) : (X.wish E).Ok:=
 ⟨ok.mod,ok.kind,ok.glob,ok.blt,ok.above,ok.inj,ok.has,ok.cab,ok.hd,ok.frames,ok.stk,ok.exf,ok.bs,ok.bsz,ok.noex,ok.exfs,ok.funs,ok.frf⟩
theorem Cx.Ok.unwish {X : Cx} {E : Value -> Shared -> Prop} (ok : (X.wish E).Ok) : X.Ok:=
 ⟨ok.mod,ok.kind,ok.glob,ok.blt,ok.above,ok.inj,ok.has,ok.cab,ok.hd,ok.frames,ok.stk,ok.exf,ok.bs,ok.bsz,ok.noex,ok.exfs,ok.funs,ok.frf⟩
section
variable {X : Cx} {pins : List (Addr × Obj)} {σ : St} {H : Hp} {s : Shared} {E : Value -> Shared -> Prop}
theorem Inv.wish (I : Inv X pins σ H s) (E : Value -> Shared -> Prop) : Inv (X.wish E) pins σ H s:=⟨I.ok.wish E,I.os,I.bare,I.base,I.loc,I.cell,I.free,I.freeC,I.pin,I.hok,I.len⟩
theorem Inv.unwish (I : Inv (X.wish E) pins σ H s) : Inv X pins σ H s:=⟨I.ok.unwish,I.os,I.bare,I.base,I.loc,I.cell,I.free,I.freeC,I.pin,I.hok,I.len⟩
theorem SP.unwish {D : Ends} {f : Flow} {s' : Shared} (h : SP (X.wish E) pins D f s') : SP X pins D f s' := by
 cases f with
 | next => obtain ⟨σ',H',I,q⟩:=h; exact ⟨σ',H',I.unwish,q⟩
 | brk => obtain ⟨σ',H',I,q⟩:=h; exact ⟨σ',H',I.unwish,q⟩
 | cont => obtain ⟨σ',H',I,q⟩:=h; exact ⟨σ',H',I.unwish,q⟩
 | ret u => obtain ⟨v,σ',H',I,r,q⟩:=h; exact ⟨v,σ',H',I.unwish,r,q⟩
theorem PSs.nox {st : List Stmt} {t : TS} (h : PSs X.nox st t) : PSs X st t:=fun pins s σ H D I hw =>
 wpAny_mono (h pins s σ H D (I.wish _) hw) (fun _ _ q => q.unwish) fun _ _ z => False.elim z
end
section
variable {X : Cx} {st : Stmt} {rest : List Stmt} {t u : TS} {e : Expr} {te : TE} {pos : Pos}
def aK : TS:=fun D σ H => D.nx σ H
def Eg (t u : TS) : TS:=fun D σ H => t { D with nx:=u D } σ H
theorem aW : PSs X [] aK:=fun _ _ σ H _ I h => wpAny_execs_nil ⟨σ,H,I,h⟩
theorem au (h1 : PS X st t) (h2 : PSs X rest u) : PSs X (st :: rest) (Eg t u):=by
 intro pins s σ H D I h
 refine wpAny_execs_cons (thn (h1 pins s σ H { D with nx:=u D } I h) fun f s1 q => ?_)
 cases f with
 | next =>
  obtain ⟨σ',H',I',q⟩:=q
  exact h2 pins s1 σ' H' D I' q
 | ret v => exact q
 | brk => exact q
 | cont => exact q
theorem ax (h1 : PS X st t) : PSs X [st] t:=by
 intro pins s σ H D I h
 refine wpAny_execs_cons (thn (h1 pins s σ H D I h) fun f s1 q => ?_)
 cases f with
 | next => exact wpAny_execs_nil q
 | ret v => exact q
 | brk => exact q
 | cont => exact q
theorem Inv.quiet {pins : List (Addr × Obj)} {σ : St} {H : Hp} {s : Shared} (I : Inv X pins σ H s) : interactive X.env = false:=by simp [interactive,I.ok.kind]
def Jb (te : TE) : TS:=fun D σ H => te σ H fun _ H1 => D.nx σ H1
theorem cm (he : PE X e te) (hs : swapsWith e none pos.line X.env = pure false:=by rfl) : PS X (.Expr e pos) (Jb te):=by
 intro pins s σ H D I h
 exact wpAny_Expr_any (thn (he pins s σ H _ I h) fun v s1 ⟨x,H1,I1,r1,q1⟩ => ⟨σ,H1,I1,q1⟩) I.quiet hs
def KZ (te : TE) : TS:=fun D σ H => te σ H D.rt
theorem aU (he : PE X e te) : PS X (.Return (some e) pos) (KZ te):=by
 intro pins s σ H D I h
 exact wpAny_Return_some (thn (he pins s σ H _ I h) fun v s1 ⟨x,H1,I1,r1,q1⟩ => ⟨x,σ,H1,I1,r1,q1⟩)
def Hs (c : TT) (t u : TS) : TS:=fun D σ H => c σ H fun b H1 => if b = true then t D σ H1 else u D σ H1
theorem bG {c : Expr} {a b : List Stmt} {tc : TT} (hc : PT X c tc) (ha : PSs X a t) (hb : PSs X b u) : PS X (.If c a b pos) (Hs tc t u):=by
 intro pins s σ H D I h
 refine wpAny_If (thn (hc pins s σ H _ I h) fun d s1 ⟨H1,I1,q1⟩ => ?_)
 cases d with
 | true => exact ha pins s1 σ H1 D I1 q1
 | false => exact hb pins s1 σ H1 D I1 q1
end
abbrev TG:=V -> St -> Hp -> (St -> Hp -> Prop) -> Prop
abbrev TGs:=List V -> St -> Hp -> (St -> Hp -> Prop) -> Prop
def PG (X : Cx) (target : Expr) (t : TG) : Prop:=
 ∀ (pins : List (Addr × Obj)) (s : Shared) (σ : St) (H : Hp) (v : V) (u : Value) (Q : St -> Hp -> Prop),Inv X pins σ H s -> RelV v u -> t v σ H Q ->
  wpAny (model X.prog X.w) X.A (assign target X.env u) (fun _ s' => ∃ σ' H',Inv X pins σ' H' s' /\ Q σ' H') X.xe s
def PGs (X : Cx) (ts : List Expr) (t : TGs) : Prop:=
 ∀ (pins : List (Addr × Obj)) (s : Shared) (σ : St) (H : Hp) (vs : List V) (us : List Value) (Q : St -> Hp -> Prop),Inv X pins σ H s -> Vals vs us -> t vs σ H Q ->
  wpAny (model X.prog X.w) X.A (assignInOrder ((assignEach ts X.env).map (·.2)) us) (fun _ s' => ∃ σ' H',Inv X pins σ' H' s' /\ Q σ' H') X.xe s
section
variable {X : Cx} {pos : Pos}
def aF (i : Nat) : TG:=fun v σ H Q => Q (σ.set i (some v)) H
theorem aG {i : Nat} {x : Str} (hN : X.N.Nodup) (hi : X.N[i]? = some x) (hx : Loc X.env.scope x) (hf : X.fn x = true \/ X.env.scope.names.lookup x = some .local:=by first | exact .inl rfl | exact .inr rfl | assumption) : PG X (.Name x pos) (aF i):=by
 intro pins s σ H v u Q I r h
 exact wpAny_assign_Name (sx I hN hi hx r (fun s' I' => ⟨_,H,I',h⟩) hf)
def Lb : TGs:=fun vs σ H Q => vs = [] /\ Q σ H
def Kl (t : TG) (u : TGs) : TGs:=fun vs σ H Q => ∃ v r,vs = v :: r /\ t v σ H fun σ' H' => u r σ' H' Q
theorem jP : PGs X [] Lb:=by
 intro pins s σ H vs us Q I r h
 obtain ⟨e,h⟩:=h
 subst e
 cases r
 exact assignInOrder_nil ⟨σ,H,I,h⟩
theorem aP {e : Expr} {es : List Expr} {t : TG} {u : TGs} (h1 : PG X e t) (h2 : PGs X es u)
  (hs : (assignEach (e :: es) X.env).map (·.2) = assign e X.env :: (assignEach es X.env).map (·.2):=by rfl) : PGs X (e :: es) (Kl t u):=by
 intro pins s σ H vs us Q I r h
 obtain ⟨v,vr,e1,h⟩:=h
 subst e1
 cases r with
 | cons r rr =>
  rw [hs]
  refine assignInOrder_cons (thn (h1 pins s σ H _ _ _ I r h) fun _ s1 ⟨σ1,H1,I1,q1⟩ => ?_)
  exact h2 pins s1 σ1 H1 _ _ Q I1 rr q1
def sy (te : TE) (g : TG) : TS:=fun D σ H => te σ H fun x H1 => g x σ H1 D.nx
theorem nW {tg e : Expr} {te : TE} {g : TG} (he : PE X e te) (hg : PG X tg g) (hs : swapsWithSole [tg] e pos.line X.env = pure false:=by rfl) (hw : swappedStores [tg] e X.env = pure none:=by rfl)
  (h1 : (assignEach [tg] X.env).map (·.2) = [assign tg X.env]:=by rfl) : PS X (.Assign [tg] e pos) (sy te g):=by
 intro pins s σ H D I h
 refine wpAny_Assign_stores (thn (he pins s σ H _ I h) fun v s1 ⟨x,H1,I1,r1,q1⟩ => ?_) hs hw
 rw [h1]
 exact thn (hg pins s1 σ H1 x v _ I1 r1 q1) fun _ s2 q => q
theorem ay {i : Nat} {x : Str} {e : Expr} {te : TE} {pos' : Pos} (hN : X.N.Nodup) (hi : X.N[i]? = some x) (hx : Loc X.env.scope x) (he : PE X e te) (hs : swapsWith e (some (.Name x pos')) pos.line X.env = pure false:=by rfl) (hf : X.fn x = true \/ X.env.scope.names.lookup x = some .local:=by first | exact .inl rfl | exact .inr rfl | assumption) :
  PS X (.Assign [.Name x pos'] e pos) (sy te (aF i)):=by
 intro pins s σ H D I h
 refine wpAny_Assign_Name (thn (he pins s σ H _ I h) fun v s1 ⟨y,H1,I1,r1,q1⟩ => ?_) hs
 exact sx I1 hN hi hx r1 (fun s2 I2 => ⟨_,H1,I2,q1⟩) hf
end
section
variable {X : Cx} {pos : Pos}
def yk (c : TT) (tb : TS) : TS:=fun D σ H => ∃ W : Nat -> St -> Hp -> Prop,(∃ m,W m σ H) /\ ∀ m σ H,W m σ H ->
 c σ H fun b H1 => if b = true then ∃ N : St -> Hp -> Prop,(∀ σ' H',N σ' H' -> ∃ m',m' < m /\ W m' σ' H') /\ tb { D with nx:=N,ct:=N,bk:=D.nx } σ H1 else D.nx σ H1
theorem sd {c : Expr} {body : List Stmt} {tc : TT} {tb : TS} (hp : PassesOwn (model X.prog X.w) X.A X.env X.xe) (hc : PT X c tc) (hb : PSs X body tb) : PS X (.While c body [] pos) (yk tc tb):=by
 intro pins s σ H D I h
 obtain ⟨W,⟨m0,w0⟩,turn⟩:=h
 refine wpAny_While (codeAny_whileLoop (fun n s' => ∃ σ' H',Inv X pins σ' H' s' /\ W n σ' H') ?_ m0 ⟨σ,H,I,w0⟩)
 rintro n s1 ⟨σ1,H1,I1,w1⟩
 refine wpAny_passesOwn hp (thn (hc pins s1 σ1 H1 _ I1 (turn n σ1 H1 w1)) fun b s2 ⟨H2,I2,q2⟩ => ?_)
 cases b with
 | true =>
  obtain ⟨N,hN,q2⟩:=q2
  rw [if_pos rfl]
  refine wpAny_passesOwn hp (thn (hb pins s2 σ1 H2 _ I2 q2) fun f s3 q3 => ?_)
  cases f with
  | next =>
   obtain ⟨σ3,H3,I3,n3⟩:=q3
   obtain ⟨m',hm,w3⟩:=hN σ3 H3 n3
   exact ⟨m',hm,σ3,H3,I3,w3⟩
  | cont =>
   obtain ⟨σ3,H3,I3,n3⟩:=q3
   obtain ⟨m',hm,w3⟩:=hN σ3 H3 n3
   exact ⟨m',hm,σ3,H3,I3,w3⟩
  | brk => exact q3
  | ret v => exact q3
 | false =>
  rw [if_neg Bool.false_ne_true]
  exact wpAny_execs_nil ⟨σ1,H2,I2,q2⟩
end
structure It where
 go : Nat -> Hp -> Prop
 yld : Nat -> Hp -> V -> Hp -> Prop
 stop : Nat -> Hp -> Prop
def sE (X : Cx) (pins : List (Addr × Obj)) (H : Hp) (b : Addr) : Prop:=
 H b = none /\ b ≠ X.env.locals /\ b ∉ X.fs /\ (b ∈ X.ex \/ X.s₀.heap.objs.size <= b) /\ (∀ x c,X.env.cells.lookup x = some c -> c ≠ b) /\ ∀ p ∈ X.pn ++ pins,p.1 ≠ b
theorem Inv.fpOk {X : Cx} {pins : List (Addr × Obj)} {σ : St} {H H' : Hp} {s : Shared} {b : Addr} (I : Inv X pins σ H s) (hb : s.heap.objs.size <= b) (hn : H' b = none) : sE X pins H' b:=by
 refine ⟨hn,Nat.ne_of_gt (Nat.lt_of_lt_of_le I.lt hb),I.nofs hb,.inr (Nat.le_trans I.sz hb),fun x c e z => ?_,fun p hp z => ?_⟩
 ·obtain ⟨v,q⟩:=I.cell x c e
  exact absurd (Nat.lt_of_lt_of_le q.lt (by rw [z]; exact hb)) (Nat.lt_irrefl _)
 ·exact absurd (Nat.lt_of_lt_of_le (Heap.lt_size (I.pin p hp).1) (by rw [z]; exact hb)) (Nat.lt_irrefl _)
structure Turn (P : Program) (w : World) (K : PySem.W.Frag) (tg : Expr) (J : It) (fp : List Addr) (it : Addr) (tn : Nat -> Heap -> Prop) : Prop where
 mem : it ∈ fp
 obj : ∀ i h,tn i h -> ∀ b ∈ fp,∃ o,h.get? b = some o /\ ∀ v,o.data ≠ .cell v
 keep : ∀ i h h',tn i h -> (∀ b ∈ fp,∀ o,h.get? b = some o -> h'.get? b = some o) -> tn i h'
 item : ∀ (X : Cx),X.prog = P -> X.w = w -> X.K = K -> X.calm = true -> ∀ (i : Nat) (pins : List (Addr × Obj)) (s : Shared) (σ : St) (H : Hp) (E : Value -> Shared -> Prop),Inv X pins σ H s -> (∀ b ∈ fp,sE X pins H b) -> tn i s.heap -> J.go i H ->
  wpAny (model P w) X.A (pyNext (.ref it)) (fun r s1 => ∃ u,r = some u /\
   wpAny (model P w) X.A (letOwnedTupleGo tg (.ref it) u) (fun _ s2 => ∃ x H',Inv X pins σ H' s2 /\ RelV x u /\ J.yld i H x H' /\ tn (i + 1) s2.heap /\ ∀ b ∈ fp,H' b = none) E s1) E s
 done : ∀ (X : Cx),X.prog = P -> X.w = w -> X.K = K -> X.calm = true -> ∀ (i : Nat) (pins : List (Addr × Obj)) (s : Shared) (σ : St) (H : Hp) (E : Value -> Shared -> Prop),Inv X pins σ H s -> (∀ b ∈ fp,sE X pins H b) -> tn i s.heap -> J.stop i H ->
  wpAny (model P w) X.A (pyNext (.ref it)) (fun r s1 => r = none /\ Inv X pins σ H s1) E s
 self : ∀ (A : Around) (i : Nat) (s : Shared) (Q : Value -> Shared -> Prop) (E : Value -> Shared -> Prop),tn i s.heap -> Q (.ref it) s -> wpAny (model P w) A (pyIter (.ref it)) Q E s
abbrev TI:=St -> Hp -> (It -> Hp -> Prop) -> Prop
def PIE (X : Cx) (pins : List (Addr × Obj)) (σ : St) (tg : Expr) (R : It -> Hp -> Prop) (itv : Value) (s2 : Shared) : Prop:=
 ∃ (it : Addr) (fp : List Addr) (tn : Nat -> Heap -> Prop) (J : It) (H' : Hp),itv = .ref it /\ Inv X pins σ H' s2 /\ Turn X.prog X.w X.K tg J fp it tn /\ tn 0 s2.heap /\ (∀ b ∈ fp,sE X pins H' b) /\ R J H'
def PI (X : Cx) (tg iter : Expr) (wi : TI) : Prop:=
 ∀ (pins : List (Addr × Obj)) (s : Shared) (σ : St) (H : Hp) (R : It -> Hp -> Prop),Inv X pins σ H s -> wi σ H R ->
  wpAny (model X.prog X.w) X.A (eval iter X.env) (fun v s1 => wpAny (model X.prog X.w) X.A (pyIter v) (PIE X pins σ tg R) X.xe s1) X.xe s
theorem EA {M : Model} {A : Around} {E : Value -> Shared -> Prop} {s : Shared} {tg : Expr} {it : Addr} {u : Value} {o : Obj} {n : String} {vs : Array Value} {Q : Unit -> Shared -> Prop} (ho : s.heap.get? it = some o) (hc : o.cls = .type n) (hd : o.data = .fields vs)
  (hn : ["enumerate","zip","dict_itemiterator","dict_reverseitemiterator","odict_iterator","itertools.zip_longest","itertools.pairwise"].contains n = false) (hQ : Q () s) : wpAny M A (letOwnedTupleGo tg (.ref it) u) Q E s:=by
 unfold letOwnedTupleGo
 cases tg <;> first
  | exact wpAny_pure hQ
  | (cases u <;> first
    | exact wpAny_pure hQ
    | (refine wpAny_bind (wpAny_load ho ?_)
       rw [hc,hd]
       show wpAny M A (if (["enumerate","zip","dict_itemiterator","dict_reverseitemiterator","odict_iterator","itertools.zip_longest","itertools.pairwise"].contains n && vs[0]? == some (rawInt _)) = true then _ else _) Q E s
       rw [if_neg (by intro h; rw [hn,Bool.false_and] at h; cases h)]
       exact wpAny_pure hQ))
def Itl (K : PySem.W.Frag) (a : Addr) : It:=
 ⟨fun i H => ∃ xs x,SqL K H a xs /\ xs[i]? = some x,fun i H x H' => H' = H /\ ∀ xs,SqL K H a xs -> xs[i]? = some x,fun i H => ∃ xs,SqL K H a xs /\ xs.length <= i⟩
def Itt (K : PySem.W.Frag) (a : Addr) : It:=
 ⟨fun i H => ∃ xs x,SqT K H a xs /\ xs[i]? = some x,fun i H x H' => H' = H /\ ∀ xs,SqT K H a xs -> xs[i]? = some x,fun i H => ∃ xs,SqT K H a xs /\ xs.length <= i⟩
def Itr (lo : Int) (n : Nat) : It:=⟨fun i _ => i < n,fun i H x H' => H' = H /\ x = .int (lo + i),fun i _ => n <= i⟩
theorem FT {P : Program} {w : World} {K : PySem.W.Frag} {tg : Expr} (a it : Addr) : Turn P w K tg (Itl K a) [it] it (fun i h => h.IsListIter it a i) where
 mem:=by simp
 obj:=fun i h st b hb => by
  have e : b = it:=by simpa using hb
  subst e
  obtain ⟨o,e,c,d⟩:=st
  exact ⟨o,e,fun v z => by rw [d] at z; cases z⟩
 keep:=fun i h h' st k => st.at fun o e => k it (by simp) o e
 item:=by
  intro X hP hw hK hc i pins s σ H E I hf st hg
  subst hP hw hK
  obtain ⟨xs,x,hq,hx⟩:=hg
  obtain ⟨its,rv,p,hz⟩:=I.list hq
  obtain ⟨u,hu,ru⟩:=rv.get hx
  obtain ⟨f0,f1,f2,f3,f4,f5⟩:=hf it (by simp)
  refine wpAny_pyNext_list_item st p.isList (x:=u) (by simpa using hu) fun h' st' sb => ?_
  have I1 : Inv X pins σ H { s with heap:=h' }:=I.turned (t' := s.toks) (fun b o hb e => (sb.2 b hb).trans e) f0 f1 f3 f4 f5
  obtain ⟨o,e,c,d⟩:=id st'
  exact ⟨u,rfl,EA (s:={ s with heap:=h' }) e c d (by decide) ⟨x,H,I1,ru,⟨rfl,fun ys hy => by rw [I.list_inj hy hq]; exact hx⟩,st',fun b hb => (hf b hb).1⟩⟩
 done:=by
  intro X hP hw hK hc i pins s σ H E I hf st hg
  subst hP hw hK
  obtain ⟨xs,hq,hx⟩:=hg
  obtain ⟨its,rv,p,hz⟩:=I.list hq
  obtain ⟨f0,f1,f2,f3,f4,f5⟩:=hf it (by simp)
  have hl:=rv.length
  exact wpAny_pyNext_list_end (I.ok.hd hc) st p.isList (by simp; omega) fun h' eb => ⟨rfl,I.turned (t' := s.toks) (fun b o hb e => eb b o hb e) f0 f1 f3 f4 f5⟩
 self:=fun _ _ _ _ _ st h => wpAny_pyIter_listiter st h
theorem Ei {P : Program} {w : World} {K : PySem.W.Frag} {tg : Expr} (a it : Addr) : Turn P w K tg (Itt K a) [it] it (fun i h => h.IsTupleIter it a i) where
 mem:=by simp
 obj:=fun i h st b hb => by
  have e : b = it:=by simpa using hb
  subst e
  obtain ⟨o,e,c,d⟩:=st
  exact ⟨o,e,fun v z => by rw [d] at z; cases z⟩
 keep:=fun i h h' st k => st.at fun o e => k it (by simp) o e
 item:=by
  intro X hP hw hK hc i pins s σ H E I hf st hg
  subst hP hw hK
  obtain ⟨xs,x,hq,hx⟩:=hg
  obtain ⟨its,rv,p,hz⟩:=I.tuple hq
  obtain ⟨u,hu,ru⟩:=rv.get hx
  obtain ⟨f0,f1,f2,f3,f4,f5⟩:=hf it (by simp)
  refine wpAny_pyNext_tuple_item st (show s.heap.IsTuple a its.toArray from p) (x:=u) (by simpa using hu) fun h' st' sb => ?_
  have I1 : Inv X pins σ H { s with heap:=h' }:=I.turned (t' := s.toks) (fun b o hb e => (sb.2 b hb).trans e) f0 f1 f3 f4 f5
  obtain ⟨o,e,c,d⟩:=id st'
  exact ⟨u,rfl,EA (s:={ s with heap:=h' }) e c d (by decide) ⟨x,H,I1,ru,⟨rfl,fun ys hy => by rw [I.tuple_inj hy hq]; exact hx⟩,st',fun b hb => (hf b hb).1⟩⟩
 done:=by
  intro X hP hw hK hc i pins s σ H E I hf st hg
  subst hP hw hK
  obtain ⟨xs,hq,hx⟩:=hg
  obtain ⟨its,rv,p,hz⟩:=I.tuple hq
  obtain ⟨f0,f1,f2,f3,f4,f5⟩:=hf it (by simp)
  have hl:=rv.length
  exact wpAny_pyNext_tuple_end (I.ok.hd hc) st (show s.heap.IsTuple a its.toArray from p) (by simp; omega) fun h' eb => ⟨rfl,I.turned (t' := s.toks) (fun b o hb e => eb b o hb e) f0 f1 f3 f4 f5⟩
 self:=fun _ _ _ _ _ st h => wpAny_pyIter_tupleiter st h
theorem Eh {P : Program} {w : World} {K : PySem.W.Frag} {tg : Expr} (it : Addr) (lo : Int) (n : Nat) : Turn P w K tg (Itr lo n) [it] it (fun i h => IsRangeIter h it (lo + (i : Nat) * 1) ((n : Int) - (i : Nat)) 1) where
 mem:=by simp
 obj:=fun i h st b hb => by
  have e : b = it:=by simpa using hb
  subst e
  exact ⟨_,st,fun v z => by
   have z' : Data.fields _ = Data.cell v:=z
   cases z'⟩
 keep:=fun i h h' st k => k it (by simp) _ st
 item:=by
  intro X hP hw hK hc i pins s σ H E I hf st hg
  subst hP hw hK
  obtain ⟨f0,f1,f2,f3,f4,f5⟩:=hf it (by simp)
  have W:=Walks.range (prog:=X.prog) (w:=X.w) (I.ok.hd hc) it lo 1 n
  refine W.item i s _ _ hg st fun v h' tk hv st' kk => ?_
  obtain ⟨t,rfl⟩:=hv
  have I1 : Inv X pins σ H { s with heap:=h',toks:=tk }:=I.turned (fun b o hb e => kk b o (by simpa using hb) e) f0 f1 f3 f4 f5
  refine ⟨_,rfl,EA (s:={ s with heap:=h',toks:=tk }) (n := "range_iterator") st' rfl rfl (by decide) ⟨.int (lo + i),H,I1,⟨t,?_⟩,⟨rfl,rfl⟩,st',fun b hb => (hf b hb).1⟩⟩
  rw [Int.mul_one]
 done:=by
  intro X hP hw hK hc i pins s σ H E I hf st hg
  subst hP hw hK
  obtain ⟨f0,f1,f2,f3,f4,f5⟩:=hf it (by simp)
  exact wpAny_pyNext_range_end (I.ok.hd hc) st (by have : n <= i:=hg; omega) fun h' eb => ⟨rfl,I.turned (t' := s.toks) (fun b o hb e => eb b o hb e) f0 f1 f3 f4 f5⟩
 self:=fun _ _ _ _ _ st h => wpAny_pyIter_rangeiter st h
end L2
namespace L2
open PySem PySem.Spec PyProof.Rows
section
variable {X : Cx} {tg : Expr}
def Km (K : PySem.W.Frag) (tl : TE) : TI:=fun σ H R => tl σ H fun x H1 => ∃ a,x = .ref a /\ (∃ xs,SqL K H1 a xs) /\ R (Itl K a) H1
def Lf (K : PySem.W.Frag) (tl : TE) : TI:=fun σ H R => tl σ H fun x H1 => ∃ a,x = .ref a /\ (∃ xs,SqT K H1 a xs) /\ R (Itt K a) H1
theorem vZ {l : Expr} {tl : TE} (hl : PE X l tl) : PI X tg l (Km X.K tl):=by
 intro pins s σ H R I h
 refine thn (hl pins s σ H _ I h) fun v s1 ⟨x,H1,I1,r1,q1⟩ => ?_
 obtain ⟨a,e,⟨xs,hq⟩,q⟩:=q1
 subst e
 cases r1
 obtain ⟨its,rv,p,hz⟩:=I1.list hq
 refine wpAny_pyIter_list p.isList ?_
 refine ⟨s1.heap.objs.size,[s1.heap.objs.size],_,_,H1,rfl,I1.kept (t' := s1.toks) fun b o e => Heap.get?_push_of_some _ e,FT a _,⟨_,Heap.get?_push_size _ rfl,rfl,rfl⟩,fun b hb => ?_,q⟩
 have e : b = s1.heap.objs.size:=by simpa using hb
 subst e
 exact I1.fpOk (Nat.le_refl _) (I1.hok.fresh (Nat.le_refl _))
theorem DN {l : Expr} {tl : TE} (hl : PE X l tl) : PI X tg l (Lf X.K tl):=by
 intro pins s σ H R I h
 refine thn (hl pins s σ H _ I h) fun v s1 ⟨x,H1,I1,r1,q1⟩ => ?_
 obtain ⟨a,e,⟨xs,hq⟩,q⟩:=q1
 subst e
 cases r1
 obtain ⟨its,rv,p,hz⟩:=I1.tuple hq
 refine wpAny_pyIter_tuple (show s1.heap.IsTuple a its.toArray from p) ?_
 refine ⟨s1.heap.objs.size,[s1.heap.objs.size],_,_,H1,rfl,I1.kept (t' := s1.toks) fun b o e => Heap.get?_push_of_some _ e,Ei a _,⟨_,Heap.get?_push_size _ rfl,rfl,rfl⟩,fun b hb => ?_,q⟩
 have e : b = s1.heap.objs.size:=by simpa using hb
 subst e
 exact I1.fpOk (Nat.le_refl _) (I1.hok.fresh (Nat.le_refl _))
theorem He {pins : List (Addr × Obj)} {σ : St} {H : Hp} {s : Shared} {R : It -> Hp -> Prop} {E : Value -> Shared -> Prop} {lo hi : Int} {t u v : Tok} {tk : Nat} (I : Inv X pins σ H s) (h1 : -(2 ^ 62) <= lo) (h2 : lo < 2 ^ 62) (h3 : -(2 ^ 62) <= hi) (h4 : hi < 2 ^ 62)
  (q : R (Itr lo (hi - lo).toNat) H) : wpAny (model X.prog X.w) X.A (pyIter (.ref s.heap.objs.size)) (PIE X pins σ tg R) E { s with heap:=s.heap.push { cls:=.type "range",data:=.fields #[.int lo t,.int hi u,.int 1 v] },toks:=tk }:=by
 refine wpAny_pyIter_range (IsRange.new ..) (small_one h1 h2 h3 h4) ?_
 have I1 : Inv X pins σ H { s with heap:=s.heap.push { cls:=.type "range",data:=.fields #[.int lo t,.int hi u,.int 1 v] },toks:=tk }:=I.kept fun b o e => Heap.get?_push_of_some _ e
 refine ⟨(s.heap.push { cls:=.type "range",data:=.fields #[.int lo t,.int hi u,.int 1 v] }).objs.size,[(s.heap.push { cls:=.type "range",data:=.fields #[.int lo t,.int hi u,.int 1 v] }).objs.size],_,_,H,rfl,
  I1.kept (t' := tk) fun b o e => Heap.get?_push_of_some _ e,Eh _ lo (hi - lo).toNat,?_,fun b hb => ?_,q⟩
 ·have e1 : lo + ((0 : Nat) : Int) * 1 = lo:=by simp
  have e2 : (((hi - lo).toNat : Nat) : Int) - ((0 : Nat) : Int) = Builtin.Range.rangeSize lo hi 1:=by rw [rangeSize_one]; split <;> omega
  show IsRangeIter _ _ (lo + ((0 : Nat) : Int) * 1) ((((hi - lo).toNat : Nat) : Int) - ((0 : Nat) : Int)) 1
  rw [e1,e2]
  exact Heap.get?_push_size _ rfl
 ·have e : b = (s.heap.push { cls:=.type "range",data:=.fields #[.int lo t,.int hi u,.int 1 v] }).objs.size:=by simpa using hb
  subst e
  exact I1.fpOk (Nat.le_refl _) (I1.hok.fresh (Nat.le_refl _))
def Kn (ta : TA) : TI:=fun σ H R => ta σ H fun vs H1 => ∃ j : Int,vs = [.int j] /\ -(2 ^ 62) <= j /\ j < 2 ^ 62 /\ R (Itr 0 j.toNat) H1
theorem cZ {a : Expr} {ta : TA} {p pos : Pos} (hg : Gl X "range") (hm : X.mg "range" = none) (ha : PA X [a] ta) (hs : starEach [a] X.env = [(false,eval a X.env)]:=by rfl) : PI X tg (.Call (.Name "range" p) [a] [] pos) (Kn ta):=by
 intro pins s σ H R I h
 refine Call_ (AR I hg hm boot_range (PyProof.Rows.callWith_type1 (thn (ha pos pins s σ H _ I h) fun us s1 ⟨vs,H1,I1,r1,q1⟩ => ?_) hs rfl))
 obtain ⟨j,e,q1,q2,q⟩:=q1
 subst e
 cases r1 with
 | cons r rr =>
  cases rr
  obtain ⟨t,rfl⟩:=r
  exact call_range_1 (He I1 (by omega) (by omega) q1 q2 (by simpa using q))
def BN (wi : TI) (g : TG) (tb : TS) : TS:=fun D σ H => wi σ H fun J H1 => ∃ W : Nat -> Nat -> St -> Hp -> Prop,(∃ m,W 0 m σ H1) /\ ∀ i m σ H,W i m σ H ->
 (J.stop i H /\ D.nx σ H) \/ (J.go i H /\ ∃ N : St -> Hp -> Prop,(∀ σ' H',N σ' H' -> ∃ m',m' < m /\ W (i + 1) m' σ' H') /\ ∀ x H',J.yld i H x H' -> g x σ H' fun σ2 H2 => tb { D with nx:=N,ct:=N,bk:=D.nx } σ2 H2)
def Bm (fp : List Addr) (h : Heap) : List (Addr × Obj):=fp.filterMap fun b => (h.get? b).map fun o => (b,o)
theorem dB {fp : List Addr} {h : Heap} {b : Addr} {o : Obj} (hb : b ∈ fp) (e : h.get? b = some o) : (b,o) ∈ Bm fp h:=List.mem_filterMap.mpr ⟨b,hb,by rw [e]; rfl⟩
theorem Fy {fp : List Addr} {h : Heap} {p : Addr × Obj} (hp : p ∈ Bm fp h) : p.1 ∈ fp /\ h.get? p.1 = some p.2:=by
 obtain ⟨b,hb,e⟩:=List.mem_filterMap.mp hp
 cases q : h.get? b with
 | none => rw [q] at e; cases e
 | some o =>
  rw [q] at e
  have e' : (b,o) = p:=Option.some.inj e
  subst e'
  exact ⟨hb,q⟩
theorem Inv.pinned {pins : List (Addr × Obj)} {σ : St} {H : Hp} {s : Shared} {fp : List Addr} (I : Inv X pins σ H s) (hf : ∀ b ∈ fp,sE X pins H b) (ho : ∀ b ∈ fp,∃ o,s.heap.get? b = some o /\ ∀ v,o.data ≠ .cell v) : Inv X (pins ++ Bm fp s.heap) σ H s:=
 I.pins_of fun p hp => (List.mem_append.mp hp).elim (fun z => I.pin p (List.mem_append_right _ z)) fun z => by
  obtain ⟨hb,e⟩:=Fy z
  obtain ⟨f0,f1,f2,_⟩:=hf p.1 hb
  obtain ⟨o,e',d⟩:=ho p.1 hb
  rw [e] at e'; cases e'
  exact ⟨e,f0,f1,f2,d⟩
theorem Inv.unpinned {pins pl : List (Addr × Obj)} {σ : St} {H : Hp} {s : Shared} (I : Inv X (pins ++ pl) σ H s) : Inv X pins σ H s:=I.pins_of fun p hp => I.pin p (List.mem_append_right _ (List.mem_append_left _ hp))
theorem qZ {iter : Expr} {body : List Stmt} {wi : TI} {g : TG} {tb : TS} {pos : Pos} (hp : PassesOwn (model X.prog X.w) X.A X.env X.xe) (hc : X.calm = true) (hi : PI X tg iter wi) (hg : PG X tg g) (hb : PSs X body tb)
  (hs : ∀ x,foldedSetIterable iter X.env x = pure x:=by intro _; rfl) : PS X (.For tg iter body [] pos) (BN wi g tb):=by
 intro pins s σ H D I h
 refine wpAny_For (thn (hi pins s σ H _ I h) fun v s1 h1 => thn h1 fun itv s2 h2 => ?_) hs
 obtain ⟨it,fp,tn,J,H2,e,I2,T,st2,f2,W,⟨m0,w0⟩,turn⟩:=h2
 subst e
 have stat : ∀ {H' : Hp},(∀ b ∈ fp,H' b = none) -> ∀ b ∈ fp,sE X pins H' b:=fun hn b hb => ⟨hn b hb,(f2 b hb).2⟩
 refine codeAny_forLoop_any (fun n s' => ∃ i σ' H',Inv X pins σ' H' s' /\ tn i s'.heap /\ (∀ b ∈ fp,H' b = none) /\ W i n σ' H') ?_ m0 ⟨0,σ,H2,I2,st2,fun b hb => (f2 b hb).1,w0⟩
 rintro n s3 ⟨i,σ3,H3,I3,st3,fr3,w3⟩
 rcases turn i n σ3 H3 w3 with ⟨stop,qn⟩ | ⟨go,N,hN,step⟩
 ·refine wpAny_passesOwn hp (thn (T.done X rfl rfl rfl hc i pins s3 σ3 H3 X.xe I3 (stat fr3) st3 stop) fun r s4 ⟨hr,I4⟩ => ?_)
  subst hr
  exact wpAny_execs_nil ⟨σ3,H3,I4,qn⟩
 ·refine wpAny_passesOwn hp (thn (T.item X rfl rfl rfl hc i pins s3 σ3 H3 X.xe I3 (stat fr3) st3 go) fun r s4 ⟨u,hr,h4⟩ => ?_)
  subst hr
  refine wpAny_passesOwn hp (thn h4 fun _ s5 ⟨x,H5,I5,r5,y5,st5,fr5⟩ => ?_)
  have I5' := I5.pinned (stat fr5) (T.obj _ _ st5)
  refine wpAny_passesOwn hp (thn (hg _ s5 σ3 H5 x u _ I5' r5 (step x H5 y5)) fun _ s6 ⟨σ6,H6,I6,q6⟩ => ?_)
  refine wpAny_passesOwn hp (thn (hb _ s6 σ6 H6 _ I6 q6) fun f s7 q7 => ?_)
  have again : ∀ {σ7 : St} {H7 : Hp},Inv X (pins ++ Bm fp s5.heap) σ7 H7 s7 -> N σ7 H7 -> ∃ m,m < n /\ ∃ i σ' H',Inv X pins σ' H' s7 /\ tn i s7.heap /\ (∀ b ∈ fp,H' b = none) /\ W i m σ' H' := fun {σ7 H7} I7 n7 => by
   obtain ⟨m',hm,w7⟩:=hN σ7 H7 n7
   refine ⟨m',hm,i + 1,σ7,H7,I7.unpinned,T.keep _ _ _ st5 fun b hb o e => (I7.pin (b,o) (List.mem_append_right _ (List.mem_append_right _ (dB hb e)))).1,fun b hb => ?_,w7⟩
   obtain ⟨o,e,d⟩:=T.obj _ _ st5 b hb
   exact (I7.pin (b,o) (List.mem_append_right _ (List.mem_append_right _ (dB hb e)))).2.1
  cases f with
  | next => obtain ⟨σ7,H7,I7,n7⟩:=q7; exact again I7 n7
  | cont => obtain ⟨σ7,H7,I7,n7⟩:=q7; exact again I7 n7
  | brk => obtain ⟨σ7,H7,I7,q7⟩:=q7; exact ⟨σ7,H7,I7.unpinned,q7⟩
  | ret v => obtain ⟨x7,σ7,H7,I7,r7,q7⟩:=q7; exact ⟨x7,σ7,H7,I7.unpinned,r7,q7⟩
end
theorem AB {K : PySem.W.Frag} {a : Addr} {xs : List V} {g : TG} {tb : TS} {D : Ends} {σ : St} {H : Hp} (Pv : Nat -> St -> Hp -> Prop) (h0 : Pv 0 σ H) (hl : ∀ i σ H,i <= xs.length -> Pv i σ H -> SqT K H a xs)
  (hs : ∀ i x σ H,xs[i]? = some x -> Pv i σ H -> g x σ H fun σ2 H2 => tb { D with nx:=Pv (i + 1),ct:=Pv (i + 1),bk:=D.nx } σ2 H2) (hd : ∀ σ H,Pv xs.length σ H -> D.nx σ H) :
  ∃ W : Nat -> Nat -> St -> Hp -> Prop,(∃ m,W 0 m σ H) /\ ∀ i m σ H,W i m σ H ->
   ((Itt K a).stop i H /\ D.nx σ H) \/ ((Itt K a).go i H /\ ∃ N : St -> Hp -> Prop,(∀ σ' H',N σ' H' -> ∃ m',m' < m /\ W (i + 1) m' σ' H') /\ ∀ x H',(Itt K a).yld i H x H' -> g x σ H' fun σ2 H2 => tb { D with nx:=N,ct:=N,bk:=D.nx } σ2 H2):=by
 refine ⟨fun i m σ H => m = xs.length - i /\ i <= xs.length /\ Pv i σ H,⟨xs.length,by simp,Nat.zero_le _,h0⟩,?_⟩
 rintro i m σ H ⟨rfl,hi,p⟩
 have q:=hl i σ H hi p
 by_cases hlt : i < xs.length
 ·refine .inr ⟨⟨xs,xs[i],q,by simp [hlt]⟩,Pv (i + 1),fun σ' H' p' => ⟨xs.length - (i + 1),by omega,rfl,hlt,p'⟩,fun x H' y => ?_⟩
  obtain ⟨e,y⟩:=y
  subst e
  exact hs i x σ _ (y xs q) p
 ·have e : i = xs.length:=by omega
  subst e
  exact .inl ⟨⟨xs,q,Nat.le_refl _⟩,hd σ H p⟩
theorem gd {lo : Int} {n : Nat} {g : TG} {tb : TS} {D : Ends} {σ : St} {H : Hp} (Pv : Nat -> St -> Hp -> Prop) (h0 : Pv 0 σ H)
  (hs : ∀ i σ H,i < n -> Pv i σ H -> g (.int (lo + i)) σ H fun σ2 H2 => tb { D with nx:=Pv (i + 1),ct:=Pv (i + 1),bk:=D.nx } σ2 H2) (hd : ∀ σ H,Pv n σ H -> D.nx σ H) :
  ∃ W : Nat -> Nat -> St -> Hp -> Prop,(∃ m,W 0 m σ H) /\ ∀ i m σ H,W i m σ H ->
   ((Itr lo n).stop i H /\ D.nx σ H) \/ ((Itr lo n).go i H /\ ∃ N : St -> Hp -> Prop,(∀ σ' H',N σ' H' -> ∃ m',m' < m /\ W (i + 1) m' σ' H') /\ ∀ x H',(Itr lo n).yld i H x H' -> g x σ H' fun σ2 H2 => tb { D with nx:=N,ct:=N,bk:=D.nx } σ2 H2):=by
 refine ⟨fun i m σ H => m = n - i /\ i <= n /\ Pv i σ H,⟨n,by simp,Nat.zero_le _,h0⟩,?_⟩
 rintro i m σ H ⟨rfl,hi,p⟩
 by_cases hlt : i < n
 ·refine .inr ⟨hlt,Pv (i + 1),fun σ' H' p' => ⟨n - (i + 1),by omega,rfl,hlt,p'⟩,fun x H' y => ?_⟩
  obtain ⟨e,y⟩:=y
  subst e y
  exact hs i σ _ hlt p
 ·have e : i = n:=by omega
  subst e
  exact .inl ⟨Nat.le_refl _,hd σ H p⟩
end L2
namespace L2
open PySem PySem.Spec PyProof.Rows
abbrev R2:=V -> V -> Hp -> VK -> Prop
def OpR (X : Cx) (f : Value -> Value -> Sem Value) (r : R2) : Prop:=
 ∀ (pins : List (Addr × Obj)) (s : Shared) (σ : St) (H : Hp) (x y : V) (v u : Value) (Q : VK),Inv X pins σ H s -> RelV x v -> RelV y u -> r x y H Q ->
  wpAny (model X.prog X.w) X.A (f v u) (EP X pins σ Q) X.xe s
def fX (X : Cx) (f : Value) (r : List V -> Hp -> VK -> Prop) : Prop:=
 ∀ (pins : List (Addr × Obj)) (s : Shared) (σ : St) (H : Hp) (xs : List V) (us : List Value) (Q : VK),Inv X pins σ H s -> Vals xs us -> r xs H Q ->
  wpAny (model X.prog X.w) X.A (call f us) (EP X pins σ Q) X.xe s
def tOp (r : R2) (ta tb : TE) : TE:=fun σ H Q => ta σ H fun x H1 => tb σ H1 fun y H2 => r x y H2 Q
def rI (C : Int -> Int -> Prop) (g : Int -> Int -> V) : R2:=fun x y H Q => ∃ i j,x = .int i /\ y = .int j /\ C i j /\ Q (g i j) H
def rI0 (g : Int -> Int -> V) : R2:=fun x y H Q => ∃ i j,x = .int i /\ y = .int j /\ Q (g i j) H
section
variable {X : Cx} {a b c : Expr} {ta tb tc : TE} {pos : Pos}
theorem Jh (ha : PE X a ta) (hb : PE X b tb) {pins : List (Addr × Obj)} {s : Shared} {σ : St} {H : Hp} {R : V -> V -> Hp -> Prop} (I : Inv X pins σ H s)
  (h : ta σ H fun x H1 => tb σ H1 fun y H2 => R x y H2) {Q : Value -> Shared -> Prop} {f : Value -> Value -> Sem Value}
  (hf : ∀ v u s2 x y H2,Inv X pins σ H2 s2 -> RelV x v -> RelV y u -> R x y H2 -> wpAny (model X.prog X.w) X.A (f v u) Q X.xe s2) :
  wpAny (model X.prog X.w) X.A (eval a X.env) (fun v s₁ => wpAny (model X.prog X.w) X.A (eval b X.env) (fun u s₂ => wpAny (model X.prog X.w) X.A (f v u) Q X.xe s₂) X.xe s₁) X.xe s:=by
 refine thn (ha pins s σ H _ I h) fun v s1 ⟨x,H1,I1,r1,q1⟩ => ?_
 refine thn (hb pins s1 σ H1 _ I1 q1) fun u s2 ⟨y,H2,I2,r2,q2⟩ => ?_
 exact hf v u s2 x y H2 I2 r1 r2 q2
theorem ak {op : Operator} {r : R2} (ho : OpR X (binaryOp op) r) (ha : PE X a ta) (hb : PE X b tb) : PE X (.BinOp a op b pos) (tOp r ta tb):=by
 intro pins s σ H Q I h
 exact wpAny_BinOp (Jh ha hb I h fun v u s2 x y H2 I2 rx ry q => ho pins s2 σ H2 x y v u Q I2 rx ry q)
theorem opI {f : Value -> Value -> Sem Value} {C : Int -> Int -> Prop} {g : Int -> Int -> Int}
  (rule : ∀ (i j : Int) (t u : Tok) (s : Shared) (Q : Value -> Shared -> Prop) (E : Value -> Shared -> Prop),C i j -> Q (.int (g i j) s.toks) { s with toks:=s.toks + 1 } -> wpAny (model X.prog X.w) X.A (f (.int i t) (.int j u)) Q E s) :
  OpR X f (rI C fun i j => .int (g i j)):=by
 intro pins s σ H x y v u Q I rx ry h
 obtain ⟨i,j,rfl,rfl,hc,q⟩:=h
 obtain ⟨t,rfl⟩:=rx
 obtain ⟨t',rfl⟩:=ry
 exact rule i j t t' s _ _ hc ⟨.int (g i j),H,I.tok _,⟨_,rfl⟩,q⟩
theorem Kv {f : Value -> Value -> Sem Value} {g : Int -> Int -> Int}
  (rule : ∀ (i j : Int) (t u : Tok) (s : Shared) (Q : Value -> Shared -> Prop) (E : Value -> Shared -> Prop),Q (.int (g i j) s.toks) { s with toks:=s.toks + 1 } -> wpAny (model X.prog X.w) X.A (f (.int i t) (.int j u)) Q E s) :
  OpR X f (rI0 fun i j => .int (g i j)):=by
 intro pins s σ H x y v u Q I rx ry h
 obtain ⟨i,j,rfl,rfl,q⟩:=h
 obtain ⟨t,rfl⟩:=rx
 obtain ⟨t',rfl⟩:=ry
 exact rule i j t t' s _ _ ⟨.int (g i j),H,I.tok _,⟨_,rfl⟩,q⟩
theorem JI {f : Value -> Value -> Sem Value} {g : Int -> Int -> Bool}
  (rule : ∀ (i j : Int) (t u : Tok) (s : Shared) (Q : Value -> Shared -> Prop) (E : Value -> Shared -> Prop),Q (.bool (g i j)) s -> wpAny (model X.prog X.w) X.A (f (.int i t) (.int j u)) Q E s) :
  OpR X f (rI0 fun i j => .bl (g i j)):=by
 intro pins s σ H x y v u Q I rx ry h
 obtain ⟨i,j,rfl,rfl,q⟩:=h
 obtain ⟨t,rfl⟩:=rx
 obtain ⟨t',rfl⟩:=ry
 exact rule i j t t' s _ _ ⟨.bl (g i j),H,I,rfl,q⟩
def K6 (i j : Int) : Prop:=0 < j /\ j < 1073741824
def CMul (i j : Int) : Prop:=(-(2 ^ 64) < i /\ i < 2 ^ 64) \/ (-(2 ^ 64) < j /\ j < 2 ^ 64)
theorem CMul.ok {i j : Int} (h : CMul i j) : IntMulOk i j:=by
 rcases h with ⟨h1,h2⟩ | ⟨h1,h2⟩
 ·exact .of_left (intBits_le_64 h1 h2)
 ·exact .of_right (intBits_le_64 h1 h2)
theorem bf : OpR X (binaryOp .Add) (rI0 fun i j => .int (i + j)):=Kv fun _ _ _ _ _ _ _ q => add_int q
theorem jy : OpR X (binaryOp .Sub) (rI0 fun i j => .int (i - j)):=Kv fun _ _ _ _ _ _ _ q => sub_int q
theorem nQ : OpR X (binaryOp .Mult) (rI CMul fun i j => .int (i * j)):=opI fun _ _ _ _ _ _ _ hc q => mul_int q hc.ok
theorem bh : OpR X (binaryOp .FloorDiv) (rI K6 fun i j => .int (i / j)):=opI fun i j _ _ _ _ _ hc q => by
 have h1 : (0 : Int) < j:=hc.1
 have h2 : j < 1073741824:=hc.2
 exact floordiv_int (by omega) (by rw [Int.fdiv_eq_ediv_of_nonneg i (by omega)]; exact q) (.inl (PyProof.noPylong_small (by omega)))
theorem aX : OpR X (binaryOp .Mod) (rI (fun _ j => 0 < j) fun i j => .int (i % j)):=opI fun i j _ _ _ _ _ hc q => by
 have h1 : (0 : Int) < j:=hc
 exact mod_int' (by omega) (by rw [Int.fmod_eq_emod_of_nonneg i (by omega)]; exact q)
end
def KP : V -> V -> Bool
 | .non,.non => true | .non,.int _ => true | .int _,.non => true | .non,.bl _ => true | .bl _,.non => true | .non,.str _ => true | .str _,.non => true
 | .int _,.int _ => true | .bl _,.bl _ => true | .str _,.str _ => true | .byt _,.byt _ => true
 | .int _,.str _ => true | .str _,.int _ => true | .bl _,.str _ => true | .str _,.bl _ => true
 | _,_ => false
def rEq : R2:=fun x y H Q => KP x y = true /\ Q (.bl (decide (x = y))) H
def rNe : R2:=fun x y H Q => KP x y = true /\ Q (.bl (!decide (x = y))) H
theorem Et {i j : Int} : decide (V.int i = V.int j) = (i == j):=by
 rw [Bool.eq_iff_iff]
 simp
theorem Ge {i j : Bool} : decide (V.bl i = V.bl j) = (i == j):=by
 rw [Bool.eq_iff_iff]
 simp
theorem Eu {i j : Str} : decide (V.str i = V.str j) = (i == j):=by
 rw [Bool.eq_iff_iff]
 simp
theorem Es {i j : Array UInt8} : decide (V.byt i = V.byt j) = (i.toList == j.toList):=by
 rw [Bool.eq_iff_iff]
 cases i
 cases j
 simp
section
variable {X : Cx} {a b c : Expr} {ta tb tc : TE} {pos : Pos}
theorem bp {pins : List (Addr × Obj)} {σ : St} {H : Hp} {s : Shared} {Q : VK} {k k' : Bool} (I : Inv X pins σ H s) (q : Q (.bl k) H) (e : k = k') : EP X pins σ Q (.bool k') s:=by
 subst e
 exact ⟨.bl k,H,I,rfl,q⟩
theorem gI : OpR X (compareOp .Eq) rEq:=by
 intro pins s σ H x y v u Q I rx ry h
 obtain ⟨hs,q⟩:=h
 cases x with
 | non =>
  cases rx
  cases y with
  | non => cases ry; exact PySem.EqNone.eq_none_none (bp I q (by simp))
  | bl j => cases ry; exact PySem.EqNone.eq_none_bool (bp I q (by simp))
  | int j => obtain ⟨t',rfl⟩:=ry; exact PySem.EqNone.eq_none_int (bp I q (by simp))
  | str j => obtain ⟨t',rfl⟩:=ry; exact PySem.EqNone.eq_none_str (bp I q (by simp))
  | _ => exact absurd (show false = true from hs) Bool.false_ne_true
 | bl i =>
  cases rx
  cases y with
  | non => cases ry; exact PySem.EqNone.eq_bool_none (bp I q (by simp))
  | bl j => cases ry; exact eq_bool (bp I q Ge)
  | str j => obtain ⟨t',rfl⟩:=ry; exact PySem.EqMixed.eq_bool_str (bp I q (by simp))
  | _ => exact absurd (show false = true from hs) Bool.false_ne_true
 | int i =>
  obtain ⟨t,rfl⟩:=rx
  cases y with
  | non => cases ry; exact PySem.EqNone.eq_int_none (bp I q (by simp))
  | int j => obtain ⟨t',rfl⟩:=ry; exact eq_int (bp I q Et)
  | str j => obtain ⟨t',rfl⟩:=ry; exact PySem.EqMixed.eq_int_str (bp I q (by simp))
  | _ => exact absurd (show false = true from hs) Bool.false_ne_true
 | str i =>
  obtain ⟨t,rfl⟩:=rx
  cases y with
  | non => cases ry; exact PySem.EqNone.eq_str_none (bp I q (by simp))
  | bl j => cases ry; exact PySem.EqMixed.eq_str_bool (bp I q (by simp))
  | int j => obtain ⟨t',rfl⟩:=ry; exact PySem.EqMixed.eq_str_int (bp I q (by simp))
  | str j => obtain ⟨t',rfl⟩:=ry; exact eq_str (bp I q Eu)
  | _ => exact absurd (show false = true from hs) Bool.false_ne_true
 | byt i =>
  obtain ⟨t,rfl⟩:=rx
  cases y with
  | byt j => obtain ⟨t',rfl⟩:=ry; exact PySem.W.eq_bytes (bp I q Es)
  | _ => exact absurd (show false = true from hs) Bool.false_ne_true
 | _ => cases y <;> exact absurd (show false = true from hs) Bool.false_ne_true
theorem GW : OpR X (compareOp .NotEq) rNe:=by
 intro pins s σ H x y v u Q I rx ry h
 obtain ⟨hs,q⟩:=h
 cases x with
 | non =>
  cases rx
  cases y with
  | non => cases ry; exact PySem.EqNone.ne_none_none (bp I q (by simp))
  | bl j => cases ry; exact PySem.EqNone.ne_none_bool (bp I q (by simp))
  | int j => obtain ⟨t',rfl⟩:=ry; exact PySem.EqNone.ne_none_int (bp I q (by simp))
  | str j => obtain ⟨t',rfl⟩:=ry; exact PySem.EqNone.ne_none_str (bp I q (by simp))
  | _ => exact absurd (show false = true from hs) Bool.false_ne_true
 | bl i =>
  cases rx
  cases y with
  | non => cases ry; exact PySem.EqNone.ne_bool_none (bp I q (by simp))
  | bl j => cases ry; exact ne_bool (bp I q (congrArg not Ge))
  | str j => obtain ⟨t',rfl⟩:=ry; exact PySem.EqMixed.ne_bool_str (bp I q (by simp))
  | _ => exact absurd (show false = true from hs) Bool.false_ne_true
 | int i =>
  obtain ⟨t,rfl⟩:=rx
  cases y with
  | non => cases ry; exact PySem.EqNone.ne_int_none (bp I q (by simp))
  | int j => obtain ⟨t',rfl⟩:=ry; exact ne_int (bp I q (congrArg not Et))
  | str j => obtain ⟨t',rfl⟩:=ry; exact PySem.EqMixed.ne_int_str (bp I q (by simp))
  | _ => exact absurd (show false = true from hs) Bool.false_ne_true
 | str i =>
  obtain ⟨t,rfl⟩:=rx
  cases y with
  | non => cases ry; exact PySem.EqNone.ne_str_none (bp I q (by simp))
  | bl j => cases ry; exact PySem.EqMixed.ne_str_bool (bp I q (by simp))
  | int j => obtain ⟨t',rfl⟩:=ry; exact PySem.EqMixed.ne_str_int (bp I q (by simp))
  | str j => obtain ⟨t',rfl⟩:=ry; exact ne_str (bp I q (congrArg not Eu))
  | _ => exact absurd (show false = true from hs) Bool.false_ne_true
 | byt i =>
  obtain ⟨t,rfl⟩:=rx
  cases y with
  | byt j => obtain ⟨t',rfl⟩:=ry; exact PySem.W.ne_bytes (bp I q (congrArg not Es))
  | _ => exact absurd (show false = true from hs) Bool.false_ne_true
 | _ => cases y <;> exact absurd (show false = true from hs) Bool.false_ne_true
theorem mF : OpR X (compareOp .Lt) (rI0 fun i j => .bl (decide (i < j))):=JI fun _ _ _ _ _ _ _ q => lt_int q
theorem EN : OpR X (compareOp .LtE) (rI0 fun i j => .bl (decide (i <= j))):=JI fun _ _ _ _ _ _ _ q => le_int q
theorem rT : OpR X (compareOp .Gt) (rI0 fun i j => .bl (decide (j < i))):=JI fun _ _ _ _ _ _ _ q => gt_int q
theorem aS (b : Expr) {op : CmpOp} (h : op ≠ .In:=by decide) (h2 : op ≠ .NotIn:=by decide) : behindInMarks op b = false:=by
 have e1 : (op == CmpOp.In) = false:=by cases op <;> first | rfl | exact absurd rfl h
 have e2 : (op == CmpOp.NotIn) = false:=by cases op <;> first | rfl | exact absurd rfl h2
 cases b <;> simp [behindInMarks,e1,e2]
theorem rX {op : CmpOp} {r : R2} (ho : OpR X (compareOp op) r) (ha : PE X a ta) (hb : PE X b tb) (hm : behindInMarks op b = false) : PE X (.Compare a [op] [b] pos) (tOp r ta tb):=by
 intro pins s σ H Q I h
 exact wpAny_Compare1 (Jh ha hb I h fun v u s2 x y H2 I2 rx ry q => ho pins s2 σ H2 x y v u Q I2 rx ry q) hm
def Ht (t : TE) : TT:=fun σ H Q => t σ H fun x H' => ∃ k,x = .bl k /\ Q k H'
theorem aM {op : CmpOp} {r : R2} (ho : OpR X (compareOp op) r) (ha : PE X a ta) (hb : PE X b tb) (hm : behindInMarks op b = false) : PT X (.Compare a [op] [b] pos) (Ht (tOp r ta tb)):=by
 intro pins s σ H Q I h
 refine wpAny_isTrue_Compare1 (thn (ha pins s σ H _ I h) fun v s1 ⟨x,H1,I1,r1,q1⟩ => thn (hb pins s1 σ H1 _ I1 q1) fun u s2 ⟨y,H2,I2,r2,q2⟩ =>
  thn (ho pins s2 σ H2 x y v u _ I2 r1 r2 q2) fun c s3 ⟨z,H3,I3,r3,k,e,q3⟩ => ?_) hm
 subst e
 cases r3
 exact wpAny_truthy_bool ⟨H3,I3,q3⟩
def Ee (r r' : R2) (ta tb tc : TE) : TE:=fun σ H Q => ta σ H fun x H1 => tb σ H1 fun y H2 => r x y H2 fun z H3 => ∃ k,z = .bl k /\
 (if k = true then tc σ H3 fun w' H4 => r' y w' H4 Q else Q (.bl false) H3)
theorem G1 {op op' : CmpOp} {r r' : R2} (ho : OpR X (compareOp op) r) (ho' : OpR X (compareOp op') r') (ha : PE X a ta) (hb : PE X b tb) (hc : PE X c tc)
  (hm : lastMarks [op,op'] [b,c] = false:=by with_unfolding_all rfl) : PE X (.Compare a [op,op'] [b,c] pos) (Ee r r' ta tb tc):=by
 intro pins s σ H Q I h
 refine Compare_chain (thn (ha pins s σ H _ I h) fun v s1 ⟨x,H1,I1,r1,q1⟩ => chain_link (thn (hb pins s1 σ H1 _ I1 q1) fun u s2 ⟨y,H2,I2,r2,q2⟩ =>
  thn (ho pins s2 σ H2 x y v u _ I2 r1 r2 q2) fun d s3 ⟨z,H3,I3,r3,k,e,q3⟩ => ?_)) hm
 subst e
 cases r3
 refine wpAny_truthy_bool ?_
 cases k with
 | false => exact ite_ff ⟨.bl false,H3,I3,rfl,q3⟩
 | true => exact ite_tt (chain_last (thn (hc pins s3 σ H3 _ I3 q3) fun w' s4 ⟨z',H4,I4,r4,q4⟩ => ho' pins s4 σ H4 y z' u w' Q I4 r2 r4 q4))
theorem xW {op op' : CmpOp} {r r' : R2} (ho : OpR X (compareOp op) r) (ho' : OpR X (compareOp op') r') (ha : PE X a ta) (hb : PE X b tb) (hc : PE X c tc)
  (hm : lastMarks [op,op'] [b,c] = false:=by with_unfolding_all rfl) : PT X (.Compare a [op,op'] [b,c] pos) (Ht (Ee r r' ta tb tc)):=by
 intro pins s σ H Q I h
 refine isTrue_chain (thn (ha pins s σ H _ I h) fun v s1 ⟨x,H1,I1,r1,q1⟩ => test_link (thn (hb pins s1 σ H1 _ I1 q1) fun u s2 ⟨y,H2,I2,r2,q2⟩ =>
  thn (ho pins s2 σ H2 x y v u _ I2 r1 r2 q2) fun d s3 ⟨z,H3,I3,r3,k,e,q3⟩ => ?_)) hm
 subst e
 cases r3
 refine wpAny_truthy_bool ?_
 cases k with
 | false =>
  obtain ⟨k',e',q'⟩:=q3
  cases e'
  exact ite_ff ⟨H3,I3,q'⟩
 | true =>
  refine ite_tt (test_last (thn (hc pins s3 σ H3 _ I3 q3) fun w' s4 ⟨z',H4,I4,r4,q4⟩ => thn (ho' pins s4 σ H4 y z' u w' _ I4 r2 r4 q4) fun d' s5 ⟨z2,H5,I5,r5,k2,e2,q5⟩ => ?_))
  subst e2
  cases r5
  exact wpAny_truthy_bool ⟨H5,I5,q5⟩
theorem AS : (sizeLine : Nat) < 2 ^ 63:=by rw [sizeLine_eq]; decide
theorem av : OpR X (binaryOp .Add) (fun x y H Q => ∃ i j,x = .str i /\ y = .str j /\ i.length + j.length <= sizeLine /\ Q (.str (i ++ j)) H):=by
 intro pins s σ H x y v u Q I rx ry h
 obtain ⟨i,j,rfl,rfl,hz,q⟩:=h
 obtain ⟨t,rfl⟩:=rx
 obtain ⟨t',rfl⟩:=ry
 exact add_str (fun t' tk => ⟨.str (i ++ j),H,I.tok _,⟨_,rfl⟩,q⟩) hz
theorem vals1 {x : V} {us : List Value} (r : Vals [x] us) : ∃ u,us = [u] /\ RelV x u:=by
 cases r with
 | cons r1 r2 => cases r2; exact ⟨_,rfl,r1⟩
theorem vals2 {x y : V} {us : List Value} (r : Vals [x,y] us) : ∃ u w',us = [u,w'] /\ RelV x u /\ RelV y w' := by
 cases r with
 | cons r1 r2 =>
  cases r2 with
  | cons r3 r4 => cases r4; exact ⟨_,_,rfl,r1,r3⟩
theorem zy (hc : X.calm = true) : fX X (.builtin "max") (fun xs H Q => ∃ i j,xs = [.int i,.int j] /\ Q (.int (if j > i then j else i)) H):=by
 intro pins s σ H xs us Q I r h
 obtain ⟨i,j,rfl,q⟩:=h
 obtain ⟨u,w',rfl,⟨t,rfl⟩,⟨t',rfl⟩⟩:=vals2 r
 refine max_two_ints (I.ok.hd hc) fun h' tk k => ⟨_,H,I.kept k,?_,q⟩
 by_cases hj : j > i
 ·rw [if_pos hj,if_pos hj]; exact ⟨_,rfl⟩
 ·rw [if_neg hj,if_neg hj]; exact ⟨_,rfl⟩
theorem zA (hc : X.calm = true) : fX X (.builtin "min") (fun xs H Q => ∃ i j,xs = [.int i,.int j] /\ Q (.int (if j < i then j else i)) H):=by
 intro pins s σ H xs us Q I r h
 obtain ⟨i,j,rfl,q⟩:=h
 obtain ⟨u,w',rfl,⟨t,rfl⟩,⟨t',rfl⟩⟩:=vals2 r
 refine min_two_ints (I.ok.hd hc) fun h' tk k => ⟨_,H,I.kept k,?_,q⟩
 by_cases hj : j < i
 ·rw [if_pos hj,if_pos hj]; exact ⟨_,rfl⟩
 ·rw [if_neg hj,if_neg hj]; exact ⟨_,rfl⟩
theorem E8 : fX X (.type "int") (fun xs H Q => (∃ i,xs = [.int i] /\ Q (.int i) H) \/ ∃ k,xs = [.bl k] /\ Q (.int (if k then 1 else 0)) H):=by
 intro pins s σ H xs us Q I r h
 rcases h with ⟨i,rfl,q⟩ | ⟨k,rfl,q⟩
 ·obtain ⟨u,rfl,t,rfl⟩:=vals1 r
  exact call_int_int ⟨.int i,H,I,⟨_,rfl⟩,q⟩
 ·obtain ⟨u,rfl,r1⟩:=vals1 r
  cases r1
  exact call_int_bool ⟨.int (if k then 1 else 0),H,I.tok _,⟨_,rfl⟩,q⟩
theorem ik : fX X (.type "str") (fun xs H Q => ∃ i,xs = [.int i] /\ i.natAbs.log2 < 1920 /\ Q (.str (toString i)) H):=by
 intro pins s σ H xs us Q I r h
 obtain ⟨i,rfl,hz,q⟩:=h
 obtain ⟨u,rfl,t,rfl⟩:=vals1 r
 exact PySem.P.str_of_int hz ⟨.str _,H,I.tok _,⟨_,rfl⟩,q⟩
end
end L2
namespace L2
open PySem PySem.Spec PyProof.Rows
structure ObjM (h : Heap) (x dx C : Addr) (mA : Str -> Option Value) : Prop where
 obj : h.get? x = some (PySem.W.instObj C dx)
 ns : h.Ns1 dx mA
 ne : dx ≠ x
theorem Fu {h : Heap} {dx : Addr} {mA : Str -> Option Value} (n : h.Ns1 dx mA) : ∃ od,h.get? dx = some od /\ ∀ name,PySem.W.lookIn name od = some (mA name):=by
 obtain ⟨o,es,ep,ho,hd,hk,_,hm⟩:=n
 refine ⟨o,ho,fun name => ?_⟩
 have e:=hm name
 unfold nsFind findBy at e
 rw [<- Array.find?_toList] at e
 unfold PySem.W.lookIn
 rw [hd]
 dsimp only
 split
 ·rename_i y q
  rw [q] at e
  exact congrArg some e
 ·rename_i q
  rw [q] at e
  have a : es.toList.any (·.refKey) = false:=by
   rw [List.any_eq_false]
   intro y hy
   obtain ⟨z,t,hkey⟩:=hk y (Array.mem_toList_iff.mp hy)
   simp [DictEntry.refKey,hkey]
  have a' : ¬ es.toList.any (·.refKey) = true:=by rw [a]; exact Bool.false_ne_true
  rw [if_neg a']
  exact congrArg some e
theorem ObjM.look {h : Heap} {x dx C : Addr} {mA : Str -> Option Value} (I : ObjM h x dx C mA) : ∃ od,PySem.W.InstAt h x (PySem.W.instObj C dx) C (some od) /\ ∀ name,PySem.W.lookIn name od = some (mA name):=
 let ⟨od,ho,hl⟩:=Fu I.ns
 ⟨od,⟨I.obj,rfl,rfl,ho⟩,hl⟩
section
variable {prog : Program} {w : World} {A : Around} {E : Value -> Shared -> Prop} {s : Shared} {K : PySem.W.Frag} {x dx C f : Addr} {mA : Str -> Option Value} {name : Str} {v : Value}
theorem get_map {expr : Bool} {Q : Value -> Shared -> Prop} (X : K.In s.heap) (I : ObjM s.heap x dx C mA) (hg : PySem.W.plainGet K C name = true) (hh : PySem.W.hasDictIn K C = true)
  (ha : PySem.W.findIn K (.ref C) name = some none) (hv : mA name = some v) (hv' : PySem.W.handedIn v = true) (h : Q v { s with toks:=s.toks + 1 }) :
  wpAny (model prog w) A (getAttr (.ref x) name expr) Q E s:=by
 obtain ⟨od,J,hl⟩:=I.look
 exact PySem.W.get_value X J (PySem.W.plainGet_of hg).1 (PySem.W.findObj_own hh ha rfl (by rw [hl,hv])) hv' h
theorem Gn {pl : Sem Bool} {Q : Value × List Value -> Shared -> Prop} (X : K.In s.heap) (I : ObjM s.heap x dx C mA) (hg : PySem.W.plainGet K C name = true)
  (hf : PySem.W.findIn K (.ref C) name = some (some (.ref f))) (ht : PySem.W.isFn K (.ref f) = true) (hv : mA name = none) (h : Q (.ref f,[.ref x]) s) :
  wpAny (model prog w) A (getMethod (.ref x) name pl) Q E s:=by
 obtain ⟨od,J,hl⟩:=I.look
 exact PySem.W.method_fn X J (PySem.W.plainGet_of hg).1 (PySem.W.plainGet_of hg).2 hf (beq_iff_eq.mp ht) (by show (PySem.W.lookIn name od).map (·.isSome) = some false; rw [hl,hv]; rfl) h
theorem IJ {ns : List Str} {Q : Unit -> Shared -> Prop} (X : K.In s.heap) (I : ObjM s.heap x dx C mA)
  (hs : PySem.W.findIn K (.ref C) "__setattr__" = some (some (.builtin "object.__setattr__"))) (hp : PySem.W.plainOver K C = true) (ht : PySem.W.takerIn K C name = some none) (hh : PySem.W.hasDictIn K C = true)
  (hw : PySem.Within mA ns) (hsz : ns.length <= sizeLine)
  (h : ∀ h',ObjM h' x dx C (fun y => if y = name then some v else mA y) -> Heap.SameBut dx s.heap h' -> Q () { s with heap:=h',toks:=s.toks + 2 }) :
  wpAny (model prog w) A (setAttr (.ref x) name v) Q E s:=by
 obtain ⟨od,J,hl⟩:=I.look
 refine PySem.W.set_plain X J hs (PySem.W.osa_open (s:={ s with toks:=s.toks + 1 }) (r:=none) X J hp ht fun b => ?_)
 obtain ⟨cd,hc,hd'⟩:=PySem.W.any_some hh
 have hx : s.heap.get? x = some ⟨.ref C,some dx,.plain,#[]⟩:=I.obj
 refine wpAny_bind (wpAny_pure (wpAny_bind (wpAny_bind (wpAny_loadPart hx (wpAny_bind (PySem.W.Looks.here (s:={ s with toks:=s.toks + 1 }) (PySem.W.looks_clsIn X hc) ?_))))))
 rw [hd']
 refine wpAny_pure (a:=some dx) (wpAny_bind (wpAny_pure (wpAny_bind ?_)))
 refine wpAny_nsSet1 (s:={ s with toks:=s.toks + 1 }) I.ns fun h' hn2 hs2 => ?_
 obtain ⟨oD,esD,epD,hoD,hdD,hcD⟩:=hn2.count (PySem.Within.cons name v hw)
 refine wpAny_bind (wpAny_lookBehind hoD (by rw [hdD]; exact pastItsLine_dict (Nat.le_trans hcD (by rw [List.length_cons]; omega))) ?_)
 exact wpAny_pure (h _ ⟨(hs2.2 _ (Ne.symm I.ne)).trans I.obj,hn2,I.ne⟩ hs2)
theorem GB {R : Result -> Shared -> Prop} {vs : List Value} {kw : List (Str × Value)} (X : K.In s.heap) (hm : PySem.W.makesIn K C = true)
  (hi : PySem.W.findIn K (.ref C) "__init__" = some (some (.ref f))) (hf : PySem.W.typeIn K (.ref f) = some (.type "function"))
  (h : codeAny (model prog w) (A.under (.builtin "type.__call__" ⟨.ref C :: vs,kw⟩)) (.call (.ref f) ⟨.ref (s.heap.objs.size + 1) :: vs,kw⟩) (PySem.W.InitBack (s.heap.objs.size + 1) R)
   { s with heap:=(s.heap.push PySem.W.emptyDict).push (PySem.W.instObj C s.heap.objs.size) }) :
  codeAny (model prog w) A (.call (.ref C) ⟨vs,kw⟩) R s:=by
 obtain ⟨hh,g,d,t,os⟩:=s
 exact PySem.W.make_core (PySem.W.makes_of X hm) (PySem.W.looks_findIn X hi) (fun self => PySem.W.bind_fn X self hf) (.inl rfl) h
end
def mH (f : Str) (v : V) : List (Str × V) -> List (Str × V)
 | [] => [(f,v)]
 | (g,x) :: r => if g = f then (g,v) :: r else (g,x) :: mH f v r
theorem uD (f g : Str) (v : V) : ∀ fs : List (Str × V),(mH f v fs).lookup g = if g = f then some v else fs.lookup g
 | [] => by
  show List.lookup g [(f,v)] = _
  by_cases h : g = f
  ·have hb : (g == f) = true:=beq_iff_eq.mpr h
   simp only [List.lookup,hb,if_pos h]
  ·have hb : (g == f) = false:=beq_eq_false_iff_ne.mpr h
   simp only [List.lookup,hb,if_neg h]
 | (k,x) :: r => by
  have ih:=uD f g v r
  rw [show mH f v ((k,x) :: r) = (if k = f then (k,v) :: r else (k,x) :: mH f v r) from rfl]
  by_cases hk : k = f
  ·rw [if_pos hk]
   by_cases h : g = k
   ·have hb : (g == k) = true:=beq_iff_eq.mpr h
    simp only [List.lookup,hb,if_pos (h.trans hk)]
   ·have hb : (g == k) = false:=beq_eq_false_iff_ne.mpr h
    simp only [List.lookup,hb,if_neg (fun e : g = f => h (e.trans hk.symm))]
  ·rw [if_neg hk]
   by_cases h : g = k
   ·have hb : (g == k) = true:=beq_iff_eq.mpr h
    simp only [List.lookup,hb,if_neg (fun e : g = f => hk (h.symm.trans e))]
   ·have hb : (g == k) = false:=beq_eq_false_iff_ne.mpr h
    simp only [List.lookup,hb]
    exact ih
theorem tN (f : Str) (v : V) : ∀ fs : List (Str × V),f ∈ (mH f v fs).map (·.1) /\ ∀ g,g ∈ fs.map (·.1) -> g ∈ (mH f v fs).map (·.1)
 | [] => ⟨by simp [mH],fun g h => by simp at h⟩
 | (k,x) :: r => by
  obtain ⟨i1,i2⟩:=tN f v r
  rw [show mH f v ((k,x) :: r) = (if k = f then (k,v) :: r else (k,x) :: mH f v r) from rfl]
  by_cases hk : k = f
  ·rw [if_pos hk]
   subst hk
   exact ⟨by simp,fun g h => by simpa using h⟩
  ·rw [if_neg hk]
   refine ⟨?_,fun g h => ?_⟩
   ·rw [List.map_cons]
    exact List.mem_cons_of_mem _ i1
   ·rw [List.map_cons] at h ⊢
    rcases List.mem_cons.mp h with e | e
    ·exact List.mem_cons.mpr (.inl e)
    ·exact List.mem_cons_of_mem _ (i2 g e)
theorem uC (f : Str) (v : V) : ∀ fs : List (Str × V),(mH f v fs).length <= fs.length + 1
 | [] => by simp [mH]
 | (k,x) :: r => by
  have ih:=uC f v r
  rw [show mH f v ((k,x) :: r) = (if k = f then (k,v) :: r else (k,x) :: mH f v r) from rfl]
  by_cases hk : k = f
  ·rw [if_pos hk,List.length_cons,List.length_cons]; omega
  ·rw [if_neg hk,List.length_cons,List.length_cons]; omega
theorem RelO.some_of {v : V} {o : Option Value} (r : RelO (some v) o) : ∃ u,o = some u /\ RelV v u:=by
 cases o with
 | none => exact (show False from r).elim
 | some u => exact ⟨u,rfl,r⟩
theorem RelO.none_of {o : Option Value} (r : RelO none o) : o = none:=by
 cases o with
 | none => rfl
 | some u => exact (show False from r).elim
theorem Fl {v : V} {u : Value} (r : RelV v u) : PySem.W.handedIn u = true:=by
 cases v with
 | non => cases (show u = Value.none from r); rfl
 | bl b => cases (show u = Value.bool b from r); rfl
 | int i => obtain ⟨t,e⟩:=(show ∃ t,u = Value.int i t from r); cases e; rfl
 | str x => obtain ⟨t,e⟩:=(show ∃ t,u = Value.str x t from r); cases e; rfl
 | byt b => obtain ⟨t,e⟩:=(show ∃ t,u = Value.bytes b t from r); cases e; rfl
 | flt b => obtain ⟨t,e⟩:=(show ∃ t,u = Value.float b t from r); cases e; rfl
 | ref a => cases (show u = Value.ref a from r); rfl
 | ty n => cases (show u = Value.type n from r); rfl
section
variable {P : Program} {w : World} {H H' : Hp} {h h' : Heap} {a C dx : Addr} {fs fs' : List (Str × V)}
theorem vV (hok : HOk P w H h) (e : H a = some (.ins C dx fs)) : ∃ mA,ObjM h a dx C mA /\ (∀ f,RelO (fs.lookup f) (mA f)) /\ PySem.Within mA (fs.map (·.1)) /\ fs.length <= 1000 /\ H dx = some (.own a):=by
 obtain ⟨d,z,ne,ob,mA,n,r,q⟩:=(show ObjOk P w H h a (.ins C dx fs) from hok a _ e)
 exact ⟨mA,⟨ob,n,ne⟩,r,q,z,d⟩
end
structure Cls (K : PySem.W.Frag) (C : Addr) : Prop where
 pg : PySem.W.plainGet K C Str.empty = true
 hd : PySem.W.hasDictIn K C = true
 po : PySem.W.plainOver K C = true
 sa : PySem.W.findIn K (.ref C) "__setattr__" = some (some (.builtin "object.__setattr__"))
theorem Cls.get {K : PySem.W.Frag} {C : Addr} (c : Cls K C) (f : Str) : PySem.W.plainGet K C f = true:=c.pg
def NoAttr (K : PySem.W.Frag) (C : Addr) (f : Str) : Prop:=PySem.W.findIn K (.ref C) f = some none
theorem NoAttr.taker {K : PySem.W.Frag} {C : Addr} {f : Str} (n : NoAttr K C f) : PySem.W.takerIn K C f = some none:=by
 unfold PySem.W.takerIn
 rw [show PySem.W.findIn K (.ref C) f = some none from n]
 rfl
structure Con (K : PySem.W.Frag) (C : Addr) (f : Str) (v : V) (u : Value) : Prop where
 at_ : PySem.W.findIn K (.ref C) f = some (some u)
 rel : RelV v u
 get : PySem.W.specialIn K u "__get__" = some none
 cp : PySem.W.copiedNames.contains f = false
structure Meth (K : PySem.W.Frag) (C : Addr) (m : Str) (f : Addr) : Prop where
 at_ : PySem.W.findIn K (.ref C) m = some (some (.ref f))
 fn : PySem.W.isFn K (.ref f) = true
 kp : PySem.W.keepIn K (.ref f) = true
section
variable {X : Cx} {pins : List (Addr × Obj)} {σ : St} {H : Hp} {s : Shared} {a C dx : Addr} {fs : List (Str × V)} {f : Str} {v : V} {A : Around} {E : Value -> Shared -> Prop}
theorem Dp {b : Bool} {Q : Value -> Shared -> Prop} (I : Inv X pins σ H s) (e : H a = some (.ins C dx fs)) (c : Cls X.K C) (n : NoAttr X.K C f) (l : fs.lookup f = some v)
  (h : ∀ u s',Inv X pins σ H s' -> RelV v u -> Q u s') : wpAny (model X.prog X.w) A (getAttr (.ref a) f b) Q E s:=by
 obtain ⟨mA,O,r,_,_,_⟩:=vV I.hok e
 obtain ⟨u,hu,ru⟩:=RelO.some_of (v:=v) (o:=mA f) (by rw [<- l]; exact r f)
 exact get_map I.kIn O (c.get f) c.hd n hu (Fl ru) (h u _ (I.tok _) ru)
theorem xj {m : Str} {g : Addr} {pl : Sem Bool} {Q : Value × List Value -> Shared -> Prop} (I : Inv X pins σ H s) (e : H a = some (.ins C dx fs)) (c : Cls X.K C) (k : Meth X.K C m g) (l : fs.lookup m = none)
  (h : Q (.ref g,[.ref a]) s) : wpAny (model X.prog X.w) A (getMethod (.ref a) m pl) Q E s:=by
 obtain ⟨mA,O,r,_,_,_⟩:=vV I.hok e
 have hn : mA m = none:=RelO.none_of (by rw [<- l]; exact r m)
 exact Gn I.kIn O (c.get m) k.at_ k.fn hn h
theorem DY {y : V} {u : Value} {Q : Unit -> Shared -> Prop} (I : Inv X pins σ H s) (e : H a = some (.ins C dx fs)) (c : Cls X.K C) (n : NoAttr X.K C f) (hl : fs.length < 1000) (ry : RelV y u)
  (h : ∀ s',Inv X pins σ (upd H a (.ins C dx (mH f y fs))) s' -> Q () s') : wpAny (model X.prog X.w) A (setAttr (.ref a) f u) Q E s:=by
 obtain ⟨mA,O,r,wi,_,ho⟩:=vV I.hok e
 have hz : (fs.map (·.1)).length <= sizeLine:=by rw [List.length_map,sizeLine_eq]; omega
 refine IJ I.kIn O c.sa c.po n.taker c.hd wi hz fun h' O' sb => h _ ?_
 have hd : ∃ o,h'.get? dx = some o:=let ⟨o,_,_,e',_⟩:=O'.ns; ⟨o,e'⟩
 refine I.write (x:=a) (e:=dx) (by rw [e]; exact True.intro) (.inr ho) (fun b q hb z => (sb.2 b hb).trans z) hd ?_
 refine ⟨by rw [az O.ne]; exact ho,?_,O.ne,O'.obj,_,O'.ns,fun g => ?_,fun g hg => ?_⟩
 ·have:=uC f y fs; omega
 ·show RelO ((mH f y fs).lookup g) (if g = f then some u else mA g)
  rw [uD]
  by_cases q : g = f
  ·rw [if_pos q,if_pos q]; exact ry
  ·rw [if_neg q,if_neg q]; exact r g
 ·by_cases q : g = f
  ·rw [q]; exact (tN f y fs).1
  ·refine (tN f y fs).2 g (wi g fun z => hg ?_)
   show (if g = f then some u else mA g) = none
   rw [if_neg q]; exact z
theorem Inv.made (I : Inv X pins σ H s) : Inv X pins σ (upd (upd H s.heap.objs.size (.own (s.heap.objs.size + 1))) (s.heap.objs.size + 1) (.ins C s.heap.objs.size []))
  { s with heap:=(s.heap.push PySem.W.emptyDict).push (PySem.W.instObj C s.heap.objs.size) }:=by
 have e1 : (s.heap.push PySem.W.emptyDict).get? s.heap.objs.size = some PySem.W.emptyDict:=Heap.get?_push_size s.heap rfl
 have e2 : ((s.heap.push PySem.W.emptyDict).push (PySem.W.instObj C s.heap.objs.size)).get? (s.heap.objs.size + 1) = some (PySem.W.instObj C s.heap.objs.size):=by
  have:=Heap.get?_push_size (s.heap.push PySem.W.emptyDict) (o:=PySem.W.instObj C s.heap.objs.size) rfl
  rwa [Heap.size_push] at this
 have e3 : (s.heap.push PySem.W.emptyDict).Ns s.heap.objs.size (fun _ => none):=⟨PySem.W.emptyDict,#[],_,e1,rfl,(fun e he => absurd he (by simp)),fun _ => rfl⟩
 have I1:=I.laid (a:=s.heap.objs.size) (o:=.own (s.heap.objs.size + 1)) (h' := s.heap.push PySem.W.emptyDict) (t' := s.toks) (fun b u q => Heap.get?_push_of_some _ q) (Nat.le_refl _) ⟨_,e1⟩
 refine I1.laid (a:=s.heap.objs.size + 1) (o:=.ins C s.heap.objs.size []) (t' := s.toks) (fun b u q => Heap.get?_push_of_some _ q) (Nat.le_of_eq (Heap.size_push _ _)) ?_
 have ne : s.heap.objs.size ≠ s.heap.objs.size + 1:=Nat.ne_of_lt (Nat.lt_succ_self _)
 refine ⟨by rw [az ne,af],Nat.zero_le _,ne,e2,fun _ => none,(Heap.Ns1.of_empty e3).at fun o q => Heap.get?_push_of_some _ q,fun _ => True.intro,fun y hy => absurd rfl hy⟩
theorem HQ {prog : Program} {w : World} {env : Env} {e : Expr} {f : Str} {pos : Pos} {s : Shared} {Q : Value -> Shared -> Prop} (hb : attributeBase e f env (eval e env) = eval e env)
  (h : wpAny (model prog w) A (eval e env) (fun o s₁ => wpAny (model prog w) A (getAttr o f true) Q E s₁) E s) : wpAny (model prog w) A (eval (.Attribute e f pos) env) Q E s:=
 Attribute_any_ h (by rw [arm_eval_Attribute,hb])
end
def J0 (K : PySem.W.Frag) (ta : TE) (f : Str) : TE:=fun σ H Q => ta σ H fun x H1 => ∃ a C dx fs v,x = .ref a /\ H1 a = some (.ins C dx fs) /\ Cls K C /\ NoAttr K C f /\ fs.lookup f = some v /\ Q v H1
def Lo (K : PySem.W.Frag) (ta tv : TE) (f : Str) : TS:=fun D σ H => tv σ H fun y H1 => ta σ H1 fun x H2 => ∃ a C dx fs,x = .ref a /\ H2 a = some (.ins C dx fs) /\ Cls K C /\ NoAttr K C f /\ fs.length < 1000 /\
 D.nx σ (upd H2 a (.ins C dx (mH f y fs)))
section
variable {X : Cx} {o e value : Expr} {f : Str} {pos pos' tpos : Pos} {ta tv : TE}
theorem gf (he : PE X e ta) (hb : attributeBase e f X.env (eval e X.env) = eval e X.env) : PE X (.Attribute e f pos) (J0 X.K ta f):=by
 intro pins s σ H Q I h
 refine HQ hb (thn (he pins s σ H _ I h) fun u s1 ⟨x,H1,I1,rx,a,C,dx,fs,v,ex,ea,c,n,l,q⟩ => ?_)
 subst ex
 obtain rfl : u = Value.ref a:=rx
 exact Dp I1 ea c n l fun u' s2 I2 ru => ⟨v,H1,I2,ru,q⟩
theorem xU (ha : PE X o ta) (hv : PE X value tv) (hs : swapsWith value (some (.Attribute o f pos')) pos.line X.env = pure false) : PS X (.Assign [.Attribute o f pos'] value pos) (Lo X.K ta tv f):=by
 intro pins s σ H D I h
 refine plainObj_wpAny_Assign_Attribute (thn (hv pins s σ H _ I h) fun u s1 ⟨y,H1,I1,ry,q⟩ => thn (ha pins s1 σ H1 _ I1 q) fun ov s2 ⟨x,H2,I2,rx,a,C,dx,fs,ex,ea,c,n,l,q2⟩ => ?_) hs
 subst ex
 obtain rfl : ov = Value.ref a:=rx
 exact DY I2 ea c n l ry fun s3 I3 => ⟨σ,_,I3,q2⟩
end
section
variable {X : Cx} {pins : List (Addr × Obj)} {σ : St} {H : Hp} {s : Shared} {A : Around} {E : Value -> Shared -> Prop} {Q : Value -> Shared -> Prop} {c : Value} {b : Bool}
inductive TyOf (K : PySem.W.Frag) (H : Hp) : V -> Value -> Prop where
 | non : TyOf K H .non (.type "NoneType")
 | bl (x : Bool) : TyOf K H (.bl x) (.type "bool")
 | int (i : Int) : TyOf K H (.int i) (.type "int")
 | str (x : Str) : TyOf K H (.str x) (.type "str")
 | flt (x : UInt64) : TyOf K H (.flt x) (.type "float")
 | lst {a : Addr} {xs : List V} (e : H a = some (.lst xs)) : TyOf K H (.ref a) (.type "list")
 | frz {a : Addr} {o : Obj} {xs : List V} (e : H a = some (.frz o (.lst xs))) : TyOf K H (.ref a) (.type "list")
 | tup {a : Addr} {xs : List V} (e : H a = some (.tup xs)) : TyOf K H (.ref a) (.type "tuple")
 | dK {a : Addr} {kvs : List (Key × V)} (e : H a = some (.dK kvs)) : TyOf K H (.ref a) (.type "dict")
 | dT {a : Addr} {kvs : List (List Key × V)} (e : H a = some (.dT kvs)) : TyOf K H (.ref a) (.type "dict")
 | ins {a C dx : Addr} {fs : List (Str × V)} (e : H a = some (.ins C dx fs)) (cl : Cls K C) (ha : PySem.W.findIn K (.ref C) "__class__" = some (some (.builtin "object.__class__")))
   (hn : PySem.W.specialIn K (.builtin "object.__class__") "__get__" = some (some (.builtin "getset_descriptor.__get__"))) (htk : PySem.W.takesIn K (.builtin "object.__class__") = some true)
   (hm : PySem.W.mroIn K C (.type "object") = some true) : TyOf K H (.ref a) (.ref C)
theorem Fn {x : V} {u t : Value} (I : Inv X pins σ H s) (rx : RelV x u) (ty : TyOf X.K H x t) (e : PySem.W.kitOne X.K t c = some b) (h : ∀ tk,Q (.bool b) { s with toks:=tk }) :
  wpAny (model X.prog X.w) A (call (.builtin "isinstance") [u,c]) Q E s:=by
 cases ty with
 | non => cases (show u = Value.none from rx); exact PySem.W.kia_one PySem.W.kitx_none I.kIn True.intro e (fun z => nomatch z) h
 | bl y => cases (show u = Value.bool y from rx); exact PySem.W.kia_one PySem.W.kitx_bool I.kIn True.intro e (fun z => nomatch z) h
 | int i => obtain ⟨t,q⟩:=(show ∃ t,u = Value.int i t from rx); cases q; exact PySem.W.kia_one PySem.W.kitx_int I.kIn True.intro e (fun z => nomatch z) h
 | str y => obtain ⟨t,q⟩:=(show ∃ t,u = Value.str y t from rx); cases q; exact PySem.W.kia_one PySem.W.kitx_str I.kIn True.intro e (fun z => nomatch z) h
 | flt y => obtain ⟨t,q⟩:=(show ∃ t,u = Value.float y t from rx); cases q; exact PySem.W.kia_one PySem.W.kitx_float I.kIn True.intro e (fun z => nomatch z) h
 | @lst a xs ea =>
  cases (show u = Value.ref a from rx)
  obtain ⟨_,_,n,_,h1⟩:=(show ObjOk X.prog X.w H s.heap a (.lst xs) from I.hok a _ ea)
  exact PySem.W.kia_one PySem.W.kitx_list I.kIn ⟨_,h1,rfl⟩ e (fun z => nomatch z) h
 | @frz a ob xs ea =>
  cases (show u = Value.ref a from rx)
  obtain ⟨_,_,_,n,_,h1⟩:=(show ObjOk X.prog X.w H s.heap a (.frz ob (.lst xs)) from I.hok a _ ea)
  exact PySem.W.kia_one PySem.W.kitx_list I.kIn ⟨_,h1,rfl⟩ e (fun z => nomatch z) h
 | @tup a xs ea =>
  cases (show u = Value.ref a from rx)
  obtain ⟨_,_,_,p⟩:=(show ObjOk X.prog X.w H s.heap a (.tup xs) from I.hok a _ ea)
  obtain ⟨o,h1,h2,_⟩:=p
  exact PySem.W.kia_one PySem.W.kitx_tuple I.kIn ⟨o,h1,h2⟩ e (fun z => nomatch z) h
 | @dK a kvs ea =>
  cases (show u = Value.ref a from rx)
  obtain ⟨_,_,vs,_,p⟩:=(show ObjOk X.prog X.w H s.heap a (.dK kvs) from I.hok a _ ea)
  obtain ⟨o,es,ep,h1,h2,_⟩:=p
  exact PySem.W.kia_one PySem.W.kitx_dict I.kIn ⟨o,h1,h2.1⟩ e (fun z => nomatch z) h
 | @dT a kvs ea =>
  cases (show u = Value.ref a from rx)
  obtain ⟨_,_,xs,_,o,es,ep,h1,h2,_⟩:=(show ObjOk X.prog X.w H s.heap a (.dT kvs) from I.hok a _ ea)
  exact PySem.W.kia_one PySem.W.kitx_dict I.kIn ⟨o,h1,h2.1⟩ e (fun z => nomatch z) h
 | @ins a C dx fs ea cl ha hn htk hm =>
  cases (show u = Value.ref a from rx)
  obtain ⟨mA,O,_⟩:=vV I.hok ea
  obtain ⟨od,J,_⟩:=O.look
  exact PySem.W.kia_one (PySem.W.kitx_own (cl.get _) cl.hd ha hn htk hm) I.kIn J e (fun z => nomatch z) h
end
end L2
namespace L2
open PySem PySem.Spec PyProof.Rows
structure Room (k : Nat) (A : Around) : Prop where
 hd : A.handled = none
 dp : A.depth + 3 * k + 5 < recursionLimit
 un : A.units + 16 * k + 200 < cLine
theorem Room.mono {j k : Nat} {A : Around} (r : Room k A) (h : j <= k) : Room j A:=⟨r.hd,by have:=r.dp; omega,by have:=r.un; omega⟩
theorem Room.deeper {k : Nat} {A : Around} (r : Room (k + 1) A) (env : Env) : Room k (A.deeper env):=
 ⟨r.hd,by have:=r.dp; show A.depth + 1 + 3 * k + 5 < _; omega,by have:=r.un; show A.units + 3 + 16 * k + 200 < _; omega⟩
theorem DA {A : Around} {C : Addr} {us : List Value} {kw : List (Str × Value)} : (A.under (.builtin "type.__call__" ⟨.ref C :: us,kw⟩)).depth = A.depth + 1:=by
 first | rfl | simp [Around.under,Code.weight,Code.isCreation,Code.isGuard,Code.isCaller,Code.frames,Code.isFrame,guardIds]
theorem DB {A : Around} {C : Addr} {us : List Value} {kw : List (Str × Value)} : (A.under (.builtin "type.__call__" ⟨.ref C :: us,kw⟩)).units = A.units + 1:=by
 first | rfl | simp [Around.under,Code.cUnits,Code.frames,Code.isFrame]
theorem Room.make {k : Nat} {A : Around} (r : Room (k + 1) A) (C : Addr) (us : List Value) (kw : List (Str × Value)) : Room k (A.under (.builtin "type.__call__" ⟨.ref C :: us,kw⟩)):=
 ⟨r.hd,by have:=r.dp; rw [DA]; omega,by have:=r.un; rw [DB]; omega⟩
theorem Room.depth {k : Nat} {A : Around} (r : Room k A) : A.depth < recursionLimit:=by have:=r.dp; omega
theorem Room.units0 {k : Nat} {A : Around} (r : Room k A) : A.units < cLine:=by have:=r.un; omega
def zo : TA:=fun _ H Q => Q [] H
def nZ (ta : TE) (tr : TA) : TA:=fun σ H Q => ta σ H fun x H1 => tr σ H1 fun xs H2 => Q (x :: xs) H2
section
variable {X : Cx} {e : Expr} {es : List Expr} {te : TE} {t : TA} {pos : Pos}
theorem ae : PA X [] zo:=fun _ _ _ _ H Q I h => Calls.spliced_nil ⟨[],H,I,.nil,h⟩
theorem aa (ha : PE X e te) (hr : PA X es t) (hs : starEach (e :: es) X.env = (false,eval e X.env) :: starEach es X.env:=by rfl) : PA X (e :: es) (nZ te t):=by
 intro pos pins s σ H Q I h
 rw [hs]
 show wpAny _ _ (spliced ((false,eval e X.env) :: backTo pos (starEach es X.env))) _ _ s
 refine Calls.spliced_cons (thn (ha pins s σ H _ I h) fun u s1 ⟨x,H1,I1,r1,q1⟩ => ?_)
 exact thn (hr pos pins s1 σ H1 _ I1 q1) fun us s2 ⟨xs,H2,I2,r2,q2⟩ => ⟨x :: xs,H2,I2,.cons r1 r2,q2⟩
def FR (t : TA) : TE:=fun σ H Q => t σ H fun xs H1 => xs.length <= sizeLine /\ ∀ p,H1 p = none -> Q (.ref p) (upd H1 p (.tup xs))
def J7 (t : TA) : TE:=fun σ H Q => t σ H fun xs H1 => xs.length <= sizeLine /\ ∀ p,H1 p = none -> Q (.ref p) (upd H1 p (.lst xs))
theorem aV {x1} (h : PA X es t) : PE X (.Tuple es x1 pos) (FR t):=by
 intro pins s σ H Q I hq
 refine wpAny_Tuple_spliced (thn (h pos pins s σ H _ I hq) fun us s1 ⟨xs,H1,I1,r,z,q⟩ => ⟨by rw [<- r.length]; exact z,?_⟩)
 have hf : H1 s1.heap.objs.size = none:=I1.hok.fresh (Nat.le_refl _)
 refine ⟨.ref s1.heap.objs.size,upd H1 s1.heap.objs.size (.tup xs),I1.laid (t' := s1.toks) (fun b u e => Heap.get?_push_of_some _ e) (Nat.le_refl _) ?_,rfl,q _ hf⟩
 exact ⟨z,us,r,⟨_,Heap.get?_push_size _ rfl,rfl,_,rfl⟩⟩
theorem bE (h : PA X es t) : PE X (.List es pos) (J7 t):=by
 intro pins s σ H Q I hq
 refine wpAny_List_spliced (thn (h pos pins s σ H _ I hq) fun us s1 ⟨xs,H1,I1,r,z,q⟩ => ⟨by rw [<- r.length]; exact z,?_⟩)
 have hf : H1 s1.heap.objs.size = none:=I1.hok.fresh (Nat.le_refl _)
 refine ⟨.ref s1.heap.objs.size,upd H1 s1.heap.objs.size (.lst xs),I1.laid (t' := s1.toks) (fun b u e => Heap.get?_push_of_some _ e) (Nat.le_refl _) ?_,rfl,q _ hf⟩
 exact ⟨z,us,0,r,Heap.get?_push_size _ rfl⟩
end
abbrev Sp:=List V -> Hp -> VK -> XK -> Prop
abbrev CXT:=List Env -> Hp -> Shared -> XK -> Value -> Shared -> Prop
structure Env0 (P : Program) (w : World) (K : PySem.W.Frag) (mg : Str -> Option Value) (base : Heap) (A : Around) (outer : List Env) (s : Shared) (H : Hp) : Prop where
 frames : A.frames = some outer
 mod : Mod K mg base
 bs : ∀ b o,base.get? b = some o -> s.heap.get? b = some o /\ H b = none
 bsz : base.objs.size <= s.heap.objs.size
 funs : s.heap.FunFrames base outer
 frf : ∀ b ∈ frs outer,H b = none
 hok : HOk P w H s.heap
 bare : AllBare s.gens
def CE (outer : List Env) (P : Program) (w : World) (H : Hp) (s : Shared) (Q : VK) (u : Value) (s' : Shared) : Prop:=
 ∃ v H',s'.os = s.os /\ AllBare s'.gens /\ Un (frs outer) [] H H' s.heap s'.heap /\ HOk P w H' s'.heap /\ RelV v u /\ Q v H'
def CR (CX : CXT) (outer : List Env) (P : Program) (w : World) (H : Hp) (s : Shared) (Q : VK) (E : XK) (r : Result) (s' : Shared) : Prop:=
 match r with
 | .ok (.ret u) => CE outer P w H s Q u s'
 | .ok _ => False
 | .error e => CX outer H s E e s'
structure FnOk (P : Program) (w : World) (K : PySem.W.Frag) (mg : Str -> Option Value) (base : Heap) (CX : CXT) (k : Nat) (f : Addr) (fd : FuncData) (ps : List Str) (sp : Sp) : Prop where
 len : ∀ vs H Q E,sp vs H Q E -> vs.length = ps.length
 run : ∀ (A : Around) (outer : List Env) (s : Shared) (H : Hp) (args : Args) (us : List Value) (vs : List V) (Q : VK) (E : XK),Room k A -> Env0 P w K mg base A outer s H -> BindsTo s fd args (ps.zip us) -> Vals vs us -> sp vs H Q E ->
  codeAny (model P w) A (.call (.ref f) args) (CR CX outer P w H s Q E) s
theorem FnOk.imp {P : Program} {w : World} {K : PySem.W.Frag} {mg : Str -> Option Value} {base : Heap} {CX : CXT} {k : Nat} {f : Addr} {fd : FuncData} {ps : List Str} {sp sp' : Sp} (F : FnOk P w K mg base CX k f fd ps sp)
  (h : ∀ vs H Q E,sp' vs H Q E -> sp vs H Q E) : FnOk P w K mg base CX k f fd ps sp' :=
 ⟨fun vs H Q E q => F.len vs H Q E (h _ _ _ _ q),fun A outer s H args us vs Q E hr he hb hv hs => F.run A outer s H args us vs Q E hr he hb hv (h _ _ _ _ hs)⟩
theorem Env0.make {P : Program} {w : World} {K : PySem.W.Frag} {mg : Str -> Option Value} {base : Heap} {A : Around} {outer : List Env} {s : Shared} {H : Hp} (e : Env0 P w K mg base A outer s H) (C : Addr) (us : List Value) (kw : List (Str × Value)) :
  Env0 P w K mg base (A.under (.builtin "type.__call__" ⟨.ref C :: us,kw⟩)) outer s H:=⟨by first | exact e.frames | (simpa [Around.under,Code.envs,Code.isFrame,pushEnvs] using e.frames),e.mod,e.bs,e.bsz,e.funs,e.frf,e.hok,e.bare⟩
section
variable {X : Cx} {pins : List (Addr × Obj)} {σ : St} {H : Hp} {s s' : Shared}
theorem Inv.env0 (I : Inv X pins σ H s) : Env0 X.prog X.w X.K X.mg X.base X.A X.stack s H:=
 ⟨I.ok.frames,I.ok.mod,I.bs,Nat.le_trans I.ok.bsz I.sz,I.stack,I.stkFree,I.hok,I.bare⟩
theorem Inv.after {Q : VK} {u : Value} (I : Inv X pins σ H s) (h : CE X.stack X.prog X.w H s Q u s') : EP X pins σ Q u s' := by
 obtain ⟨v,H',os,bare,un,hok,r,q⟩:=h
 obtain ⟨hh,g,d,t,os'⟩:=s'
 obtain rfl : os' = s.os:=os
 exact ⟨v,H',I.call (h' := hh) (g' := g) (d' := d) (t' := t) (ch:=[]) un hok bare (fun b z => absurd z (by simp)),r,q⟩
end
def uI (sp : Sp) (dvs : List V) (E : XK) (t : TA) : TE:=fun σ H Q => t σ H fun vs H1 => sp (vs ++ dvs) H1 Q E
def CZ (C : Addr) (m : Str) (sp : Sp) (dvs : List V) (E : XK) (ta : TE) (t : TA) : TE:=fun σ H Q => ta σ H fun x H1 => ∃ a dx fs,x = .ref a /\ H1 a = some (.ins C dx fs) /\ fs.lookup m = none /\
 t σ H1 fun vs H2 => sp (x :: (vs ++ dvs)) H2 Q E
def Jc (C : Addr) (sp : Sp) (dvs : List V) (E : XK) (t : TA) : TE:=fun σ H Q => t σ H fun vs H1 => ∀ x dx,H1 x = none -> H1 dx = none -> dx ≠ x ->
 sp (.ref x :: (vs ++ dvs)) (upd (upd H1 dx (.own x)) x (.ins C dx [])) (fun v H2 => v = .non /\ Q (.ref x) H2) E
def Binds (K : PySem.W.Frag) (fd : FuncData) (ps : List Str) (ds : List Value) : Prop:=
 ∀ (s : Shared) (us : List Value),K.In s.heap -> (us ++ ds).length = ps.length -> BindsTo s fd ⟨us,[]⟩ (ps.zip (us ++ ds))
theorem Binds.all {K : PySem.W.Frag} {fd : FuncData} {ps : List Str} (h : ∀ us : List Value,us.length = ps.length -> bindArgs fd ⟨us,[]⟩ = pure (ps.zip us)) : Binds K fd ps []:=fun s us _ hl => by
 rw [List.append_nil] at hl ⊢
 exact .of_eq (h us hl)
def Passes (CX : CXT) (X : Cx) (E : XK) : Prop := ∀ (pins : List (Addr × Obj)) (σ : St) (H : Hp) (s : Shared) (e : Value) (s' : Shared),Inv X pins σ H s -> CX X.stack H s E e s' -> X.xe e s'
section
variable {X : Cx} {CX : CXT} {k : Nat} {f C : Addr} {fd : FuncData} {ps : List Str} {sp : Sp} {dvs : List V} {ds : List Value} {E : XK} {x m : Str} {p pos apos : Pos} {e o : Expr} {es : List Expr} {ta : TE} {t : TA}
theorem Bx {pins : List (Addr × Obj)} {σ : St} {H : Hp} {s : Shared} {Q : VK} {us : List Value} {vs : List V} (F : FnOk X.prog X.w X.K X.mg X.base CX k f fd ps sp) (hr : Room k X.A) (hb : Binds X.K fd ps ds) (hd : Vals dvs ds) (hx : Passes CX X E)
  (I : Inv X pins σ H s) (r : Vals vs us) (h : sp (vs ++ dvs) H Q E) : wpAny (model X.prog X.w) X.A (call (.ref f) us) (EP X pins σ Q) X.xe s:=by
 have r2 : Vals (vs ++ dvs) (us ++ ds):=r.append hd
 have hl : (us ++ ds).length = ps.length:=by rw [<- r2.length]; exact F.len _ _ _ _ h
 refine wpAny_call (codeAny_mono (F.run X.A X.stack s H ⟨us,[]⟩ (us ++ ds) (vs ++ dvs) Q E hr I.env0 (hb s us I.kIn hl) r2 h) fun r s' hq => ?_)
 cases r with
 | error e => exact hx pins σ H s e s' I hq
 | ok fl =>
  cases fl with
  | ret u => exact I.after hq
  | next => exact False.elim hq
  | brk => exact False.elim hq
  | cont => exact False.elim hq
theorem Bl (F : FnOk X.prog X.w X.K X.mg X.base CX k f fd ps sp) (hr : Room k X.A) (hg : Gl X x) (hm : X.mg x = some (.ref f)) (hk : PySem.W.keepIn X.K (.ref f) = true) (hb : Binds X.K fd ps ds) (hd : Vals dvs ds) (hx : Passes CX X E)
  (ha : PA X (e :: es) t) (hdb : (x == ("__debug__" : Str)) = false:=by decide) (he : starEach (e :: es) X.env = (false,eval e X.env) :: starEach es X.env:=by rfl) (hpl : (backTo pos (starEach es X.env)).any (·.1) = false:=by rfl) :
  PE X (.Call (.Name x p) (e :: es) [] pos) (uI sp dvs E t):=by
 intro pins s σ H Q I h
 refine wpAny_Call_Name_kw (jN I hg hm ?_ hdb)
 refine PySem.W.callWith_K (h₀:=X.base) I.ok.mod.kin hk (thn (ha pos pins s σ H _ I h) fun us s1 ⟨vs,H1,I1,r,q⟩ => ⟨I1.kIn,?_⟩) he hpl
 exact Bx F hr hb hd hx I1 r q
theorem GZ (F : FnOk X.prog X.w X.K X.mg X.base CX k f fd ps sp) (hr : Room k X.A) (hg : Gl X x) (hm : X.mg x = some (.ref f)) (hk : PySem.W.keepIn X.K (.ref f) = true) (hb : Binds X.K fd ps ds) (hd : Vals dvs ds) (hx : Passes CX X E)
  (hdb : (x == ("__debug__" : Str)) = false:=by decide) : PE X (.Call (.Name x p) [] [] pos) (uI sp dvs E zo):=by
 intro pins s σ H Q I h
 refine wpAny_Call_Name_kw (jN I hg hm ?_ hdb)
 exact PySem.W.callWith_K0 I.kIn hk (Bx (us:=[]) F hr hb hd hx I .nil h)
theorem ER {pl : Sem Bool} (he : PE X o ta) (c : Cls X.K C) (hm : Meth X.K C m f) (F : FnOk X.prog X.w X.K X.mg X.base CX k f fd ps sp) (hr : Room k X.A) (hb : Binds X.K fd ps ds) (hd : Vals dvs ds) (hx : Passes CX X E) (ha : PA X (e :: es) t)
  (hst : starEach (e :: es) X.env = (false,eval e X.env) :: starEach es X.env:=by rfl) (hpl : (backTo pos (starEach es X.env)).any (·.1) = false:=by rfl)
  (ht : eval (.Call (.Attribute o m apos) (e :: es) [] pos) X.env = (do
   let ov <- eval o X.env
   standAt apos.atName
   let (f,first) <- holding [ov] (getMethod ov m pl)
   callWith pos f first (backTo pos (starEach (e :: es) X.env)) (backToKw pos (keywordEach [] X.env))):=by rfl) :
  PE X (.Call (.Attribute o m apos) (e :: es) [] pos) (CZ C m sp dvs E ta t):=by
 intro pins s σ H Q I h
 refine PySem.W.methodCall_KW (pl:=pl) (thn (he pins s σ H _ I h) fun u s1 ⟨x,H1,I1,rx,a,dx,fs,ex,ea,l,q⟩ => ?_) ht
 subst ex
 obtain rfl : u = Value.ref a:=rx
 refine xj I1 ea c hm l ?_
 refine PySem.W.callWith_K (first:=[.ref a]) (h₀:=X.base) I.ok.mod.kin hm.kp (thn (ha pos pins s1 σ H1 _ I1 q) fun us s2 ⟨vs,H2,I2,r,q2⟩ => ⟨I2.kIn,?_⟩) hst hpl
 exact Bx (us:=.ref a :: us) (vs:=.ref a :: vs) F hr hb hd hx I2 (.cons rfl r) q2
theorem G5 {pl : Sem Bool} (he : PE X o ta) (c : Cls X.K C) (hm : Meth X.K C m f) (F : FnOk X.prog X.w X.K X.mg X.base CX k f fd ps sp) (hr : Room k X.A) (hb : Binds X.K fd ps ds) (hd : Vals dvs ds) (hx : Passes CX X E)
  (ht : eval (.Call (.Attribute o m apos) [] [] pos) X.env = (do
   let ov <- eval o X.env
   standAt apos.atName
   let (f,first) <- holding [ov] (getMethod ov m pl)
   callWith pos f first (backTo pos (starEach [] X.env)) (backToKw pos (keywordEach [] X.env))):=by rfl) :
  PE X (.Call (.Attribute o m apos) [] [] pos) (CZ C m sp dvs E ta zo):=by
 intro pins s σ H Q I h
 refine PySem.W.methodCall_KW (pl:=pl) (thn (he pins s σ H _ I h) fun u s1 ⟨x,H1,I1,rx,a,dx,fs,ex,ea,l,q⟩ => ?_) ht
 subst ex
 obtain rfl : u = Value.ref a:=rx
 refine xj I1 ea c hm l ?_
 exact PySem.W.callWith_K0 (first:=[.ref a]) I1.kIn hm.kp (Bx (us:=[.ref a]) (vs:=[.ref a]) F hr hb hd hx I1 (.cons rfl .nil) q)
structure Mk (K : PySem.W.Frag) (C f : Addr) : Prop where
 makes : PySem.W.makesIn K C = true
 init : PySem.W.findIn K (.ref C) "__init__" = some (some (.ref f))
 fn : PySem.W.isFn K (.ref f) = true
 kp : PySem.W.keepIn K (.ref C) = true
theorem Hg {pins : List (Addr × Obj)} {σ : St} {H : Hp} {s : Shared} {Q : VK} {us : List Value} {vs : List V} (M : Mk X.K C f) (F : FnOk X.prog X.w X.K X.mg X.base CX k f fd ps sp) (hr : Room (k + 1) X.A) (hb : Binds X.K fd ps ds) (hd : Vals dvs ds)
  (hx : Passes CX X E) (I : Inv X pins σ H s) (r : Vals vs us)
  (h : ∀ x dx,H x = none -> H dx = none -> dx ≠ x -> sp (.ref x :: (vs ++ dvs)) (upd (upd H dx (.own x)) x (.ins C dx [])) (fun v H2 => v = .non /\ Q (.ref x) H2) E) :
  wpAny (model X.prog X.w) X.A (call (.ref C) us) (EP X pins σ Q) X.xe s:=by
 have hq:=h (s.heap.objs.size + 1) s.heap.objs.size (I.hok.fresh (Nat.le_succ _)) (I.hok.fresh (Nat.le_refl _)) (Nat.ne_of_lt (Nat.lt_succ_self _))
 have I2:=Inv.made (C:=C) I
 have r2 : Vals (V.ref (s.heap.objs.size + 1) :: (vs ++ dvs)) (Value.ref (s.heap.objs.size + 1) :: (us ++ ds)):=.cons rfl (r.append hd)
 have hl : (Value.ref (s.heap.objs.size + 1) :: us ++ ds).length = ps.length:=by
  have e:=r2.length
  rw [F.len _ _ _ _ hq] at e
  exact e.symm
 refine wpAny_call (GB (f:=f) I.kIn M.makes M.init (beq_iff_eq.mp M.fn) (codeAny_mono (F.run _ X.stack _ _ ⟨Value.ref (s.heap.objs.size + 1) :: us,[]⟩ (Value.ref (s.heap.objs.size + 1) :: (us ++ ds)) _ _ E (hr.make C us [])
  (I2.env0.make C us []) (hb _ (Value.ref (s.heap.objs.size + 1) :: us) I2.kIn hl) r2 hq) fun r s' hq' => ?_))
 cases r with
 | error e => exact hx pins σ _ _ e s' I2 hq'
 | ok fl =>
  cases fl with
  | ret u =>
   obtain ⟨v,H',I3,rv,ev,q3⟩:=I2.after hq'
   subst ev
   exact ⟨rv,⟨V.ref (s.heap.objs.size + 1),H',I3,rfl,q3⟩⟩
  | next => exact False.elim hq'
  | brk => exact False.elim hq'
  | cont => exact False.elim hq'
theorem IA (M : Mk X.K C f) (F : FnOk X.prog X.w X.K X.mg X.base CX k f fd ps sp) (hr : Room (k + 1) X.A) (hg : Gl X x) (hm : X.mg x = some (.ref C)) (hb : Binds X.K fd ps ds) (hd : Vals dvs ds) (hx : Passes CX X E)
  (ha : PA X (e :: es) t) (hdb : (x == ("__debug__" : Str)) = false:=by decide) (he : starEach (e :: es) X.env = (false,eval e X.env) :: starEach es X.env:=by rfl) (hpl : (backTo pos (starEach es X.env)).any (·.1) = false:=by rfl) :
  PE X (.Call (.Name x p) (e :: es) [] pos) (Jc C sp dvs E t):=by
 intro pins s σ H Q I h
 refine wpAny_Call_Name_kw (jN I hg hm ?_ hdb)
 refine PySem.W.callWith_K (h₀:=X.base) I.ok.mod.kin M.kp (thn (ha pos pins s σ H _ I h) fun us s1 ⟨vs,H1,I1,r,q⟩ => ⟨I1.kIn,?_⟩) he hpl
 exact Hg M F hr hb hd hx I1 r q
end
section
variable {X : Cx} {CX : CXT} {k : Nat} {f C : Addr} {fd : FuncData} {ps ks : List Str} {sp : Sp} {E : XK} {x m : Str} {p pos apos kpos : Pos} {e o : Expr} {es : List Expr} {kws : List Keyword} {te ta : TE} {t tk : TA} {nm : Option Str}
structure KBinds (K : PySem.W.Frag) (fd : FuncData) (ps ks : List Str) (g : List Value -> List Value -> List Value) (gV : List V -> List V -> List V) : Prop where
 to : ∀ (s : Shared) (us ws : List Value),K.In s.heap -> (g us ws).length = ps.length -> BindsTo s fd ⟨us,ks.zip ws⟩ (ps.zip (g us ws))
 rel : ∀ {vs : List V} {us : List Value} {zs : List V} {ws : List Value},Vals vs us -> Vals zs ws -> Vals (gV vs zs) (g us ws)
variable {g : List Value -> List Value -> List Value} {gV : List V -> List V -> List V}
end
structure FnScope (N P : List Str) (sc : Scope) : Prop where
 kind : sc.kind = .function
 co : sc.isCoroutine = false
 gen : sc.isGenerator = false
 nd : N.Nodup
 pre : N.take P.length = P
 par : ∀ x ∈ P,sc.names.lookup x = some .local \/ sc.names.lookup x = some .cell
 nofree : ∀ y ∈ sc.names,y.2 ≠ .free
theorem zw {kindOf : Str -> Option NameKind} {x : Str} : ∀ {binds : List (Str × Value)} {m : Str -> Option Value},(∀ v,(x,v) ∉ binds) -> bindL kindOf binds m x = m x
 | [],_,_ => rfl
 | (n,v) :: r,m,h => by
  unfold bindL
  rw [zw fun w hw => h w (List.mem_cons_of_mem _ hw)]
  split
  ·have : x ≠ n:=by rintro rfl; exact h v List.mem_cons_self
   simp [this]
  ·rfl
theorem zu {kindOf : Str -> Option NameKind} {x : Str} : ∀ {binds : List (Str × Value)} {m : Str -> Option Value},(∀ v,(x,v) ∉ binds) -> bindC kindOf binds m x = m x
 | [],_,_ => rfl
 | (n,v) :: r,m,h => by
  unfold bindC
  rw [zu fun w hw => h w (List.mem_cons_of_mem _ hw)]
  split
  ·rfl
  ·have : x ≠ n:=by rintro rfl; exact h v List.mem_cons_self
   simp [this]
theorem zv {kindOf : Str -> Option NameKind} {x : Str} {v : Value} : ∀ {P : List Str} {vs : List Value} {i : Nat} {m : Str -> Option Value},P.Nodup -> P[i]? = some x -> vs[i]? = some v -> kindOf x = some .local ->
  bindL kindOf (P.zip vs) m x = some v
 | [],_,_,_,_,h,_,_ => by simp at h
 | _ :: _,[],_,_,_,_,h,_ => by simp at h
 | p :: P,w :: vs,0,m,nd,h1,h2,hk => by
  simp at h1 h2; subst h1; subst h2
  show bindL kindOf ((p,w) :: P.zip vs) m p = _
  unfold bindL
  rw [zw fun v hv => (List.nodup_cons.mp nd).1 (List.of_mem_zip hv).1,if_pos hk]
  simp
 | p :: P,w :: vs,i + 1,m,nd,h1,h2,hk => by
  show bindL kindOf ((p,w) :: P.zip vs) m x = _
  unfold bindL
  exact zv (i:=i) (List.nodup_cons.mp nd).2 (by simpa using h1) (by simpa using h2) hk
theorem zt {kindOf : Str -> Option NameKind} {x : Str} {v : Value} : ∀ {P : List Str} {vs : List Value} {i : Nat} {m : Str -> Option Value},P.Nodup -> P[i]? = some x -> vs[i]? = some v -> kindOf x ≠ some .local ->
  bindC kindOf (P.zip vs) m x = some v
 | [],_,_,_,_,h,_,_ => by simp at h
 | _ :: _,[],_,_,_,_,h,_ => by simp at h
 | p :: P,w :: vs,0,m,nd,h1,h2,hk => by
  simp at h1 h2; subst h1; subst h2
  show bindC kindOf ((p,w) :: P.zip vs) m p = _
  unfold bindC
  rw [zu fun v hv => (List.nodup_cons.mp nd).1 (List.of_mem_zip hv).1,if_neg hk]
  simp
 | p :: P,w :: vs,i + 1,m,nd,h1,h2,hk => by
  show bindC kindOf ((p,w) :: P.zip vs) m x = _
  unfold bindC
  exact zt (i:=i) (List.nodup_cons.mp nd).2 (by simpa using h1) (by simpa using h2) hk
def start (N : List Str) (vs : List V) : St:=vs.map some ++ List.replicate (N.length - vs.length) none
def wU (CX : CXT) (P : Program) (w : World) (K : PySem.W.Frag) (mg : Str -> Option Value) (base : Heap) (N : List Str) (qual : Str) (scope : Scope) (f : Addr) (cd : Value) (A : Around) (outer : List Env) (s : Shared) (H : Hp) (E : XK) : Cx where
 prog:=P
 w:=w
 K:=K
 mg:=mg
 base:=base
 A:=A.deeper (envOfC qual scope s.heap.objs.size f cd)
 N:=N
 s₀:=s
 H₀:=H
 env:=envOfC qual scope s.heap.objs.size f cd
 outer:=outer
 stack:=envOfC qual scope s.heap.objs.size f cd :: outer
 ex:=[]
 calm:=true
 fn:=fun _ => true
 pn:=[]
 xe:=fun e s' => wpAny (model P w) (A.deeper (envOfC qual scope s.heap.objs.size f cd)) (leaving (envOfC qual scope s.heap.objs.size f cd) e) (fun _ s'' => CX outer H s E e s'') (fun e' s'' => CX outer H s E e' s'') s'
theorem B0 {sc : Scope} {n : Nat} {x : Str} (h : sc.names.lookup x = some .cell) : ∃ c,(cellsFrom n sc.names []).lookup x = some c:=by
 have q:=PySem.W.cellsFrom_some sc.names n [] (.inl h)
 exact Option.isSome_iff_exists.mp q
theorem zK {CX : CXT} {P : Program} {w : World} {K : PySem.W.Frag} {mg : Str -> Option Value} {base : Heap} {N ps : List Str} {qual : Str} {scope : Scope} {f : Addr} {cd : Value} {A : Around} {outer : List Env} {s s1 : Shared} {H : Hp} {E : XK} {us : List Value} {vs : List V}
  (S : FnScope N ps scope) (hd : A.handled = none) (e0 : Env0 P w K mg base A outer s H) (hl : vs.length = ps.length) (r : Vals vs us)
  (x : InCallC s s.heap.objs.size (bindL (envOfC qual scope s.heap.objs.size f cd).kindOf (ps.zip us) fun _ => none) (cellsFrom (s.heap.objs.size + 1) scope.names []) (bindC (envOfC qual scope s.heap.objs.size f cd).kindOf (ps.zip us) fun _ => none) s1) :
  Inv (wU CX P w K mg base N qual scope f cd A outer s H E) [] (start N vs) H s1:=by
 have hpl : ps.length <= N.length:=by have:=congrArg List.length S.pre; rw [List.length_take] at this; omega
 obtain ⟨h1,tk,rfl,hk⟩:=x.done
 have noA : ∀ b : Addr,b ∉ (wU CX P w K mg base N qual scope f cd A outer s H E).ex:=fun b z => absurd (show b ∈ ([] : List Addr) from z) (by simp)
 refine ⟨⟨e0.mod,S.kind,rfl,rfl,Nat.le_refl _,fun y z c h1 h2 => ?_,fun y hy => ?_,fun y c _ h => ?_,fun _ => hd,Around.frames_deeper e0.frames,.inr ⟨rfl,rfl⟩,fun b z => absurd z (noA b),e0.bs,e0.bsz,fun b _ _ => noA b,fun b z => absurd z (noA b),e0.funs,e0.frf⟩,
  rfl,e0.bare,Un.kept hk,⟨_,x.toInCall.ns,fun i y v h1 h2 h3 => ?_⟩,fun y c h => ⟨_,x.cell y c h⟩,e0.hok.fresh (Nat.le_refl _),fun y c h => ?_,fun p hp => absurd (show p ∈ ([] : List (Addr × Obj)) from hp) (by simp),e0.hok.kept hk,?_⟩
 ·exact name_of_addr x.apart (PySem.mem_of_lookup h1) (PySem.mem_of_lookup h2)
 ·have hy : scope.names.lookup y = some .cell \/ scope.names.lookup y = some .free:=hy
  rcases hy with hy | hy
  ·exact B0 hy
  ·exact absurd rfl (S.nofree _ (PySem.mem_of_lookup hy))
 ·exact Nat.le_of_lt (x.above y c (PySem.mem_of_lookup h))
 ·have hi : i < vs.length:=by
   unfold start at h2
   by_cases hi : i < vs.length
   ·exact hi
   ·rw [List.getElem?_append_right (by simpa using hi)] at h2
    rw [List.getElem?_replicate] at h2
    split at h2 <;> cases h2
  have ha : vs[i]? = some v:=by
   unfold start at h2
   rw [List.getElem?_append_left (by simpa using hi),List.getElem?_map] at h2
   cases e : vs[i]? with
   | none => rw [e] at h2; cases h2
   | some a => rw [e] at h2; cases h2; rfl
  obtain ⟨u,hu,rv⟩:=r.get ha
  have hp : ps[i]? = some y:=by
   rw [<- S.pre,List.getElem?_take_of_lt (by omega)]; exact h1
  have ndP : ps.Nodup:=by rw [<- S.pre]; exact S.nd.sublist (List.take_sublist _ _)
  refine ⟨u,rv,?_⟩
  rcases S.par y (List.mem_of_getElem? hp) with k | k
  ·exact .inl ⟨k,zv ndP hp hu k⟩
  ·obtain ⟨c,e⟩:=B0 (n:=s.heap.objs.size + 1) k
   refine .inr ⟨.inl k,c,e,?_⟩
   have q:=x.cell y c e
   rw [zt ndP hp hu (by show scope.names.lookup y ≠ _; rw [k]; decide)] at q
   exact q
 ·exact e0.hok.fresh (Nat.le_of_lt (x.above y c (PySem.mem_of_lookup h)))
 ·unfold start
  show _ = N.length
  rw [List.length_append,List.length_map,List.length_replicate]
  omega
theorem IY {CX : CXT} {P : Program} {w : World} {K : PySem.W.Frag} {mg : Str -> Option Value} {base : Heap} {k : Nat} {f : Addr} {name qual : Str} {params : Arguments} {body : List Stmt} {scope : Scope} {dV kV doc pm cdv ct oc : Value} {an od : Option Addr}
  {osl : Array (Option Value)} {N ps : List Str} {sp : Sp} (lk : K.lookup f = some ⟨oc,od,.func (PySem.W.fnOf name qual params body scope dV kV doc pm an cdv ct),osl⟩) (hcd : PySem.W.codeIn K cdv qual = true) (S : FnScope N ps scope)
  (len : ∀ vs H Q E,sp vs H Q E -> vs.length = ps.length)
  (hbody : ∀ (A : Around) (outer : List Env) (s : Shared) (H : Hp) (vs : List V) (Q : VK) (E : XK),Room k (A.deeper (envOfC qual scope s.heap.objs.size f cdv)) -> sp vs H Q E ->
   ∃ t,PSs (wU CX P w K mg base N qual scope f cdv A outer s H E) body t /\ t { nx:=fun _ H' => Q .non H',rt:=Q } (start N vs) H) :
  FnOk P w K mg base CX (k + 1) f (PySem.W.fnOf name qual params body scope dV kV doc pm an cdv ct) ps sp:=by
 refine ⟨len,fun A outer s H args us vs Q E hr e0 hb r hsp => ?_⟩
 have hl:=len _ _ _ _ hsp
 have KX : K.In s.heap:=e0.mod.kin.keeps fun b o e => (e0.bs b o e).1
 have lim : s.heap.NoLimit:=e0.mod.nolimit.keeps fun b o e => (e0.bs b o e).1
 have hkind : ∀ y ∈ ps.zip us,scope.names.lookup y.1 = some .local \/ (scope.names.lookup y.1 = some .cell /\ ((cellsFrom (s.heap.objs.size + 1) scope.names []).lookup y.1).isSome = true):=fun ⟨n,v⟩ hy => by
  rcases S.par n (List.of_mem_zip hy).1 with q | q
  ·exact .inl q
  ·exact .inr ⟨q,PySem.W.cellsFrom_some _ _ _ (.inl q)⟩
 refine codeAny_call_function hr.depth (KX _ _ lk) rfl S.co S.gen rfl (PySem.W.codeRec_of KX hcd) (hb _ _ _ _ ?_)
 refine wpAny_newFunctionEnv_cells S.kind hkind fun env he s1 x => ?_
 subst he
 refine ⟨lim.keeps x.toInCall.keep,codeAny_func ?_⟩
 obtain ⟨t,ht,hq⟩:=hbody A outer s H vs Q E (hr.deeper _) hsp
 have I : Inv (wU CX P w K mg base N qual scope f cdv A outer s H E) [] (start N vs) H s1:=zK S hr.hd e0 hl r x
 refine wpAny_mono (ht [] s1 (start N vs) H _ I hq) (fun fl s' hs => ?_) fun e s' hs => hs
 have fin : ∀ {σ' : St} {H' : Hp} {v : V} {u : Value},Inv (wU CX P w K mg base N qual scope f cdv A outer s H E) [] σ' H' s' -> RelV v u -> Q v H' -> CE outer P w H s Q u s' :=
  fun {σ' H' v u} J rv q => ⟨v,H',J.os,J.bare,J.base,J.hok,rv,q⟩
 cases fl with
 | ret u =>
  obtain ⟨v,σ',H',J,rv,q⟩:=hs
  exact fin J rv q
 | next =>
  obtain ⟨σ',H',J,q⟩:=hs
  exact fin (v:=V.non) (u:=Value.none) J rfl q
 | brk =>
  obtain ⟨_,_,_,q⟩:=hs
  exact False.elim q
 | cont =>
  obtain ⟨_,_,_,q⟩:=hs
  exact False.elim q
end L2
namespace L2
open PySem PySem.Spec PyProof.Rows
section
variable {X : Cx} {x : Str} {p pos : Pos} {e : Expr} {es : List Expr} {t : TA} {id T : String} {r : List V -> Hp -> VK -> Prop}
def tCB (r : List V -> Hp -> VK -> Prop) (t : TA) : TE:=fun σ H Q => t σ H fun vs H1 => r vs H1 Q
theorem aD (hc : fX X (.builtin id) r) (hg : Gl X x) (hm : X.mg x = none) (hv : bootBuiltins x = some (.builtin id)) (ha : PA X (e :: es) t) (hn : x ≠ "__name__" := by decide) (hdb : (x == ("__debug__" : Str)) = false:=by decide)
  (he : starEach (e :: es) X.env = (false,eval e X.env) :: starEach es X.env:=by rfl) (hpl : (backTo pos (starEach es X.env)).any (·.1) = false:=by rfl) : PE X (.Call (.Name x p) (e :: es) [] pos) (tCB r t):=by
 intro pins s σ H Q I h
 refine wpAny_Call_Name_kw (AR I hg hm hv ?_ hn hdb)
 exact PyProof.Rows.callWith_builtin1 (thn (ha pos pins s σ H _ I h) fun us s1 ⟨vs,H1,I1,r1,q1⟩ => hc pins s1 σ H1 vs us Q I1 r1 q1) he hpl
theorem bD (hc : fX X (.type T) r) (hg : Gl X x) (hm : X.mg x = none) (hv : bootBuiltins x = some (.type T)) (ha : PA X (e :: es) t) (hn : x ≠ "__name__" := by decide) (hdb : (x == ("__debug__" : Str)) = false:=by decide)
  (he : starEach (e :: es) X.env = (false,eval e X.env) :: starEach es X.env:=by rfl) (hpl : (backTo pos (starEach es X.env)).any (·.1) = false:=by rfl) : PE X (.Call (.Name x p) (e :: es) [] pos) (tCB r t):=by
 intro pins s σ H Q I h
 refine wpAny_Call_Name_kw (AR I hg hm hv ?_ hn hdb)
 exact PyProof.Rows.callWith_type1 (thn (ha pos pins s σ H _ I h) fun us s1 ⟨vs,H1,I1,r1,q1⟩ => hc pins s1 σ H1 vs us Q I1 r1 q1) he hpl
end
end L2
namespace HT
open PySem PyProof.Rows
section
open PySem.SeqAt
open PySem.AutoSeq1 (wpAny_loadPart')
open PySem.MeetsSeq PySem.MeetsSeq2 PySem.MeetsSeq3
end
section
variable {prog : Program} {w : World} {A : Around} {E : Value -> Shared -> Prop} {s : Shared}
theorem cat_tup {t b : Addr} {vs ws : List Value} {Q : Value -> Shared -> Prop} (ht : IsTup s.heap t vs.toArray) (hb : IsTup s.heap b ws.toArray) (hv : vs ≠ [])
  (h1 : ws = [] -> Q (.ref t) s) (h2 : ws ≠ [] -> Q (.ref s.heap.objs.size) { s with heap:=s.heap.push { cls:=.type "tuple",data:=.seq (vs ++ ws).toArray } })
  (hsz : vs.length + ws.length <= sizeLine) : wpAny (model prog w) A (binaryOp .Add (.ref t) (.ref b)) Q E s:=by
 obtain ⟨⟨cls,dd,data,sl⟩,ho,hc,n,hd⟩:=id ht
 obtain ⟨⟨cls2,dd2,data2,sl2⟩,ho2,hc2,n2,hd2⟩:=id hb
 simp only at hc hd hc2 hd2
 subst hc hd hc2 hd2
 have e : vs.toArray ++ ws.toArray = (vs ++ ws).toArray:=by simp
 by_cases hw : ws = []
 ·exact concat_meets ⟨_,ho,rfl⟩ ⟨_,ho2,rfl⟩ noFill_tuple_add seq_tuple_add PySem.F.slot_tuple_add PySem.F.entry_tuple_add (PySem.F.args_tuple_add_2 _ _)
   (tuple_addW1 t b vs.toArray ws.toArray n n2 dd dd2 sl sl2 (by simpa using hv) (by simp [hw])) ⟨ho,ho2,h1 hw⟩
 ·refine concat_meets ⟨_,ho,rfl⟩ ⟨_,ho2,rfl⟩ noFill_tuple_add seq_tuple_add PySem.F.slot_tuple_add PySem.F.entry_tuple_add (PySem.F.args_tuple_add_2 _ _)
   (tuple_addW2 t b vs.toArray ws.toArray n n2 dd dd2 sl sl2 (by simpa using hv) (by simpa using hw) (by rw [List.size_toArray,List.size_toArray]; exact hsz)) ⟨ho,ho2,?_⟩
  rw [e]
  exact h2 hw
end
end HT
namespace L2
open PySem PySem.Spec PyProof.Rows
abbrev TO:=St -> Hp -> (Option Int -> Hp -> Prop) -> Prop
def PO (X : Cx) (e : Option Expr) (t : TO) : Prop:=
 ∀ (pins : List (Addr × Obj)) (s : Shared) (σ : St) (H : Hp) (Q : Option Int -> Hp -> Prop),Inv X pins σ H s -> t σ H Q ->
  wpAny (model X.prog X.w) X.A (evalPart e X.env) (fun u s' => ∃ o H',Inv X pins σ H' s' /\ IsPart u o /\ Q o H') X.xe s
def IV : TO:=fun _ H Q => Q none H
def KY (t : TE) : TO:=fun σ H Q => t σ H fun x H1 => ∃ i,x = .int i /\ Q (some i) H1
section
variable {X : Cx} {e : Expr} {te : TE} {lo hi : Option Expr} {tl th : TO} {pos p2 : Pos}
theorem ow : PO X none IV:=by
 intro pins s σ H Q I h
 rw [evalPart_none]
 exact wpAny_pure ⟨none,H,I,.none,h⟩
theorem jQ (h : PE X e te) : PO X (some e) (KY te):=by
 intro pins s σ H Q I hw
 rw [evalPart_some]
 refine thn (h pins s σ H _ I hw) fun u s1 ⟨x,H1,I1,r1,q1⟩ => ?_
 obtain ⟨i,rfl,q⟩:=q1
 obtain ⟨t,rfl⟩:=r1
 exact ⟨some i,H1,I1,.int i t,q⟩
def SlR (X : Cx) (r : V -> Option Int -> Option Int -> Hp -> VK -> Prop) : Prop:=
 ∀ (pins : List (Addr × Obj)) (s : Shared) (σ : St) (H : Hp) (x : V) (v vl vu : Value) (lo hi : Option Int) (sl : Addr) (Q : VK),Inv X pins σ H s -> RelV x v -> s.heap.IsSliceOf sl vl vu .none -> IsPart vl lo -> IsPart vu hi -> r x lo hi H Q ->
  ∃ T id,typeLookup (.type T) "__getitem__" = pure (some (.builtin id)) /\ s.TypeIs v T /\ wpAny (model X.prog X.w) X.A (getItem v (.ref sl)) (EP X pins σ Q) X.xe s
theorem SlR.or {r r' : V -> Option Int -> Option Int -> Hp -> VK -> Prop} (h : SlR X r) (h' : SlR X r') : SlR X (fun x lo hi H Q => r x lo hi H Q \/ r' x lo hi H Q):=by
 intro pins s σ H x v vl vu lo hi sl Q I rx hs pl pu q
 rcases q with q | q
 ·exact h pins s σ H x v vl vu lo hi sl Q I rx hs pl pu q
 ·exact h' pins s σ H x v vl vu lo hi sl Q I rx hs pl pu q
def tSl (r : V -> Option Int -> Option Int -> Hp -> VK -> Prop) (te : TE) (tl th : TO) : TE:=fun σ H Q => te σ H fun x H1 => tl σ H1 fun l H2 => th σ H2 fun u H3 => r x l u H3 Q
theorem jB {r : V -> Option Int -> Option Int -> Hp -> VK -> Prop} (hr : SlR X r) (he : PE X e te) (hl : PO X lo tl) (hu : PO X hi th) : PE X (.Subscript e (.Slice lo hi none p2) pos) (tSl r te tl th):=by
 intro pins s σ H Q I h
 refine Subscript_ (thn (he pins s σ H _ I h) fun v s1 ⟨x,H1,I1,r1,q1⟩ => ?_)
 refine wpAny_Slice (thn (hl pins s1 σ H1 _ I1 q1) fun vl s2 ⟨l,H2,I2,pl,q2⟩ => thn (hu pins s2 σ H2 _ I2 q2) fun vu s3 ⟨u,H3,I3,pu,q3⟩ => ?_)
 rw [evalPart_none]
 refine wpAny_pure ?_
 have I4 : Inv X pins σ H3 { s3 with heap:=s3.heap.push { cls:=.type "slice",data:=.fields #[vl,vu,.none] } }:=I3.kept (t' := s3.toks) fun b ob q => Heap.get?_push_of_some _ q
 obtain ⟨T,id,hT,ht,hg⟩:=hr pins { s3 with heap:=s3.heap.push { cls:=.type "slice",data:=.fields #[vl,vu,.none] } } σ H3 x v vl vu l u s3.heap.objs.size Q I4 r1 (Heap.IsSliceOf.new ..) pl pu q3
 show wpAny (model X.prog X.w) X.A (subscriptTail e (.Slice lo hi none p2) v (.ref s3.heap.objs.size)) (EP X pins σ Q) X.xe { s3 with heap:=s3.heap.push { cls:=.type "slice",data:=.fields #[vl,vu,.none] } }
 exact tail_any (ops:=[.ref s3.heap.objs.size,v]) ht hT hg (by with_unfolding_all rfl)
def KA (K : PySem.W.Frag) : R2:=fun x y H Q => ∃ a b xs ys,x = .ref a /\ y = .ref b /\ SqT K H a xs /\ SqT K H b ys /\ xs ≠ [] /\ xs.length + ys.length <= sizeLine /\
 (ys = [] -> Q (.ref a) H) /\ (ys ≠ [] -> ∀ p,H p = none -> Q (.ref p) (upd H p (.tup (xs ++ ys))))
theorem Vals.nil_iff {xs : List V} {us : List Value} (r : Vals xs us) : us = [] ↔ xs = []:=by
 cases r with
 | nil => simp
 | cons _ _ => simp
theorem Iy : OpR X (binaryOp .Add) (KA X.K):=by
 intro pins s σ H x y v u Q I rx ry h
 obtain ⟨a,b,xs,ys,rfl,rfl,ha,hb,hx,hz,q1,q2⟩:=h
 cases rx
 cases ry
 obtain ⟨its,r1,p1,_⟩:=I.tuple ha
 obtain ⟨its2,r2,p2,_⟩:=I.tuple hb
 refine HT.cat_tup p1 p2 (fun z => hx (r1.nil_iff.mp z)) (fun z => ⟨.ref a,H,I,rfl,q1 (r2.nil_iff.mp z)⟩) (fun z => ?_) (by rw [<- r1.length,<- r2.length]; exact hz)
 refine ⟨.ref s.heap.objs.size,_,I.laid (t' := s.toks) (o:=.tup (xs ++ ys)) (fun b ob q => Heap.get?_push_of_some _ q) (Nat.le_refl _) ?_,rfl,q2 (fun w => z (r2.nil_iff.mpr w)) _ (I.hok.fresh (Nat.le_refl _))⟩
 exact ⟨by rw [List.length_append]; exact hz,_,r1.append r2,IsTup.new _ _⟩
end
end L2
namespace L2
open PySem PySem.Spec PyProof.Rows
def ixN (n : Nat) (i : Int) : Option Nat:=if 0 <= i then (if i < n then some i.toNat else none) else if -(n : Int) <= i then some (i + n).toNat else none
def atI {α : Type} (xs : List α) (i : Int) : Option α:=(ixN xs.length i).bind fun j => xs[j]?
theorem Ib {n : Nat} {i : Int} {j : Nat} (h : ixN n i = some j) : seqIndex? i n = some j /\ j < n /\ -(n : Int) <= i /\ i < n:=by
 unfold ixN at h
 by_cases h0 : 0 <= i
 ·rw [if_pos h0] at h
  by_cases h1 : i < n
  ·rw [if_pos h1] at h
   have e : i.toNat = j:=Option.some.inj h
   exact ⟨by rw [seqIndex_of h0 h1,e],by omega,by omega,h1⟩
  ·rw [if_neg h1] at h; cases h
 ·rw [if_neg h0] at h
  by_cases h1 : -(n : Int) <= i
  ·rw [if_pos h1] at h
   have e : (i + n).toNat = j:=Option.some.inj h
   exact ⟨by rw [seqIndex_neg (by omega) h1,e],by omega,h1,by omega⟩
  ·rw [if_neg h1] at h; cases h
theorem oj {α : Type} {xs : List α} {i : Int} {v : α} (h : atI xs i = some v) : ∃ j,seqIndex? i xs.length = some j /\ xs[j]? = some v /\ j < xs.length /\ -(xs.length : Int) <= i /\ i < xs.length:=by
 unfold atI at h
 cases e : ixN xs.length i with
 | none => rw [e] at h; cases h
 | some j =>
  rw [e] at h
  obtain ⟨h1,h2,h3,h4⟩:=Ib e
  exact ⟨j,h1,h,h2,h3,h4⟩
theorem Eo {α : Type} {xs : List α} {j : Nat} {v : α} (h : xs[j]? = some v) : atI xs (j : Int) = some v:=by
 have hj : j < xs.length:=(List.getElem?_eq_some_iff.mp h).1
 have e : ixN xs.length (j : Int) = some j:=by
  unfold ixN
  rw [if_pos (by omega),if_pos (by omega)]; simp
 unfold atI; rw [e]; exact h
def Em (b : Expr) : Prop := ∀ o i,subscripted b false o i = operate [o,i] (getItem o i)
def IxR (X : Cx) (r : R2) : Prop:=
 ∀ (value slice : Expr) (pins : List (Addr × Obj)) (s : Shared) (σ : St) (H : Hp) (x y : V) (v u : Value) (Q : VK),Inv X pins σ H s -> RelV x v -> RelV y u -> r x y H Q ->
  subscripted slice false v u = operate [v,u] (getItem v u) -> wpAny (model X.prog X.w) X.A (subscriptTail value slice v u) (EP X pins σ Q) X.xe s
def MtR (X : Cx) (id : String) (r : V -> List V -> Hp -> VK -> Prop) : Prop:=
 ∀ (pins : List (Addr × Obj)) (s : Shared) (σ : St) (H : Hp) (x : V) (xs : List V) (v : Value) (us : List Value) (Q : VK),Inv X pins σ H s -> RelV x v -> Vals xs us -> r x xs H Q ->
  wpAny (model X.prog X.w) X.A (call (.builtin id) (v :: us)) (EP X pins σ Q) X.xe s
section
variable {X : Cx} {a b : Expr} {ta tb : TE} {pos : Pos}
theorem cC {r : R2} (hr : IxR X r) (ha : PE X a ta) (hb : PE X b tb) (hs : Em b) : PE X (.Subscript a b pos) (tOp r ta tb):=by
 intro pins s σ H Q I h
 exact Subscript_ (Jh ha hb I h fun v u s2 x y H2 I2 rx ry q => hr a b pins s2 σ H2 x y v u Q I2 rx ry q (hs _ _))
def KD (K : PySem.W.Frag) : R2:=fun x y H Q => ∃ p xs i v,x = .ref p /\ y = .int i /\ SqL K H p xs /\ atI xs i = some v /\ Q v H
def KG : R2:=fun x y H Q => ∃ z i c,x = .str z /\ y = .int i /\ z.length <= sizeLine /\ atI z.cps.toList i = some c /\ Q (.str ⟨#[c]⟩) H
theorem bg : IxR X (KD X.K):=by
 intro value slice pins s σ H x y v u Q I rx ry h hs
 obtain ⟨p,xs,i,z,rfl,rfl,hq,he,q⟩:=h
 cases rx
 obtain ⟨t,rfl⟩:=ry
 obtain ⟨its,r,pl,hz⟩:=I.list hq
 obtain ⟨j,h1,h2,h3,h4,h5⟩:=oj he
 obtain ⟨w,ew,rw'⟩:=r.get h2
 have hl:=r.length
 have hn:=AS
 have fin : EP X pins σ Q w s:=⟨z,H,I,rw',q⟩
 by_cases h0 : 0 <= i
 ·have hj : i.toNat = j:=by
   rw [seqIndex_of h0 h5] at h1
   exact Option.some.inj h1
  exact item_listR pl.isList h0 (by omega) (by rw [hj]; simpa using ew) fin hs
 ·have hj : (i + (its.toArray.size : Int)).toNat = j:=by
   rw [seqIndex_neg (by omega) h4] at h1
   rw [List.size_toArray,<- hl]
   exact Option.some.inj h1
  exact subscriptTail_builtinR (x:=w) pl.isList.typeIs slot_list_getitem.lookup
   (wpAny_getItem_list_neg (Q:=fun r s' => r = w /\ EP X pins σ Q r s') pl.isList (by omega) (by rw [List.size_toArray] <;> omega) (by omega) (by rw [hj]; simpa using ew) ⟨rfl,fin⟩) hs
theorem tJ : IxR X KG:=by
 intro value slice pins s σ H x y v u Q I rx ry h hs
 obtain ⟨z,i,c,rfl,rfl,hz,he,q⟩:=h
 obtain ⟨t,rfl⟩:=rx
 obtain ⟨t',rfl⟩:=ry
 obtain ⟨j,h1,h2,h3,h4,h5⟩:=oj he
 have hl : z.cps.toList.length = z.length:=by simp [Str.length]
 rw [hl] at h1 h4 h5
 have hn:=AS
 exact tail_any (typeIs_str s z t) slot_str_getitem.lookup (getItem_str (c:=c) (by
  have e1 : decide (i < -(2 ^ 63 : Int)) = false:=decide_eq_false (by omega)
  have e2 : decide (i ≥ 2 ^ 63) = false:=decide_eq_false (by omega)
  rw [e1,e2,Bool.or_false]) (by rw [h1]; simpa using h2) ⟨.str ⟨#[c]⟩,H,I.tok _,⟨_,rfl⟩,q⟩) hs
def mE : V -> Bool
 | .non => true
 | .bl _ => true
 | .int _ => true
 | .str _ => true
 | _ => false
def eqV : V -> V -> Bool
 | .non,.non => true
 | .bl a,.bl b => a == b
 | .bl a,.int b => (if a then 1 else 0) == b
 | .int a,.bl b => a == (if b then 1 else 0)
 | .int a,.int b => a == b
 | .str a,.str b => a == b
 | _,_ => false
theorem Gg {A : Around} {s : Shared} {y x : V} {u v : Value} (ry : RelV y u) (rx : RelV x v) (fy : mE y = true) (fx : mE x = true) : SeqAt.EqAt A s u v (eqV y x):=by
 cases y with
 | non =>
  cases ry
  cases x with
  | non => cases rx; exact SeqAt.EqAt.same _
  | bl b => cases rx; exact SeqAt.EqAt.none_bool b
  | int b => obtain ⟨t,rfl⟩:=rx; exact SeqAt.EqAt.none_int b t
  | str b => obtain ⟨t,rfl⟩:=rx; exact SeqAt.EqAt.none_str b t
  | _ => exact absurd (show false = true from fx) Bool.false_ne_true
 | bl a =>
  cases ry
  cases x with
  | non => cases rx; exact SeqAt.EqAt.bool_none a
  | bl b => cases rx; exact SeqAt.EqAt.bool_bool a b
  | int b => obtain ⟨t,rfl⟩:=rx; exact SeqAt.EqAt.bool_int a b t
  | str b => obtain ⟨t,rfl⟩:=rx; exact SeqAt.EqAt.bool_str a b t
  | _ => exact absurd (show false = true from fx) Bool.false_ne_true
 | int a =>
  obtain ⟨t',rfl⟩:=ry
  cases x with
  | non => cases rx; exact SeqAt.EqAt.int_none a t'
  | bl b => cases rx; exact SeqAt.EqAt.int_bool a t' b
  | int b => obtain ⟨t,rfl⟩:=rx; exact SeqAt.EqAt.int_int a t' b t
  | str b => obtain ⟨t,rfl⟩:=rx; exact SeqAt.EqAt.int_str a t' b t
  | _ => exact absurd (show false = true from fx) Bool.false_ne_true
 | str a =>
  obtain ⟨t',rfl⟩:=ry
  cases x with
  | non => cases rx; exact SeqAt.EqAt.str_none a t'
  | bl b => cases rx; exact SeqAt.EqAt.str_bool a t' b
  | int b => obtain ⟨t,rfl⟩:=rx; exact SeqAt.EqAt.str_int a t' b t
  | str b => obtain ⟨t,rfl⟩:=rx; exact SeqAt.EqAt.str_str a t' b t
  | _ => exact absurd (show false = true from fx) Bool.false_ne_true
 | _ => exact absurd (show false = true from fy) Bool.false_ne_true
def eqU (x : V) (u : Value) : Bool:=match u with
 | .none => eqV .non x
 | .bool b => eqV (.bl b) x
 | .int i _ => eqV (.int i) x
 | .str z _ => eqV (.str z) x
 | _ => false
theorem Gh {x y : V} {u : Value} (r : RelV y u) (f : mE y = true) : eqU x u = eqV y x:=by
 cases y with
 | non => cases r; rfl
 | bl b => cases r; rfl
 | int i => obtain ⟨t,rfl⟩:=r; rfl
 | str z => obtain ⟨t,rfl⟩:=r; rfl
 | _ => exact absurd (show false = true from f) Bool.false_ne_true
theorem rB {x : V} : ∀ {xs : List V} {us : List Value},Vals xs us -> xs.all mE = true -> us.any (eqU x) = xs.any fun y => eqV y x
 | _,_,.nil,_ => rfl
 | y :: xs,u :: us,.cons r t,f => by
  rw [List.all_cons,Bool.and_eq_true] at f
  rw [List.any_cons,List.any_cons,Gh r f.1,rB t f.2]
theorem nN {A : Around} {s : Shared} {x : V} {v : Value} (rx : RelV x v) (fx : mE x = true) : ∀ {xs : List V} {us : List Value},Vals xs us -> xs.all mE = true -> ∀ u ∈ us,SeqAt.EqAt A s u v (eqU x u)
 | _,_,.nil,_ => fun u hu => by cases hu
 | y :: xs,u :: us,.cons r t,f => fun u' hu => by
  rw [List.all_cons,Bool.and_eq_true] at f
  rcases List.mem_cons.mp hu with rfl | hu
  ·rw [Gh r f.1]; exact Gg r rx f.1 fx
  ·exact nN rx fx t f.2 u' hu
def inV (x : V) (xs : List V) : Bool:=xs.any fun y => eqV y x
def rIn (K : PySem.W.Frag) (neg : Bool) : R2:=fun x y H Q => ∃ p xs,y = .ref p /\ (SqL K H p xs \/ SqT K H p xs) /\ mE x = true /\ xs.all mE = true /\ Q (.bl (if neg then !inV x xs else inV x xs)) H
theorem zN : OpR X (compareOp .In) (rIn X.K false):=by
 intro pins s σ H x y v u Q I rx ry h
 obtain ⟨p,xs,rfl,hq,fx,fs,q⟩:=h
 cases ry
 rcases hq with hq | hq
 ·obtain ⟨its,r,pl,hz⟩:=I.list hq
  refine SeqAt.in_listAt (eqU x) pl.isList (fun w hw => nN rx fx r fs w (by simpa using hw)) ⟨.bl _,H,I,rfl,?_⟩
  rw [show its.toArray.any (eqU x) = its.any (eqU x) by simp,rB r fs]
  exact q
 ·obtain ⟨its,r,pl,hz⟩:=I.tuple hq
  refine SeqAt.in_tupleAt (eqU x) pl (fun w hw => nN rx fx r fs w (by simpa using hw)) ⟨.bl _,H,I,rfl,?_⟩
  rw [show its.toArray.any (eqU x) = its.any (eqU x) by simp,rB r fs]
  exact q
theorem Bh : OpR X (compareOp .NotIn) (rIn X.K true):=by
 intro pins s σ H x y v u Q I rx ry h
 obtain ⟨p,xs,rfl,hq,fx,fs,q⟩:=h
 cases ry
 rcases hq with hq | hq
 ·obtain ⟨its,r,pl,hz⟩:=I.list hq
  refine SeqAt.notIn_listAt (eqU x) pl.isList (fun w hw => nN rx fx r fs w (by simpa using hw)) ⟨.bl _,H,I,rfl,?_⟩
  rw [show its.toArray.any (eqU x) = its.any (eqU x) by simp,rB r fs]
  exact q
 ·obtain ⟨its,r,pl,hz⟩:=I.tuple hq
  refine SeqAt.notIn_tupleAt (eqU x) pl (fun w hw => nN rx fx r fs w (by simpa using hw)) ⟨.bl _,H,I,rfl,?_⟩
  rw [show its.toArray.any (eqU x) = its.any (eqU x) by simp,rB r fs]
  exact q
theorem bz : fX X (.builtin "len") (fun xs H Q => ∃ p ys,xs = [.ref p] /\ (SqL X.K H p ys \/ SqT X.K H p ys) /\ Q (.int ys.length) H):=by
 intro pins s σ H xs us Q I r h
 obtain ⟨p,ys,rfl,hq,q⟩:=h
 obtain ⟨u,rfl,rx⟩:=vals1 r
 cases rx
 have hn:=AS
 rcases hq with hq | hq
 ·obtain ⟨its,r',pl,hz⟩:=I.list hq
  have hlen:=r'.length
  exact Calls.call_len_list pl.isList (by simp only [List.size_toArray] <;> omega) ⟨.int ys.length,H,I.tok _,⟨s.toks + 1,by rw [List.size_toArray,hlen]⟩,q⟩
 ·obtain ⟨its,r',pl,hz⟩:=I.tuple hq
  have hlen:=r'.length
  exact len_tuple pl (by simp only [List.size_toArray] <;> omega) ⟨.int ys.length,H,I.tok _,⟨s.toks + 1,by rw [List.size_toArray,hlen]⟩,q⟩
theorem bA : fX X (.builtin "len") (fun xs H Q => ∃ z,xs = [.str z] /\ z.length <= sizeLine /\ Q (.int z.length) H):=by
 intro pins s σ H xs us Q I r h
 obtain ⟨z,rfl,hz,q⟩:=h
 obtain ⟨u,rfl,t,rfl⟩:=vals1 r
 have hn:=AS
 exact len_str (by omega) ⟨.int z.length,H,I.tok _,⟨_,rfl⟩,q⟩
theorem kj : fX X (.type "tuple") (fun xs H Q => ∃ p ys,xs = [.ref p] /\ ((SqL X.K H p ys /\ ∀ l,H l = none -> Q (.ref l) (upd H l (.tup ys))) \/ (SqT X.K H p ys /\ Q (.ref p) H))):=by
 intro pins s σ H xs us Q I r h
 obtain ⟨p,ys,rfl,h⟩:=h
 obtain ⟨u,rfl,rx⟩:=vals1 r
 cases rx
 rcases h with ⟨hq,q⟩ | ⟨hq,q⟩
 ·obtain ⟨its,r',pl,hz⟩:=I.list hq
  have hlen:=r'.length
  refine call_tuple_list pl.isList (fun h' kp => ?_) (by simp only [List.size_toArray] <;> omega)
  have I1 : Inv X pins σ H { s with heap:=h' }:=I.kept (t' := s.toks) kp
  have I2 : Inv X pins σ (upd H h'.objs.size (.tup ys)) { s with heap:=h'.push { cls:=.type "tuple",data:=.seq its.toArray } }:=
   I1.laid (t' := s.toks) (fun b o e => Heap.get?_push_of_some _ e) (Nat.le_refl _) (show ObjOk X.prog X.w _ _ _ (.tup ys) from ⟨hz,its,r',IsTup.new _ _⟩)
  exact ⟨.ref h'.objs.size,_,I2,rfl,q _ (I1.hok.fresh (Nat.le_refl _))⟩
 ·obtain ⟨its,r',pl,hz⟩:=I.tuple hq
  exact call_tuple_same pl ⟨.ref p,H,I,rfl,q⟩
def tyV (K : PySem.W.Frag) (T : String) (x : V) (H : Hp) : Prop:=match x with
 | .str _ => T = "str"
 | .int _ => T = "int"
 | .ref p => (T = "list" /\ ∃ xs,SqL K H p xs) \/ (T = "tuple" /\ ∃ o,K.lookup p = some o /\ o.cls = .type "tuple" /\ o.dict = none) \/
   (T = "dict" /\ ((∃ kvs,H p = some (.dK kvs)) \/ ∃ kvs,H p = some (.dT kvs))) \/ (T = "set" /\ ∃ S n,H p = some (.set S n))
 | _ => False
theorem Hv {pins : List (Addr × Obj)} {σ : St} {H : Hp} {s : Shared} {T : String} {x : V} {v : Value} (I : Inv X pins σ H s) (r : RelV x v) (ty : tyV X.K T x H) :
  s.TypeIs v T /\ ∀ a,v = .ref a -> ∃ ob,s.heap.get? a = some ob /\ ob.dict = none:=by
 cases x with
 | str z =>
  obtain ⟨t,rfl⟩:=r
  cases (show T = "str" from ty)
  exact ⟨typeIs_str s z t,fun _ e => nomatch e⟩
 | int i =>
  obtain ⟨t,rfl⟩:=r
  cases (show T = "int" from ty)
  exact ⟨typeIs_int s i t,fun _ e => nomatch e⟩
 | ref p =>
  cases r
  rcases ty with ⟨rfl,xs,hq⟩ | ⟨rfl,o,hk,hc,hd⟩ | ⟨rfl,hk⟩ | ⟨rfl,S,n,hk⟩
  ·obtain ⟨its,_,pl,_⟩:=I.list hq
   refine ⟨pl.isList.typeIs,fun a e => ?_⟩
   cases e
   obtain ⟨o,n,e,c,hd,_⟩:=pl
   exact ⟨o,e,hd⟩
  ·refine ⟨⟨o,I.kIn p o hk,hc⟩,fun a e => ?_⟩
   cases e
   exact ⟨o,I.kIn _ o hk,hd⟩
  ·have z : ∃ o,s.heap.get? p = some o /\ o.ExactDict:=by
    rcases hk with ⟨kvs,hk⟩ | ⟨kvs,hk⟩
    ·obtain ⟨_,_,_,_,o,_,_,e,ex,_⟩:=I.hok p _ hk
     exact ⟨o,e,ex⟩
    ·obtain ⟨_,_,_,_,o,_,_,e,ex,_⟩:=I.hok p _ hk
     exact ⟨o,e,ex⟩
   obtain ⟨o,e,ex⟩:=z
   refine ⟨⟨o,e,ex.1⟩,fun a e2 => ?_⟩
   cases e2
   exact ⟨o,e,ex.2.1⟩
  ·obtain ⟨o,_,_,_,e,ex,_⟩:=I.hok p _ hk
   refine ⟨⟨o,e,ex.1⟩,fun a e2 => ?_⟩
   cases e2
   exact ⟨o,e,ex.2.1⟩
 | _ => exact False.elim ty
def Lq (K : PySem.W.Frag) (T : String) (r : V -> List V -> Hp -> VK -> Prop) (to : TE) : TE:=fun σ H Q => to σ H fun x H1 => tyV K T x H1 /\ r x [] H1 Q
def tBM (K : PySem.W.Frag) (T : String) (r : V -> List V -> Hp -> VK -> Prop) (to : TE) (t : TA) : TE:=fun σ H Q => to σ H fun x H1 => tyV K T x H1 /\ t σ H1 fun xs H2 => r x xs H2 Q
variable {o e : Expr} {es : List Expr} {to : TE} {t : TA} {name : Str} {apos cpos : Pos} {T id : String} {r : V -> List V -> Hp -> VK -> Prop}
theorem xN (pa : PlainAttrs T) (slot : Slot T name id) (hty : typeOf (.builtin id) = pure (.type "method_descriptor")) (hm : MtR X id r) (ho : PE X o to)
  (hbase : attributeBase o name X.env (eval o X.env) = eval o X.env:=by rfl) (hline : (apos.endLine == cpos.line) = true:=by rfl) : PE X (.Call (.Attribute o name apos) [] [] cpos) (Lq X.K T r to):=by
 intro pins s σ H Q I h
 refine wpAny_Call_method0_late hbase hline (thn (ho pins s σ H _ I h) fun v s1 ⟨x,H1,I1,r1,ty,q1⟩ => ?_)
 obtain ⟨h1,h2⟩:=Hv I1 r1 ty
 exact ⟨T,id,pa,slot,hty,h1,h2,Calls.callWith_builtin rfl (PySem.evalArgs_none (hm pins s1 σ H1 x [] v [] Q I1 r1 .nil q1))⟩
theorem ia (pa : PlainAttrs T) (slot : Slot T name id) (hty : typeOf (.builtin id) = pure (.type "method_descriptor")) (hm : MtR X id r) (ho : PE X o to) (ha : PA X (e :: es) t)
  (hbase : attributeBase o name X.env (eval o X.env) = eval o X.env:=by rfl)
  (hfew : ((backTo cpos (starEach (e :: es) X.env)).all (fun x => !x.1) && (backToKw cpos (keywordEach [] X.env)).all (fun x => x.1.isSome)
   && decide ((e :: es).length + ([] : List Keyword).length + (if ([] : List Keyword).isEmpty then 0 else 1) < 30)) = true:=by rfl)
  (hline : (apos.endLine == cpos.line) = true:=by rfl) (hs : starEach (e :: es) X.env = (false,eval e X.env) :: starEach es X.env:=by rfl) (hplain : (backTo cpos (starEach es X.env)).any (·.1) = false:=by rfl) :
  PE X (.Call (.Attribute o name apos) (e :: es) [] cpos) (tBM X.K T r to t):=by
 intro pins s σ H Q I h
 refine wpAny_Call_method_late hbase hfew hline rfl (thn (ho pins s σ H _ I h) fun v s1 ⟨x,H1,I1,r1,ty,q1⟩ => ?_)
 obtain ⟨h1,h2⟩:=Hv I1 r1 ty
 refine ⟨T,id,pa,slot,hty,h1,h2,?_⟩
 have hA:=ha cpos pins s1 σ H1 _ I1 q1
 rw [hs] at hA ⊢
 refine Calls.callWith_builtin (by show (false || (backTo cpos (starEach es X.env)).any (·.1)) = false; rw [hplain] <;> rfl) (Calls.evalArgs_plain ?_)
 exact thn hA fun us s2 ⟨vs,H2,I2,r2,q2⟩ => hm pins s2 σ H2 x vs v us Q I2 r1 r2 q2
/- xs.append(e),list.index on a module's tuple .. are MtR facts of 06m -/
end
end L2
namespace L2
open PySem PySem.Spec PyProof.Rows
def MtM (X : Cx) (id : String) (r : V -> List V -> Hp -> VK -> Prop) : Prop:=
 ∀ (pins : List (Addr × Obj)) (s : Shared) (σ : St) (H : Hp) (x : V) (xs : List V) (v : Value) (us : List Value) (Q : VK),Inv X pins σ H s -> RelV x v -> Vals xs us -> r x xs H Q ->
  wpAny (model X.prog X.w) X.A (call (.builtin id) (v :: us)) (EP X pins σ Q) X.xe s
theorem Vals.one : ∀ {x : V} {us : List Value},Vals [x] us -> ∃ u,us = [u] /\ RelV x u
 | _,_,.cons r .nil => ⟨_,rfl,r⟩
theorem Vals.two : ∀ {x y : V} {us : List Value},Vals [x,y] us -> ∃ u v,us = [u,v] /\ RelV x u /\ RelV y v
 | _,_,_,.cons r (.cons q .nil) => ⟨_,_,rfl,r,q⟩
theorem Vals.zero : ∀ {us : List Value},Vals [] us -> us = []
 | _,.nil => rfl
theorem Vals.dropLast {xs : List V} {us : List Value} (h : Vals xs us) : Vals xs.dropLast us.dropLast:=by
 induction h with
 | nil => exact .nil
 | cons r t ih =>
  cases t with
  | nil => exact .nil
  | cons q t' => exact .cons r ih
theorem Dm {α : Type} (l : List α) : l.eraseIdx (l.length - 1) = l.dropLast:=by
 induction l with
 | nil => rfl
 | cons a r ih =>
  cases r with
  | nil => rfl
  | cons b r =>
   have e : (a :: b :: r).length - 1 = ((b :: r).length - 1) + 1:=by
    have h1 : (a :: b :: r).length = r.length + 2:=rfl
    have h2 : (b :: r).length = r.length + 1:=rfl
    omega
   rw [e,List.eraseIdx_cons_succ,ih]
   all_goals rfl
section
variable {X : Cx} {pins : List (Addr × Obj)} {σ : St} {H : Hp} {s : Shared} {l b : Addr} {xs ys zs : List V}
theorem Inv.lset {its its' : List Value} {n : Nat} {f : Array Value -> Array Value} {t' : Nat} (I : Inv X pins σ H s) (hH : H l = some (.lst xs))
  (e : s.heap.get? l = some { cls:=.type "list",data:=.seq its.toArray n }) (hf : f its.toArray = its'.toArray) (hv : Vals ys its') (hz : ys.length <= sizeLine) :
  Inv X pins σ (upd H l (.lst ys)) { s with heap:=s.heap.update l (Obj.mapSeq f),toks:=t' }:=by
 have q:=PySem.IsL.update e f
 rw [hf] at q
 refine I.write (x:=l) (e:=l) (by rw [hH]; exact trivial) (.inl rfl) (fun b' u hb hu => (Heap.get?_update_other s.heap (Obj.mapSeq f) (Ne.symm hb)).trans hu) ⟨_,q⟩ ?_
 exact ⟨hz,its',_,hv,q⟩
theorem Inv.lnew {its : List Value} {t' : Nat} (I : Inv X pins σ H s) (hv : Vals ys its) (hz : ys.length <= sizeLine) :
  Inv X pins σ (upd H s.heap.objs.size (.lst ys)) { s with heap:=s.heap.push { cls:=.type "list",data:=.seq its.toArray },toks:=t' }:=
 I.laid (fun _ _ q => Heap.get?_push_of_some _ q) (Nat.le_refl _) ⟨hz,its,0,hv,Heap.get?_push_size _ rfl⟩
theorem Inv.fresh (I : Inv X pins σ H s) : H s.heap.objs.size = none:=I.hok.fresh (Nat.le_refl _)
theorem Inv.lstM (I : Inv X pins σ H s) (hH : H l = some (.lst xs)) : xs.length <= sizeLine /\ ∃ (its : List Value) (n : Nat),Vals xs its /\ xs.length = its.length /\ s.heap.get? l = some { cls:=.type "list",data:=.seq its.toArray n }:=by
 obtain ⟨z,its,n,r,e⟩:=I.hok l _ hH
 exact ⟨z,its,n,r,r.length,e⟩
end
section
variable {X : Cx}
def IG : V -> List V -> Hp -> VK -> Prop:=fun x vs H Q => ∃ l xs y,x = .ref l /\ vs = [y] /\ H l = some (.lst xs) /\ xs.length < sizeLine /\ Q .non (upd H l (.lst (xs ++ [y])))
theorem bI : MtM X "list.append" IG:=by
 intro pins s σ H x vs v us Q I rx rv h
 obtain ⟨l,xs,y,rfl,rfl,hH,hz,q⟩:=h
 cases rx
 obtain ⟨u,rfl,ru⟩:=rv.one
 obtain ⟨z,its,n,r,hl,e⟩:=I.lstM hH
 refine call_meets F.slot_list_append ⟨_,e,rfl⟩ F.entry_list_append (F.args_list_append_2 _ _) (PySem.list_append l its.toArray n u (by rw [List.size_toArray]; omega)) ⟨e,?_⟩
 refine ⟨.non,_,I.lset (its' := its ++ [u]) hH e (by simp) (r.append (.cons ru .nil)) ?_,rfl,q⟩
 rw [List.length_append,List.length_singleton]
 omega
def Ll : V -> List V -> Hp -> VK -> Prop:=fun x vs H Q => ∃ l xs y,x = .ref l /\ vs = [] /\ H l = some (.lst xs) /\ xs[xs.length - 1]? = some y /\ Q y (upd H l (.lst xs.dropLast))
theorem xw : MtM X "list.pop" Ll:=by
 intro pins s σ H x vs v us Q I rx rv h
 obtain ⟨l,xs,y,rfl,rfl,hH,hy,q⟩:=h
 cases rx
 have hus:=rv.zero
 subst hus
 obtain ⟨z,its,n,r,hl,e⟩:=I.lstM hH
 obtain ⟨u,hu,ru⟩:=r.get hy
 have hy' : its.toArray[its.toArray.size - 1]? = some u:=by
  show its.toArray[its.length - 1]? = some u
  rw [<- Array.getElem?_toList,<- hl]
  exact hu
 refine call_meets F.slot_list_pop ⟨_,e,rfl⟩ F.entry_list_pop (F.args_list_pop_1 _) (MeetsSeq.list_pop_last l its.toArray n u hy' (by rw [List.size_toArray]; omega)) ⟨e,?_⟩
 refine ⟨y,_,I.lset (its' := its.dropLast) hH e ?_ r.dropLast ?_,ru,q⟩
 ·show its.toArray.eraseIdxIfInBounds (its.toArray.size - 1) = its.dropLast.toArray
  rw [List.size_toArray,List.eraseIdxIfInBounds_toArray,Dm]
 ·rw [List.length_dropLast]
  omega
def Ky : R2:=fun x y H Q => ∃ l b xs zs,x = .ref l /\ y = .ref b /\ H l = some (.lst xs) /\ H b = some (.lst zs) /\ xs.length + zs.length <= sizeLine /\ ∀ p,H p = none -> Q (.ref p) (upd H p (.lst (xs ++ zs)))
theorem nP : OpR X (binaryOp .Add) Ky:=by
 intro pins s σ H x y v u Q I rx ry h
 obtain ⟨l,b,xs,zs,rfl,rfl,hH,hB,hz,q⟩:=h
 cases rx
 cases ry
 obtain ⟨z,its,n,r,hl,e⟩:=I.lstM hH
 obtain ⟨z2,its2,n2,r2,hl2,e2⟩:=I.lstM hB
 refine PySem.P.add_list e e2 ?_ (by rw [List.size_toArray,List.size_toArray]; omega)
 have ea : its.toArray ++ its2.toArray = (its ++ its2).toArray:=by simp
 rw [ea]
 exact ⟨.ref _,_,I.lnew (t' := s.toks) (r.append r2) (by rw [List.length_append]; omega),rfl,q _ I.fresh⟩
end
section
variable {prog : Program} {w : World} {A : Around} {E : Value -> Shared -> Prop} {s : Shared}
end
section
variable {X : Cx}
end
end L2
namespace Att
open PySem PySem.W PySem.Calls PyProof.Rows
theorem vf {P : Params} {h : Heap} : ∀ (ns : List Int) (vs : List Value),WellAll P h vs (ns.map WData.int) -> IntsAre vs ns:=by
 intro ns
 induction ns with
 | nil =>
  intro vs w
  rw [List.map_nil] at w
  cases w
  exact .nil
 | cons n ns ih =>
  intro vs w
  rw [List.map_cons] at w
  cases w with
  | cons a b =>
   cases a
   exact .cons _ _ (ih _ b)
theorem FL {l : OpenLaw} {n : Nat} (hn : l.most = some n) {P : Params} {h : Heap} {args : List WData} {vals : List Value}
  (hpre : l.row.toRowW.claim.pre args = true) (hwl : WellAll P h vals args) :
  ∃ a vs ns,vals = [Value.ref a] /\ args = [WData.list (ns.map WData.int)] /\ h.get? a = some { cls:=.type "list",data:=.seq vs.toArray } /\ IntsAre vs ns /\ ns.length <= n:=by
 have hsh : WShape.hasAll [] args [.list .int] = true:=(pre_splitW hpre).1
 have hc : l.pre.holds [] { args:=args } = true:=(pre_splitW hpre).2
 obtain ⟨d,r,rfl,h1,h2⟩:=hasAllW_cons hsh
 obtain rfl:=hasAllW_nil h2
 obtain ⟨xs,rfl,h3⟩:=hasW_list h1
 obtain ⟨ns,rfl⟩:=items_int h3
 have hlen : ns.length <= n:=by
  unfold OpenLaw.pre at hc
  have h4 : (WTm.not (.lt (.lit (.int (n : Int))) (.len (.arg 0)))).holds [] { args:=[.list (ns.map .int)] } = true:=by
   have h4:=(holds_andW hc).1
   rw [hn] at h4
   exact h4
  have h5:=condW_of h4 (w_not (w_lt w_lit (w_len_list (w_arg rfl))))
  rw [List.length_map] at h5
  refine Nat.le_of_not_lt fun q => ?_
  have q' : (n : Int) < ((ns.length : Nat) : Int):=by omega
  first
   | (rw [decide_eq_true q'] at h5; exact absurd h5 (by decide))
   | (simp at h5; omega)
 cases hwl with
 | cons w1 w2 =>
  cases w2
  cases w1 with
  | list ho hall => exact ⟨_,_,ns,rfl,rfl,ho,vf ns _ hall,hlen⟩
theorem FJ (l : OpenLaw) (args : List WData) : l.row.toRowW.claim.post args (.bool true) args = true:=
 postW_of (r:=l.row.toRowW) (X:=(true == true))
  (show WShape.has [] (.bool true) .bool = true by first | rfl | decide | simp [WShape.has,WShape.arms,WShape.armsAll])
  (show (WTm.eq .res (.lit (.bool true))).value [] { args:=args,res:=some (.bool true),after:=args } = some (.bool (true == true)) from w_eq_bool (w_res rfl) w_lit) rfl
theorem attach_call {l : OpenLaw} {n : Nat} {q : Program} {loose : List Str} {XP : (Str -> Option Value) -> Heap -> Prop} {YP : World -> Heap -> Prop} {d : DefRec}
  (hn : l.most = some n) (hdf : d.params.defaults = [])
  (call : ∀ (w : World) (s₀ s₁ : Shared) (mg mb : Str -> Option Value) (fa : Addr) (o : Obj) (pm cd doc : Value) (a : Addr) (vs : List Value) (ns : List Int),
   Ground q loose [] XP w s₀ mg mb s₁.heap -> YP w s₁.heap ->
   s₁.heap.get? fa = some o -> o.data = .func (docDef d.name d.params d.body d.scope pm cd doc) -> s₁.heap.CodeRec cd d.name -> mg d.name = some (.ref fa) ->
   s₁.heap.get? a = some { cls:=.type "list",data:=.seq vs.toArray } -> IntsAre vs ns -> ns.length <= n -> s₁.gens = #[] ->
   codeAny (model l.prog w) callerA (.call (.ref fa) ⟨[.ref a],[]⟩) (fun r s' => r = .ok (.ret (.bool true)) /\ OldK s₁.heap s'.heap /\ s'.os = s₁.os /\ AllBare s'.gens) s₁) :
  WalkO q loose XP YP l.row.toRowW d [] (fun f vs => PySem.call f vs):=by
 intro w s₀ s₁ mg mb G Y fa o pm cd doc dV kV ho hd hcd hD hmg hg args vals as hpre hlay hrd hwl hlo
 obtain rfl : dV = .none:=Dflts.none hD hdf
 obtain rfl : kV = .none:=Dflts.noKw hD
 obtain ⟨a,vs,ns,rfl,rfl,hobj,hints,hlen⟩:=FL hn hpre hwl
 refine enter_call (codeAny_mono (call w s₀ s₁ mg mb fa o pm cd doc a vs ns G Y ho (fd_plain hd) hcd hmg hobj hints hlen hg) fun r s' hq => ?_)
 obtain ⟨rfl,h2,h3,h4⟩:=hq
 exact ⟨.inl ⟨.bool true,.bool true,[],rfl,fun _ => rfl,.bool true,FJ l _,fun _ => ⟨List.Pairwise.nil,fun _ hm => (nomatch hm)⟩⟩,h2,h3,h4⟩
section
variable {prog : Program} {w : World} {A : Around} {E : Value -> Shared -> Prop} {s : Shared} {K : Frag}
def ledger (h : Heap) (L d : Addr) : List (Addr × Obj):=(List.range h.objs.size).filterMap fun a => if a = L \/ a = d then none else (h.get? a).map fun o => (a,o)
end
end Att
namespace L2
open PySem PySem.Spec PyProof.Rows
theorem zU : ∀ {vs : List Value} {ns : List Int},IntsAre vs ns -> Vals (ns.map V.int) vs
 | _,_,.nil => .nil
 | _,_,.cons n t h => .cons ⟨t,rfl⟩ (zU h)
def Je (H : Hp) : Prop := ∀ b,H b = none \/ ∃ o xs,H b = some (.frz o (.lst xs))
theorem Gx {P : Program} {w : World} {K : PySem.W.Frag} {mg mb : Str -> Option Value} {CX : CXT} {k : Nat} {fa a : Addr} {fd : FuncData} {x : Str} {sp : Sp} {s₁ : Shared} {vs : List Value} {ns : List Int}
  (KX : K.In s₁.heap) (hns : s₁.heap.Ns mainGlobals mg) (hb : s₁.heap.Ns builtinsNs mb) (hbb : ∀ x : Str,x ≠ "__name__" -> mb x = bootBuiltins x) (hlim : s₁.heap.NoLimit) (hg : s₁.gens = #[])
  (ha : s₁.heap.get? a = some { cls:=.type "list",data:=.seq vs.toArray }) (hi : IntsAre vs ns) (hl : ns.length <= sizeLine) (hr : Room k callerA)
  (F : ∀ base : Heap,K.In base -> base.Ns mainGlobals mg -> FnOk P w K mg base CX k fa fd [x] sp) (hbind : ∀ (s : Shared) (u : Value),BindsTo s fd ⟨[u],[]⟩ [(x,u)])
  (hsp : ∀ H : Hp,Je H -> SqL K H a (ns.map V.int) -> sp [.ref a] H (fun v _ => v = .bl true) fun _ _ _ => False)
  (hCX : ∀ H e s',CX [] H s₁ (fun _ _ _ => False) e s' -> False) :
  codeAny (model P w) callerA (.call (.ref fa) ⟨[.ref a],[]⟩) (fun r s' => r = .ok (.ret (.bool true)) /\ OldK s₁.heap s'.heap /\ s'.os = s₁.os /\ AllBare s'.gens) s₁:=by
 have rv:=zU hi
 have lenV:=hi.length
 have core : ∀ H : Hp,Je H -> SqL K H a (ns.map V.int) -> HOk P w H s₁.heap -> (∀ b,H b ≠ none -> b = a) -> (H a ≠ none -> K.lookup a = none) ->
   codeAny (model P w) callerA (.call (.ref fa) ⟨[.ref a],[]⟩) (fun r s' => r = .ok (.ret (.bool true)) /\ OldK s₁.heap s'.heap /\ s'.os = s₁.os /\ AllBare s'.gens) s₁:=by
  intro H hO hS hok hA hK
  have base_of : ∀ {b : Addr} {o : Obj},s₁.heap.get? b = some o -> H b = none -> (AF s₁.heap H).get? b = some o:=fun e n => Gp e n
  have noA : ∀ {b : Addr} {o : Obj} {es : Array DictEntry} {ep : Nat},s₁.heap.get? b = some o -> o.data = .dict es ep -> H b = none:=fun {b o es ep} e d => by
   cases q : H b with
   | none => rfl
   | some u =>
    have e' : b = a:=hA b (by rw [q]; simp)
    subst e'
    rw [ha] at e; cases e
    have d' : Data.seq vs.toArray _ = Data.dict es ep:=d
    cases d'
  have nsK : ∀ {b : Addr} {m : Str -> Option Value},s₁.heap.Ns b m -> (AF s₁.heap H).Ns b m:=fun {b m} ⟨o,es,ep,e,d,r⟩ => ⟨o,es,ep,base_of e (noA e d),d,r⟩
  have hKb : K.In (AF s₁.heap H):=fun b o e => base_of (KX b o e) (by
   cases q : H b with
   | none => rfl
   | some u =>
    have e' : b = a:=hA b (by rw [q]; simp)
    subst e'
    rw [hK (by rw [q]; simp)] at e; cases e)
  have hM : Mod K mg (AF s₁.heap H):=⟨hKb,nsK hns,⟨mb,nsK hb,hbb⟩,let ⟨mc,h1,h2⟩:=hlim; ⟨mc,nsK h1,h2⟩⟩
  have e0 : Env0 P w K mg (AF s₁.heap H) callerA [] s₁ H:=⟨rfl,hM,fun b o e => Il e,Nat.le_of_eq (Fm _ _),trivial,fun b hb => absurd (show b ∈ ([] : List Addr) from hb) (by simp),hok,.of_eq hg⟩
  refine codeAny_mono ((F _ hKb (nsK hns)).run callerA [] s₁ H ⟨[.ref a],[]⟩ [.ref a] [.ref a] _ _ hr e0 (hbind s₁ (.ref a)) (.cons rfl .nil) (hsp H hO hS)) fun r s' h => ?_
  cases r with
  | error e => exact (hCX H e s' h).elim
  | ok fl =>
   cases fl with
   | next => exact False.elim h
   | brk => exact False.elim h
   | cont => exact False.elim h
   | ret u =>
    obtain ⟨v,H',os,bare,un,hok',r',q⟩:=h
    have q' : v = .bl true:=q
    subst q'
    obtain rfl : u = Value.bool true:=r'
    refine ⟨rfl,OldK.of_keep fun b o e => ?_,os,bare⟩
    cases q : H b with
    | none => exact un.keep b o e q (by intro z; exact absurd (show b ∈ ([] : List Addr) from z) (by simp)) (by simp)
    | some u =>
     rcases hO b with z | ⟨ob,xs,z⟩
     ·rw [q] at z; cases z
     ·have z2:=un.frzs b ob _ z
      obtain ⟨e1,_⟩:=hok b _ z
      obtain ⟨e2,_⟩:=hok' b _ z2
      rw [e] at e1; cases e1
      exact e2
 cases hk : K.lookup a with
 | some o =>
  have e:=KX a o hk
  rw [ha] at e
  cases e
  refine core (fun _ => none) (fun _ => .inl rfl) (.inr ⟨_,vs.toArray,_,hk,rfl,rfl,rfl,by rw [List.size_toArray,lenV]; exact hl,by simpa using rv⟩) (fun b u z => by have z' : (none : Option HO) = some u:=z; cases z') (fun b z => absurd rfl z) fun z => absurd rfl z
 | none =>
  refine core (fun b => if b = a then some (.frz { cls:=.type "list",data:=.seq vs.toArray } (.lst (ns.map V.int))) else none) (fun b => ?_) (.inl (.inr ⟨{ cls:=.type "list",data:=.seq vs.toArray },if_pos rfl⟩)) (fun b u z => ?_) (fun b z => ?_) fun _ => hk
  ·by_cases hb : b = a
   ·exact .inr ⟨_,_,if_pos hb⟩
   ·exact .inl (if_neg hb)
  ·by_cases hb : b = a
   ·have z' := (if_pos hb).symm.trans z
    cases z'
    subst hb
    exact ⟨ha,by rw [List.length_map]; exact hl,vs,_,rv,ha⟩
   ·have z' := (if_neg hb).symm.trans z
    cases z'
  ·by_cases hb : b = a
   ·exact hb
   ·exact absurd (if_neg hb) z
end L2
namespace L2
open PySem PySem.Spec PyProof.Rows
theorem walk_of {l : PySem.W.OpenLaw} {n k : Nat} {q : Program} {loose : List Str} {XP : (Str -> Option Value) -> Heap -> Prop} {YP : World -> Heap -> Prop} {d : DefRec} {K : Params -> PySem.W.Frag} {CX : World -> CXT} {sp : World -> Sp} {x : Str}
  (hn : l.most = some n) (hn2 : n <= sizeLine) (hdf : d.params.defaults = []) (hr : Room k callerA)
  (hY : ∀ (w : World) (h : Heap),YP w h -> (K w.params).In h)
  (F : ∀ (w : World) (mg : Str -> Option Value) (fa : Addr) (h : Heap),(K w.params).In h -> h.Ns mainGlobals mg -> mg d.name = some (.ref fa) ->
   ∃ fd : FuncData,(∀ (s : Shared) (u : Value),BindsTo s fd ⟨[u],[]⟩ [(x,u)]) /\
    ∀ base : Heap,(K w.params).In base -> base.Ns mainGlobals mg -> FnOk l.prog w (K w.params) mg base (CX w) k fa fd [x] (sp w))
  (hsp : ∀ (w : World) (H : Hp) (a : Addr) (ns : List Int),ns.length <= n -> Je H -> SqL (K w.params) H a (ns.map V.int) -> sp w [.ref a] H (fun v _ => v = .bl true) fun _ _ _ => False)
  (hCX : ∀ (w : World) (H : Hp) (s : Shared) (e : Value) (s' : Shared),CX w [] H s (fun _ _ _ => False) e s' -> False) :
  PySem.W.WalkO q loose XP YP l.row.toRowW d [] (fun f vs => PySem.call f vs):=by
 refine Att.attach_call hn hdf fun w s₀ s₁ mg mb fa o pm cd doc a vs ns G Y ho hd hcd hmg hobj hints hlen hg => ?_
 have KX:=hY w _ Y
 obtain ⟨fd,hb,hF⟩:=F w mg fa _ KX G.T.g hmg
 exact Gx KX G.T.g G.T.b G.T.builtins G.T.nolimit hg hobj hints (Nat.le_trans hlen hn2) hr hF hb (fun H hO hS => hsp w H a ns hlen hO hS) fun H e s' => hCX w H s₁ e s'
end L2
namespace L2
open PySem PySem.Spec PyProof.Rows
def inClass (s : Stmt) (j : Nat) : Stmt:=match s with
 | .ClassDef _ _ _ body _ _ _ _ _ _ _ => body.getD j (.Pass ⟨0,0,0,0⟩)
 | _ => .Pass ⟨0,0,0,0⟩
def aL (s : Stmt) : Arguments:=match s with
 | .FunctionDef _ a _ _ _ _ _ _ _ _ => a
 | _ => { posonlyargs:=[],args:=[],vararg:=none,kwonlyargs:=[],kw_defaults:=[],kwarg:=none,defaults:=[] }
def aJ (s : Stmt) : List Stmt:=match s with
 | .FunctionDef _ _ b _ _ _ _ _ _ _ => b
 | _ => []
def ai (s : Stmt) : Scope:=match s with
 | .FunctionDef _ _ _ _ _ _ sc _ _ _ => sc
 | _ => { kind:=.function,names:=[],isGenerator:=false,isCoroutine:=false }
abbrev CX0 : CXT:=fun _ _ _ _ _ _ => False
abbrev E0 : XK:=fun _ _ _ => False
theorem IZ {X : Cx} : Passes CX0 X E0:=fun _ _ _ _ _ _ _ h => h.elim
structure Fun (K : PySem.W.Frag) (x qual : Str) (st : Stmt) (f : Addr) (fd : FuncData) : Prop where
 ex : ∃ (oc : Value) (od : Option Addr) (kV doc pm : Value) (an : Option Addr) (cdv ct : Value) (osl : Array (Option Value)),
  fd = PySem.W.fnOf x qual (aL st) (aJ st) (ai st) .none kV doc pm an cdv ct /\ K.lookup f = some ⟨oc,od,.func fd,osl⟩ /\ PySem.W.codeIn K cdv qual = true
 kp : PySem.W.keepIn K (.ref f) = true
section
variable {P : Program} {w : World} {K : PySem.W.Frag} {mg : Str -> Option Value} {base : Heap}
end
theorem fg {n : Nat} (h : n <= 1000) : n < sizeLine:=Nat.lt_of_le_of_lt h (by decide)
section
variable {X : Cx}
theorem pv (i : Nat) {x : Str} {pos : Pos} (hN : X.N[i]? = some x:=by rfl) (hv : Vis X.env.scope x:=by first | exact Or.inl rfl | exact Or.inr (Or.inl rfl) | exact Or.inr (Or.inr rfl)) (hd : (x == ("__debug__" : Str)) = false:=by decide)
  (hcd : (x == ("__classdict__" : Str)) = false:=by decide) : PE X (.Name x pos) (yj i):=JN hN hv hd hcd
end
theorem cN {A B : Prop} (h : B) : if false = true then A else B:=by
 rw [if_neg Bool.false_ne_true]
 exact h
theorem cY {A B : Prop} (h : A) : if true = true then A else B:=by
 rw [if_pos rfl]
 exact h
theorem tI {c A B : Prop} [Decidable c] (h1 : c -> A) (h2 : ¬ c -> B) : if c then A else B:=by
 by_cases h : c
 ·rw [if_pos h]
  exact h1 h
 ·rw [if_neg h]
  exact h2 h
def Same (H H' : Hp) : Prop := ∀ b o,H b = some o -> H' b = some o
theorem Same.refl (H : Hp) : Same H H:=fun _ _ h => h
theorem Same.trans {H H1 H2 : Hp} (a : Same H H1) (b : Same H1 H2) : Same H H2:=fun c o h => b c o (a c o h)
theorem Same.free {H H' : Hp} (e : Same H H') {l : Addr} (h : H' l = Option.none) : H l = Option.none:=by
 cases q : H l with
 | none => rfl
 | some o =>
  rw [e l o q] at h
  cases h
theorem Same.seq {K : PySem.W.Frag} {H H' : Hp} {a : Addr} {xs : List V} (e : Same H H') (h : SqL K H a xs) : SqL K H' a xs:=by
 rcases h with (h | ⟨o,h⟩) | h
 ·exact .inl (.inl (e _ _ h))
 ·exact .inl (.inr ⟨o,e _ _ h⟩)
 ·exact .inr h
end L2
set_option Elab.async false
set_option linter.all false
set_option maxRecDepth 100000
namespace L2
open PySem PySem.Spec PyProof.Rows
def cH (cells : List (Str × Addr)) : List (Str × NameKind) -> List (Str × Addr) -> List (Str × Addr)
 | [],cs => cs
 | (n,k) :: r,cs => cH cells r (if k == .free then (n,(cells.lookup n).getD 0) :: cs else cs)
theorem km {scope : Scope} {env : Env} (h : ∀ y ∈ scope.names,y.2 = .free -> ∃ c,env.cells.lookup y.1 = some c) :
  closureFor scope env = pure (cH env.cells scope.names []):=by
 have all : ∀ (ns : List (Str × NameKind)) (cs : List (Str × Addr)),(∀ y ∈ ns,y.2 = .free -> ∃ c,env.cells.lookup y.1 = some c) ->
   (forIn ns cs (fun (x : Str × NameKind) (r : List (Str × Addr)) => (match x with
    | (name,kind) => if (kind == NameKind.free) = true then (do let c <- cellOf env name; pure (ForInStep.yield ((name,c) :: r))) else pure (ForInStep.yield r) : Sem (ForInStep (List (Str × Addr))))) : Sem (List (Str × Addr)))
   = pure (cH env.cells ns cs):=by
  intro ns
  induction ns with
  | nil => intro cs _; rfl
  | cons y r ih =>
   intro cs hy
   obtain ⟨n,k⟩:=y
   rw [List.forIn_cons]
   by_cases hk : k = .free
   ·subst hk
    obtain ⟨c,e⟩:=hy (n,.free) List.mem_cons_self rfl
    have e' : env.cells.lookup n = some c:=e
    have e1 : cellOf env n = pure c:=by unfold cellOf; rw [e']
    simp only [beq_self_eq_true,if_true,e1,pure_bind]
    rw [ih _ fun z hz => hy z (List.mem_cons_of_mem _ hz)]
    simp only [cH,beq_self_eq_true,if_true,e',Option.getD_some]
   ·have hb : (k == NameKind.free) = false:=by simpa using hk
    simp only [hb,Bool.false_eq_true,if_false,pure_bind]
    rw [ih _ fun z hz => hy z (List.mem_cons_of_mem _ hz)]
    simp only [cH,hb,Bool.false_eq_true,if_false]
 unfold closureFor
 have q:=all scope.names [] h
 simp only [bind_pure]
 exact q
theorem pV (cells : List (Str × Addr)) {x : Str} {c : Addr} : ∀ (ns : List (Str × NameKind)) (cs : List (Str × Addr)),(cH cells ns cs).lookup x = some c ->
  ((x,NameKind.free) ∈ ns /\ (cells.lookup x).getD 0 = c) \/ cs.lookup x = some c
 | [],_,h => .inr h
 | (n,k) :: r,cs,h => by
  rcases pV cells r _ h with ⟨h1,h2⟩ | h1
  ·exact .inl ⟨List.mem_cons_of_mem _ h1,h2⟩
  ·by_cases hk : k = .free
   ·subst hk
    simp only [beq_self_eq_true,if_true] at h1
    by_cases hx : x = n
    ·subst hx
     simp only [List.lookup_cons,beq_self_eq_true] at h1
     exact .inl ⟨List.mem_cons_self,Option.some.inj h1⟩
    ·have hb : (x == n) = false:=by simpa using hx
     simp only [List.lookup_cons,hb] at h1
     exact .inr h1
   ·have hb : (k == NameKind.free) = false:=by simpa using hk
    simp only [hb,Bool.false_eq_true,if_false] at h1
    exact .inr h1
theorem lN (cells : List (Str × Addr)) {x : Str} {c : Addr} (e : cells.lookup x = some c) : ∀ (ns : List (Str × NameKind)) (cs : List (Str × Addr)),((x,NameKind.free) ∈ ns \/ cs.lookup x = some c) ->
  (cH cells ns cs).lookup x = some c
 | [],_,h => by
  rcases h with h | h
  ·cases h
  ·exact h
 | (n,k) :: r,cs,h => by
  refine lN cells e r _ ?_
  rcases h with h | h
  ·rcases List.mem_cons.mp h with z | z
   ·cases z
    right
    simp only [beq_self_eq_true,if_true,List.lookup_cons,e,Option.getD_some]
   ·exact .inl z
  ·right
   by_cases hk : (k == NameKind.free) = true
   ·rw [if_pos hk]
    by_cases hx : x = n
    ·subst hx
     simp only [List.lookup_cons,beq_self_eq_true,e,Option.getD_some]
    ·have hb : (x == n) = false:=by simpa using hx
     simp only [List.lookup_cons,hb]
     exact h
   ·rw [if_neg hk]
    exact h
theorem si {env : Env} : ∀ {names : List (Str × NameKind)} {x : Str},names.lookup x = some .free ->
  (names.map fun (n,k) => if (k == NameKind.free && env.scope.kind == .function && env.kindOf n == some .cell) then (n,NameKind.cell) else (n,k)).lookup x = some .cell \/
  (names.map fun (n,k) => if (k == NameKind.free && env.scope.kind == .function && env.kindOf n == some .cell) then (n,NameKind.cell) else (n,k)).lookup x = some .free
 | [],_,h => by simp at h
 | (n,k) :: r,x,h => by
  have ih:=@si env r x
  show List.lookup x ((if (k == NameKind.free && env.scope.kind == .function && env.kindOf n == some .cell) = true then (n,NameKind.cell) else (n,k)) :: _) = _ \/
   List.lookup x ((if (k == NameKind.free && env.scope.kind == .function && env.kindOf n == some .cell) = true then (n,NameKind.cell) else (n,k)) :: _) = _
  cases hx : x == n with
  | true =>
   simp only [List.lookup_cons,hx] at h
   cases h
   by_cases hc : (NameKind.free == NameKind.free && env.scope.kind == .function && env.kindOf n == some .cell) = true
   ·rw [if_pos hc]; simp only [List.lookup_cons,hx]; first | exact .inl trivial | exact .inl rfl
   ·rw [if_neg hc]; simp only [List.lookup_cons,hx]; first | exact .inr trivial | exact .inr rfl
  | false =>
   simp only [List.lookup_cons,hx] at h
   by_cases hc : (k == NameKind.free && env.scope.kind == .function && env.kindOf n == some .cell) = true
   ·rw [if_pos hc]; simp only [List.lookup_cons,hx]; exact ih h
   ·rw [if_neg hc]; simp only [List.lookup_cons,hx]; exact ih h
theorem md {env : Env} : ∀ {names : List (Str × NameKind)} {x : Str} {k' : NameKind},k' = .cell \/ k' = .free -> (∀ y ∈ names,y.2 ≠ .cell) ->
  (names.map fun (n,k) => if (k == NameKind.free && env.scope.kind == .function && env.kindOf n == some .cell) then (n,NameKind.cell) else (n,k)).lookup x = some k' -> (x,NameKind.free) ∈ names
 | [],_,_,_,_,h => by simp at h
 | (n,k) :: r,x,k',hk',hn,h => by
  have ih:=@md env r x k' hk' (fun y hy => hn y (List.mem_cons_of_mem _ hy))
  have h' : List.lookup x ((if (k == NameKind.free && env.scope.kind == .function && env.kindOf n == some .cell) = true then (n,NameKind.cell) else (n,k)) :: (r.map fun (n,k) => if (k == NameKind.free && env.scope.kind == .function && env.kindOf n == some .cell) then (n,NameKind.cell) else (n,k))) = some k' := h
  have hkc : k ≠ .cell:=hn (n,k) List.mem_cons_self
  cases hx : x == n with
  | true =>
   have hxn : x = n:=by simpa using hx
   subst hxn
   by_cases hc : (k == NameKind.free && env.scope.kind == .function && env.kindOf x == some .cell) = true
   ·have hk : k = .free:=by
     simp only [Bool.and_eq_true,beq_iff_eq] at hc
     exact hc.1.1
    subst hk
    exact List.mem_cons_self
   ·rw [if_neg hc] at h'
    simp only [List.lookup_cons,beq_self_eq_true] at h'
    have hk : k = k' := Option.some.inj h'
    rcases hk' with z | z
    ·exact absurd (hk.trans z) hkc
    ·rw [hk,z]; exact List.mem_cons_self
  | false =>
   refine List.mem_cons_of_mem _ (ih ?_)
   by_cases hc : (k == NameKind.free && env.scope.kind == .function && env.kindOf n == some .cell) = true
   ·rw [if_pos hc] at h'
    simpa only [List.lookup_cons,hx] using h'
   ·rw [if_neg hc] at h'
    simpa only [List.lookup_cons,hx] using h'
def aZ (ix : List (Option Nat)) (σ : St) : St:=ix.map fun o => match o with
 | none => none
 | some i => (σ[i]?).join
structure BlkScope (NX : List Str) (scX : Scope) (N : List Str) (ix : List (Option Nat)) (sc : Scope) : Prop where
 kind : sc.kind = .function
 nd : N.Nodup
 nocell : ∀ y ∈ sc.names,y.2 ≠ .cell
 locs : ∀ y ∈ sc.names,y.2 = .local -> sc.names.lookup y.1 = some .local
 free : ∀ y ∈ sc.names,y.2 = .free -> scX.names.lookup y.1 = some .cell \/ scX.names.lookup y.1 = some .free
 len : ix.length = N.length
 at_ : ∀ p ∈ N.zip ix,∀ i,p.2 = some i -> NX[i]? = some p.1 /\ sc.names.lookup p.1 = some .free
def bN (X : Cx) (N : List Str) (scope : Scope) (fp : List Addr) (s : Shared) (H : Hp) (C : Addr) : Cx:=
 { prog:=X.prog,w:=X.w,K:=X.K,mg:=X.mg,base:=X.base,A:=X.A,N:=N,s₀:=s,H₀:=H,env:=compEnvC scope (cH X.env.cells scope.names []) C X.env,outer:=X.stack,stack:=X.stack,ex:=fp,fn:=fun _ => false,calm:=X.calm,pn:=X.pn,xe:=fun _ _ => False }
theorem vo {names : List (Str × NameKind)} {x : Str} (h : names.lookup x = some .free) : (x,NameKind.free) ∈ names:=PySem.mem_of_lookup h
section
variable {X : Cx} {pins : List (Addr × Obj)} {σ : St} {H : Hp} {s : Shared} {N : List Str} {ix : List (Option Nat)} {scope : Scope} {fp : List Addr}
theorem BlkScope.clos (S : BlkScope X.N X.env.scope N ix scope) (ok : X.Ok) : ∀ y ∈ scope.names,y.2 = .free -> ∃ c,X.env.cells.lookup y.1 = some c:=fun y hy hf => ok.has y.1 (S.free y hy hf)
theorem zJ {D C : Addr} {h' : Heap} {tk : Nat} {m : Str -> Option Value} (I : Inv X pins σ H s) (S : BlkScope X.N X.env.scope N ix scope) (hf : ∀ b ∈ fp,sE X pins H b)
  (hfo : ∀ b ∈ fp,∃ o,s.heap.get? b = some o /\ ∀ v,o.data ≠ .cell v)
  (hD : s.heap.objs.size <= D) (hC : s.heap.objs.size <= C) (hDC : D ≠ C) (hk : ∀ b o,s.heap.get? b = some o -> h'.get? b = some o) (hns : h'.Ns C m)
  (hl : ∃ n,h'.get? D = some { cls:=.type "list",data:=.seq ([] : List Value).toArray n }) :
  Inv (bN X N scope fp s H C) pins (aZ ix σ) (upd H D (.lst [])) { s with heap:=h',toks:=tk }:=by
 have fresh : ∀ {a : Addr},s.heap.objs.size <= a -> H a = none:=fun h => I.hok.fresh h
 have cl_of : ∀ x c,(cH X.env.cells scope.names []).lookup x = some c -> X.env.cells.lookup x = some c:=fun x c e => by
  rcases pV _ _ _ e with ⟨h1,h2⟩ | h1
  ·obtain ⟨c',e'⟩:=S.clos I.ok _ h1 rfl
   have e'' : X.env.cells.lookup x = some c' := e'
   rw [e''] at h2
   rw [e'']
   exact congrArg some h2
  ·simp at h1
 have ltO : ∀ {b : Addr} {o : Obj},s.heap.get? b = some o -> b < s.heap.objs.size:=fun e => Heap.lt_size e
 have neC : ∀ {b : Addr} {o : Obj},s.heap.get? b = some o -> b ≠ C:=fun e => Nat.ne_of_lt (Nat.lt_of_lt_of_le (ltO e) hC)
 have neD : ∀ {b : Addr} {o : Obj},s.heap.get? b = some o -> b ≠ D:=fun e => Nat.ne_of_lt (Nat.lt_of_lt_of_le (ltO e) hD)
 have cellG : ∀ x c,X.env.cells.lookup x = some c -> ∃ o,s.heap.get? c = some o:=fun x c e => by
  obtain ⟨v,o,ho,_⟩:=I.cell x c e
  exact ⟨o,ho⟩
 refine ⟨⟨I.ok.mod,?_,I.ok.glob,I.ok.blt,hC,fun x y c e1 e2 => I.ok.inj x y c (cl_of x c e1) (cl_of y c e2),fun x hx => ?_,fun x c h _ => ?_,I.ok.hd,I.ok.frames,.inl rfl,fun b hb => ?_,I.bs,Nat.le_trans I.ok.bsz I.sz,fun b o e hb => ?_,fun b hb hb2 => ?_,I.stack,I.stkFree⟩,
  rfl,I.bare,Un.laid hk hD (fresh hD),⟨m,hns,fun j x v e1 e2 e3 => ?_⟩,fun x c e => ?_,?_,fun x c e => ?_,fun p hp => ?_,I.hok.laid hk hD ?_,?_⟩
 ·exact S.kind
 ·have hx' : (x,NameKind.free) ∈ scope.names:=by
   rcases hx with hx | hx
   ·exact md (.inl rfl) S.nocell hx
   ·exact md (.inr rfl) S.nocell hx
  obtain ⟨c,e⟩:=S.clos I.ok _ hx' rfl
  exact ⟨c,lN _ e _ _ (.inl hx')⟩
 ·exact absurd (show false = true from h) Bool.false_ne_true
 ·obtain ⟨f0,f1,f2,f3,f4,f5⟩:=hf b hb
  obtain ⟨o,e,_⟩:=hfo b hb
  exact ⟨neC e,fun x c ec => f4 x c (cl_of x c ec)⟩
 ·obtain ⟨f0,f1,f2,f3,f4,f5⟩:=hf b hb
  rcases f3 with z | z
  ·exact I.ok.noex b o e z
  ·exact absurd (Nat.lt_of_lt_of_le (Heap.lt_size (I.ok.bs b o e).1) z) (Nat.lt_irrefl _)
 ·obtain ⟨f0,f1,f2,f3,f4,f5⟩:=hf b hb
  rcases List.mem_cons.mp (I.stkSub b hb2) with z | z
  ·exact f1 z
  ·exact f2 z
 ·-- a name's value
  obtain ⟨mX,hnX,hlX⟩:=id I.loc
  have hj : (aZ ix σ)[j]? = some (some v):=e2
  unfold aZ at hj
  rw [List.getElem?_map] at hj
  cases ej : ix[j]? with
  | none => rw [ej] at hj; cases hj
  | some o =>
   rw [ej] at hj
   cases o with
   | none => cases hj
   | some i =>
    have hj' : (σ[i]?).join = some v:=Option.some.inj hj
    have hz : (x,some i) ∈ N.zip ix:=List.mem_iff_getElem?.mpr ⟨j,by rw [List.getElem?_zip_eq_some]; exact ⟨e1,ej⟩⟩
    obtain ⟨hNi,hfr⟩:=S.at_ _ hz i rfl
    have hmem:=vo hfr
    have hσ : σ[i]? = some (some v):=by
     cases q : σ[i]? with
     | none => rw [q] at hj'; cases hj'
     | some w' =>
      rw [q] at hj'
      have q' : w' = some v:=hj'
      rw [q']
    have hvx : X.env.scope.names.lookup x = some .cell \/ X.env.scope.names.lookup x = some .free:=S.free _ hmem rfl
    obtain ⟨u,r,lk⟩:=hlX i x v hNi hσ (.inr hvx)
    refine ⟨u,r,.inr ⟨?_,?_⟩⟩
    ·exact si hfr
    ·rcases lk with ⟨k,_⟩ | ⟨k,c,ec,ci⟩
     ·have k' : X.env.scope.names.lookup x = some .local:=k
      rcases hvx with z | z
      ·rw [z] at k'; cases k'
      ·rw [z] at k'; cases k'
     ·obtain ⟨oc,hoc,hocd⟩:=ci
      exact ⟨c,lN _ ec _ _ (.inl hmem),oc,hk c oc hoc,hocd⟩
 ·obtain ⟨v,o,ho,hd⟩:=I.cell x c (cl_of x c e)
  exact ⟨v,o,hk c o ho,hd⟩
 ·show upd H D (.lst []) C = none
  rw [az (Ne.symm hDC)]
  exact fresh hC
 ·obtain ⟨o,ho⟩:=cellG x c (cl_of x c e)
  rw [az (neD ho)]
  exact I.freeC x c (cl_of x c e)
 ·obtain ⟨e,n,ne,nf,d⟩:=I.pin p hp
  refine ⟨hk _ _ e,by rw [az (neD e)]; exact n,neC e,fun z => ?_,d⟩
  rcases List.mem_cons.mp (I.stkSub p.1 z) with q | q
  ·exact ne q
  ·exact nf q
 ·obtain ⟨n,hl⟩:=hl
  exact ⟨Nat.zero_le _,[],n,.nil,hl⟩
 ·show (aZ ix σ).length = N.length
  unfold aZ
  rw [List.length_map]
  exact S.len
end
end L2
set_option Elab.async false
set_option linter.all false
set_option maxRecDepth 100000
namespace L2
open PySem PySem.Spec PyProof.Rows
theorem B3 {prog : Program} {w : World} {A : Around} {R : Result -> Shared -> Prop} {s : Shared} {elt target iter : Expr} {scope : Scope} {pos : Pos} {it acc : Value} {env : Env} (I : Nat -> Shared -> Prop)
  (turn : ∀ n s,I n s -> wpAny (model prog w) A (pyNext it) (fun r s₁ => match r with
   | none => R (.ok .next) s₁
   | some v => wpAny (model prog w) A (letOwnedTupleGo target it v) (fun _ s₁' => wpAny (model prog w) A (assign target env v) (fun _ s₂ => wpAny (model prog w) A (eval elt env) (fun x s₃ =>
     wpAny (model prog w) A (call (.builtin "list.append") [acc,x]) (fun _ s₄ => ∃ m,m < n /\ I m s₄) (fun _ _ => False) s₃)
     (fun _ _ => False) s₂) (fun _ _ => False) s₁') (fun _ _ => False) s₁) (fun _ _ => False) s)
  (n : Nat) (h : I n s) :
  codeAny (model prog w) A (.compLoop (.ListComp elt [⟨target,iter,[],0⟩] scope pos) 0 it acc env) R s:=by
 refine codeAny_loop rfl I (fun n s hI => ?_) n h
 show wpAny _ _ ((compTurn (.ListComp elt [⟨target,iter,[],0⟩] scope pos) 0 it acc env).onRaise (fun x => do noteFrame x env; theTreesLotGoes x)) _ _ s
 refine wpAny_noted ?_
 rw [compTurn_list1]
 refine wpAny_bind (wpAny_standAt (wpAny_bind (wpAny_mono (turn n s hI) (fun r s₁ h₁ => ?_) fun _ _ h' => h'.elim)))
 cases r with
 | none => exact wpAny_pure h₁
 | some v =>
  refine wpAny_bind (wpAny_mono h₁ (fun _ s₁' h₁' => ?_) fun _ _ h' => h'.elim)
  exact wpAny_bind (wpAny_mono h₁' (fun _ s₂ h₂ => wpAny_bind (wpAny_bind (wpAny_mono h₂ (fun x s₃ h₃ => wpAny_bind (wpAny_mono h₃
   (fun _ s₄ h₄ => wpAny_pure (wpAny_pure ⟨rfl,h₄⟩)) fun _ _ h' => h'.elim)) fun _ _ h' => h'.elim))) fun _ _ h' => h'.elim)
def BS (J : It) (ix : List (Option Nat)) (g : TG) (te : TE) (σ : St) (H : Hp) (Qd : Addr -> Hp -> Prop) : Prop:=
 ∀ D,H D = none -> ∃ W : Nat -> Nat -> St -> Hp -> Prop,(∃ m,W 0 m (aZ ix σ) (upd H D (.lst []))) /\ ∀ i m σ' H',W i m σ' H' ->
  (J.stop i H' /\ Qd D H') \/ (J.go i H' /\ ∀ x H2,J.yld i H' x H2 -> g x σ' H2 fun σ3 H3 => te σ3 H3 fun y H4 => ∃ ys,H4 D = some (.lst ys) /\ ys.length < sizeLine /\ ∃ m',m' < m /\ W (i + 1) m' σ3 (upd H4 D (.lst (ys ++ [y]))))
section
variable {X : Cx} {pins : List (Addr × Obj)} {σ : St} {H : Hp} {s : Shared} {N : List Str} {ix : List (Option Nat)} {scope : Scope} {fp : List Addr} {tg elt iter : Expr} {pos spos : Pos} {J : It} {it : Addr} {tn : Nat -> Heap -> Prop} {g : TG} {te : TE} {wi : TI}
theorem F8 {Qd : Addr -> Hp -> Prop} {RR : Value -> Addr -> Result -> Shared -> Prop} {E : Value -> Shared -> Prop} (I : Inv X pins σ H s) (hc : X.calm = true) (S : BlkScope X.N X.env.scope N ix scope) (T : Turn X.prog X.w X.K tg J fp it tn) (st : tn 0 s.heap) (f2 : ∀ b ∈ fp,sE X pins H b)
  (hg : ∀ C,PG (bN X N scope fp s H C) tg g) (he : ∀ C,PE (bN X N scope fp s H C) elt te) (hW : BS J ix g te σ H Qd)
  (hR : ∀ D C s' H' m,Inv X pins σ H' s' -> s'.heap.Ns C m -> sE X pins H' C -> Qd D H' -> RR (.ref D) C (.ok .next) s') :
  wpAny (model X.prog X.w) X.A (newList []) (fun acc s₃ => wpAny (model X.prog X.w) X.A (newFunctionEnv scope X.env.globals (cH X.env.cells scope.names []) [] X.env.qual none .none (some X.env)) (fun cenv s₄ =>
   codeAny (model X.prog X.w) X.A (.compStart (.ListComp elt [⟨tg,iter,[],0⟩] scope pos) 0 (.ref it) acc { cenv with scope:=relabel scope X.env }) (RR acc cenv.locals) s₄) E s₃) E s:=by
 refine wpAny_newObj_type (wpAny_newFunctionEnv S.nocell (by intro y hy; simp at hy) (fun h₁ hns₁ hsb₁ => ?_) S.kind)
 dsimp only at hns₁ hsb₁ ⊢
 generalize hH2 : s.heap.push { cls:=.type "list",dict:=none,data:=.seq ([] : List Value).toArray } = H2 at hns₁ hsb₁ ⊢
 have hC : H2.objs.size = s.heap.objs.size + 1:=by rw [<- hH2,Heap.size_push]
 have hDC : s.heap.objs.size ≠ H2.objs.size:=by rw [hC]; exact Nat.ne_of_lt (Nat.lt_succ_self _)
 have hCle : s.heap.objs.size <= H2.objs.size:=by rw [hC]; exact Nat.le_succ _
 have below : ∀ b,b < s.heap.objs.size -> b ≠ H2.objs.size:=fun b hb => by rw [hC]; exact Nat.ne_of_lt (Nat.lt_succ_of_lt hb)
 have old : ∀ b o,s.heap.get? b = some o -> h₁.get? b = some o:=fun b o e => hsb₁.extBut b o (below b (Heap.lt_size e)) (Heap.get?_push_of_some _ (hH2 ▸ Heap.get?_push_of_some _ e))
 have hacc : ∃ n,h₁.get? s.heap.objs.size = some { cls:=.type "list",data:=.seq ([] : List Value).toArray n }:=⟨_,hsb₁.extBut _ _ hDC (Heap.get?_push_of_some _ (hH2 ▸ Heap.get?_push_size _ rfl))⟩
 have st1 : tn 0 h₁:=T.keep _ _ _ st fun b _ o e => old b o e
 have fo : ∀ b ∈ fp,∃ o,s.heap.get? b = some o /\ ∀ v,o.data ≠ .cell v:=T.obj _ _ st
 have I0 : Inv (bN X N scope fp s H H2.objs.size) pins (aZ ix σ) (upd H s.heap.objs.size (.lst [])) { s with heap:=h₁,toks:=s.toks + ([] : List (Str × Value)).length }:=
  zJ I S f2 fo (Nat.le_refl _) hCle hDC old hns₁ hacc
 have freshD : H s.heap.objs.size = none:=I.hok.fresh (Nat.le_refl _)
 obtain ⟨W,⟨m0,w0⟩,turn⟩:=hW s.heap.objs.size freshD
 have cl_ne : ∀ b ∈ fp,b ≠ H2.objs.size:=fun b hb => by
  obtain ⟨o,e,_⟩:=fo b hb
  exact below b (Heap.lt_size e)
 have stat : ∀ {H' : Hp},(∀ b ∈ fp,H' b = none) -> ∀ b ∈ fp,sE (bN X N scope fp s H H2.objs.size) pins H' b:=fun hn b hb => by
  obtain ⟨f0,f1,f3,f4,f5,f6⟩:=f2 b hb
  exact ⟨hn b hb,cl_ne b hb,I0.ok.exfs b hb,.inl hb,(I0.ok.exf b hb).2,f6⟩
 have fr0 : ∀ b ∈ fp,(upd H s.heap.objs.size (.lst [])) b = none:=fun b hb => by
  obtain ⟨o,e,_⟩:=fo b hb
  rw [az (Nat.ne_of_lt (Heap.lt_size e))]
  exact (f2 b hb).1
 have loop : codeAny (model X.prog X.w) X.A (.compLoop (.ListComp elt [⟨tg,iter,[],0⟩] scope pos) 0 (.ref it) (.ref s.heap.objs.size) (compEnvC scope (cH X.env.cells scope.names []) H2.objs.size X.env))
   (RR (.ref s.heap.objs.size) H2.objs.size) { s with heap:=h₁,toks:=s.toks + ([] : List (Str × Value)).length }:=by
  refine B3 (fun n s' => ∃ i σ' H',Inv (bN X N scope fp s H H2.objs.size) pins σ' H' s' /\ tn i s'.heap /\ (∀ b ∈ fp,H' b = none) /\ W i n σ' H') ?_ m0 ⟨0,_,_,I0,st1,fr0,w0⟩
  rintro n s3 ⟨i,σ3,H3,I3,st3,fr3,w3⟩
  rcases turn i n σ3 H3 w3 with ⟨stop,qn⟩ | ⟨go,step⟩
  ·refine thn (T.done (bN X N scope fp s H H2.objs.size) rfl rfl rfl hc i pins s3 σ3 H3 _ I3 (stat fr3) st3 stop) fun r s4 ⟨hr,I4⟩ => ?_
   subst hr
   obtain ⟨m4,hn4,_⟩:=id I4.loc
   refine hR _ _ s4 H3 m4 ?_ hn4 (I.fpOk hCle I4.free) qn
   exact I.call' (ch:=fp) I4.os I4.base I4.hok I4.bare fun b hb => by
    obtain ⟨f0,f1,f3,f4,f5,f6⟩:=f2 b hb
    exact ⟨f4,f1,f5,f6⟩
  ·refine thn (T.item (bN X N scope fp s H H2.objs.size) rfl rfl rfl hc i pins s3 σ3 H3 _ I3 (stat fr3) st3 go) fun r s4 ⟨u,hr,h4⟩ => ?_
   subst hr
   refine thn h4 fun _ s5 ⟨x,H5,I5,r5,y5,st5,fr5⟩ => ?_
   have I5' := I5.pinned (stat fr5) (T.obj _ _ st5)
   refine thn (hg _ _ s5 σ3 H5 x u _ I5' r5 (step x H5 y5)) fun _ s6 ⟨σ6,H6,I6,q6⟩ => ?_
   refine thn (he _ _ s6 σ6 H6 _ I6 q6) fun yv s7 ⟨y,H7,I7,r7,ys,hD7,hz7,m',hm,w7⟩ => ?_
   refine thn (bI (X:=bN X N scope fp s H H2.objs.size) _ s7 σ6 H7 (.ref s.heap.objs.size) [y] (.ref s.heap.objs.size) [yv] (fun _ H8 => W (i + 1) m' σ6 H8) I7 rfl (.cons r7 .nil) ⟨_,ys,y,rfl,rfl,hD7,hz7,w7⟩) fun _ s8 ⟨_,H8,I8,_,w8⟩ => ?_
   refine ⟨m',hm,i + 1,σ6,H8,I8.unpinned,T.keep _ _ _ st5 fun b hb o e => (I8.pin (b,o) (List.mem_append_right _ (List.mem_append_right _ (dB hb e)))).1,fun b hb => ?_,w8⟩
   obtain ⟨o,e,d⟩:=T.obj _ _ st5 b hb
   exact (I8.pin (b,o) (List.mem_append_right _ (List.mem_append_right _ (dB hb e)))).2.1
 exact codeAny_compStart_list loop (T.self _ _ _ _ _ st1 loop)
def KR (ix : List (Option Nat)) (wi : TI) (g : TG) (te : TE) : TE:=fun σ H Q => wi σ H fun J H1 => BS J ix g te σ H1 fun D H' => Q (.ref D) H'
theorem rY (hc : X.calm = true) (S : BlkScope X.N X.env.scope N ix scope) (hi : PI X tg iter wi) (hg : ∀ fp s H C,PG (bN X N scope fp s H C) tg g) (he : ∀ fp s H C,PE (bN X N scope fp s H C) elt te)
  (hs : ∀ x,foldedSetIterable iter X.env x = pure x:=by intro _; rfl) : PE X (.ListComp elt [⟨tg,iter,[],0⟩] scope pos) (KR ix wi g te):=by
 intro pins s σ H Q I h
 rw [eval_ListComp]
 refine wpAny_comprehension_free (use:=none) rfl hs (km (S.clos I.ok)) S.kind S.locs (thn (hi pins s σ H _ I h) fun v s1 h1 => thn h1 fun itv s2 h2 => ?_)
 obtain ⟨it,fp,tn,J,H2,e,I2,T,st2,f2,hW⟩:=h2
 subst e
 refine F8 (RR:=fun acc C => compPost (model X.prog X.w) X.A X.xe none (EP X pins σ Q) acc C) I2 hc S T st2 f2 (hg _ _ _) (he _ _ _) hW ?_
 intro D C s' H' m I' hn fC q
 exact ⟨m,hn,fun h' sb => ⟨.ref D,H',I'.turned (t' := s'.toks) (fun b o hb e => (sb.2 b hb).trans e) fC.1 fC.2.1 fC.2.2.2.1 fC.2.2.2.2.1 fC.2.2.2.2.2,rfl,q⟩⟩
end
theorem wL {lo : Int} {n : Nat} {ix : List (Option Nat)} {te : TE} {σ : St} {H : Hp} {Qd : Addr -> Hp -> Prop} (Pv : Addr -> Nat -> List V -> Hp -> Prop)
  (h0 : ∀ D,H D = none -> Pv D 0 [] (upd H D (.lst [])))
  (hs : ∀ D i ys H' (Q' : VK),H D = none -> i < n -> H' D = some (.lst ys) -> Pv D i ys H' -> (∀ y H4,H4 D = some (.lst ys) -> ys.length < sizeLine -> Pv D (i + 1) (ys ++ [y]) (upd H4 D (.lst (ys ++ [y]))) -> Q' y H4) ->
   te ((aZ ix σ).set 0 (some (.int (lo + i)))) H' Q')
  (hd : ∀ D ys H',H D = none -> H' D = some (.lst ys) -> Pv D n ys H' -> Qd D H') : BS (Itr lo n) ix (aF 0) te σ H Qd:=by
 intro D hD
 refine ⟨fun i m σ' H' => m = n - i /\ i <= n /\ (σ' = aZ ix σ \/ ∃ t,σ' = (aZ ix σ).set 0 t) /\ ∃ ys,H' D = some (.lst ys) /\ Pv D i ys H',⟨n,by simp,Nat.zero_le _,.inl rfl,[],af,h0 D hD⟩,?_⟩
 rintro i m σ' H' ⟨rfl,hi,hσ,ys,hy,p⟩
 by_cases hlt : i < n
 ·refine .inr ⟨hlt,fun x H2 y => ?_⟩
  obtain ⟨e1,e2⟩:=y
  subst e1
  subst e2
  have es : σ'.set 0 (some (V.int (lo + i))) = (aZ ix σ).set 0 (some (V.int (lo + i))):=by
   rcases hσ with z | ⟨t,z⟩
   ·rw [z]
   ·rw [z,List.set_set]
  show te (σ'.set 0 (some (V.int (lo + i)))) _ _
  rw [es]
  refine hs D i ys _ _ hD hlt hy p fun y H4 h4 hz p4 => ⟨ys,h4,hz,n - (i + 1),by omega,rfl,hlt,.inr ⟨_,rfl⟩,ys ++ [y],af,p4⟩
 ·have e : i = n:=by omega
  subst e
  exact .inl ⟨Nat.le_refl _,hd D ys H' hD hy p⟩
theorem zC {K : PySem.W.Frag} {a : Addr} {xs : List V} {ix : List (Option Nat)} {te : TE} {σ : St} {H : Hp} {Qd : Addr -> Hp -> Prop} (Pv : Addr -> Nat -> List V -> Hp -> Prop)
  (h0 : ∀ D,H D = none -> Pv D 0 [] (upd H D (.lst [])))
  (hl : ∀ D i ys H',i <= xs.length -> Pv D i ys H' -> SqL K H' a xs)
  (hs : ∀ D i x ys H' (Q' : VK),H D = none -> xs[i]? = some x -> H' D = some (.lst ys) -> Pv D i ys H' -> (∀ y H4,H4 D = some (.lst ys) -> ys.length < sizeLine -> Pv D (i + 1) (ys ++ [y]) (upd H4 D (.lst (ys ++ [y]))) -> Q' y H4) ->
   te ((aZ ix σ).set 0 (some x)) H' Q')
  (hd : ∀ D ys H',H D = none -> H' D = some (.lst ys) -> Pv D xs.length ys H' -> Qd D H') : BS (Itl K a) ix (aF 0) te σ H Qd:=by
 intro D hD
 refine ⟨fun i m σ' H' => m = xs.length - i /\ i <= xs.length /\ (σ' = aZ ix σ \/ ∃ t,σ' = (aZ ix σ).set 0 t) /\ ∃ ys,H' D = some (.lst ys) /\ Pv D i ys H',⟨xs.length,by simp,Nat.zero_le _,.inl rfl,[],af,h0 D hD⟩,?_⟩
 rintro i m σ' H' ⟨rfl,hi,hσ,ys,hy,p⟩
 have q:=hl D i ys H' hi p
 by_cases hlt : i < xs.length
 ·refine .inr ⟨⟨xs,xs[i],q,by simp [hlt]⟩,fun x H2 y => ?_⟩
  obtain ⟨e1,e2⟩:=y
  subst e1
  have ex:=e2 xs q
  have es : σ'.set 0 (some x) = (aZ ix σ).set 0 (some x):=by
   rcases hσ with z | ⟨t,z⟩
   ·rw [z]
   ·rw [z,List.set_set]
  show te (σ'.set 0 (some x)) _ _
  rw [es]
  refine hs D i x ys _ _ hD ex hy p fun y H4 h4 hz p4 => ⟨ys,h4,hz,xs.length - (i + 1),by omega,rfl,hlt,.inr ⟨_,rfl⟩,ys ++ [y],af,p4⟩
 ·have e : i = xs.length:=by omega
  subst e
  exact .inl ⟨⟨xs,q,Nat.le_refl _⟩,hd D ys H' hD hy p⟩
section
variable {X : Cx}
def Lj (K : PySem.W.Frag) : List V -> Hp -> VK -> Prop:=fun xs H Q => ∃ x n t b,xs = [x,.ty n] /\ TyOf K H x t /\ PySem.W.kitOne K t (.type n) = some b /\ Q (.bl b) H
theorem BZ : fX X (.builtin "isinstance") (Lj X.K):=by
 intro pins s σ H xs us Q I r h
 obtain ⟨x,n,t,b,rfl,ty,e,q⟩:=h
 obtain ⟨u,v,rfl,ru,rv⟩:=r.two
 cases (show v = Value.type n from rv)
 exact Fn I ru ty e fun tk => ⟨.bl b,H,I.tok tk,rfl,q⟩
end
section
variable {prog : Program} {w : World} {A : Around} {E : Value -> Shared -> Prop} {s : Shared}
theorem zE {it t : Addr} {items : Array Value} (hne : t ≠ it) : ∀ (n i : Nat) (s : Shared) (Q : List Value -> Shared -> Prop),s.heap.IsListIter it t i -> s.heap.IsList t items -> i + n <= items.size ->
  (∀ h',h'.IsListIter it t (i + n) -> Heap.SameBut it s.heap h' -> Q ((items.toList.drop i).take n) { s with heap:=h' }) -> wpAny (model prog w) A (draw (.ref it) n) Q E s
 | 0,i,s,Q,hit,_,_,hQ => by
  show wpAny _ _ (pure []) Q E s
  exact wpAny_pure (by simpa using hQ s.heap hit (Heap.SameBut.refl ..))
 | n + 1,i,s,Q,hit,ht,hle,hQ => by
  have hlt : i < items.size:=by omega
  show wpAny _ _ (pyNext (.ref it) >>= _) Q E s
  refine wpAny_bind (wpAny_pyNext_list_item hit ht (x:=items[i]) (by simp [hlt]) fun h₁ hit₁ hs₁ => ?_)
  refine wpAny_bind (wpAny_holding (zE hne n (i + 1) _ _ hit₁ (ht.extBut hs₁.extBut hne) (by omega) fun h₂ hit₂ hs₂ => wpAny_pure ?_))
  have hd : items.toList.drop i = items[i] :: items.toList.drop (i + 1):=by simp [List.drop_eq_getElem_cons,hlt]
  have:=hQ h₂ (by rw [show i + (n + 1) = i + 1 + n by omega]; exact hit₂) (hs₁.trans hs₂)
  rw [hd,List.take_succ_cons] at this
  exact this
theorem ur {t : Addr} {items : Array Value} {Q : List Value -> Shared -> Prop} (hh : A.handled = none) (ht : s.heap.IsList t items)
  (hQ : ∀ h',Heap.ExtBut s.heap.objs.size s.heap h' -> Q items.toList { s with heap:=h' }) : wpAny (model prog w) A (unpackItems (.ref t) items.size none) Q E s:=by
 have hlt : t ≠ s.heap.objs.size:=by obtain ⟨o,ho,_⟩:=ht; exact Nat.ne_of_lt (Heap.lt_size ho)
 unfold unpackItems
 refine wpAny_bind ?_
 ·unfold notIterableAtAll
  refine wpAny_bind (wpAny_specialOf ht.typeIs slot_list_iter.lookup ?_)
  refine wpAny_pure ?_
  simp only [Bool.false_eq_true,if_false]
  refine wpAny_bind (wpAny_holding (wpAny_pyIter_list ht ?_))
  refine wpAny_bind (wpAny_holding (zE hlt items.size 0 _ _ ⟨_,Heap.get?_push_size _ rfl,rfl,rfl⟩ (ht.push _) (by omega) fun h₁ hit₁ hs₁ => ?_))
  have hall : List.take items.size (List.drop 0 items.toList) = items.toList:=by
   rw [List.drop_zero]; exact List.take_of_length_le (by simp)
  rw [hall]
  rw [if_neg (by simp)]
  have ht₁ : h₁.IsList t items:=(ht.push _).extBut hs₁.extBut hlt
  refine wpAny_bind (wpAny_holding (wpAny_pyNext_list_end hh hit₁ ht₁ (by simp) fun h₂ he₂ => ?_))
  simp only [Option.isSome_none,Bool.false_eq_true,if_false]
  refine wpAny_pure (hQ h₂ fun b o hb e => he₂ b o hb (hs₁.extBut b o hb (Heap.get?_push_of_some _ e)))
theorem rC {env : Env} {elts : List Expr} {x1} {pos : Pos} {t : Addr} {items : Array Value} {Q : Unit -> Shared -> Prop} (hh : A.handled = none) (ht : s.heap.IsList t items)
  (hn : (assignEach elts env).length = items.size) (hstar : (assignEach elts env).findIdx? (·.1) = none)
  (h : ∀ h',Heap.ExtBut s.heap.objs.size s.heap h' -> wpAny (model prog w) A (assignInOrder ((assignEach elts env).map (·.2)) items.toList) Q E { s with heap:=h' }) :
  wpAny (model prog w) A (assign (.Tuple elts x1 pos) env (.ref t)) Q E s:=by
 rw [PyProof.Rows.assign_Tuple]
 refine wpAny_bind (wpAny_standAt ?_)
 unfold unpack
 rw [hn,hstar]
 exact wpAny_bind (wpAny_holding (ur hh ht h))
end
section
variable {X : Cx} {pos : Pos}
def La (K : PySem.W.Frag) (n : Nat) (t : TGs) : TG:=fun v σ H Q => ∃ a xs,v = .ref a /\ SqL K H a xs /\ xs.length = n /\ t xs σ H Q
theorem nU {es : List Expr} {k : Nat} {t : TGs} {n : Nat} (hc : X.calm = true) (h : PGs X es t)
  (hn : (assignEach es X.env).length = n:=by rfl) (hst : (assignEach es X.env).findIdx? (·.1) = none:=by rfl) : PG X (.Tuple es k pos) (La X.K n t):=by
 intro pins s σ H v u Q I r hw
 obtain ⟨a,xs,e1,hq,hl,hw⟩:=hw
 subst e1
 cases r
 obtain ⟨its,rv,ht,hz⟩:=I.list hq
 refine rC (I.ok.hd hc) ht.isList (by simp [hn,<- hl,rv.length]) hst fun h' hx => ?_
 have I1 : Inv X pins σ H { s with heap:=h' }:=I.kept (t' := s.toks) fun b o e => hx b o (Nat.ne_of_lt (Heap.lt_size e)) e
 exact h pins _ σ H xs _ Q I1 (by simpa using rv) hw
def Cd : List V -> List V -> Bool
 | [],[] => true
 | x :: xs,y :: ys => eqV x y && Cd xs ys
 | _,_ => false
theorem Cf : ∀ {xs ys : List V},xs.length ≠ ys.length -> Cd xs ys = false
 | [],[],h => absurd rfl h
 | [],_ :: _,_ => rfl
 | _ :: _,[],_ => rfl
 | x :: xs,y :: ys,h => by
  have:=@Cf xs ys (by simpa using h)
  simp [Cd,this]
theorem Ce : ∀ {xs ys : List V},xs.length = ys.length -> Cd xs ys = (List.range xs.length).all fun j => eqV (xs.getD j .non) (ys.getD j .non)
 | [],[],_ => rfl
 | [],_ :: _,h => by simp at h
 | _ :: _,[],h => by simp at h
 | x :: xs,y :: ys,h => by
  have ih:=@Ce xs ys (by simpa using h)
  rw [List.length_cons,List.range_succ_eq_map,List.all_cons,List.all_map]
  show (eqV x y && Cd xs ys) = (eqV x y && _)
  rw [ih]
  rfl
def Li (K : PySem.W.Frag) : R2:=fun x y H Q => ∃ a b xs ys,x = .ref a /\ y = .ref b /\ SqL K H a xs /\ SqL K H b ys /\ xs.all mE = true /\ ys.all mE = true /\ Q (.bl (Cd xs ys)) H
theorem JJ (hu : X.A.units < cLine) : OpR X (compareOp .Eq) (Li X.K):=by
 intro pins s σ H x y v u Q I r1 r2 h
 obtain ⟨a,b,xs,ys,rfl,rfl,ha,hb,fa,fb,q⟩:=h
 cases r1
 cases r2
 obtain ⟨its,rv,ht,hz⟩:=I.list ha
 obtain ⟨its2,rv2,ht2,hz2⟩:=I.list hb
 have l1:=rv.length
 have l2:=rv2.length
 by_cases hl : xs.length = ys.length
 ·refine SeqAt.eq_listAt (e:=fun j => eqV (xs.getD j .non) (ys.getD j .non)) ht.isList ht2.isList (by simp; omega) hu (fun j h1 h2 => ?_) ?_
  ·have j1 : j < xs.length:=by simp at h1; omega
   have j2 : j < ys.length:=by omega
   obtain ⟨u1,e1,q1⟩:=rv.get (i:=j) (x:=xs[j]) (by simp [j1])
   obtain ⟨u2,e2,q2⟩:=rv2.get (i:=j) (x:=ys[j]) (by simp [j2])
   have f1 : mE xs[j] = true:=List.all_eq_true.mp fa _ (List.getElem_mem j1)
   have f2 : mE ys[j] = true:=List.all_eq_true.mp fb _ (List.getElem_mem j2)
   have g1 : its.toArray[j] = u1:=by
    have:=(List.getElem?_eq_some_iff.mp e1).2
    simpa using this
   have g2 : its2.toArray[j] = u2:=by
    have:=(List.getElem?_eq_some_iff.mp e2).2
    simpa using this
   rw [g1,g2]
   have d1 : xs.getD j V.non = xs[j]:=by simp [j1]
   have d2 : ys.getD j V.non = ys[j]:=by simp [j2]
   show SeqAt.EqAt _ _ _ _ (eqV (xs.getD j V.non) (ys.getD j V.non))
   rw [d1,d2]
   exact Gg q1 q2 f1 f2
  ·refine ⟨.bl (Cd xs ys),H,I,?_,q⟩
   show Value.bool _ = Value.bool _
   rw [Ce hl]
   simp [l1]
 ·refine SeqAt.eq_list_lengthsAt ht.isList ht2.isList ?_ hu ?_
  ·simp
   omega
  ·refine ⟨.bl (Cd xs ys),H,I,?_,q⟩
   rw [Cf hl]
   rfl
end
end L2
set_option Elab.async false
set_option linter.all false
set_option maxRecDepth 100000
namespace HT
open PySem PySem.Spec PyProof.Rows
section
variable {prog : Program} {w : World} {A : Around} {E : Value -> Shared -> Prop} {s : Shared}
end
end HT
namespace L2
open PySem PySem.Spec PyProof.Rows
section
variable {X : Cx}
end
structure FunD (K : PySem.W.Frag) (x qual : Str) (st : Stmt) (dV : Value) (f : Addr) (fd : FuncData) : Prop where
 ex : ∃ (oc : Value) (od : Option Addr) (kV doc pm : Value) (an : Option Addr) (cdv ct : Value) (osl : Array (Option Value)),
  fd = PySem.W.fnOf x qual (aL st) (aJ st) (ai st) dV kV doc pm an cdv ct /\ K.lookup f = some ⟨oc,od,.func fd,osl⟩ /\ PySem.W.codeIn K cdv qual = true
 kp : PySem.W.keepIn K (.ref f) = true
section
variable {P : Program} {w : World} {K : PySem.W.Frag} {mg : Str -> Option Value} {base : Heap}
theorem FunD.ok {x qual : Str} {st : Stmt} {dV : Value} {f : Addr} {fd : FuncData} {N ps : List Str} {k : Nat} {sp : Sp} (F : FunD K x qual st dV f fd) (S : FnScope N ps (ai st)) (len : ∀ vs H Q E,sp vs H Q E -> vs.length = ps.length)
  (hbody : ∀ (cdv : Value) (A : Around) (outer : List Env) (s : Shared) (H : Hp) (vs : List V) (Q : VK) (E : XK),Room k (A.deeper (envOfC qual (ai st) s.heap.objs.size f cdv)) -> sp vs H Q E ->
   ∃ t,PSs (wU CX0 P w K mg base N qual (ai st) f cdv A outer s H E).nox (aJ st) t /\ t { nx:=fun _ H' => Q .non H',rt:=Q } (start N vs) H) : FnOk P w K mg base CX0 (k + 1) f fd ps sp:=by
 obtain ⟨oc,od,kV,doc,pm,an,cdv,ct,osl,rfl,lk,hcd⟩:=F.ex
 refine IY lk hcd S len fun A outer s H vs Q E hr hsp => ?_
 obtain ⟨t,h,q⟩:=hbody cdv A outer s H vs Q E hr hsp
 exact ⟨t,h.nox,q⟩
theorem FunD.binds {x qual : Str} {st : Stmt} {f : Addr} {fd : FuncData} {ps : List Str} (F : FunD K x qual st .none f fd)
  (h : ∀ (kV doc pm : Value) (an : Option Addr) (cdv ct : Value) (us : List Value),us.length = ps.length -> bindArgs (PySem.W.fnOf x qual (aL st) (aJ st) (ai st) .none kV doc pm an cdv ct) ⟨us,[]⟩ = pure (ps.zip us)) : Binds K fd ps []:=by
 obtain ⟨oc,od,kV,doc,pm,an,cdv,ct,osl,rfl,lk,hcd⟩:=F.ex
 exact .all (h kV doc pm an cdv ct)
theorem aQ {x qual : Str} {st : Stmt} {f : Addr} {oc : Value} {od an : Option Addr} {osl : Array (Option Value)} {dV kV doc pm cdv ct : Value} (l : K.lookup f = some ⟨oc,od,.func (PySem.W.fnOf x qual (aL st) (aJ st) (ai st) dV kV doc pm an cdv ct),osl⟩)
  (c : PySem.W.codeIn K cdv qual = true) (k : PySem.W.keepIn K (.ref f) = true) : FunD K x qual st dV f (PySem.W.fnOf x qual (aL st) (aJ st) (ai st) dV kV doc pm an cdv ct):=⟨⟨oc,od,kV,doc,pm,an,cdv,ct,osl,rfl,l,c⟩,k⟩
structure DefOk (P : Program) (w : World) (K : PySem.W.Frag) (mg : Str -> Option Value) (base : Heap) (x : Str) (k : Nat) (ps : List Str) (dvs : List V) (sp : Sp) : Prop where
 ex : ∃ (f : Addr) (fd : FuncData) (ds : List Value),mg x = some (.ref f) /\ PySem.W.keepIn K (.ref f) = true /\ Vals dvs ds /\ Binds K fd ps ds /\ FnOk P w K mg base CX0 k f fd ps sp
end
section
variable {X : Cx} {x : Str} {j k : Nat} {ps : List Str} {dvs : List V} {sp : Sp} {p pos : Pos} {e : Expr} {es : List Expr} {t : TA}
theorem br (G : DefOk X.prog X.w X.K X.mg X.base x k ps dvs sp) (hr : Room j X.A) (ha : PA X (e :: es) t) (hx : ∀ e s,X.xe e s = False:=by intro _ _; rfl) (hkj : k <= j:=by decide) (hg : Gl X x:=by rfl) (hdb : (x == ("__debug__" : Str)) = false:=by decide)
  (he : starEach (e :: es) X.env = (false,eval e X.env) :: starEach es X.env:=by rfl) (hpl : (backTo pos (starEach es X.env)).any (·.1) = false:=by rfl) :
  PE X (.Call (.Name x p) (e :: es) [] pos) (uI sp dvs E0 t):=by
 obtain ⟨f,fd,ds,hm,hk,hd,hb,F⟩:=G.ex
 exact Bl F (hr.mono hkj) hg hm hk hb hd (fun _ _ _ _ _ _ _ h => h.elim) ha hdb he hpl
end
theorem ah {H : Hp} {p : Addr} (h : H p = none) (o : HO) : Same H (upd H p o):=fun b u q => by rw [az (aA q h)]; exact q
theorem small {n : Nat} (h : n <= 1000) : n <= sizeLine:=Nat.le_of_lt (fg h)
theorem cq : bootBuiltins "len" = some (.builtin "len"):=by decide +kernel
theorem FZ : bootBuiltins "min" = some (.builtin "min"):=by decide +kernel
theorem C9 : bootBuiltins "max" = some (.builtin "max"):=by decide +kernel
theorem ba : bootBuiltins "isinstance" = some (.builtin "isinstance"):=by decide +kernel
theorem Ji : bootBuiltins "all" = some (.builtin "all"):=by decide +kernel
theorem Jj : bootBuiltins "sum" = some (.builtin "sum"):=by decide +kernel
theorem kH : bootBuiltins "sorted" = some (.builtin "sorted"):=by decide +kernel
theorem Af : bootBuiltins "int" = some (.type "int"):=by decide +kernel
theorem wC : bootBuiltins "tuple" = some (.type "tuple"):=by decide +kernel
theorem sO : bootBuiltins "str" = some (.type "str"):=by decide +kernel
theorem wB : bootBuiltins "set" = some (.type "set"):=by decide +kernel
end L2
set_option Elab.async false
set_option linter.all false
set_option maxRecDepth 100000
namespace L2
open PySem PySem.Spec PyProof.Rows
section
variable {X : Cx}
end
section
variable {X : Cx} {tg : Expr}
end
theorem we {c : TT} {tb : TS} {D : Ends} {σ : St} {H : Hp} (Pv : Nat -> St -> Hp -> Prop) (h0 : ∃ m,Pv m σ H)
  (hs : ∀ m σ H,Pv m σ H -> c σ H fun b H1 => if b = true then ∃ N : St -> Hp -> Prop,(∀ σ' H',N σ' H' -> ∃ m',m' < m /\ Pv m' σ' H') /\ tb { D with nx:=N,ct:=N,bk:=D.nx } σ H1 else D.nx σ H1) : yk c tb D σ H:=⟨Pv,h0,hs⟩
end L2
set_option Elab.async false
set_option linter.all false
set_option maxRecDepth 100000
namespace L2
open PySem PySem.Spec PyProof.Rows
section
variable {X : Cx} {pins : List (Addr × Obj)} {σ : St} {H : Hp} {s : Shared}
end
section
variable {X : Cx} {tg : Expr}
end
section
variable {X : Cx}
end
end L2
set_option Elab.async false
set_option linter.all false
set_option maxRecDepth 100000
namespace PySem
section
variable {prog : Program} {w : World} {A : Around} {R : Result -> Shared -> Prop} {I : Addr} {fp wr : List Addr} {n : Nat} {P : Nat -> Value -> Prop} {St : Nat -> Heap -> Prop}
end
section
variable {prog : Program} {w : World} {A : Around} {E : Value -> Shared -> Prop} {s : Shared}
end
end PySem
namespace L2
open PySem PySem.Spec PyProof.Rows
section
variable {X : Cx}
variable {p pos kpos : Pos} {e d : Expr} {ta : TA} {td : TE}
end
section
variable {prog : Program} {w : World} {A : Around} {E : Value -> Shared -> Prop} {s : Shared}
end
section
variable {X : Cx} {e : Expr} {te : TE} {lo hi : Option Expr} {st : Expr} {tl th ts : TO} {pos p2 : Pos}
end
section
variable {X : Cx} {tg : Expr}
end
section
variable {X : Cx}
theorem Cg (K : PySem.W.Frag) (h : X.K = K:=by rfl) : IxR X (KD K):=by subst h; exact bg
end
end L2
set_option Elab.async false
set_option linter.all false
set_option maxRecDepth 100000
namespace L2
open PySem PySem.Spec PyProof.Rows
section
variable {κ : Type} [DecidableEq κ]
def putK (kvs : List (κ × V)) (k : κ) (v : V) : List (κ × V):=
 if (kvs.any fun kv => decide (kv.1 = k)) = true then kvs.map (fun kv => if kv.1 = k then (kv.1,v) else kv) else kvs ++ [(k,v)]
theorem Co (kvs : List (κ × V)) (k : κ) (v : V) : (putK kvs k v).length <= kvs.length + 1:=by
 unfold putK
 split
 ·rw [List.length_map]; omega
 ·rw [List.length_append,List.length_cons,List.length_nil]; omega
theorem KV.any {kvs : List (κ × V)} {vs : List (κ × Value)} (r : KV kvs vs) (k : κ) : (kvs.any fun kv => decide (kv.1 = k)) = vs.any fun kv => decide (kv.1 = k):=by
 unfold KV at r
 induction r with
 | nil => rfl
 | cons h t ih => rw [List.any_cons,List.any_cons,ih,h.1]
theorem KV.repl {kvs : List (κ × V)} {vs : List (κ × Value)} (r : KV kvs vs) (k : κ) {y : V} {u : Value} (ry : RelV y u) :
  KV (kvs.map fun kv => if kv.1 = k then (kv.1,y) else kv) (vs.map fun kv => if kv.1 = k then (kv.1,u) else kv):=by
 unfold KV at r ⊢
 induction r with
 | nil => exact .nil
 | @cons p q ps qs h t ih =>
  rw [List.map_cons,List.map_cons]
  refine .cons ?_ ih
  obtain ⟨h1,h2⟩:=h
  by_cases e : p.1 = k
  ·rw [if_pos e,if_pos (h1.symm.trans e)]; exact ⟨h1,ry⟩
  ·rw [if_neg e,if_neg (fun z => e (h1.trans z))]; exact ⟨h1,h2⟩
theorem KV.put {kvs : List (κ × V)} {vs : List (κ × Value)} (r : KV kvs vs) (k : κ) {y : V} {u : Value} (ry : RelV y u) : KV (putK kvs k y) (stored vs k u):=by
 unfold putK stored
 rw [r.any k]
 by_cases e : (vs.any fun kv => decide (kv.1 = k)) = true
 ·rw [if_pos e,if_pos e]; exact r.repl k ry
 ·rw [if_neg e,if_neg e]; exact Paired.snoc r ⟨rfl,ry⟩
end
theorem Kq {P : Program} {w : World} {k : Key} {u : Value} (r : RelV (kV k) u) : (gF P w).is k u = true:=by
 cases k with
 | inl i => obtain ⟨t,e⟩:=(show ∃ t,u = Value.int i t from r); subst e; exact Cw P w i t
 | inr x => obtain ⟨t,e⟩:=(show ∃ t,u = Value.str x t from r); subst e; exact Cy P w x t
section
variable {P : Program} {w : World} {H : Hp} {h : Heap} {a : Addr}
theorem KN {u : HO} (ok : HOk P w H h) (e : Rd H a u) : ObjOk P w H h a u:=e.ok ok
theorem Kk {kvs : List (Key × V)} (ok : HOk P w H h) (e : Rd H a (.dK kvs)) : kvs.length <= sizeLine /\ (a == sysModules) = false /\ ∃ vs,KV kvs vs /\ h.DictOf (gF P w) a vs:=
 show ObjOk P w H h a (.dK kvs) from KN ok e
theorem Kj {kvs : List (Key × V)} (ok : HOk P w H h) (e : H a = some (.dK kvs)) : kvs.length <= sizeLine /\ (a == sysModules) = false /\ ∃ vs,KV kvs vs /\ h.DictOf (gF P w) a vs:=Kk ok (.inl e)
end
section
variable {X : Cx} {pins : List (Addr × Obj)} {σ : St} {H : Hp} {s : Shared} {a : Addr} {y v : V} {u r : Value} {o : Option V} {A : Around} {E : Value -> Shared -> Prop}
theorem Inv.big (I : Inv X pins σ H s) : sysModules < s.heap.objs.size:=by
 have h : mainGlobals < s.heap.objs.size:=(I.mod.glob.keeps I.bk).lt
 exact Nat.lt_trans (by decide) h
theorem HV {h' : Heap} {t' : Nat} {ob : HO} (I : Inv X pins σ H s) (mu : Mut (H a)) (hs : Heap.SameBut a s.heap h') (he : ∃ q,h'.get? a = some q) (new : ObjOk X.prog X.w (upd H a ob) h' a ob) :
  Inv X pins σ (upd H a ob) { s with heap:=h',toks:=t' }:=
 I.write (x:=a) (e:=a) mu (.inl rfl) (fun b q hb z => (hs.2 b hb).trans z) he new
theorem Jk {P : Program} {w : World} {H' : Hp} {h' : Heap} {kvs : List (Key × V)} {vs : List (Key × Value)} (z : kvs.length <= sizeLine) (hd : (a == sysModules) = false) (rel : KV kvs vs) (dd : h'.DictOf (gF P w) a vs) :
  ObjOk P w H' h' a (.dK kvs):=⟨z,hd,vs,rel,dd⟩
end
section
variable {X : Cx} {pins : List (Addr × Obj)} {σ : St} {H : Hp} {s : Shared} {a : Addr} {kvs : List (Key × V)} {k : Key} {u : Value} {A : Around} {E : Value -> Shared -> Prop}
end
section
variable {X : Cx} {o i e value : Expr} {pos pos' tpos : Pos} {td ty tv : TE}
end
theorem Cc {P : Program} {w : World} {H : Hp} (h : Heap) (hb : sysModules < h.objs.size) : ObjOk P w H (h.push { cls:=.type "dict",data:=.dict #[] }) h.objs.size (.dK []):=
 ⟨Nat.zero_le _,beq_eq_false_iff_ne.mpr (Ne.symm (Nat.ne_of_lt hb)),[],.nil,Heap.DictOf.new h⟩
def JY : TE:=fun _ H Q => ∀ p,H p = none -> Q (.ref p) (upd H p (.dK []))
section
variable {X : Cx} {pos : Pos}
theorem G3 : PE X (.Dict [] [] pos) JY:=fun pins s σ H Q I h =>
 wpAny_Dict_empty ⟨.ref s.heap.objs.size,_,I.laid (a:=s.heap.objs.size) (o:=.dK []) (t' := s.toks) (fun _ _ q => Heap.get?_push_of_some _ q) (Nat.le_refl _) (Cc s.heap I.big),rfl,h _ (I.hok.fresh (Nat.le_refl _))⟩
end
def Ef : List (TE × TE) -> St -> Hp -> (List (V × V) -> Hp -> Prop) -> Prop
 | [],_,H,Q => Q [] H
 | (tk,tv) :: r,σ,H,Q => tk σ H fun x H1 => tv σ H1 fun y H2 => Ef r σ H2 fun ps H3 => Q ((x,y) :: ps) H3
abbrev VV : List (V × V) -> List (Value × Value) -> Prop:=Paired fun p q => RelV p.1 q.1 /\ RelV p.2 q.2
def PPs (X : Cx) (pos : Pos) (keys : List (Option Expr)) (values : List Expr) (trs : List (TE × TE)) : Prop:=
 ∀ (pins : List (Addr × Obj)) (s : Shared) (σ : St) (H : Hp) (Q : List (V × V) -> Hp -> Prop),Inv X pins σ H s -> Ef trs σ H Q ->
  wpAny (model X.prog X.w) X.A (evalPairs (pairTrees keys values X.env pos)) (fun vs s' => ∃ ps H',Inv X pins σ H' s' /\ VV ps vs /\ Q ps H') X.xe s
theorem IC {X : Cx} {pos : Pos} : PPs X pos [] [] []:=fun pins s σ H Q I h => pairTrees_nil_walk ⟨[],H,I,.nil,h⟩
theorem Ha {X : Cx} {pos : Pos} {k v : Expr} {ks : List (Option Expr)} {vs : List Expr} {tk tv : TE} {trs : List (TE × TE)} (hk : PE X k tk) (hv : PE X v tv) (hr : PPs X pos ks vs trs) :
  PPs X pos (some k :: ks) (v :: vs) ((tk,tv) :: trs):=fun pins s σ H Q I h =>
 pairTrees_cons_walk (thn (hk pins s σ H _ I h) fun u s1 ⟨x,H1,I1,rx,q1⟩ => thn (hv pins s1 σ H1 _ I1 q1) fun w2 s2 ⟨y,H2,I2,ry,q2⟩ =>
  thn (hr pins s2 σ H2 _ I2 q2) fun ws s3 ⟨ps,H3,I3,rel,q3⟩ => ⟨(x,y) :: ps,H3,I3,.cons ⟨rx,ry⟩ rel,q3⟩)
def tS (kvs more : List (Key × V)) : List (Key × V):=more.foldl (fun acc kv => putK acc kv.1 kv.2) kvs
theorem KV.merge : ∀ {more : List (Key × V)} {rs : List (Key × Value)} {kvs : List (Key × V)} {vs : List (Key × Value)},KV more rs -> KV kvs vs -> KV (tS kvs more) (merged vs rs):=by
 intro more rs kvs vs r
 unfold KV at r
 induction r generalizing kvs vs with
 | nil => intro q; exact q
 | @cons p q ps qs h t ih =>
  intro r0
  have e : KV (putK kvs p.1 p.2) (stored vs q.1 q.2):=by
   have:=r0.put p.1 h.2
   rw [<- h.1]; exact this
  exact ih e
theorem pX : ∀ (more kvs : List (Key × V)),(tS kvs more).length <= kvs.length + more.length
 | [],kvs => by show kvs.length <= kvs.length + 0; omega
 | p :: r,kvs => by
  have h1:=pX r (putK kvs p.1 p.2)
  have h2:=Co kvs p.1 p.2
  show (tS (putK kvs p.1 p.2) r).length <= _
  rw [List.length_cons]; omega
theorem wD {P : Program} {w : World} : ∀ {kvs : List (Key × V)} {ws : List (Value × Value)},VV (kvs.map fun kv => (kV kv.1,kv.2)) ws -> ∃ rs,Carries (gF P w) ws rs /\ KV kvs rs
 | [],_,r => by rw [List.map_nil] at r; cases r; exact ⟨[],True.intro,.nil⟩
 | p :: kvs,_,r => by
  rw [List.map_cons] at r
  cases r with
  | @cons a b as bs h t =>
   obtain ⟨rs,c,q⟩:=wD (P:=P) (w:=w) t
   obtain ⟨b1,b2⟩:=b
   exact ⟨(p.1,b2) :: rs,⟨Kq h.1,rfl,c⟩,.cons ⟨rfl,h.2⟩ q⟩
def KS (trs : List (TE × TE)) : TE:=fun σ H Q => ∀ p,H p = none -> Ef trs σ (upd H p (.dK [])) fun ps H2 => H2 p = some (.dK []) /\ ∃ kvs : List (Key × V),ps = kvs.map (fun kv => (kV kv.1,kv.2)) /\ kvs.length <= 15 /\ Q (.ref p) (upd H2 p (.dK (tS [] kvs)))
theorem Iz {X : Cx} {pos : Pos} {keys : List (Option Expr)} {values : List Expr} {trs : List (TE × TE)} (h : PPs X pos keys values trs) (hall : keys.all (·.isSome) = true) (hl : keys.length = values.length) (h0 : keys ≠ [])
  (h15 : keys.length <= 15) : PE X (.Dict keys values pos) (KS trs):=by
 intro pins s σ H Q I q
 have hn:=I.hok.fresh (Nat.le_refl s.heap.objs.size)
 have I1:=I.laid (a:=s.heap.objs.size) (o:=.dK []) (h' := s.heap.push { cls:=.type "dict",data:=.dict #[] }) (t' := s.toks) (fun _ _ q => Heap.get?_push_of_some _ q) (Nat.le_refl _) (Cc s.heap I.big)
 refine wpAny_Dict_walk (knd:=gF X.prog X.w) hall hl h0 h15 (thn (h pins _ σ _ _ I1 (q _ hn)) fun ws s2 ⟨ps,H2,I2,rel,e,kvs,ep,lk,q2⟩ => ?_)
 subst ep
 obtain ⟨rs,c,rk⟩:=wD (P:=X.prog) (w:=X.w) rel
 obtain ⟨z,hd,vs0,r0,dd⟩:=Kj I2.hok e
 cases r0
 refine ⟨rs,c,dd,fun h' dd' hs => ⟨.ref s.heap.objs.size,_,?_,rfl,q2⟩⟩
 have hz : (tS [] kvs).length <= sizeLine:=by
  have h1:=pX kvs []
  rw [List.length_nil] at h1
  rw [sizeLine_eq]; omega
 have he : ∃ q,h'.get? s.heap.objs.size = some q:=let ⟨q,_,_,hq,_⟩:=dd'; ⟨q,hq⟩
 exact HV I2 (by rw [e]; exact True.intro) hs he (Jk hz hd (rk.merge .nil) dd')
structure M1 (X : Cx) (o : Expr) (m : Str) (apos : Pos) (e : Expr) (cpos : Pos) : Prop where
 base : attributeBase o m X.env (eval o X.env) = eval o X.env
 few : ((backTo cpos (starEach [e] X.env)).all (fun x => !x.1) && (backToKw cpos (keywordEach [] X.env)).all (fun x => x.1.isSome)
  && decide (([e] : List Expr).length + ([] : List Keyword).length + (if ([] : List Keyword).isEmpty then 0 else 1) < 30)) = true
 line : (apos.endLine == cpos.line) = true
 trees : backTo cpos (starEach [e] X.env) = [(false,eval e X.env)]
structure M2 (X : Cx) (o : Expr) (m : Str) (apos : Pos) (e f : Expr) (cpos : Pos) : Prop where
 base : attributeBase o m X.env (eval o X.env) = eval o X.env
 few : ((backTo cpos (starEach [e,f] X.env)).all (fun x => !x.1) && (backToKw cpos (keywordEach [] X.env)).all (fun x => x.1.isSome)
  && decide (([e,f] : List Expr).length + ([] : List Keyword).length + (if ([] : List Keyword).isEmpty then 0 else 1) < 30)) = true
 line : (apos.endLine == cpos.line) = true
 trees : backTo cpos (starEach [e,f] X.env) = [(false,eval e X.env),(false,eval f X.env)]
section
variable {X : Cx} {pins : List (Addr × Obj)} {σ : St} {H : Hp} {s : Shared} {a : Addr} {y d : V} {u r : Value} {o : Option V} {A : Around} {E : Value -> Shared -> Prop}
end
section
variable {X : Cx} {o e f : Expr} {apos cpos : Pos} {td ty tx : TE}
end
section
variable {X : Cx} {pins : List (Addr × Obj)} {σ : St} {H : Hp} {s : Shared} {a : Addr} {kvs : List (Key × V)} {A : Around} {E : Value -> Shared -> Prop}
end
section
variable {X : Cx} {pins : List (Addr × Obj)} {σ : St} {H : Hp} {s : Shared} {a : Addr} {y : V} {u : Value} {A : Around} {E : Value -> Shared -> Prop}
end
end L2
namespace L2
open PySem PySem.Spec PyProof.Rows
section
variable {κ : Type} [DecidableEq κ]
end
end L2
set_option Elab.async false
set_option linter.all false
set_option maxRecDepth 100000
namespace PySem
open Sem (wp)
open Builtin
end PySem
namespace L2
open PySem PySem.Spec PyProof.Rows
section
variable {X : Cx}
def Kz (K : PySem.W.Frag) : R2:=fun x y H Q => ∃ a b xs ys,x = .ref a /\ y = .ref b /\ SqT K H a xs /\ SqT K H b ys /\ xs.length + ys.length <= sizeLine /\
 (xs = [] -> Q (.ref b) H) /\ (xs ≠ [] -> ys = [] -> Q (.ref a) H) /\ (xs ≠ [] -> ys ≠ [] -> ∀ p,H p = none -> Q (.ref p) (upd H p (.tup (xs ++ ys))))
theorem vY : OpR X (binaryOp .Add) (Kz X.K):=by
 intro pins s σ H x y v u Q I rx ry h
 obtain ⟨a,b,xs,ys,rfl,rfl,ha,hb,hz,q0,q1,q2⟩:=h
 by_cases hx : xs = []
 ·cases rx
  cases ry
  obtain ⟨its,r1,p1,_⟩:=I.tuple ha
  obtain ⟨its2,r2,p2,_⟩:=I.tuple hb
  obtain ⟨⟨cls,dd,data,sl⟩,ho,hc,n,hd⟩:=id p1
  obtain ⟨⟨cls2,dd2,data2,sl2⟩,ho2,hc2,n2,hd2⟩:=id p2
  simp only at hc hd hc2 hd2
  subst hc hd hc2 hd2
  have e : its = []:=r1.nil_iff.mpr hx
  exact concat_meets ⟨_,ho,rfl⟩ ⟨_,ho2,rfl⟩ noFill_tuple_add seq_tuple_add PySem.F.slot_tuple_add PySem.F.entry_tuple_add (PySem.F.args_tuple_add_2 _ _)
   (tuple_addW0 a b its.toArray its2.toArray n n2 dd dd2 sl sl2 (by simp [e])) ⟨ho,ho2,⟨.ref b,H,I,rfl,q0 hx⟩⟩
 ·exact Iy pins s σ H _ _ v u Q I rx ry ⟨a,b,xs,ys,rfl,rfl,ha,hb,hx,hz,q1 hx,q2 hx⟩
def Lh (K : PySem.W.Frag) : List V -> Hp -> VK -> Prop:=fun xs H Q => ∃ (a : Addr) (bs : List Bool),xs = [.ref a] /\ SqL K H a (bs.map V.bl) /\ Q (.bl (bs.all id)) H
theorem F4 (hc : X.calm = true) : fX X (.builtin "all") (Lh X.K):=by
 intro pins s σ H xs us Q I r h
 obtain ⟨a,bs,rfl,hS,q⟩:=h
 obtain ⟨u,rfl,ru⟩:=r.one
 cases (show u = Value.ref a from ru)
 obtain ⟨its,rv,ht,hz⟩:=I.list hS
 have hlen:=rv.length
 rw [List.length_map] at hlen
 have hlt : a < s.heap.objs.size:=by obtain ⟨_,e,_⟩:=ht.isList; exact Heap.lt_size e
 refine call_all_walk (wpAny_pyIter_list ht.isList ?_)
 have W:=Walks.list (prog:=X.prog) (w:=X.w) (A:=X.A.in1) (I.ok.hd hc) s.heap.objs.size a (Nat.ne_of_lt hlt) its.toArray
 refine ⟨_,_,_,_,_,_,fun i => bs.getD i false,rfl,W,⟨⟨_,Heap.get?_push_size _ rfl,rfl,rfl⟩,ht.isList.push _⟩,fun i v s' Q' E' hv hQ => ?_,fun h' tk hk => ?_⟩
 ·have e' : its[i]? = some v:=by simpa using hv
  have hi : i < bs.length:=by rw [hlen]; exact (List.getElem?_eq_some_iff.mp e').1
  obtain ⟨u,hu,ru⟩:=rv.get (i:=i) (x:=.bl bs[i]) (by simp [hi])
  rw [e'] at hu
  cases hu
  cases (show v = Value.bool bs[i] from ru)
  refine wpAny_truthy_bool ?_
  have : bs.getD i false = bs[i]:=by simp [hi]
  rw [<- this]
  exact hQ
 ·have I1 : Inv X pins σ H { s with heap:=h',toks:=tk }:=I.kept (t' := tk) fun b o e => hk b o (fun hm => by
   rw [List.mem_singleton.mp hm] at e
   exact Nat.lt_irrefl _ (Heap.lt_size e)) (Heap.get?_push_of_some _ e)
  refine ⟨.bl (bs.all id),H,I1,?_,q⟩
  show Value.bool _ = Value.bool _
  congr 1
  rw [List.size_toArray,<- hlen]
  have : (List.range bs.length).all (fun i => bs.getD i false) = bs.all id:=by
   have e : bs = (List.range bs.length).map fun i => bs.getD i false:=by
    apply List.ext_getElem?
    intro i
    rcases Nat.lt_or_ge i bs.length with q | q
    ·simp [q]
    ·simp [q]
   conv => rhs; rw [e]
   rw [List.all_map]
   rfl
  exact this
end
inductive Pl (H : Hp) : V -> Prop where
 | non : Pl H .non
 | bl (b : Bool) : Pl H (.bl b)
 | int (i : Int) : Pl H (.int i)
 | str (x : Str) : Pl H (.str x)
 | lst {a : Addr} {xs : List V} (e : H a = some (.lst xs)) : Pl H (.ref a)
 | tup {a : Addr} {xs : List V} (e : H a = some (.tup xs)) : Pl H (.ref a)
 | dK {a : Addr} {kvs : List (Key × V)} (e : H a = some (.dK kvs)) : Pl H (.ref a)
structure PEW (X : Cx) (e : Expr) (t : TE) : Prop where
 out : PE X e t
structure PAW (X : Cx) (es : List Expr) (t : TA) : Prop where
 out : PA X es t
structure PTW (X : Cx) (e : Expr) (t : TT) : Prop where
 out : PT X e t
structure PSW (X : Cx) (s : Stmt) (t : TS) : Prop where
 out : PS X s t
structure PSsW (X : Cx) (s : List Stmt) (t : TS) : Prop where
 out : PSs X s t
section
variable {X : Cx} {a b e : Expr} {es : List Expr} {ta tb te : TE} {t : TA} {pos : Pos}
theorem bM : PAW X [] zo:=⟨ae⟩
theorem ao (ha : PEW X e te) (hr : PAW X es t) (hs : starEach (e :: es) X.env = (false,eval e X.env) :: starEach es X.env:=by rfl) : PAW X (e :: es) (nZ te t):=⟨aa ha.out hr.out hs⟩
theorem ie (h : PAW X es t) : PEW X (.List es pos) (J7 t):=⟨bE h.out⟩
theorem pZ {x1} (h : PAW X es t) : PEW X (.Tuple es x1 pos) (FR t):=⟨aV h.out⟩
theorem Hx {r : R2} (hr : IxR X r) (ha : PEW X a ta) (hb : PEW X b tb) (hs : Em b) : PEW X (.Subscript a b pos) (tOp r ta tb):=⟨cC hr ha.out hb.out hs⟩
theorem Lw {x : Str} {j k : Nat} {ps : List Str} {dvs : List V} {sp : Sp} {p : Pos} (G : DefOk X.prog X.w X.K X.mg X.base x k ps dvs sp) (hr : Room j X.A) (ha : PAW X (e :: es) t) (hx : ∀ e s,X.xe e s = False:=by intro _ _; rfl) (hkj : k <= j:=by decide) (hg : Gl X x:=by rfl) (hdb : (x == ("__debug__" : Str)) = false:=by decide)
  (he : starEach (e :: es) X.env = (false,eval e X.env) :: starEach es X.env:=by rfl) (hpl : (backTo pos (starEach es X.env)).any (·.1) = false:=by rfl) :
  PEW X (.Call (.Name x p) (e :: es) [] pos) (uI sp dvs E0 t):=⟨br G hr ha.out hx hkj hg hdb he hpl⟩
variable {st : Stmt} {rest : List Stmt} {ts us : TS}
theorem yo : PSsW X [] aK:=⟨aW⟩
theorem aw (h1 : PSW X st ts) (h2 : PSsW X rest us) : PSsW X (st :: rest) (Eg ts us):=⟨au h1.out h2.out⟩
theorem bC (h1 : PSW X st ts) : PSsW X [st] ts:=⟨ax h1.out⟩
theorem og (he : PEW X e te) : PSW X (.Return (some e) pos) (KZ te):=⟨aU he.out⟩
theorem Ke (he : PEW X e te) (hs : swapsWith e none pos.line X.env = pure false:=by rfl) : PSW X (.Expr e pos) (Jb te):=⟨cm he.out hs⟩
theorem pY {i : Nat} {x : Str} {pos' : Pos} (hN : X.N.Nodup) (hi : X.N[i]? = some x) (hx : Loc X.env.scope x) (he : PEW X e te) (hs : swapsWith e (some (.Name x pos')) pos.line X.env = pure false:=by rfl) (hf : X.fn x = true \/ X.env.scope.names.lookup x = some .local:=by first | exact .inl rfl | exact .inr rfl | assumption) :
  PSW X (.Assign [.Name x pos'] e pos) (sy te (aF i)):=⟨ay hN hi hx he.out hs hf⟩
theorem BO {c : Expr} {a b : List Stmt} {tc : TT} {u : TS} (hc : PTW X c tc) (ha : PSsW X a ts) (hb : PSsW X b u) : PSW X (.If c a b pos) (Hs tc ts u):=⟨bG hc.out ha.out hb.out⟩
theorem E5 {tg iter : Expr} {body : List Stmt} {wi : TI} {g : TG} {tb : TS} (hp : PassesOwn (model X.prog X.w) X.A X.env X.xe) (hc : X.calm = true) (hi : PI X tg iter wi) (hg : PG X tg g) (hb : PSsW X body tb)
  (hs : ∀ x,foldedSetIterable iter X.env x = pure x:=by intro _; rfl) : PSW X (.For tg iter body [] pos) (BN wi g tb):=⟨qZ hp hc hi hg hb.out hs⟩
theorem gP {b : List Stmt} {R : TS -> Prop} (h : PSsW X b ts) (r : R ts) : ∃ t,PSs X b t /\ R t:=⟨ts,h.out,r⟩
end
end L2
set_option Elab.async false
set_option linter.all false
set_option maxRecDepth 100000
namespace L2
open PySem PySem.Spec PyProof.Rows
def CX1 (P : Program) (w : World) : CXT:=fun outer H s E e s' => ∃ (ea t C : Addr) (B : Heap) (H' : Hp),e = .ref ea /\ s'.os = s.os /\ AllBare s'.gens /\ Un (frs outer) [] H H' s.heap s'.heap /\ HOk P w H' B /\
 Heap.FlyingW B outer ea (.ref C) (.ref t) s'.heap /\ (∀ b o,s.heap.get? b = some o -> b ∉ frs outer -> ∃ o',B.get? b = some o') /\ H' ea = none /\ E (.ref C) none H'
theorem ObjOk.ex {P : Program} {w : World} {H : Hp} {h : Heap} {a : Addr} : ∀ {o : HO},ObjOk P w H h a o -> ∃ ob,h.get? a = some ob
 | .lst _,⟨_,_,_,_,e⟩ => ⟨_,e⟩
 | .tup _,⟨_,_,_,o,e,_⟩ => ⟨o,e⟩
 | .dK _,⟨_,_,_,_,o,_,_,e,_⟩ => ⟨o,e⟩
 | .dT _,⟨_,_,_,_,o,_,_,e,_⟩ => ⟨o,e⟩
 | .set _ _,⟨o,_,_,_,e,_⟩ => ⟨o,e⟩
 | .ins _ _ _,⟨_,_,_,e,_⟩ => ⟨_,e⟩
 | .own _,⟨o,e⟩ => ⟨o,e⟩
 | .xd _,⟨_,⟨o,_,_,e,_⟩,_⟩ => ⟨o,e⟩
 | .rng _ _,⟨_,_,_,e⟩ => ⟨_,e⟩
 | .frz _ _,⟨e,_⟩ => ⟨_,e⟩
 | .tbl _,e => ⟨_,e⟩
 | .met _ _,e => ⟨_,e⟩
 | .ext _,⟨_,⟨o,e⟩,_⟩ => ⟨o,e⟩
theorem HOk.none {P : Program} {w : World} {H : Hp} {h : Heap} {a : Addr} (x : HOk P w H h) (e : h.get? a = none) : H a = none:=by
 cases q : H a with
 | none => rfl
 | some o =>
  obtain ⟨ob,e'⟩:=(x a o q).ex
  rw [e] at e'
  cases e'
theorem HOk.less {P : Program} {w : World} {H : Hp} {h B : Heap} (x : HOk P w H h) (k : ∀ b u,(∃ o,H b = some o) -> h.get? b = some u -> B.get? b = some u) : HOk P w H B:=fun a o e =>
 (x a o e).stay (fun b u hb q => k b u (by
  rcases hb with z | z
  ·rw [z]; exact ⟨o,e⟩
  ·exact ⟨_,z⟩) q) (fun _ z => z) fun _ _ z => z
theorem Un.fly {fs : List Addr} {H H1 : Hp} {h h1 h2 B : Heap} (u : Un fs [] H H1 h h1) (stays : B.StaysIn h2) (inB : ∀ b o o1,h.get? b = some o -> h1.get? b = some o1 -> b ∉ fs -> B.get? b = some o1)
  (frame : ∀ b o,b ∈ fs -> h1.get? b = some o -> ∃ sl,h2.get? b = some { o with slots:=sl }) : Un fs [] H H1 h h2 where
 keep:=fun b o q n hb hx => stays b o (inB b o o q (u.keep b o q n hb hx) hb)
 slot:=fun b o q n hb hx => by
  obtain ⟨sl,e⟩:=u.slot b o q n hb hx
  obtain ⟨sl',e'⟩:=frame b _ hb e
  exact ⟨sl',e'⟩
 free:=u.free
 there:=fun b o q hx => by
  obtain ⟨o',e⟩:=u.there b o q hx
  by_cases hb : b ∈ fs
  ·obtain ⟨sl,e'⟩:=frame b _ hb e
   exact ⟨_,e'⟩
  ·exact ⟨o',stays b o' (inB b o o' q e hb)⟩
 tups:=u.tups
 frzs:=u.frzs
 tbls:=u.tbls
section
variable {P : Program} {w : World} {K : PySem.W.Frag} {mg : Str -> Option Value} {base : Heap} {N : List Str} {qual : Str} {scope : Scope} {f : Addr} {cd : Value} {A : Around} {outer : List Env} {s : Shared} {H : Hp} {E : XK}
def Thr (X : Cx) (E : XK) : Prop := ∀ (pins : List (Addr × Obj)) (σ : St) (H : Hp) (s : Shared) (h' : Heap) (ea C : Addr) (vs : List Value),Inv X pins σ H s -> Heap.MadeExcOf s.heap h' ea (.ref C) vs -> E (.ref C) none H -> X.xe (.ref ea) { s with heap:=h' }
theorem nR (b : Addr) : b ∈ frs (envOfC qual scope s.heap.objs.size f cd :: outer) ↔ b = s.heap.objs.size \/ b ∈ frs outer:=by
 unfold frs
 rw [List.filterMap_cons]
 show b ∈ (s.heap.objs.size :: _) ↔ _
 rw [List.mem_cons]
theorem dM : Thr (wU (CX1 P w) P w K mg base N qual scope f cd A outer s H E) E:=by
 intro pins σ H1 s1 h' ea C vs I hx hE
 show wpAny (model P w) (A.deeper (envOfC qual scope s.heap.objs.size f cd)) (leaving (envOfC qual scope s.heap.objs.size f cd) (.ref ea)) _ _ _
 have hin : ∀ env ∈ (envOfC qual scope s.heap.objs.size f cd :: outer),∀ b,env.frame = some b -> b ∈ frs (envOfC qual scope s.heap.objs.size f cd :: outer):=fun env he b hb => List.mem_filterMap.mpr ⟨env,he,hb⟩
 have fst:=I.stack
 have mem : ∀ {b},b ∈ frs (envOfC qual scope s.heap.objs.size f cd :: outer) -> ∃ o,s1.heap.get? b = some o /\ ∀ vs,o.data ≠ .fields vs:=fun {b} hb => (fst.mem hb).2
 refine wpAny_leaves_madeW (base:=PySem.W.hideAll s1.heap (frs (envOfC qual scope s.heap.objs.size f cd :: outer))) I.ok.frames rfl (fun b o q => PySem.W.of_hideAll _ q) (PySem.W.funFrames_hide fst hin) hx fun h'' t x1 x2 x3 x4 => ?_
 refine ⟨ea,t,C,_,H1,rfl,I.os,I.bare,?_,?_,x1,fun b o q hb => ?_,I.hok.none hx.new,hE⟩
 ·refine Un.fly (h1:=s1.heap) I.base x1.1 (fun b o o1 q q1 hb => PySem.W.hideAll_get _ q1 fun z => ?_) fun b o hb q => ?_
  ·rcases (nR b).mp z with e | e
   ·exact Nat.lt_irrefl _ (e ▸ Heap.lt_size q)
   ·exact hb e
  ·obtain ⟨o',e',hd⟩:=mem ((nR (qual:=qual) (scope:=scope) (s:=s) (f:=f) (cd:=cd) b).mpr (.inr hb))
   rw [q] at e'
   cases e'
   exact x4 b o (hx.keeps b o q) hd
 ·exact I.hok.less fun b u ⟨o,e⟩ q => PySem.W.hideAll_get _ q fun z => by
   have:=I.stkFree b z
   rw [e] at this
   cases this
 ·obtain ⟨o',e'⟩:=I.base.there b o q (by intro z; cases z)
  exact ⟨o',PySem.W.hideAll_get _ e' fun z => by
   rcases (nR b).mp z with e | e
   ·exact Nat.lt_irrefl _ (e ▸ Heap.lt_size q)
   ·exact hb e⟩
theorem aY : Passes (CX1 P w) (wU (CX1 P w) P w K mg base N qual scope f cd A outer s H E) E:=by
 intro pins σ H1 s1 e s' I hc
 obtain ⟨ea,t,C,B,H',rfl,os,bare,un,hok,fl,there,hn,hE⟩:=hc
 have hokS : HOk P w H' s'.heap:=hok.kept fun b u q => fl.1 b u q
 have J : Inv (wU (CX1 P w) P w K mg base N qual scope f cd A outer s H E) pins σ H' s' := I.call' (ch:=[]) os un hokS bare (fun b z => by cases z)
 have fst:=J.stack
 have mem : ∀ {b},b ∈ frs (envOfC qual scope s.heap.objs.size f cd :: outer) -> ∃ o,s'.heap.get? b = some o /\ ∀ vs,o.data ≠ .fields vs:=fun {b} hb => (fst.mem hb).2
 show wpAny (model P w) (A.deeper (envOfC qual scope s.heap.objs.size f cd)) (leaving (envOfC qual scope s.heap.objs.size f cd) (.ref ea)) _ _ _
 have thereB : ∀ b o,s.heap.get? b = some o -> b ∉ frs outer -> ∃ o',B.get? b = some o' := fun b o q hb => by
  obtain ⟨o1,e1⟩:=I.base.there b o q (by intro z; cases z)
  exact there b o1 e1 fun z => by
   rcases (nR b).mp z with e | e
   ·exact Nat.lt_irrefl _ (e ▸ Heap.lt_size q)
   ·exact hb e
 refine wpAny_leaves_onW I.ok.frames rfl fl fun h'' x1 x2 => ?_
 refine ⟨ea,t,C,B,H',rfl,J.os,J.bare,?_,hok,x1,thereB,hn,hE⟩
 refine Un.fly (h1:=s'.heap) J.base x1.1 (fun b o o1 q q1 hb => ?_) fun b o hb q => ?_
 ·obtain ⟨o',e'⟩:=thereB b o q hb
  have:=fl.1 b o' e'
  rw [q1] at this
  cases this
  exact e'
 ·obtain ⟨o',e',hd⟩:=mem ((nR (qual:=qual) (scope:=scope) (s:=s) (f:=f) (cd:=cd) b).mpr (.inr hb))
  rw [q] at e'
  cases e'
  exact x2 b o q hd
end
end L2
set_option Elab.async false
set_option linter.all false
set_option maxRecDepth 100000
namespace L2
open PySem PySem.Spec PyProof.Rows
abbrev VEm : List Value:=[.type "ValueError",.type "Exception",.type "BaseException",.type "object"]
theorem Jm {K : PySem.W.Frag} {h : Heap} {C : Addr} {bmB : List Value} {newId : String} (X : K.In h) (q : PySem.W.excIn K C bmB newId = true) :
  ∃ tl N nm qn bs hd sn sub ab col dd k0 k1 k2 k3 k5 mN,h.get? C = some (excClassObj nm qn C N bs tl hd sn sub ab col dd k0 k1 k2 k3 k5 newId) /\ h.Ns N mN /\ mN "__init__" = none /\ OwnTail h bmB tl:=by
 unfold PySem.W.excIn at q
 cases e : K.lookup C with
 | none => rw [e] at q; cases q
 | some ob =>
  rw [e] at q
  obtain ⟨oc,od,dt,sl⟩:=ob
  split at q
  ·rename_i dd cd sl' he
   cases he
   split at q
   ·rename_i C' tl k0 k1 k2 k3 n k5 m1 m2
    simp only [Bool.and_eq_true,beq_iff_eq,Bool.not_eq_true'] at q
    obtain ⟨⟨⟨⟨⟨rfl,rfl⟩,d1⟩,t1⟩,o1⟩,i1⟩:=q
    obtain ⟨nm,bs,mro,ns,qn,hd,sn,sub,ab,col,del⟩:=cd
    dsimp only at m1 d1 o1 i1
    subst m1 d1
    have es : sl = #[k0,k1,k2,k3,some (.builtin n),k5]:=by
     cases sl with
     | mk l => exact congrArg Array.mk m2
    subst es
    exact ⟨tl,ns,nm,qn,bs,hd,sn,sub,ab,col,_,k0,k1,k2,k3,k5,_,X _ _ e,.of_isNs (PySem.W.isNs_of_in X o1),PySem.W.nsMap_none_of_in X o1 i1,PySem.W.tail_of_in X t1⟩
   ·cases q
  ·cases q
section
variable {X : Cx} {x : Str} {j k : Nat} {ps : List Str} {dvs : List V} {sp : Sp} {p pos cpos : Pos} {e : Expr} {es : List Expr} {t : TA} {C : Addr} {E : XK}
def J8 (C : Addr) (E : XK) (t : TA) : TS:=fun _ σ H => t σ H fun vs H1 => vs.length <= 8 /\ E (.ref C) none H1
theorem cI (hq : PySem.W.excIn X.K C VEm "ValueError.__new__" = true) (hc : X.calm = true) (hm : X.mg x = some (.ref C)) (ht : Thr X E) (ha : PA X (e :: es) t) (hg : Gl X x:=by rfl) (hdb : (x == ("__debug__" : Str)) = false:=by decide)
  (he : starEach (e :: es) X.env = (false,eval e X.env) :: starEach es X.env:=by rfl) (hpl : (backTo cpos (starEach es X.env)).any (·.1) = false:=by rfl) :
  PS X (.Raise (some (.Call (.Name x p) (e :: es) [] cpos)) none pos) (J8 C E t):=by
 intro pins s σ H D I h
 obtain ⟨tl,N,nm,qn,bs,hd,sn,sub,ab,col,dd,k0,k1,k2,k3,k5,mN,hC,hN,hni,T⟩:=Jm I.ok.mod.kin hq
 refine wpAny_Raise_call_subU (C:=C) (nm:=nm) (q:=qn) (N:=N) (bs:=bs) (bm:=tl) (hdct:=hd) (sn:=sn) (sub:=sub) (ab:=ab) (col:=col) (dd:=dd) (k0:=k0) (k1:=k1) (k2:=k2) (k3:=k3) (k5:=k5)
  PySem.F.excBase_ValueError (bmB:=VEm) (by decide) PySem.F.excBase_ValueError (mN:=mN) (T.hasType (by decide)) (I.ok.hd hc) (by rw [he]; show (false || (backTo cpos (starEach es X.env)).any (·.1)) = false; rw [hpl]; rfl) hni (jN I hg hm ⟨rfl,?_⟩ hdb)
 have hw:=ha cpos pins s σ H _ I h
 rw [he] at hw ⊢
 refine Calls.evalArgs_plain (thn hw fun us s1 ⟨vs,H1,I1,r,l8,q⟩ => ⟨rfl,?_,I1.bk _ _ hC,hN.keeps I1.bk,T.keeps I1.bk,fun h' ea hx => ht pins σ H1 s1 h' ea C us I1 hx q⟩)
 show us.length <= sizeLine
 rw [<- r.length]
 exact Nat.le_trans l8 (by decide)
theorem I9 (G : DefOk X.prog X.w X.K X.mg X.base x k ps dvs sp) (hr : Room j X.A) (ha : PA X (e :: es) t) (hkj : k <= j:=by decide) (hg : Gl X x:=by rfl) (hdb : (x == ("__debug__" : Str)) = false:=by decide)
  (he : starEach (e :: es) X.env = (false,eval e X.env) :: starEach es X.env:=by rfl) (hpl : (backTo pos (starEach es X.env)).any (·.1) = false:=by rfl) :
  PE X (.Call (.Name x p) (e :: es) [] pos) (uI sp dvs E0 t):=by
 obtain ⟨f,fd,ds,hm,hk,hd,hb,F⟩:=G.ex
 exact Bl F (hr.mono hkj) hg hm hk hb hd (fun _ _ _ _ _ _ _ h => h.elim) ha hdb he hpl
end
structure DefX (P : Program) (w : World) (K : PySem.W.Frag) (mg : Str -> Option Value) (base : Heap) (x : Str) (k : Nat) (ps : List Str) (dvs : List V) (sp : Sp) : Prop where
 ex : ∃ (f : Addr) (fd : FuncData) (ds : List Value),mg x = some (.ref f) /\ PySem.W.keepIn K (.ref f) = true /\ Vals dvs ds /\ Binds K fd ps ds /\ FnOk P w K mg base (CX1 P w) k f fd ps sp
section
variable {X : Cx} {x : Str} {j k : Nat} {ps : List Str} {dvs : List V} {sp : Sp} {p pos : Pos} {e : Expr} {es : List Expr} {t : TA} {E : XK}
end
section
variable {P : Program} {w : World} {K : PySem.W.Frag} {mg : Str -> Option Value} {base : Heap}
theorem FunD.okX {x qual : Str} {st : Stmt} {dV : Value} {f : Addr} {fd : FuncData} {N ps : List Str} {k : Nat} {sp : Sp} (F : FunD K x qual st dV f fd) (S : FnScope N ps (ai st)) (len : ∀ vs H Q E,sp vs H Q E -> vs.length = ps.length)
  (hbody : ∀ (cdv : Value) (A : Around) (outer : List Env) (s : Shared) (H : Hp) (vs : List V) (Q : VK) (E : XK),Room k (A.deeper (envOfC qual (ai st) s.heap.objs.size f cdv)) -> sp vs H Q E ->
   ∃ t,PSs (wU (CX1 P w) P w K mg base N qual (ai st) f cdv A outer s H E) (aJ st) t /\ t { nx:=fun _ H' => Q .non H',rt:=Q } (start N vs) H) : FnOk P w K mg base (CX1 P w) (k + 1) f fd ps sp:=by
 obtain ⟨oc,od,kV,doc,pm,an,cdv,ct,osl,rfl,lk,hcd⟩:=F.ex
 exact IY lk hcd S len fun A outer s H vs Q E hr hsp => hbody cdv A outer s H vs Q E hr hsp
end
section
variable {X : Cx} {e v1 v2 : Expr} {es rest : List Expr} {pos : Pos} {te : TE} {n : Nat}
abbrev TF:=St -> Hp -> (Str -> Hp -> Prop) -> Prop
def PF (X : Cx) (e : Expr) (t : TF) : Prop := ∀ (pins : List (Addr × Obj)) (s : Shared) (σ : St) (H : Hp) (Q : Str -> Hp -> Prop),Inv X pins σ H s -> t σ H Q ->
 wpAny (model X.prog X.w) X.A (eval e X.env) (fun u s' => ∃ x tk H',u = .str x tk /\ Inv X pins σ H' s' /\ x.length <= 1000 /\ Q x H') X.xe s
theorem gh {x : Str} {k : Nat} {pos : Pos} (hx : x.length <= 1000:=by decide) : PF X (.Constant (.str x) k pos) (fun _ H Q => Q x H):=fun pins s σ H Q I q =>
 Calls.Constant_str (show _ from ⟨x,_,H,rfl,I.tok _,hx,q⟩)
def Lr (te : TE) : TF:=fun σ H Q => te σ H fun v H1 => (∃ x,v = .str x /\ x.length <= 1000 /\ Q x H1) \/ ∃ i : Int,v = .int i /\ i.natAbs.log2 < 1920 /\ (Str.ofString (toString i)).length <= 1000 /\ Q (Str.ofString (toString i)) H1
theorem qV (he : PE X e te) : PF X (.FormattedValue e (-1) none pos) (Lr te):=by
 intro pins s σ H Q I h
 refine FormattedValue_plain (thn (he pins s σ H _ I h) fun u s1 ⟨v,H1,I1,r,q⟩ => ?_)
 rcases q with ⟨x,rfl,hx,q⟩ | ⟨i,rfl,hd,hx,q⟩
 ·obtain ⟨tk,rfl⟩:=(show ∃ t,u = Value.str x t from r)
  exact formatField_str (fun t' tk' => ⟨x,t',H1,rfl,I1.tok _,hx,q⟩) (Nat.le_trans hx (by decide))
 ·obtain ⟨tk,rfl⟩:=(show ∃ t,u = Value.int i t from r)
  exact formatField_int_small hd ⟨_,_,H1,rfl,I1.tok _,hx,q⟩
def PFs (X : Cx) (n : Nat) (es : List Expr) (t : TF) : Prop := ∀ (pins : List (Addr × Obj)) (s : Shared) (σ : St) (H : Hp) (Q : Str -> Hp -> Prop) (out : Str),out.length <= n -> Inv X pins σ H s -> t σ H Q ->
 wpAny (model X.prog X.w) X.A (joinParts out (evalEach es X.env)) (fun u s' => ∃ x tk H',u = .str x tk /\ Inv X pins σ H' s' /\ Q x H') X.xe s
def KU : TF:=fun _ H Q => ∀ x,Q x H
def JZ (t1 t2 : TF) : TF:=fun σ H Q => t1 σ H fun _ H1 => t2 σ H1 Q
theorem ou (hn : n <= sizeLine:=by decide) : PFs X n [] KU:=fun pins s σ H Q out ho I h => joinParts_nil ⟨out,_,H,rfl,I.tok _,h out⟩ (Nat.le_trans ho hn)
theorem cf {t1 t2 : TF} (h1 : PF X e t1) (h2 : PFs X (n + 1000) es t2) (hn : n + 1000 <= sizeLine:=by decide) : PFs X n (e :: es) (JZ t1 t2):=by
 intro pins s σ H Q out ho I h
 refine joinParts_cons (thn (h1 pins s σ H _ I h) fun u s1 ⟨x,tk,H1,hu,I1,hx,q⟩ => ?_)
 subst hu
 have hl : (out ++ x).length <= n + 1000:=by rw [strLen_append]; omega
 exact ⟨Nat.le_trans hl hn,h2 pins s1 σ H1 Q (out ++ x) hl I1 q⟩
def KW (t : TF) : TE:=fun σ H Q => t σ H fun x H1 => Q (.str x) H1
theorem ot {t : TF} (h : PFs X 0 (v1 :: v2 :: rest) t) : PE X (.JoinedStr (v1 :: v2 :: rest) pos) (KW t):=by
 intro pins s σ H Q I q
 exact JoinedStr_many (thn (h pins s σ H _ Str.empty (by decide) I q) fun u s1 ⟨x,tk,H1,hu,I1,q1⟩ => ⟨.str x,H1,I1,⟨tk,hu⟩,q1⟩)
end
end L2
set_option Elab.async false
set_option linter.all false
set_option maxRecDepth 100000
namespace L2
open PySem PySem.Spec PySem.W PySem.Builtin PySem.Builtin.Getset_descriptor
structure XCls (K : PySem.W.Frag) (C : Addr) : Prop where
 ga : findIn K (.ref C) "__getattribute__" = some (some (.builtin "BaseException.__getattribute__"))
 gt : findIn K (.ref C) "__getattr__" = some none
 cl : findIn K (.ref C) "__class__" = some (some (.builtin "object.__class__"))
 gg : specialIn K (.builtin "object.__class__") "__get__" = some (some (.builtin "getset_descriptor.__get__"))
 tk : takesIn K (.builtin "object.__class__") = some true
 ob : mroIn K C (.type "object") = some true
 be : mroIn K C (.type "BaseException") = some true
 ci : (clsIn K C).isSome = true
section
variable {prog : Program} {w : World} {A : Around} {E : Value -> Shared -> Prop} {s : Shared} {K : PySem.W.Frag} {ea C : Addr} {ob : Obj}
theorem Gi {M : Model} {h : Heap} (c : XCls K C) (X : K.In h) : Looks M h (Builtin.ObjectAttr.find (.ref ea) (.ref C) "__class__") (.bind (.builtin "getset_descriptor.__get__") (.builtin "object.__class__")):=by
 have l1:=looks_findIn (M:=M) X c.cl
 have l2 : Looks M h (Builtin.ObjectAttr.getOf (some (.builtin "object.__class__"))) (some (.builtin "getset_descriptor.__get__")):=looks_specialIn (M:=M) X c.gg
 have l3:=looks_takesIn (M:=M) X c.tk
 have l4 : Looks M h (Builtin.ObjectAttr.dataDescriptor? (some (.builtin "object.__class__")) (some (.builtin "getset_descriptor.__get__"))) (some (.builtin "getset_descriptor.__get__",.builtin "object.__class__")):=l3.andThen .now
 unfold Builtin.ObjectAttr.find
 exact l1.andThen (l2.andThen (l4.andThen (Looks.tag .now)))
theorem HZ {tp : Value} {R : Result -> Shared -> Prop} (X : K.In s.heap) (LT : Looks (model prog w) s.heap (typeOf (.ref ea)) (.ref C)) (hm : mroIn K C (.type "object") = some true) (q : R (.ok (.ret (.ref C))) s) :
  codeAny (model prog w) A (.call (.builtin "getset_descriptor.__get__") ⟨[.builtin "object.__class__",.ref ea,tp],[]⟩) R s:=by
 have LM:=looks_mroIn (M:=model prog w) X hm
 obtain ⟨hp,gs,dr,tk,os⟩:=s
 dsimp only at LT LM
 refine codeAny_call_builtin KF.slot_gs.plain KF.entry_gs (KF.slot_gs.check _ _ _ _ _ _ _ _ KF.type_class (KF.args_gs _ _ _) ?_)
 unfold Builtin.«getset_descriptor.__get__» descrGet; rw [dga_obj]
 refine wpAny_bind (wpAny_pure ?_); unfold descrGetter descrCheckInstance descrNameAndClass isInstance
 simp only [KF.owner_class]; repeat lk
 refine ⟨Code.quiet_builtin _ (by decide +kernel),codeAny_builtin KF.entry_class ?_⟩; unfold Builtin.«object.__class__» shownTypeOf
 repeat lk
 exact q
theorem Fg {M : Model} {hh : Heap} {g : Array GenState} {d : Drawn} {t : Nat} {os : OsState} {nameV : Value} {Q : Unit -> Shared -> Prop} (LB : Looks M hh (isInstance (.ref ea) (.type "BaseException")) true) (hq : Q () ⟨hh,g,d,t,os⟩) :
  wpAny M A (checkBuiltinCall "BaseException.__getattribute__" ⟨[.ref ea,nameV],[]⟩) Q E ⟨hh,g,d,t,os⟩:=by
 have hk : builtinKind "BaseException.__getattribute__" = some .slot:=by decide +kernel
 have hsplit : splitId "BaseException.__getattribute__" = some ("BaseException","__getattribute__"):=by decide +kernel
 have ha:=PySem.F.args_bexc_ga (.ref ea) nameV
 simp only [checkBuiltinCall,hk,hsplit]
 refine wpAny_bind (LB.at ?_)
 simp only [Bool.not_true,Bool.false_eq_true,if_false]
 repeat (any_goals (first | assumption | wp_step))
theorem Fh {Q : Option Value -> Shared -> Prop} (c : XCls K C) (X : K.In s.heap) (LT : ∀ M : Model,Looks M s.heap (typeOf (.ref ea)) (.ref C)) (h : Q (some (.ref C)) { s with toks:=s.toks + 1 }) :
  wpAny (model prog w) A (getAttr? (.ref ea) "__class__") Q E s:=by
 obtain ⟨hh,g,d,t,os⟩:=s
 have L0:=LT (model prog w)
 have L1:=looks_findIn (M:=model prog w) X c.ga
 have L2:=looks_findIn (M:=model prog w) X c.gt
 have LF:=Gi (M:=model prog w) (ea:=ea) c X
 have LB : Looks (model prog w) hh (isInstance (.ref ea) (.type "BaseException")) true:=L0.andThen (looks_mroIn (M:=model prog w) X c.be)
 unfold getAttr? getAttrBy? getAttrBy
 refine wpAny_bind (wpAny_mkText (wpAny_bind (wpAny_attempt (wpAny_holding (wpAny_bind (L0.at (wpAny_bind (L1.at ?_))))))))
 have ne : (onTheHeap (Value.ref C) && Value.builtin "BaseException.__getattribute__" == Value.builtin "object.__getattribute__") = false:=by
  have : (Value.builtin "BaseException.__getattribute__" == Value.builtin "object.__getattribute__") = false:=by decide +kernel
  rw [this]; rfl
 dsimp only
 rw [ne]
 simp only [Bool.false_eq_true,if_false]
 unfold getAttrByItsOwn hookBefore
 rw [if_pos (show onTheHeap (Value.ref C) = true from rfl)]
 refine wpAny_bind (L2.at ?_)
 refine wpAny_bind (wpAny_attempt (wpAny_holding ?_))
 unfold callGetattribute
 simp only [Bool.false_and,Bool.false_eq_true,if_false]
 unfold boundAndCalled
 rw [PySem.F.attrBase_ValueError.ga.bind (.ref ea)]
 refine wpAny_bind (wpAny_pure ?_)
 have hk : builtinKind "BaseException.__getattribute__" = some .slot:=by decide +kernel
 have hsplit : splitId "BaseException.__getattribute__" = some ("BaseException","__getattribute__"):=by decide +kernel
 have ha:=PySem.F.args_bexc_ga (.ref ea) (.str "__class__" t)
 refine wpAny_call (codeAny_call_builtin PySem.F.attrBase_ValueError.ga.plain PySem.F.entry_bexc_ga ?_)
 refine Fg LB ?_
 unfold Builtin.«object.__getattribute__»
 refine wpAny_bind (wpAny_pure ?_)
 dsimp only
 refine wpAny_bind ?_
 refine (show wpAny _ _ (pure _) _ _ _ from wpAny_pure ?_)
 refine wpAny_bind (L0.at ?_)
 refine wpAny_bind (LF.at ?_)
 dsimp only
 show wpAny _ _ (holding [Value.builtin "object.__class__"] (call (.builtin "getset_descriptor.__get__") [.builtin "object.__class__",.ref ea,.ref C]) >>= ret) _ _ _
 refine wpAny_bind (wpAny_holding (wpAny_call (HZ (s:=⟨hh,g,d,t + 1,os⟩) X L0 c.ob ?_)))
 refine wpAny_pure ?_
 exact handed_on rfl (wpAny_pure h)
def ExAt (ea C : Addr) (h : Heap) : Prop := ∃ ob vs,h.get? ea = some ob /\ ob.cls = .ref C /\ ob.data = .fields vs
theorem ExAt.ty {M : Model} {h : Heap} (p : ExAt ea C h) : Looks M h (typeOf (.ref ea)) (.ref C):=by
 obtain ⟨ob,vs,e,c,_⟩:=p
 exact c ▸ (Looks.ld e).andThen .now
theorem Gv (c : XCls K C) : KitX K (.ref ea) (.ref C) (ExAt ea C) where
 ty:=fun M h _ p => p.ty
 it:=fun M h X _ => by
  obtain ⟨cd,e⟩:=Option.isSome_iff_exists.mp c.ci
  unfold clsIn at e
  split at e
  ·rename_i ho
   intro A' Q' E' s' k q
   unfold isType loadHead; exact wpAny_bind (wpAny_loadPart (k _ _ (X _ _ ho)) (wpAny_pure q))
  ·cases e
 ne:=fun h tp dd its n sl X htp => by
  obtain ⟨cd,e⟩:=Option.isSome_iff_exists.mp c.ci
  refine Bool.eq_false_iff.mpr fun q => ?_
  cases (show C = tp from Value.ref.inj (beq_iff_eq.mp q))
  unfold clsIn at e
  split at e
  ·rename_i ho; cases (X _ _ ho).symm.trans htp
  ·cases e
 ca:=fun X p k => Fh c X (fun M => p.ty) k
end
end L2
set_option Elab.async false
set_option linter.all false
set_option maxRecDepth 100000
namespace L2
open PySem PySem.Spec PyProof.Rows
abbrev Cx.held (X : Cx) (ea : Addr) : Cx:={ X with A:=X.A.mark (some (.ref ea)),calm:=false,xe:=fun _ _ => False }
section
variable {X : Cx} {pins : List (Addr × Obj)} {σ : St} {H : Hp} {s : Shared} {E : XK} {ea : Addr}
theorem mark_frames {A : Around} {v : Option Value} : (A.mark v).frames = A.frames:=by first | rfl | simp [Around.mark]
theorem Cx.Ok.held (ok : X.Ok) : (X.held ea).Ok:=
 ⟨ok.mod,ok.kind,ok.glob,ok.blt,ok.above,ok.inj,ok.has,ok.cab,(fun z => by cases z),mark_frames.trans ok.frames,ok.stk,ok.exf,ok.bs,ok.bsz,ok.noex,ok.exfs,ok.funs,ok.frf⟩
theorem Inv.held (I : Inv X pins σ H s) : Inv (X.held ea) pins σ H s:=⟨I.ok.held,I.os,I.bare,I.base,I.loc,I.cell,I.free,I.freeC,I.pin,I.hok,I.len⟩
theorem Inv.unheld (ok : X.Ok) (I : Inv (X.held ea) pins σ H s) : Inv X pins σ H s:=⟨ok,I.os,I.bare,I.base,I.loc,I.cell,I.free,I.freeC,I.pin,I.hok,I.len⟩
def CXI (X : Cx) (pins : List (Addr × Obj)) (σ : St) (E : XK) (e : Value) (s' : Shared) : Prop := ∃ s H,Inv X pins σ H s /\ CX1 X.prog X.w X.stack H s E e s'
abbrev TXE:=St -> Hp -> VK -> XK -> Prop
abbrev TX:=Ends -> XK -> St -> Hp -> Prop
def PXE (X : Cx) (e : Expr) (t : TXE) : Prop := ∀ (pins : List (Addr × Obj)) (s : Shared) (σ : St) (H : Hp) (Q : VK) (E : XK),Inv X pins σ H s -> t σ H Q E -> wpAny (model X.prog X.w) X.A (eval e X.env) (EP X pins σ Q) (CXI X pins σ E) s
def PX1 (X : Cx) (st : Stmt) (t : TX) : Prop := ∀ (pins : List (Addr × Obj)) (s : Shared) (σ : St) (H : Hp) (D : Ends) (E : XK),Inv X pins σ H s -> t D E σ H -> wpAny (model X.prog X.w) X.A (exec st X.env) (SP X pins D) (CXI X pins σ E) s
def PX (X : Cx) (st : List Stmt) (t : TX) : Prop := ∀ (pins : List (Addr × Obj)) (s : Shared) (σ : St) (H : Hp) (D : Ends) (E : XK),Inv X pins σ H s -> t D E σ H -> wpAny (model X.prog X.w) X.A (execs st X.env) (SP X pins D) (CXI X pins σ E) s
end
section
variable {X : Cx} {x : Str} {j k : Nat} {ps : List Str} {dvs : List V} {sp : Sp} {p pos : Pos} {e : Expr} {es : List Expr} {t : TA} {E : XK}
def Kb (sp : Sp) (dvs : List V) (t : TA) : TXE:=fun σ H Q E => t σ H fun vs H1 => sp (vs ++ dvs) H1 Q E
theorem Hd (G : DefX X.prog X.w X.K X.mg X.base x k ps dvs sp) (hr : Room j X.A) (ha : PA X (e :: es) t) (hx : ∀ e s,X.xe e s = False:=by intro _ _; rfl) (hkj : k <= j:=by decide) (hg : Gl X x:=by rfl) (hdb : (x == ("__debug__" : Str)) = false:=by decide)
  (he : starEach (e :: es) X.env = (false,eval e X.env) :: starEach es X.env:=by rfl) (hpl : (backTo pos (starEach es X.env)).any (·.1) = false:=by rfl) :
  PXE X (.Call (.Name x p) (e :: es) [] pos) (Kb sp dvs t):=by
 obtain ⟨f,fd,ds,hm,hk,hd,hb,F⟩:=G.ex
 intro pins s σ H Q E I h
 refine wpAny_Call_Name_kw (jN I hg hm ?_ hdb)
 refine PySem.W.callWith_K (h₀:=X.base) I.ok.mod.kin hk (wpAny_mono (ha pos pins s σ H _ I h) (fun us s1 ⟨vs,H1,I1,r,q⟩ => ⟨I1.kIn,?_⟩) fun e' s' z => ((hx e' s').mp z).elim) he hpl
 have r2 : Vals (vs ++ dvs) (us ++ ds):=r.append hd
 have hl : (us ++ ds).length = ps.length:=by rw [<- r2.length]; exact F.len _ _ _ _ q
 refine wpAny_call (codeAny_mono (F.run X.A X.stack s1 H1 ⟨us,[]⟩ (us ++ ds) (vs ++ dvs) Q E (hr.mono hkj) I1.env0 (hb s1 us I1.kIn hl) r2 q) fun r' s' hq => ?_)
 cases r' with
 | error e' => exact ⟨s1,H1,I1,hq⟩
 | ok fl =>
  cases fl with
  | ret u => exact I1.after hq
  | next => exact False.elim hq
  | brk => exact False.elim hq
  | cont => exact False.elim hq
def Kc (t : TXE) : TX:=fun D E σ H => t σ H (fun _ H1 => D.nx σ H1) E
theorem IE {t : TXE} (he : PXE X e t) (hs : swapsWith e none pos.line X.env = pure false:=by rfl) : PX1 X (.Expr e pos) (Kc t):=by
 intro pins s σ H D E I h
 exact wpAny_Expr_any (thn (he pins s σ H _ E I h) fun v s1 ⟨y,H1,I1,r1,q1⟩ => ⟨σ,H1,I1,q1⟩) I.quiet hs
theorem JR {st : Stmt} {t : TX} (h : PX1 X st t) : PX X [st] t:=by
 intro pins s σ H D E I q
 refine wpAny_execs_cons (thn (h pins s σ H D E I q) fun f s' hs => ?_)
 cases f with
 | next => exact wpAny_execs_nil hs
 | brk => exact hs
 | cont => exact hs
 | ret u => exact hs
end
section
variable {P : Program} {w : World} {fs : List Addr} {H H1 : Hp} {h h1 : Heap} {ea C : Addr} {o : HO}
theorem Un.more (u : Un fs [] H H1 h h1) (n : h.get? ea = none) (z : H ea = none) : Un fs [] H (upd H1 ea o) h h1 where
 keep:=u.keep
 slot:=u.slot
 free:=fun b ob q e hx => by
  rw [az (fun c => by rw [c,n] at q; cases q)]
  exact u.free b ob q e hx
 there:=u.there
 tups:=fun b xs q => by rw [az (aA q z)]; exact u.tups b xs q
 frzs:=fun b ob v q => by rw [az (aA q z)]; exact u.frzs b ob v q
 tbls:=fun b ps q => by rw [az (aA q z)]; exact u.tbls b ps q
theorem HOk.ext (x : HOk P w H h) (z : H ea = Option.none) (p : ExAt ea C h) : HOk P w (upd H ea (.ext (ExAt ea C))) h:=by
 intro a u e
 by_cases q : a = ea
 ·subst q
  rw [af] at e
  cases e
  obtain ⟨ob,vs,e1,e2,e3⟩:=p
  refine ⟨⟨ob,vs,e1,e2,e3⟩,⟨ob,e1⟩,?_⟩
  rintro h1 h2 ⟨ob',vs',f1,f2,f3⟩ k
  exact ⟨ob',vs',k _ f1,f2,f3⟩
 ·rw [az q] at e
  exact (x a u e).stay (fun b v _ f => f) (fun b f => by rw [az (aA f z)]; exact f) fun b xs f => by rw [az (aA f z)]; exact f
end
section
variable {X : Cx} {pins : List (Addr × Obj)} {σ : St} {H : Hp} {s : Shared} {E : XK}
theorem FU {M : Model} {A : Around} {EE : Value -> Shared -> Prop} {i : Nat} {x : Str} {v : V} {pos : Pos} {Q : Unit -> Shared -> Prop} (I : Inv X pins σ H s) (hN : X.N.Nodup) (hi : X.N[i]? = some x) (hx : X.env.scope.names.lookup x = some .local)
  (h : ∀ s',Inv X pins (σ.set i none) H s' -> Q () s') : wpAny M A (do bindName X.env x .none; unbindBehindTheSuite X.env x pos) Q EE s:=by
 have hcls : (X.env.scope.kind == .class || (X.env.scope.kind == .module && X.env.locals != X.env.globals)) = false:=by rw [I.ok.kind]; rfl
 have hiσ : i < σ.length:=by rw [I.len]; exact (List.getElem?_eq_some_iff.mp hi).1
 refine wpAny_bind (wpAny_bindName (sx I hN hi (.inl hx) (v:=.non) rfl (fun s1 I1 => ?_) (.inr hx)))
 unfold unbindBehindTheSuite
 refine wpAny_onRaise ?_
 obtain ⟨m,hn,hl⟩:=id I1.loc
 have hv : m x = some .none:=by
  obtain ⟨u,ru,lk⟩:=hl i x .non hi (List.getElem?_set_self hiσ) (.inl hx)
  cases (show u = Value.none from ru)
  rcases lk with ⟨_,e⟩ | ⟨k,_⟩
  ·exact e
  ·have k0 : X.env.kindOf x = some .local:=hx
   rw [k0] at k
   rcases k with k | k <;> cases k
 refine wpAny_unbindName_local hx hn hv hcls fun h' u hn' hs => h _ ?_
 have cne:=I1.cne
 obtain ⟨oL,_,_,hoL,_⟩:=id hn
 refine ⟨I1.ok,I1.os,I1.bare,⟨fun b o e n hb hz => ?_,fun b o e n hb hz => ?_,I1.base.free,fun b o e hz => ?_,I1.base.tups,I1.base.frzs,I1.base.tbls⟩,⟨_,hn',fun j y v' e1 e2 e3 => ?_⟩,fun y c e => ?_,I1.free,I1.freeC,fun p hp => ?_,fun b ob e => ?_,?_⟩
 ·exact (hs.2 b (Nat.ne_of_lt (Nat.lt_of_lt_of_le (Heap.lt_size e) I1.ok.above))).trans (I1.base.keep b o e n hb hz)
 ·obtain ⟨sl,f⟩:=I1.base.slot b o e n hb hz
  exact ⟨sl,(hs.2 b (Nat.ne_of_lt (Nat.lt_of_lt_of_le (Heap.lt_size e) I1.ok.above))).trans f⟩
 ·obtain ⟨o',f⟩:=I1.base.there b o e hz
  exact ⟨o',(hs.2 b (Nat.ne_of_lt (Nat.lt_of_lt_of_le (Heap.lt_size e) I1.ok.above))).trans f⟩
 ·by_cases hj : j = i
  ·subst hj
   rw [List.getElem?_set_self hiσ] at e2
   cases e2
  ·rw [List.getElem?_set_ne (Ne.symm hj)] at e2
   obtain ⟨u',r',q⟩:=hl j y v' e1 (by rw [List.getElem?_set_ne (Ne.symm hj)]; exact e2) e3
   refine ⟨u',r',?_⟩
   rcases q with ⟨k,e⟩ | ⟨k,c,e,z⟩
   ·refine .inl ⟨k,?_⟩
    have : y ≠ x:=fun e => hj (xA hN e1 (e ▸ hi))
    simp [this,e]
   ·exact .inr ⟨k,c,e,z.sameBut hs (cne y c e)⟩
 ·obtain ⟨w',z⟩:=I1.cell y c e
  exact ⟨w',z.sameBut hs (cne y c e)⟩
 ·obtain ⟨e,n,ne,nf,d⟩:=I1.pin p hp
  exact ⟨(hs.2 p.1 ne).trans e,n,ne,nf,d⟩
 ·refine (I1.hok b ob e).stay (fun c w' hc q => (hs.2 c ?_).trans q) (fun _ q => q) fun _ _ q => q
  rintro rfl
  rcases hc with rfl | hc
  ·rw [I1.free] at e; cases e
  ·rw [I1.free] at hc; cases hc
 ·rw [List.length_set]; exact I.len
end
section
variable {X : Cx} {pins : List (Addr × Obj)} {σ : St} {H : Hp} {s s' : Shared} {E : XK} {C F : Addr} {i : Nat} {x n : Str} {np pos hpos : Pos} {body : List Stmt} {b₀ : Stmt} {suite : List Stmt} {tb : TX} {ts : TS}
theorem land {h5 : Heap} {B : Heap} {H' : Hp} (I : Inv X pins σ H s) (os : s'.os = s.os) (bare : AllBare s'.gens) (un : Un (frs X.stack) [] H H' s.heap s'.heap) (hok : HOk X.prog X.w H' B)
  (there : ∀ b o,s.heap.get? b = some o -> b ∉ frs X.stack -> ∃ o',B.get? b = some o') (f0 : B.StaysIn s'.heap) (f5 : B.StaysIn h5) (sm : s'.heap.UpToSlots h5) : Un (frs X.stack) [] H H' s.heap h5 /\ HOk X.prog X.w H' h5:=by
 have hokS : HOk X.prog X.w H' s'.heap:=hok.kept fun b u q => f0 b u q
 have J : Inv X pins σ H' s' := I.call' (ch:=[]) os un hokS bare (fun b z => by cases z)
 refine ⟨Un.fly un f5 (fun b o o1 q q1 hb => ?_) fun b o hb q => ?_,hok.kept fun b u q => f5 b u q⟩
 ·obtain ⟨o',e'⟩:=there b o q hb
  have:=f0 b o' e'
  rw [q1] at this
  cases this
  exact e'
 ·obtain ⟨_,o',e',hd⟩:=J.stack.mem hb
  rw [q] at e'
  cases e'
  exact sm b o q hd
def Lv (C : Addr) (i : Nat) (tb : TX) (ts : TS) : TS:=fun D σ H => tb D (fun c _ H1 => c = .ref C /\ ∀ ea,H1 ea = none ->
 ts { nx:=fun σ' H' => D.nx (σ'.set i none) H',rt:=D.rt,bk:=fun σ' H' => D.bk (σ'.set i none) H',ct:=fun σ' H' => D.ct (σ'.set i none) H' } (σ.set i (some (.ref ea))) (upd H1 ea (.ext (ExAt ea C)))) σ H
theorem JQ (hN : X.N.Nodup) (hi : X.N[i]? = some n) (hx : X.env.scope.names.lookup n = some .local) (hm : X.mg x = some (.ref F)) (hq : PySem.W.exmOne X.K (.ref C) (.ref F) = some true) (hb : PX X body tb) (hs : ∀ ea,PSs (X.held ea) (b₀ :: suite) ts)
  (hst : X.stack = X.env :: X.outer:=by rfl) (hfr : X.env.frame = some X.env.locals:=by rfl) (hg : Gl X x:=by rfl) (hdb : (x == ("__debug__" : Str)) = false:=by decide) :
  PS X (.Try body [.ExceptHandler (some (.Name x np)) (some n) (b₀ :: suite) hpos] [] [] pos) (Lv C i tb ts):=by
 intro pins s σ H D I h
 refine wpAny_Try_except (wpAny_mono (hb pins s σ H D _ I h) (fun f s1 q => ?_) fun e s1 q => ?_)
 ·cases f with
  | next => exact wpAny_execs_nil q
  | brk => exact q
  | cont => exact q
  | ret u => exact q
 obtain ⟨s0,H0,I0,ea,t,C',B,H',rfl,os,bare,un,hok,fl,there,hn,hc,k⟩:=q
 obtain rfl : C' = C:=Value.ref.inj hc
 have flt:=fl
 rw [hst] at flt
 have ean : s0.heap.get? ea = none:=by
  cases q : s0.heap.get? ea with
  | none => rfl
  | some o =>
   by_cases hb : ea ∈ frs X.stack
   ·exfalso
    obtain ⟨_,_,_,oe,vs,_,_,_,he,_,hd,_⟩:=id fl
    have hokS : HOk X.prog X.w H' s1.heap:=hok.kept fun b u q => fl.1 b u q
    have J : Inv X pins σ H' s1:=I0.call' (ch:=[]) os un hokS bare (fun b z => by cases z)
    obtain ⟨_,o',e',hnd⟩:=J.stack.mem hb
    rw [he] at e'
    cases e'
    exact hnd _ hd
   ·obtain ⟨o',e'⟩:=there ea o q hb
    rw [fl.2.1] at e'
    cases e'
 have h0n : H0 ea = none:=I0.hok.none ean
 refine wpAny_looks_onW (I0.ok.frames.trans (by rw [hst])) hfr flt fun h4 held4 sm4 => ?_
 refine wpAny_landsW held4 fun h5 fl5 sm5 => ?_
 have sm:=sm4.trans sm5
 obtain ⟨un5,hok5⟩:=land I0 os bare un hok there fl.1 fl5.1 sm
 have I5 : Inv X pins σ H' { s1 with heap:=h5 }:=I0.call' (ch:=[]) os un5 hok5 bare (fun b z => by cases z)
 refine wpAny_handleBy_cons (codeAny_handlers_test ?_) (by intro q; cases q)
 refine jN (X:=X.held ea) I5.held hg hm ?_ hdb
 have ty5 : PySem.W.Looks (model X.prog X.w) h5 (typeOf (.ref ea)) (.ref C'):=by
  obtain ⟨ob,e1,e2⟩:=fl5.there
  exact e2 ▸ (PySem.W.Looks.ld e1).andThen .now
 refine (PySem.W.exm_one (M:=model X.prog X.w) I5.kIn ty5 hq).here ?_
 refine codeAny_handlers_suite_as (lands_againW fl5 fun h6 fl6 sm6 => ?_)
 obtain ⟨un6,hok6⟩:=land I0 os bare un hok there fl.1 fl6.1 (sm.trans sm6)
 have ex6 : ExAt ea C' h6:=by
  obtain ⟨_,_,_,oe,vs,_,_,_,he,hcl,hd,_⟩:=fl6
  exact ⟨oe,vs,he,hcl.1,hd⟩
 have I6 : Inv X pins σ (upd H' ea (.ext (ExAt ea C'))) { s1 with heap:=h6 }:=I0.call' (ch:=[]) os (un6.more ean h0n) (hok6.ext hn ex6) bare (fun b z => by cases z)
 refine sx (X:=X.held ea) I6.held hN hi (.inl hx) (v:=.ref ea) rfl (fun s7 I7 => ?_) (.inr hx)
 refine wpAny_mono (hs ea pins s7 _ _ _ I7 (k ea hn)) (fun f s8 q8 => ?_) fun _ _ z => z.elim
 have fin : ∀ {σ8 : St} {H8 : Hp} {Q : Unit -> Shared -> Prop},Inv (X.held ea) pins σ8 H8 s8 -> (∀ s9,Inv X pins (σ8.set i none) H8 s9 -> Q () s9) -> wpAny (model X.prog X.w) X.A (do bindName X.env n .none; unbindBehindTheSuite X.env n hpos) Q X.xe s8:=
  fun {σ8 H8 Q} J g => FU (v:=.non) (J.unheld I.ok) hN hi hx g
 cases f with
 | next => obtain ⟨σ8,H8,J,q⟩:=q8; exact fin J fun s9 J9 => ⟨_,H8,J9,q⟩
 | brk => obtain ⟨σ8,H8,J,q⟩:=q8; exact fin J fun s9 J9 => ⟨_,H8,J9,q⟩
 | cont => obtain ⟨σ8,H8,J,q⟩:=q8; exact fin J fun s9 J9 => ⟨_,H8,J9,q⟩
 | ret u => obtain ⟨v,σ8,H8,J,r,q⟩:=q8; exact fin J fun s9 J9 => ⟨v,_,H8,J9,r,q⟩
end
end L2
set_option Elab.async false
set_option linter.all false
set_option maxRecDepth 100000
namespace L2
open PySem PySem.Spec PyProof.Rows
structure RoomH (k : Nat) (A : Around) : Prop where
 dp : A.depth + 3 * k + 5 < recursionLimit
 un : A.units + 16 * k + 200 < cLine
theorem RoomH.mono {j k : Nat} {A : Around} (r : RoomH k A) (h : j <= k) : RoomH j A:=⟨by have:=r.dp; omega,by have:=r.un; omega⟩
theorem RoomH.deeper {k : Nat} {A : Around} (r : RoomH (k + 1) A) (env : Env) : RoomH k (A.deeper env):=
 ⟨by have:=r.dp; show A.depth + 1 + 3 * k + 5 < _; omega,by have:=r.un; show A.units + 3 + 16 * k + 200 < _; omega⟩
theorem RoomH.depth {k : Nat} {A : Around} (r : RoomH k A) : A.depth < recursionLimit:=by have:=r.dp; omega
theorem Room.held {k : Nat} {A : Around} {v : Option Value} (r : Room k A) : RoomH k (A.mark v):=
 ⟨by have:=r.dp; first | exact this | (simp only [Around.mark]; exact this),by have:=r.un; first | exact this | (simp only [Around.mark]; exact this)⟩
structure FnOkH (P : Program) (w : World) (K : PySem.W.Frag) (mg : Str -> Option Value) (base : Heap) (CX : CXT) (k : Nat) (f : Addr) (fd : FuncData) (ps : List Str) (sp : Sp) : Prop where
 len : ∀ vs H Q E,sp vs H Q E -> vs.length = ps.length
 run : ∀ (A : Around) (outer : List Env) (s : Shared) (H : Hp) (args : Args) (us : List Value) (vs : List V) (Q : VK) (E : XK),RoomH k A -> Env0 P w K mg base A outer s H -> BindsTo s fd args (ps.zip us) -> Vals vs us -> sp vs H Q E ->
  codeAny (model P w) A (.call (.ref f) args) (CR CX outer P w H s Q E) s
abbrev B8 (CX : CXT) (P : Program) (w : World) (K : PySem.W.Frag) (mg : Str -> Option Value) (base : Heap) (N : List Str) (qual : Str) (scope : Scope) (f : Addr) (cd : Value) (A : Around) (outer : List Env) (s : Shared) (H : Hp) (E : XK) : Cx:=
 { wU CX P w K mg base N qual scope f cd A outer s H E with calm:=false }
theorem Dq {CX : CXT} {P : Program} {w : World} {K : PySem.W.Frag} {mg : Str -> Option Value} {base : Heap} {N ps : List Str} {qual : Str} {scope : Scope} {f : Addr} {cd : Value} {A : Around} {outer : List Env} {s s1 : Shared} {H : Hp} {E : XK} {us : List Value} {vs : List V}
  (S : FnScope N ps scope) (e0 : Env0 P w K mg base A outer s H) (hl : vs.length = ps.length) (r : Vals vs us)
  (x : InCallC s s.heap.objs.size (bindL (envOfC qual scope s.heap.objs.size f cd).kindOf (ps.zip us) fun _ => none) (cellsFrom (s.heap.objs.size + 1) scope.names []) (bindC (envOfC qual scope s.heap.objs.size f cd).kindOf (ps.zip us) fun _ => none) s1) :
  Inv (B8 CX P w K mg base N qual scope f cd A outer s H E) [] (start N vs) H s1:=by
 have e1 : Env0 P w K mg base { A with handled:=none } outer s H:=⟨e0.frames,e0.mod,e0.bs,e0.bsz,e0.funs,e0.frf,e0.hok,e0.bare⟩
 have I:=zK (CX:=CX) (E:=E) (qual:=qual) (f:=f) (cd:=cd) S rfl e1 hl r x
 have ok:=I.ok
 exact ⟨⟨ok.mod,ok.kind,ok.glob,ok.blt,ok.above,ok.inj,ok.has,ok.cab,(fun z => by cases z),Around.frames_deeper e0.frames,ok.stk,ok.exf,ok.bs,ok.bsz,ok.noex,ok.exfs,ok.funs,ok.frf⟩,I.os,I.bare,I.base,I.loc,I.cell,I.free,I.freeC,I.pin,I.hok,I.len⟩
theorem Jo {CX : CXT} {P : Program} {w : World} {K : PySem.W.Frag} {mg : Str -> Option Value} {base : Heap} {k : Nat} {f : Addr} {name qual : Str} {params : Arguments} {body : List Stmt} {scope : Scope} {dV kV doc pm cdv ct oc : Value} {an od : Option Addr}
  {osl : Array (Option Value)} {N ps : List Str} {sp : Sp} (lk : K.lookup f = some ⟨oc,od,.func (PySem.W.fnOf name qual params body scope dV kV doc pm an cdv ct),osl⟩) (hcd : PySem.W.codeIn K cdv qual = true) (S : FnScope N ps scope)
  (len : ∀ vs H Q E,sp vs H Q E -> vs.length = ps.length)
  (hbody : ∀ (A : Around) (outer : List Env) (s : Shared) (H : Hp) (vs : List V) (Q : VK) (E : XK),RoomH k (A.deeper (envOfC qual scope s.heap.objs.size f cdv)) -> sp vs H Q E ->
   ∃ t,PSs (B8 CX P w K mg base N qual scope f cdv A outer s H E) body t /\ t { nx:=fun _ H' => Q .non H',rt:=Q } (start N vs) H) :
  FnOkH P w K mg base CX (k + 1) f (PySem.W.fnOf name qual params body scope dV kV doc pm an cdv ct) ps sp:=by
 refine ⟨len,fun A outer s H args us vs Q E hr e0 hb r hsp => ?_⟩
 have hl:=len _ _ _ _ hsp
 have KX : K.In s.heap:=e0.mod.kin.keeps fun b o e => (e0.bs b o e).1
 have lim : s.heap.NoLimit:=e0.mod.nolimit.keeps fun b o e => (e0.bs b o e).1
 have hkind : ∀ y ∈ ps.zip us,scope.names.lookup y.1 = some .local \/ (scope.names.lookup y.1 = some .cell /\ ((cellsFrom (s.heap.objs.size + 1) scope.names []).lookup y.1).isSome = true):=fun ⟨n,v⟩ hy => by
  rcases S.par n (List.of_mem_zip hy).1 with q | q
  ·exact .inl q
  ·exact .inr ⟨q,PySem.W.cellsFrom_some _ _ _ (.inl q)⟩
 refine codeAny_call_function hr.depth (KX _ _ lk) rfl S.co S.gen rfl (PySem.W.codeRec_of KX hcd) (hb _ _ _ _ ?_)
 refine wpAny_newFunctionEnv_cells S.kind hkind fun env he s1 x => ?_
 subst he
 refine ⟨lim.keeps x.toInCall.keep,codeAny_func ?_⟩
 obtain ⟨t,ht,hq⟩:=hbody A outer s H vs Q E (hr.deeper _) hsp
 have I : Inv (B8 CX P w K mg base N qual scope f cdv A outer s H E) [] (start N vs) H s1:=Dq S e0 hl r x
 refine wpAny_mono (ht [] s1 (start N vs) H _ I hq) (fun fl s' hs => ?_) fun e s' hs => hs
 have fin : ∀ {σ' : St} {H' : Hp} {v : V} {u : Value},Inv (B8 CX P w K mg base N qual scope f cdv A outer s H E) [] σ' H' s' -> RelV v u -> Q v H' -> CE outer P w H s Q u s' :=
  fun {σ' H' v u} J rv q => ⟨v,H',J.os,J.bare,J.base,J.hok,rv,q⟩
 cases fl with
 | ret u =>
  obtain ⟨v,σ',H',J,rv,q⟩:=hs
  exact fin J rv q
 | next =>
  obtain ⟨σ',H',J,q⟩:=hs
  exact fin (v:=V.non) (u:=Value.none) J rfl q
 | brk =>
  obtain ⟨_,_,_,q⟩:=hs
  exact False.elim q
 | cont =>
  obtain ⟨_,_,_,q⟩:=hs
  exact False.elim q
structure DefH (P : Program) (w : World) (K : PySem.W.Frag) (mg : Str -> Option Value) (base : Heap) (x : Str) (k : Nat) (ps : List Str) (dvs : List V) (sp : Sp) : Prop where
 ex : ∃ (f : Addr) (fd : FuncData) (ds : List Value),mg x = some (.ref f) /\ PySem.W.keepIn K (.ref f) = true /\ Vals dvs ds /\ Binds K fd ps ds /\ FnOkH P w K mg base CX0 k f fd ps sp
section
variable {P : Program} {w : World} {K : PySem.W.Frag} {mg : Str -> Option Value} {base : Heap}
theorem FunD.okH {x qual : Str} {st : Stmt} {dV : Value} {f : Addr} {fd : FuncData} {N ps : List Str} {k : Nat} {sp : Sp} (F : FunD K x qual st dV f fd) (S : FnScope N ps (ai st)) (len : ∀ vs H Q E,sp vs H Q E -> vs.length = ps.length)
  (hbody : ∀ (cdv : Value) (A : Around) (outer : List Env) (s : Shared) (H : Hp) (vs : List V) (Q : VK) (E : XK),RoomH k (A.deeper (envOfC qual (ai st) s.heap.objs.size f cdv)) -> sp vs H Q E ->
   ∃ t,PSs (B8 CX0 P w K mg base N qual (ai st) f cdv A outer s H E).nox (aJ st) t /\ t { nx:=fun _ H' => Q .non H',rt:=Q } (start N vs) H) : FnOkH P w K mg base CX0 (k + 1) f fd ps sp:=by
 obtain ⟨oc,od,kV,doc,pm,an,cdv,ct,osl,rfl,lk,hcd⟩:=F.ex
 refine Jo lk hcd S len fun A outer s H vs Q E hr hsp => ?_
 obtain ⟨t,h,q⟩:=hbody cdv A outer s H vs Q E hr hsp
 exact ⟨t,h.nox,q⟩
end
section
variable {X : Cx} {x : Str} {j k : Nat} {ps : List Str} {dvs : List V} {sp : Sp} {p pos : Pos} {e : Expr} {es : List Expr} {t : TA}
theorem Kx (G : DefH X.prog X.w X.K X.mg X.base x k ps dvs sp) (hr : RoomH j X.A) (ha : PA X (e :: es) t) (hkj : k <= j:=by decide) (hg : Gl X x:=by rfl) (hdb : (x == ("__debug__" : Str)) = false:=by decide)
  (he : starEach (e :: es) X.env = (false,eval e X.env) :: starEach es X.env:=by rfl) (hpl : (backTo pos (starEach es X.env)).any (·.1) = false:=by rfl) :
  PE X (.Call (.Name x p) (e :: es) [] pos) (uI sp dvs E0 t):=by
 obtain ⟨f,fd,ds,hm,hk,hd,hb,F⟩:=G.ex
 intro pins s σ H Q I h
 refine wpAny_Call_Name_kw (jN I hg hm ?_ hdb)
 refine PySem.W.callWith_K (h₀:=X.base) I.ok.mod.kin hk (thn (ha pos pins s σ H _ I h) fun us s1 ⟨vs,H1,I1,r,q⟩ => ⟨I1.kIn,?_⟩) he hpl
 have r2 : Vals (vs ++ dvs) (us ++ ds):=r.append hd
 have hl : (us ++ ds).length = ps.length:=by rw [<- r2.length]; exact F.len _ _ _ _ q
 refine wpAny_call (codeAny_mono (F.run X.A X.stack s1 H1 ⟨us,[]⟩ (us ++ ds) (vs ++ dvs) Q E0 (hr.mono hkj) I1.env0 (hb s1 us I1.kIn hl) r2 q) fun r' s' hq => ?_)
 cases r' with
 | error e' => exact False.elim hq
 | ok fl =>
  cases fl with
  | ret u => exact I1.after hq
  | next => exact False.elim hq
  | brk => exact False.elim hq
  | cont => exact False.elim hq
end
section
variable {X : Cx}
end
end L2
set_option Elab.async false
set_option linter.all false
set_option maxRecDepth 100000
namespace L2
open PySem PySem.Spec PyProof.Rows
section
variable {X : Cx}
def Ki : V -> Option Value
 | .ref a => some (.ref a)
 | .ty n => some (.type n)
 | _ => none
theorem F7 {c : V} {cv u : Value} (e : Ki c = some cv) (r : RelV c u) : u = cv:=by
 cases c <;> first | cases e
 ·exact r
 ·exact r
def KC (K : PySem.W.Frag) : List V -> Hp -> VK -> Prop:=fun xs H Q => ∃ (a C : Addr) (c : V) (cv : Value) (b : Bool),xs = [.ref a,c] /\ H a = some (.ext (ExAt a C)) /\ XCls K C /\ Ki c = some cv /\ PySem.W.kitOne K (.ref C) cv = some b /\ Q (.bl b) H
theorem fD : fX X (.builtin "isinstance") (KC X.K):=by
 intro pins s σ H xs us Q I r h
 obtain ⟨a,C,c,cv,b,rfl,ha,cl,hc,e,q⟩:=h
 obtain ⟨u,v,rfl,ru,rv⟩:=r.two
 cases (show u = Value.ref a from ru)
 cases F7 hc rv
 obtain ⟨p,_⟩:=(show ObjOk X.prog X.w H s.heap a (.ext (ExAt a C)) from I.hok a _ ha)
 exact PySem.W.kia_one (Gv cl) I.kIn p e (fun z => nomatch z) fun tk => ⟨.bl b,H,I.tok tk,rfl,q⟩
end
end L2
set_option Elab.async false
set_option linter.all false
set_option maxRecDepth 100000
namespace L2
open PySem PySem.Spec PyProof.Rows
section
variable {prog : Program} {w : World} {A : Around} {E : Value -> Shared -> Prop} {s : Shared} {it l S : Addr} {items : Array Value}
end
section
variable {X : Cx} {a : Expr} {ta : TA} {p p2 pos pos2 : Pos}
end
end L2
set_option Elab.async false
set_option linter.all false
set_option maxRecDepth 100000
namespace L2
open PySem PySem.Spec PyProof.Rows
section
variable {X : Cx}
end
end L2
set_option Elab.async false
set_option linter.all false
set_option maxRecDepth 100000
namespace L2
open PySem PySem.Spec PyProof.Rows
theorem Al {prog : Program} {w : World} {A : Around} {R : Result -> Shared -> Prop} {s : Shared} {elt target iter cond : Expr} {scope : Scope} {pos : Pos} {it acc : Value} {env : Env} (I : Nat -> Shared -> Prop)
  (turn : ∀ n s,I n s -> wpAny (model prog w) A (pyNext it) (fun r s₁ => match r with
   | none => R (.ok .next) s₁
   | some v => wpAny (model prog w) A (letOwnedTupleGo target it v) (fun _ s₁' => wpAny (model prog w) A (assign target env v) (fun _ s₂ => wpAny (model prog w) A (isTrue cond env (eval cond env)) (fun ok s₂' =>
     if ok = true then wpAny (model prog w) A (eval elt env) (fun x s₃ =>
     wpAny (model prog w) A (call (.builtin "list.append") [acc,x]) (fun _ s₄ => ∃ m,m < n /\ I m s₄) (fun _ _ => False) s₃)
     (fun _ _ => False) s₂' else ∃ m,m < n /\ I m s₂') (fun _ _ => False) s₂) (fun _ _ => False) s₁') (fun _ _ => False) s₁) (fun _ _ => False) s)
  (n : Nat) (h : I n s) :
  codeAny (model prog w) A (.compLoop (.ListComp elt [⟨target,iter,[cond],0⟩] scope pos) 0 it acc env) R s:=by
 refine codeAny_loop rfl I (fun n s hI => ?_) n h
 show wpAny _ _ ((compTurn (.ListComp elt [⟨target,iter,[cond],0⟩] scope pos) 0 it acc env).onRaise (fun x => do noteFrame x env; theTreesLotGoes x)) _ _ s
 refine wpAny_noted ?_
 rw [compTurn_list]
 refine wpAny_bind (wpAny_standAt (wpAny_bind (wpAny_mono (turn n s hI) (fun r s₁ h₁ => ?_) fun _ _ h' => h'.elim)))
 cases r with
 | none => exact wpAny_pure h₁
 | some v =>
  refine wpAny_bind (wpAny_mono h₁ (fun _ s₁' h₁' => ?_) fun _ _ h' => h'.elim)
  refine wpAny_bind (wpAny_mono h₁' (fun _ s₂ h₂ => wpAny_bind (wpAny_mono (wpAny_tests_one h₂) (fun ok s₃ h₃ => ?_) fun _ _ h' => h'.elim)) fun _ _ h' => h'.elim)
  cases ok with
  | false => exact wpAny_pure ⟨rfl,h₃⟩
  | true => exact wpAny_bind (wpAny_bind (wpAny_mono h₃ (fun x s₄ h₄ => wpAny_bind (wpAny_mono h₄ (fun _ s₅ h₅ => wpAny_pure (wpAny_pure ⟨rfl,h₅⟩)) fun _ _ h' => h'.elim)) fun _ _ h' => h'.elim))
def zY (J : It) (ix : List (Option Nat)) (g : TG) (tc : TT) (te : TE) (σ : St) (H : Hp) (Qd : Addr -> Hp -> Prop) : Prop:=
 ∀ D,H D = none -> ∃ W : Nat -> Nat -> St -> Hp -> Prop,(∃ m,W 0 m (aZ ix σ) (upd H D (.lst []))) /\ ∀ i m σ' H',W i m σ' H' ->
  (J.stop i H' /\ Qd D H') \/ (J.go i H' /\ ∀ x H2,J.yld i H' x H2 -> g x σ' H2 fun σ3 H3 => tc σ3 H3 fun b H4 => if b = true then te σ3 H4 fun y H5 => ∃ ys,H5 D = some (.lst ys) /\ ys.length < sizeLine /\ ∃ m',m' < m /\ W (i + 1) m' σ3 (upd H5 D (.lst (ys ++ [y]))) else ∃ m',m' < m /\ W (i + 1) m' σ3 H4)
section
variable {X : Cx} {pins : List (Addr × Obj)} {σ : St} {H : Hp} {s : Shared} {N : List Str} {ix : List (Option Nat)} {scope : Scope} {fp : List Addr} {tg elt iter cond : Expr} {tc : TT} {pos spos : Pos} {J : It} {it : Addr} {tn : Nat -> Heap -> Prop} {g : TG} {te : TE} {wi : TI}
theorem zD {Qd : Addr -> Hp -> Prop} {RR : Value -> Addr -> Result -> Shared -> Prop} {E : Value -> Shared -> Prop} (I : Inv X pins σ H s) (hc : X.calm = true) (S : BlkScope X.N X.env.scope N ix scope) (T : Turn X.prog X.w X.K tg J fp it tn) (st : tn 0 s.heap) (f2 : ∀ b ∈ fp,sE X pins H b)
  (hg : ∀ C,PG (bN X N scope fp s H C) tg g) (ht : ∀ C,PT (bN X N scope fp s H C) cond tc) (he : ∀ C,PE (bN X N scope fp s H C) elt te) (hW : zY J ix g tc te σ H Qd)
  (hR : ∀ D C s' H' m,Inv X pins σ H' s' -> s'.heap.Ns C m -> sE X pins H' C -> Qd D H' -> RR (.ref D) C (.ok .next) s') :
  wpAny (model X.prog X.w) X.A (newList []) (fun acc s₃ => wpAny (model X.prog X.w) X.A (newFunctionEnv scope X.env.globals (cH X.env.cells scope.names []) [] X.env.qual none .none (some X.env)) (fun cenv s₄ =>
   codeAny (model X.prog X.w) X.A (.compStart (.ListComp elt [⟨tg,iter,[cond],0⟩] scope pos) 0 (.ref it) acc { cenv with scope:=relabel scope X.env }) (RR acc cenv.locals) s₄) E s₃) E s:=by
 refine wpAny_newObj_type (wpAny_newFunctionEnv S.nocell (by intro y hy; simp at hy) (fun h₁ hns₁ hsb₁ => ?_) S.kind)
 dsimp only at hns₁ hsb₁ ⊢
 generalize hH2 : s.heap.push { cls:=.type "list",dict:=none,data:=.seq ([] : List Value).toArray } = H2 at hns₁ hsb₁ ⊢
 have hC : H2.objs.size = s.heap.objs.size + 1:=by rw [<- hH2,Heap.size_push]
 have hDC : s.heap.objs.size ≠ H2.objs.size:=by rw [hC]; exact Nat.ne_of_lt (Nat.lt_succ_self _)
 have hCle : s.heap.objs.size <= H2.objs.size:=by rw [hC]; exact Nat.le_succ _
 have below : ∀ b,b < s.heap.objs.size -> b ≠ H2.objs.size:=fun b hb => by rw [hC]; exact Nat.ne_of_lt (Nat.lt_succ_of_lt hb)
 have old : ∀ b o,s.heap.get? b = some o -> h₁.get? b = some o:=fun b o e => hsb₁.extBut b o (below b (Heap.lt_size e)) (Heap.get?_push_of_some _ (hH2 ▸ Heap.get?_push_of_some _ e))
 have hacc : ∃ n,h₁.get? s.heap.objs.size = some { cls:=.type "list",data:=.seq ([] : List Value).toArray n }:=⟨_,hsb₁.extBut _ _ hDC (Heap.get?_push_of_some _ (hH2 ▸ Heap.get?_push_size _ rfl))⟩
 have st1 : tn 0 h₁:=T.keep _ _ _ st fun b _ o e => old b o e
 have fo : ∀ b ∈ fp,∃ o,s.heap.get? b = some o /\ ∀ v,o.data ≠ .cell v:=T.obj _ _ st
 have I0 : Inv (bN X N scope fp s H H2.objs.size) pins (aZ ix σ) (upd H s.heap.objs.size (.lst [])) { s with heap:=h₁,toks:=s.toks + ([] : List (Str × Value)).length }:=
  zJ I S f2 fo (Nat.le_refl _) hCle hDC old hns₁ hacc
 have freshD : H s.heap.objs.size = none:=I.hok.fresh (Nat.le_refl _)
 obtain ⟨W,⟨m0,w0⟩,turn⟩:=hW s.heap.objs.size freshD
 have cl_ne : ∀ b ∈ fp,b ≠ H2.objs.size:=fun b hb => by
  obtain ⟨o,e,_⟩:=fo b hb
  exact below b (Heap.lt_size e)
 have stat : ∀ {H' : Hp},(∀ b ∈ fp,H' b = none) -> ∀ b ∈ fp,sE (bN X N scope fp s H H2.objs.size) pins H' b:=fun hn b hb => by
  obtain ⟨f0,f1,f3,f4,f5,f6⟩:=f2 b hb
  exact ⟨hn b hb,cl_ne b hb,I0.ok.exfs b hb,.inl hb,(I0.ok.exf b hb).2,f6⟩
 have fr0 : ∀ b ∈ fp,(upd H s.heap.objs.size (.lst [])) b = none:=fun b hb => by
  obtain ⟨o,e,_⟩:=fo b hb
  rw [az (Nat.ne_of_lt (Heap.lt_size e))]
  exact (f2 b hb).1
 have loop : codeAny (model X.prog X.w) X.A (.compLoop (.ListComp elt [⟨tg,iter,[cond],0⟩] scope pos) 0 (.ref it) (.ref s.heap.objs.size) (compEnvC scope (cH X.env.cells scope.names []) H2.objs.size X.env))
   (RR (.ref s.heap.objs.size) H2.objs.size) { s with heap:=h₁,toks:=s.toks + ([] : List (Str × Value)).length }:=by
  refine Al (fun n s' => ∃ i σ' H',Inv (bN X N scope fp s H H2.objs.size) pins σ' H' s' /\ tn i s'.heap /\ (∀ b ∈ fp,H' b = none) /\ W i n σ' H') ?_ m0 ⟨0,_,_,I0,st1,fr0,w0⟩
  rintro n s3 ⟨i,σ3,H3,I3,st3,fr3,w3⟩
  rcases turn i n σ3 H3 w3 with ⟨stop,qn⟩ | ⟨go,step⟩
  ·refine thn (T.done (bN X N scope fp s H H2.objs.size) rfl rfl rfl hc i pins s3 σ3 H3 _ I3 (stat fr3) st3 stop) fun r s4 ⟨hr,I4⟩ => ?_
   subst hr
   obtain ⟨m4,hn4,_⟩:=id I4.loc
   refine hR _ _ s4 H3 m4 ?_ hn4 (I.fpOk hCle I4.free) qn
   exact I.call' (ch:=fp) I4.os I4.base I4.hok I4.bare fun b hb => by
    obtain ⟨f0,f1,f3,f4,f5,f6⟩:=f2 b hb
    exact ⟨f4,f1,f5,f6⟩
  ·refine thn (T.item (bN X N scope fp s H H2.objs.size) rfl rfl rfl hc i pins s3 σ3 H3 _ I3 (stat fr3) st3 go) fun r s4 ⟨u,hr,h4⟩ => ?_
   subst hr
   refine thn h4 fun _ s5 ⟨x,H5,I5,r5,y5,st5,fr5⟩ => ?_
   have I5' := I5.pinned (stat fr5) (T.obj _ _ st5)
   refine thn (hg _ _ s5 σ3 H5 x u _ I5' r5 (step x H5 y5)) fun _ s6 ⟨σ6,H6,I6,q6⟩ => ?_
   refine thn (ht _ _ s6 σ6 H6 _ I6 q6) fun ok s6' ⟨H6',I6',q6'⟩ => ?_
   cases ok with
   | false =>
    obtain ⟨m',hm,w7⟩:=q6'
    refine ⟨m',hm,i + 1,σ6,H6',I6'.unpinned,T.keep _ _ _ st5 fun b hb o e => (I6'.pin (b,o) (List.mem_append_right _ (List.mem_append_right _ (dB hb e)))).1,fun b hb => ?_,w7⟩
    obtain ⟨o,e,d⟩:=T.obj _ _ st5 b hb
    exact (I6'.pin (b,o) (List.mem_append_right _ (List.mem_append_right _ (dB hb e)))).2.1
   | true =>
    refine thn (he _ _ s6' σ6 H6' _ I6' q6') fun yv s7 ⟨y,H7,I7,r7,ys,hD7,hz7,m',hm,w7⟩ => ?_
    refine thn (bI (X:=bN X N scope fp s H H2.objs.size) _ s7 σ6 H7 (.ref s.heap.objs.size) [y] (.ref s.heap.objs.size) [yv] (fun _ H8 => W (i + 1) m' σ6 H8) I7 rfl (.cons r7 .nil) ⟨_,ys,y,rfl,rfl,hD7,hz7,w7⟩) fun _ s8 ⟨_,H8,I8,_,w8⟩ => ?_
    refine ⟨m',hm,i + 1,σ6,H8,I8.unpinned,T.keep _ _ _ st5 fun b hb o e => (I8.pin (b,o) (List.mem_append_right _ (List.mem_append_right _ (dB hb e)))).1,fun b hb => ?_,w8⟩
    obtain ⟨o,e,d⟩:=T.obj _ _ st5 b hb
    exact (I8.pin (b,o) (List.mem_append_right _ (List.mem_append_right _ (dB hb e)))).2.1
 exact codeAny_compStart_list loop (T.self _ _ _ _ _ st1 loop)
def Hr (ix : List (Option Nat)) (wi : TI) (g : TG) (tc : TT) (te : TE) : TE:=fun σ H Q => wi σ H fun J H1 => zY J ix g tc te σ H1 fun D H' => Q (.ref D) H'
theorem G2 (hc : X.calm = true) (S : BlkScope X.N X.env.scope N ix scope) (hi : PI X tg iter wi) (hg : ∀ fp s H C,PG (bN X N scope fp s H C) tg g) (ht : ∀ fp s H C,PT (bN X N scope fp s H C) cond tc) (he : ∀ fp s H C,PE (bN X N scope fp s H C) elt te)
  (hs : ∀ x,foldedSetIterable iter X.env x = pure x:=by intro _; rfl) : PE X (.ListComp elt [⟨tg,iter,[cond],0⟩] scope pos) (Hr ix wi g tc te):=by
 intro pins s σ H Q I h
 rw [eval_ListComp]
 refine wpAny_comprehension_free (use:=none) rfl hs (km (S.clos I.ok)) S.kind S.locs (thn (hi pins s σ H _ I h) fun v s1 h1 => thn h1 fun itv s2 h2 => ?_)
 obtain ⟨it,fp,tn,J,H2,e,I2,T,st2,f2,hW⟩:=h2
 subst e
 refine zD (RR:=fun acc C => compPost (model X.prog X.w) X.A X.xe none (EP X pins σ Q) acc C) I2 hc S T st2 f2 (hg _ _ _) (ht _ _ _) (he _ _ _) hW ?_
 intro D C s' H' m I' hn fC q
 exact ⟨m,hn,fun h' sb => ⟨.ref D,H',I'.turned (t' := s'.toks) (fun b o hb e => (sb.2 b hb).trans e) fC.1 fC.2.1 fC.2.2.2.1 fC.2.2.2.2.1 fC.2.2.2.2.2,rfl,q⟩⟩
end
theorem wK {K : PySem.W.Frag} {a : Addr} {xs : List V} {ix : List (Option Nat)} {tc : TT} {te : TE} {σ : St} {H : Hp} {Qd : Addr -> Hp -> Prop} (Pv : Addr -> Nat -> List V -> Hp -> Prop)
  (h0 : ∀ D,H D = none -> Pv D 0 [] (upd H D (.lst [])))
  (hl : ∀ D i ys H',i <= xs.length -> Pv D i ys H' -> SqL K H' a xs)
  (hs : ∀ D i x ys H' (Qy : VK) (Qn : Hp -> Prop),H D = none -> xs[i]? = some x -> H' D = some (.lst ys) -> Pv D i ys H' -> (∀ y H4,H4 D = some (.lst ys) -> ys.length < sizeLine -> Pv D (i + 1) (ys ++ [y]) (upd H4 D (.lst (ys ++ [y]))) -> Qy y H4) ->
   (∀ H4,H4 D = some (.lst ys) -> Pv D (i + 1) ys H4 -> Qn H4) -> tc ((aZ ix σ).set 0 (some x)) H' fun b H4 => if b = true then te ((aZ ix σ).set 0 (some x)) H4 Qy else Qn H4)
  (hd : ∀ D ys H',H D = none -> H' D = some (.lst ys) -> Pv D xs.length ys H' -> Qd D H') : zY (Itl K a) ix (aF 0) tc te σ H Qd:=by
 intro D hD
 refine ⟨fun i m σ' H' => m = xs.length - i /\ i <= xs.length /\ (σ' = aZ ix σ \/ ∃ t,σ' = (aZ ix σ).set 0 t) /\ ∃ ys,H' D = some (.lst ys) /\ Pv D i ys H',⟨xs.length,by simp,Nat.zero_le _,.inl rfl,[],af,h0 D hD⟩,?_⟩
 rintro i m σ' H' ⟨rfl,hi,hσ,ys,hy,p⟩
 have q:=hl D i ys H' hi p
 by_cases hlt : i < xs.length
 ·refine .inr ⟨⟨xs,xs[i],q,by simp [hlt]⟩,fun x H2 y => ?_⟩
  obtain ⟨e1,e2⟩:=y
  subst e1
  have ex:=e2 xs q
  have es : σ'.set 0 (some x) = (aZ ix σ).set 0 (some x):=by
   rcases hσ with z | ⟨t,z⟩
   ·rw [z]
   ·rw [z,List.set_set]
  show tc (σ'.set 0 (some x)) _ _
  rw [es]
  exact hs D i x ys _ _ _ hD ex hy p (fun y H4 h4 hz p4 => ⟨ys,h4,hz,xs.length - (i + 1),by omega,rfl,hlt,.inr ⟨_,rfl⟩,ys ++ [y],af,p4⟩) fun H4 h4 p4 => ⟨xs.length - (i + 1),by omega,rfl,hlt,.inr ⟨_,rfl⟩,ys,h4,p4⟩
 ·have e : i = xs.length:=by omega
  subst e
  exact .inl ⟨⟨xs,q,Nat.le_refl _⟩,hd D ys H' hD hy p⟩
end L2
set_option Elab.async false
set_option linter.all false
set_option maxRecDepth 100000
set_option maxHeartbeats 4000000
namespace L2
open PySem PySem.Spec PyProof.Rows
open AutoSeq1 (wpAny_loadPart')
section
variable {prog : Program} {w : World} {A : Around} {E : Value -> Shared -> Prop} {s : Shared}
end
end L2
set_option Elab.async false
set_option linter.all false
set_option maxRecDepth 100000
set_option maxHeartbeats 4000000
namespace L2
open PySem PySem.Spec PyProof.Rows
section
variable {X : Cx} {pins : List (Addr × Obj)} {σ : St} {H : Hp} {s : Shared} {h' : Heap}
end
section
variable {X : Cx}
end
end L2
set_option Elab.async false
set_option linter.all false
set_option maxRecDepth 100000
set_option maxHeartbeats 4000000
namespace L2
open PySem PySem.Spec PyProof.Rows
section
variable {X : Cx} {a : Expr} {ta : TA} {p p2 pos pos2 : Pos}
end
structure DefMk (P : Program) (w : World) (K : PySem.W.Frag) (mg : Str -> Option Value) (base : Heap) (x : Str) (C : Addr) (k : Nat) (ps : List Str) (sp : Sp) : Prop where
 m : mg x = some (.ref C)
 cl : Cls K C
 ex : ∃ (f : Addr) (fd : FuncData),Mk K C f /\ Binds K fd ps [] /\ FnOk P w K mg base CX0 k f fd ps sp
theorem JL {X : Cx} {x : Str} {C : Addr} {j k : Nat} {ps : List Str} {sp : Sp} {p pos : Pos} {e : Expr} {es : List Expr} {t : TA} (G : DefMk X.prog X.w X.K X.mg X.base x C k ps sp) (hr : Room j X.A) (ha : PA X (e :: es) t) (hkj : k + 1 <= j:=by decide) (hg : Gl X x:=by rfl) (hdb : (x == ("__debug__" : Str)) = false:=by decide)
  (he : starEach (e :: es) X.env = (false,eval e X.env) :: starEach es X.env:=by rfl) (hpl : (backTo pos (starEach es X.env)).any (·.1) = false:=by rfl) : PE X (.Call (.Name x p) (e :: es) [] pos) (Jc C sp [] E0 t):=by
 obtain ⟨f,fd,M,hb,F⟩:=G.ex
 exact IA M F (hr.mono hkj) hg G.m hb .nil IZ ha hdb he hpl
structure DefMe (P : Program) (w : World) (K : PySem.W.Frag) (mg : Str -> Option Value) (base : Heap) (C : Addr) (m : Str) (k : Nat) (ps : List Str) (sp : Sp) : Prop where
 cl : Cls K C
 ex : ∃ (f : Addr) (fd : FuncData),Meth K C m f /\ Binds K fd ps [] /\ FnOk P w K mg base CX0 k f fd ps sp
theorem kP {X : Cx} {m : Str} {C : Addr} {j k : Nat} {ps : List Str} {sp : Sp} {apos pos : Pos} {o e : Expr} {es : List Expr} {ta : TE} {t : TA} {pl : Sem Bool} (G : DefMe X.prog X.w X.K X.mg X.base C m k ps sp) (hr : Room j X.A) (ho : PE X o ta) (ha : PA X (e :: es) t) (hkj : k <= j:=by decide)
  (hst : starEach (e :: es) X.env = (false,eval e X.env) :: starEach es X.env:=by rfl) (hpl : (backTo pos (starEach es X.env)).any (·.1) = false:=by rfl)
  (ht : eval (.Call (.Attribute o m apos) (e :: es) [] pos) X.env = (do
   let ov <- eval o X.env
   standAt apos.atName
   let (f,first) <- holding [ov] (getMethod ov m pl)
   callWith pos f first (backTo pos (starEach (e :: es) X.env)) (backToKw pos (keywordEach [] X.env))):=by rfl) :
  PE X (.Call (.Attribute o m apos) (e :: es) [] pos) (CZ C m sp [] E0 ta t):=by
 obtain ⟨f,fd,hm,hb,F⟩:=G.ex
 exact ER ho G.cl hm F (hr.mono hkj) hb .nil IZ ha hst hpl ht
end L2
set_option Elab.async false
set_option linter.all false
set_option maxRecDepth 100000
set_option maxHeartbeats 4000000
namespace L2
open PySem PySem.Spec PyProof.Rows
section
variable {prog : Program} {w : World} {A : Around} {E : Value -> Shared -> Prop} {s : Shared}
structure ZipFar (z TI TO i1 i2 : Addr) (fp1 fp2 : List Addr) : Prop where
 TIz : TI ≠ z
 TOz : TO ≠ z
 TITO : TI ≠ TO
 i1z : i1 ≠ z
 i2z : i2 ≠ z
 TIi1 : TI ≠ i1
 TIi2 : TI ≠ i2
 TOi1 : TO ≠ i1
 TOi2 : TO ≠ i2
 i12 : i1 ≠ i2
 z1 : z ∉ fp1
 TO1 : TO ∉ fp1
 i21 : i2 ∉ fp1
 z2 : z ∉ fp2
 TO2 : TO ∉ fp2
 i12' : i1 ∉ fp2
variable {z TI TO i1 i2 : Addr} {fp1 fp2 : List Addr} {n1 n2 k : Nat} {P1 P2 : Nat -> Value -> Prop} {St1 St2 : Nat -> Heap -> Prop} {a b : Value}
end
end L2
set_option Elab.async false
set_option linter.all false
set_option maxRecDepth 100000
set_option maxHeartbeats 4000000
namespace L2
open PySem PySem.Spec PyProof.Rows
section
variable {X : Cx} {pins : List (Addr × Obj)} {σ : St} {H : Hp} {s : Shared} {h' : Heap}
end
section
variable {X : Cx}
end
end L2
set_option Elab.async false
set_option linter.all false
set_option maxRecDepth 100000
set_option maxHeartbeats 4000000
namespace L2
open PySem PySem.Spec PyProof.Rows
inductive EqN (K : PySem.W.Frag) (H : Hp) : V -> V -> Prop where
 | non : EqN K H .non .non
 | tup {a b : Addr} {ns : List Int} (ha : SqT K H a (ns.map V.int)) (hb : SqT K H b (ns.map V.int)) : EqN K H (.ref a) (.ref b)
section
variable {X : Cx} {pins : List (Addr × Obj)} {σ : St} {H : Hp} {s : Shared}
theorem Hw {ns : List Int} {us : List Value} (r : Vals (ns.map V.int) us) : ∀ (j : Nat) (u : Value),us[j]? = some u -> ∃ n t,ns[j]? = some n /\ u = Value.int n t:=by
 intro j u hu
 have hj : j < us.length:=(List.getElem?_eq_some_iff.mp hu).1
 have hl:=r.length
 rw [List.length_map] at hl
 obtain ⟨v,hv,rv⟩:=r.get (i:=j) (x:=V.int (ns[j]'(by omega))) (by rw [List.getElem?_map,List.getElem?_eq_getElem (by omega)]; rfl)
 rw [hu] at hv
 cases hv
 obtain ⟨t,rfl⟩:=(show ∃ t,u = Value.int _ t from rv)
 exact ⟨_,t,List.getElem?_eq_getElem (by omega),rfl⟩
end
end L2
set_option Elab.async false
set_option linter.all false
set_option maxRecDepth 100000
set_option maxHeartbeats 4000000
namespace L2
open PySem PySem.Spec PyProof.Rows
section
variable {X : Cx}
end
end L2
set_option Elab.async false
set_option linter.all false
set_option maxRecDepth 100000
set_option maxHeartbeats 4000000
namespace L2
open PySem PySem.Spec PyProof.Rows
end L2
set_option Elab.async false
set_option linter.all false
set_option maxRecDepth 100000
namespace L2
open PySem PySem.Spec PyProof.Rows
section
variable {X : Cx} {pins : List (Addr × Obj)} {σ : St} {H H' : Hp} {s : Shared} {h' : Heap}
end
section
variable {X : Cx}
def IQ (ns : List Int) : Int:=ns.foldl (· + ·) 0
theorem rZ (ns : List Int) : ∀ n,n <= ns.length -> preSum (fun i => ns.getD i 0) n = (ns.take n).foldl (· + ·) 0
 | 0,_ => rfl
 | n + 1,h => by
  have hn : n < ns.length:=h
  show preSum _ n + ns.getD n 0 = _
  rw [rZ ns n (Nat.le_of_lt hn),List.take_add_one,List.getElem?_eq_getElem hn,List.foldl_append]
  simp [hn]
end
end L2
set_option Elab.async false
set_option linter.all false
set_option maxRecDepth 100000
namespace L2
open PySem PySem.Spec PyProof.Rows
section
variable {X : Cx}
end
end L2
set_option Elab.async false
set_option linter.all false
set_option maxRecDepth 100000
namespace L2
open PySem PySem.Spec PyProof.Rows
section
variable {X : Cx}
end
end L2
namespace PySem
open PyProof.Rows
namespace F
end F
section
variable {prog : Program} {w : World} {A : Around} {E : Value -> Shared -> Prop} {s : Shared}
end
end PySem
namespace L2
open PySem PySem.Spec PyProof.Rows
section
variable {X : Cx} {tg : Expr}
end
end L2
set_option Elab.async false
set_option linter.all false
set_option maxRecDepth 100000
set_option maxHeartbeats 4000000
namespace L2
open PySem PySem.Spec PyProof.Rows
section
variable {X : Cx}
end
section
variable {X : Cx}
def KL (K : PySem.W.Frag) : List V -> Hp -> VK -> Prop:=fun xs H Q => ∃ (a : Addr) (ns : List Int),xs = [.ref a] /\ SqL K H a (ns.map V.int) /\ Q (.int (IQ ns)) H
theorem Fb (hc : X.calm = true) : fX X (.builtin "sum") (KL X.K):=by
 intro pins s σ H xs us Q I r h
 obtain ⟨a,ns,rfl,hS,q⟩:=h
 obtain ⟨u,rfl,ru⟩:=r.one
 cases (show u = Value.ref a from ru)
 obtain ⟨its,rv,ht',hz⟩:=I.list hS
 have ht : s.heap.IsList a its.toArray:=ht'.isList
 have hlen:=rv.length
 rw [List.length_map] at hlen
 have hlt : a < s.heap.objs.size:=by obtain ⟨_,e,_⟩:=ht; exact Heap.lt_size e
 refine call_sum_walkG (wpAny_pyIter_list ht ?_)
 have W:=Walks.list (prog:=X.prog) (w:=X.w) (A:=X.A.in1) (I.ok.hd hc) s.heap.objs.size a (Nat.ne_of_lt hlt) its.toArray
 refine ⟨_,_,_,_,_,_,fun i => ns.getD i 0,rfl,W,⟨⟨_,Heap.get?_push_size _ rfl,rfl,rfl⟩,ht.at fun o e => Heap.get?_push_of_some _ e⟩,fun b hb => ?_,fun i v hv => ?_,fun h' tk t' hk => ?_⟩
 ·rcases List.mem_cons.mp hb with z | z
  ·rw [z]; show _ < (Heap.push _ _).objs.size; rw [Heap.size_push]; exact Nat.lt_succ_self _
  ·rw [List.mem_singleton.mp z]; show _ < (Heap.push _ _).objs.size; rw [Heap.size_push]; exact Nat.lt_succ_of_lt hlt
 ·have e' : its[i]? = some v:=by simpa using hv
  obtain ⟨n,t,e1,e2⟩:=Hw rv i v e'
  exact ⟨t,by rw [e2]; show Value.int n t = Value.int (ns.getD i 0) t; rw [List.getD_eq_getElem?_getD,e1]; rfl⟩
 ·have I1 : Inv X pins σ H { s with heap:=h',toks:=tk }:=I.kept (t' := tk) fun b o e => hk b o (fun hm => by
   rw [List.mem_singleton.mp hm] at e
   exact Nat.lt_irrefl _ (Heap.lt_size e)) (Heap.get?_push_of_some _ e)
  refine ⟨.int (IQ ns),H,I1,⟨t',?_⟩,q⟩
  show Value.int _ _ = Value.int _ _
  rw [List.size_toArray,<- hlen,rZ ns _ (Nat.le_refl _),List.take_length]
  rfl
end
end L2
set_option Elab.async false
set_option linter.all false
set_option maxRecDepth 100000
set_option maxHeartbeats 4000000
namespace L2
open PySem PySem.Spec PyProof.Rows
section
variable {prog : Program} {w : World} {A : Around} {E : Value -> Shared -> Prop} {s : Shared}
structure ZipFar3 (z TI TO i1 i2 i3 : Addr) (fp1 fp2 fp3 : List Addr) : Prop where
 TIz : TI ≠ z
 TOz : TO ≠ z
 TITO : TI ≠ TO
 i1z : i1 ≠ z
 i2z : i2 ≠ z
 i3z : i3 ≠ z
 TIi1 : TI ≠ i1
 TIi2 : TI ≠ i2
 TIi3 : TI ≠ i3
 TOi1 : TO ≠ i1
 TOi2 : TO ≠ i2
 TOi3 : TO ≠ i3
 z1 : z ∉ fp1
 TO1 : TO ∉ fp1
 i21 : i2 ∉ fp1
 i31 : i3 ∉ fp1
 z2 : z ∉ fp2
 TO2 : TO ∉ fp2
 i12 : i1 ∉ fp2
 i32 : i3 ∉ fp2
 z3 : z ∉ fp3
 TO3 : TO ∉ fp3
 i13 : i1 ∉ fp3
 i23 : i2 ∉ fp3
variable {z TI TO i1 i2 i3 : Addr} {fp1 fp2 fp3 : List Addr} {n1 n2 n3 k : Nat} {P1 P2 P3 : Nat -> Value -> Prop} {St1 St2 St3 : Nat -> Heap -> Prop} {a b c : Value}
end
section
variable {X : Cx}
end
section
variable {X : Cx}
end
theorem B4 {lo : Int} {n : Nat} {ix : List (Option Nat)} {tc : TT} {te : TE} {σ : St} {H : Hp} {Qd : Addr -> Hp -> Prop} (Pv : Addr -> Nat -> List V -> Hp -> Prop)
  (h0 : ∀ D,H D = none -> Pv D 0 [] (upd H D (.lst [])))
  (hs : ∀ D i ys H' (Qy : VK) (Qn : Hp -> Prop),H D = none -> i < n -> H' D = some (.lst ys) -> Pv D i ys H' -> (∀ y H4,H4 D = some (.lst ys) -> ys.length < sizeLine -> Pv D (i + 1) (ys ++ [y]) (upd H4 D (.lst (ys ++ [y]))) -> Qy y H4) ->
   (∀ H4,H4 D = some (.lst ys) -> Pv D (i + 1) ys H4 -> Qn H4) -> tc ((aZ ix σ).set 0 (some (.int (lo + i)))) H' fun b H4 => if b = true then te ((aZ ix σ).set 0 (some (.int (lo + i)))) H4 Qy else Qn H4)
  (hd : ∀ D ys H',H D = none -> H' D = some (.lst ys) -> Pv D n ys H' -> Qd D H') : zY (Itr lo n) ix (aF 0) tc te σ H Qd:=by
 intro D hD
 refine ⟨fun i m σ' H' => m = n - i /\ i <= n /\ (σ' = aZ ix σ \/ ∃ t,σ' = (aZ ix σ).set 0 t) /\ ∃ ys,H' D = some (.lst ys) /\ Pv D i ys H',⟨n,by simp,Nat.zero_le _,.inl rfl,[],af,h0 D hD⟩,?_⟩
 rintro i m σ' H' ⟨rfl,hi,hσ,ys,hy,p⟩
 by_cases hlt : i < n
 ·refine .inr ⟨hlt,fun x H2 y => ?_⟩
  obtain ⟨e1,e2⟩:=y
  subst e1
  subst e2
  have es : σ'.set 0 (some (V.int (lo + i))) = (aZ ix σ).set 0 (some (V.int (lo + i))):=by
   rcases hσ with z | ⟨t,z⟩
   ·rw [z]
   ·rw [z,List.set_set]
  show tc (σ'.set 0 (some (V.int (lo + i)))) _ _
  rw [es]
  exact hs D i ys _ _ _ hD hlt hy p (fun y H4 h4 hz p4 => ⟨ys,h4,hz,n - (i + 1),by omega,rfl,hlt,.inr ⟨_,rfl⟩,ys ++ [y],af,p4⟩) fun H4 h4 p4 => ⟨n - (i + 1),by omega,rfl,hlt,.inr ⟨_,rfl⟩,ys,h4,p4⟩
 ·have e : i = n:=by omega
  subst e
  exact .inl ⟨Nat.le_refl _,hd D ys H' hD hy p⟩
theorem di {t u : TS} {D : Ends} {σ : St} {H : Hp} (R : St -> Hp -> Prop) (h1 : ∀ σ' H',R σ' H' -> u D σ' H') (h2 : ∀ D' : Ends,(∀ σ' H',R σ' H' -> D'.nx σ' H') -> t D' σ H) : Eg t u D σ H:=
 h2 { D with nx:=u D } h1
end L2
set_option Elab.async false
set_option linter.all false
set_option maxRecDepth 100000
set_option maxHeartbeats 4000000
namespace L2
open PySem PySem.Spec PyProof.Rows
structure BlkScope1 (NX : List Str) (scX : Scope) (N : List Str) (ix : List (Option Nat)) (sc : Scope) (x : Str) : Prop where
 kind : sc.kind = .function
 nd : N.Nodup
 cell : sc.names.lookup x = some .cell
 only : ∀ y ∈ sc.names,y.2 = .cell -> y.1 = x
 lay : ∀ n cl,cellsFrom n sc.names cl = (x,n) :: cl
 lays : ∀ h,pushCells h sc.names = h.push { cls:=.type "cell",data:=.cell none }
 locs : ∀ y ∈ sc.names,y.2 = .local -> sc.names.lookup y.1 = some .local
 free : ∀ y ∈ sc.names,y.2 = .free -> scX.names.lookup y.1 = some .cell \/ scX.names.lookup y.1 = some .free
 nofree : ∀ y ∈ sc.names,y.2 = .free -> y.1 ≠ x
 len : ix.length = N.length
 at_ : ∀ p ∈ N.zip ix,∀ i,p.2 = some i -> NX[i]? = some p.1 /\ sc.names.lookup p.1 = some .free
section
variable {X : Cx} {pins : List (Addr × Obj)} {σ : St} {H : Hp} {s : Shared} {N : List Str} {ix : List (Option Nat)} {scope : Scope} {fp : List Addr} {x : Str}
variable {tg elt iter : Expr} {pos spos : Pos} {J : It} {it : Addr} {tn : Nat -> Heap -> Prop} {g : TG} {te : TE} {wi : TI}
end
end L2
set_option Elab.async false
set_option linter.all false
set_option maxRecDepth 100000
namespace L2
open PySem PySem.Spec PyProof.Rows
abbrev Rise (xs : Array Nat) : Prop:=xs.toList.Pairwise (· < ·)
theorem Rise.lt {xs : Array Nat} (r : Rise xs) {i j : Nat} (hi : i < j) (hj : j < xs.size) : xs[i] < xs[j]:=by
 have:=List.pairwise_iff_getElem.mp r i j (by simpa using Nat.lt_trans hi hj) (by simpa using hj) hi
 simpa using this
theorem wz {xs : Array Nat} {j : Nat} (r : Rise xs) : ∀ (fuel lo hi : Nat),hi - lo <= fuel -> lo <= hi -> hi <= xs.size -> (∀ i (h : i < xs.size),i < lo -> xs[i] < j) -> (∀ i (h : i < xs.size),hi <= i -> j <= xs[i]) ->
  (SetTable.below.go xs j fuel lo hi <= xs.size /\ (∀ i (h : i < xs.size),i < SetTable.below.go xs j fuel lo hi -> xs[i] < j) /\ ∀ i (h : i < xs.size),SetTable.below.go xs j fuel lo hi <= i -> j <= xs[i])
 | 0,lo,hi,hf,hl,hs,h1,h2 => by
  have e : lo = hi:=by omega
  subst e
  exact ⟨hs,h1,h2⟩
 | fuel + 1,lo,hi,hf,hl,hs,h1,h2 => by
  unfold SetTable.below.go
  by_cases c : lo < hi
  ·rw [if_pos c]
   dsimp only
   have hm : (lo + hi) / 2 < xs.size:=by omega
   have eg : xs.getD ((lo + hi) / 2) j = xs[(lo + hi) / 2]:=by simp [Array.getD,hm]
   by_cases d : xs.getD ((lo + hi) / 2) j < j
   ·rw [if_pos d]
    refine wz r fuel _ _ (by omega) (by omega) hs (fun i h hi' => ?_) h2
    rcases Nat.lt_or_ge i ((lo + hi) / 2) with z | z
    ·exact Nat.lt_trans (r.lt z hm) (by rw [eg] at d; exact d)
    ·have e : i = (lo + hi) / 2:=by omega
     subst e
     rw [eg] at d
     exact d
   ·rw [if_neg d]
    refine wz r fuel _ _ (by omega) (by omega) (by omega) h1 (fun i h hi' => ?_)
    rw [eg] at d
    rcases Nat.lt_or_ge ((lo + hi) / 2) i with z | z
    ·exact Nat.le_trans (Nat.le_of_not_lt d) (Nat.le_of_lt (r.lt z h))
    ·have e : i = (lo + hi) / 2:=by omega
     subst e
     exact Nat.le_of_not_lt d
  ·rw [if_neg c]
   have e : lo = hi:=by omega
   subst e
   exact ⟨hs,h1,h2⟩
theorem wA {xs : Array Nat} (r : Rise xs) (j : Nat) : SetTable.below xs j <= xs.size /\ (∀ i (h : i < xs.size),i < SetTable.below xs j -> xs[i] < j) /\ ∀ i (h : i < xs.size),SetTable.below xs j <= i -> j <= xs[i]:=
 wz r xs.size 0 xs.size (by omega) (Nat.zero_le _) (Nat.le_refl _) (fun i h z => by omega) (fun i h z => by omega)
theorem C8 {xs : Array Nat} (r : Rise xs) : SetTable.below xs 0 = 0:=by
 obtain ⟨h0,h1,_⟩:=wA r 0
 rcases Nat.eq_zero_or_pos (SetTable.below xs 0) with z | z
 ·exact z
 ·exact absurd (h1 0 (Nat.lt_of_lt_of_le z h0) z) (Nat.not_lt_zero _)
theorem C7 {xs : Array Nat} (r : Rise xs) {i : Nat} (hi : i < xs.size) : SetTable.below xs (xs[i] + 1) = i + 1:=by
 obtain ⟨h0,h1,h2⟩:=wA r (xs[i] + 1)
 rcases Nat.lt_trichotomy (SetTable.below xs (xs[i] + 1)) (i + 1) with z | z | z
 ·have:=h2 i hi (by omega)
  omega
 ·exact z
 ·have hi2 : i + 1 < xs.size:=by omega
  have a1:=h1 (i + 1) hi2 z
  have a2 : xs[i] < xs[i + 1]:=r.lt (Nat.lt_succ_self i) hi2
  omega
theorem toList_insertAt {α : Type} (xs : Array α) (p : Nat) (x : α) : (SetTable.insertAt xs p x).toList = xs.toList.take p ++ x :: xs.toList.drop p:=by
 unfold SetTable.insertAt
 simp
 rw [List.take_of_length_le (by simp)]
theorem Rise.put {xs : Array Nat} (r : Rise xs) {j : Nat} (hj : xs[SetTable.below xs j]? ≠ some j) : Rise (SetTable.insertAt xs (SetTable.below xs j) j):=by
 obtain ⟨h0,h1,h2⟩:=wA r j
 unfold Rise
 rw [toList_insertAt,List.pairwise_append]
 have tk : ∀ a ∈ xs.toList.take (SetTable.below xs j),a < j:=fun a ha => by
  obtain ⟨i,hi,rfl⟩:=List.mem_take_iff_getElem.mp ha
  have : i < SetTable.below xs j /\ i < xs.size:=by simp at hi; omega
  simpa using h1 i this.2 this.1
 have dr : ∀ b ∈ xs.toList.drop (SetTable.below xs j),j < b:=fun b hb => by
  obtain ⟨i,hi,rfl⟩:=List.mem_drop_iff_getElem.mp hb
  have hs : i + SetTable.below xs j < xs.size:=by simpa using hi
  have hle:=h2 (i + SetTable.below xs j) hs (by omega)
  have hb0 : SetTable.below xs j < xs.size:=by omega
  have hne : xs[SetTable.below xs j] ≠ j:=fun z => hj (by rw [Array.getElem?_eq_getElem hb0,z])
  have h3:=h2 (SetTable.below xs j) hb0 (Nat.le_refl _)
  have : j < xs[i + SetTable.below xs j]:=by
   rcases Nat.eq_zero_or_pos i with z | z
   ·subst z
    simp only [Nat.zero_add]
    omega
   ·have:=r.lt (i:=SetTable.below xs j) (j:=i + SetTable.below xs j) (by omega) hs
    omega
  simpa [Nat.add_comm] using this
 refine ⟨List.Pairwise.sublist (List.take_sublist _ _) r,List.pairwise_cons.mpr ⟨dr,List.Pairwise.sublist (List.drop_sublist _ _) r⟩,fun a ha b hb => ?_⟩
 rcases List.mem_cons.mp hb with e | hb
 ·rw [e]; exact tk a ha
 ·exact Nat.lt_trans (tk a ha) (dr b hb)
theorem DV (n : Nat) : Rise (Array.range n):=by
 unfold Rise
 rw [Array.toList_range]
 exact List.pairwise_lt_range
structure TabOk (t : SetTable) (led : Bool) : Prop where
 rise : Rise t.place
 nod : t.dummies = #[]
 led : t.led = led
theorem TabOk.standIn {t : SetTable} {led : Bool} (k : TabOk t led) (n : Nat) : TabOk (t.standIn n) led:=⟨DV n,rfl,k.led⟩
theorem TabOk.orStandIn {t : SetTable} {led : Bool} (k : TabOk t led) (n : Nat) : TabOk (t.orStandIn n) led:=by
 unfold SetTable.orStandIn
 split
 ·exact k
 ·exact k.standIn n
theorem EB (j : Nat) : SetTable.has #[] j = false:=by
 unfold SetTable.has
 simp
theorem xT {t : SetTable} {led : Bool} (k : TabOk t led) {h : Int} : ∀ (fuel : Nat) (p : SetTable.Probe) (j : Nat) (dm : Option Nat),p.dummy = none -> SetTable.probe.go t (fun _ => h + 1) h fuel p = some (.empty j dm) -> t.slot j = .empty /\ dm = none
 | 0,p,j,dm,_,e => by cases e
 | fuel + 1,p,j,dm,hp,e => by
  unfold SetTable.probe.go at e
  cases hs : t.slot p.j with
  | empty =>
   rw [hs] at e
   cases e
   exact ⟨hs,hp⟩
  | dummy =>
   exfalso
   unfold SetTable.slot at hs
   dsimp only at hs
   split at hs
   ·cases hs
   ·rw [k.nod,EB] at hs
    simp at hs
  | live i =>
   rw [hs] at e
   dsimp only at e
   rw [if_neg (by simp; omega)] at e
   refine xT k fuel _ j dm ?_ e
   unfold SetTable.advance
   split
   ·exact hp
   ·exact hp
theorem Fj {t : SetTable} {led : Bool} (k : TabOk t led) {h : Int} {j : Nat} {b : Bool} (e : t.freeSlot h = some (j,b)) : t.place[SetTable.below t.place j]? ≠ some j /\ b = false:=by
 unfold SetTable.freeSlot SetTable.probe at e
 split at e
 ·rename_i j' dm e'
  obtain ⟨h1,rfl⟩:=xT k _ _ _ _ rfl e'
  simp at e
  obtain ⟨rfl,rfl⟩:=e
  refine ⟨fun z => ?_,rfl⟩
  unfold SetTable.slot at h1
  dsimp only at h1
  rw [if_pos (by rw [z]; simp)] at h1
  cases h1
 ·cases e
theorem Dv {t : SetTable} {led : Bool} (k : TabOk t led) (es : Array (Int × Value)) (h : Int) (x : Value) : TabOk (layNew t es h x).2.1 led:=by
 unfold layNew
 split
 ·rename_i slot wd e
  obtain ⟨hj,rfl⟩:=Fj k e
  have k1 : TabOk (t.put slot).1 led:=by
   refine ⟨k.rise.put hj,?_,k.led⟩
   show (if SetTable.has t.dummies slot = true then _ else t.dummies) = #[]
   rw [k.nod,EB]
   rfl
  exact k1.orStandIn _
 ·exact k.standIn _
theorem Bv {t : SetTable} {led : Bool} (k : TabOk t led) (es : Array (Int × Value)) (n : Nat) : TabOk (relayAll t es n).2.1 led:=by
 unfold relayAll
 split
 ·rename_i t' order e
  dsimp only
  split
  ·unfold SetTable.relaid SetTable.laid at e
   simp only [Option.bind_eq_bind,Option.bind_eq_some_iff] at e
   obtain ⟨owner,_,e⟩:=e
   cases e
   refine ⟨?_,rfl,k.led⟩
   unfold Rise
   dsimp only
   rw [List.map_filterMap]
   refine List.Pairwise.filterMap _ (fun a a' hr b hb b' hb' => ?_) List.pairwise_lt_range
   simp only [Option.map_map,Option.mem_def,Option.map_eq_some_iff,Function.comp] at hb hb'
   obtain ⟨_,_,rfl⟩:=hb
   obtain ⟨_,_,rfl⟩:=hb'
   exact hr
  ·exact k.standIn _
 ·exact k.standIn _
abbrev byT (w : World) : Bool:=w.params.followText "set-order"
section
variable {P : Program} {w : World} {A : Around} {E : Value -> Shared -> Prop} {s : Shared}
end
end L2
set_option Elab.async false
set_option linter.all false
set_option maxRecDepth 100000
namespace L2
open PySem PySem.Spec PyProof.Rows
section
variable {P : Program} {w : World} {A : Around} {E : Value -> Shared -> Prop} {R : Result -> Shared -> Prop} {I : Addr} {fp wr : List Addr} {G : Array GenState -> Array GenState -> Prop} {n : Nat} {Pz : Nat -> Value -> Prop} {St : Nat -> Shared -> Prop}
end
section
variable {P : Program} {w : World} {A : Around} {E : Value -> Shared -> Prop} {s : Shared}
def dz (w : World) : Obj:={ cls:=.type "set",dict:=none,data:=.set #[] 0 (.fresh 0 0 (!byT w)) }
theorem Fd (a : Value) {Q₁ : Value -> Shared -> Prop} (h : Q₁ (.ref s.heap.objs.size) { s with heap:=s.heap.push (dz w) }) :
  codeAny (model P w) A (.call (.builtin "set.__new__") ⟨[.type "set",a],[]⟩) (wants Q₁ E) s:=by
 refine codeAny_of_tree ?_
 show wpAny _ A.in1 (do checkBuiltinCall "set.__new__" ⟨[.type "set",a],[]⟩; again (.builtin "set.__new__" ⟨[.type "set",a],[]⟩)) _ _ s
 refine wpAny_bind (wpAny_of_eq (F.newCall_set_1 a) (wpAny_pure ⟨plainId_quiet F.plain_set_new _,codeAny_builtin F.entry_set_new ?_⟩))
 rw [Around.under_plainId F.plain_set_new _]
 unfold Builtin.«set.__new__» Builtin.Frozenset.newClass
 have hsub:=sub_set_self
 obtain ⟨hp,g,d,tk,os⟩:=s
 dsimp only
 wp_walk
 refine wpAny_askSetting (wpAny_pure ?_)
 dsimp only
 simp only [newObj]
 exact wpAny_bind (wpAny_alloc (wpAny_pure (wpAny_pure h)))
end
end L2
set_option Elab.async false
set_option linter.all false
set_option maxRecDepth 100000
namespace L2
open PySem PySem.Spec PyProof.Rows
namespace SF
theorem entry_iter : entryFor table "set.__iter__" = some Builtin.«frozenset.__iter__» := entryFor_alias (id' := "frozenset.__iter__") (by kernel_rfl) rfl (by decide +kernel) (by kernel_rfl)
theorem slot_next : Slot "set_iterator" "__next__" "set_iterator.__next__" :=
 .of (owner := "set_iterator") (n := "__next__") (by rw [typeLookup_type,builtinLookup_eq_fast]; kernel_rfl) (by decide +kernel) (by decide +kernel) (by decide +kernel) (by first | exact .inl (by decide +kernel) | exact .inr (by decide +kernel))
  (by rw [isSubtype_type]; kernel_rfl)
theorem entry_next : entryFor table "set_iterator.__next__" = some Builtin.«set_iterator.__next__» := entryFor_of_tree (by kernel_rfl)
theorem args_next (a : Value) : argsOk "set_iterator.__next__" ⟨[a],[]⟩:=by unfold argsOk; kernel_rfl
theorem slot_iter_self : Slot "set_iterator" "__iter__" "set_iterator.__iter__" :=
 .of (owner := "set_iterator") (n := "__iter__") (by rw [typeLookup_type,builtinLookup_eq_fast]; kernel_rfl) (by decide +kernel) (by decide +kernel) (by decide +kernel) (by first | exact .inl (by decide +kernel) | exact .inr (by decide +kernel))
  (by rw [isSubtype_type]; kernel_rfl)
end SF
theorem qx {α : Type} : ∀ (l : List α) (i : Nat) (h : i < l.length),(l[i] :: l.eraseIdx i).Perm l
 | x :: r,0,_ => List.Perm.refl _
 | x :: r,i + 1,h => (List.Perm.swap _ _ _).trans (List.Perm.cons _ (qx r i (Nat.lt_of_succ_lt_succ h)))
theorem ET {α : Type} (next : Nat -> Nat) : ∀ (fuel k : Nat) (left : List α) (out : Array α),left.length = fuel -> (pickOrder.go next fuel k left out).toList.Perm (out.toList ++ left)
 | 0,k,left,out,h => by
  rw [List.length_eq_zero_iff.mp h,List.append_nil]
  exact List.Perm.refl _
 | fuel + 1,k,left,out,h => by
  unfold pickOrder.go
  have hlt : next k % left.length < left.length:=Nat.mod_lt _ (by omega)
  rw [List.getElem?_eq_getElem hlt]
  dsimp only
  refine (ET next fuel (k + 1) _ _ (by rw [List.length_eraseIdx_of_lt hlt]; omega)).trans ?_
  rw [Array.toList_push,List.append_assoc]
  refine List.Perm.append_left _ ?_
  exact qx _ _ hlt
theorem tZ {α : Type} (next : Nat -> Nat) (xs : Array α) : (pickOrder next xs).toList.Perm xs.toList:=by
 have q:=ET next xs.size 0 xs.toList #[] (by simp)
 unfold pickOrder
 simpa using q
theorem zq {M : Model} {A : Around} {E : Value -> Shared -> Prop} {s : Shared} {src : Source} {n : Nat} {Q : Nat -> Shared -> Prop} (hn : n ≠ 0) (h : ∀ i d',i < n -> Q i { s with drawn:=d' }) : wpAny M A (choose src n) Q E s:=
 fun _ _ _ => ⟨hn,h _ _ (Nat.mod_lt _ (Nat.pos_of_ne_zero hn))⟩
theorem zF {M : Model} {A : Around} {E : Value -> Shared -> Prop} {α : Type} : ∀ (n : Nat) (xs : List α) (s : Shared) (Q : List α -> Shared -> Prop),xs.length = n -> (∀ ys d',ys.Perm xs -> Q ys { s with drawn:=d' }) -> wpAny M A (drawOrder n xs) Q E s
 | 0,xs,s,Q,hl,h => by
  have e : xs = []:=List.length_eq_zero_iff.mp hl
  subst e
  unfold drawOrder
  exact wpAny_pure (h [] s.drawn (List.Perm.refl _))
 | n + 1,[],s,Q,hl,h => by cases hl
 | n + 1,x :: r,s,Q,hl,h => by
  unfold drawOrder
  refine wpAny_bind (zq (by simp) fun i d' hi => ?_)
  rw [List.getElem?_eq_getElem hi]
  dsimp only
  refine wpAny_bind (zF n _ _ _ (by rw [List.length_eraseIdx_of_lt hi]; omega) fun ys d2 p => wpAny_pure ?_)
  exact h _ _ ((List.Perm.cons _ p).trans (qx _ _ hi))
def IsSetIter (h : Heap) (I S : Addr) (first : Value) (i n ep : Nat) : Prop := ∃ o,h.get? I = some o /\ o.cls = .type "set_iterator" /\ o.data = .fields #[first,.int i 0,.ref S,.int n 0,.int ep 0]
theorem IsSetIter.typeIs {s : Shared} {I S : Addr} {first : Value} {i n ep : Nat} (x : IsSetIter s.heap I S first i n ep) : s.TypeIs (.ref I) "set_iterator" := let ⟨o,ho,hc,_⟩:=x; ⟨o,ho,hc⟩
def Jf (w : World) (es : Array (Int × Value)) (ep : Nat) (t : SetTable) (S T : Addr) (L : List Value) (h : Heap) (i : Nat) (first : Value) : Prop:=
 (byT w = true /\ (∃ z : Nat,first = .int z 0) /\ L = (pickOrder (w.params.setOrder S ep) es).toList.map (·.2)) \/
 (byT w = false /\ (t.plain = true \/ es.size <= 1) /\ (∃ z : Nat,first = .int z 0 /\ SetTable.below t.place z = i) /\ L = es.toList.map (·.2)) \/
 (byT w = false /\ first = .ref T /\ ∃ pl : List Nat,pl.Perm (List.range es.size) /\ (∃ o e,h.get? T = some o /\ o.data = .seq (pl.map fun p : Nat => Value.int (p : Int) 0).toArray e) /\ L = pl.map fun p => (es.getD p (0,.none)).2)
structure SetSt (w : World) (es : Array (Int × Value)) (ep : Nat) (t : SetTable) (S T I : Addr) (L : List Value) (i : Nat) (h : Heap) : Prop where
 set : ∃ o,h.get? S = some o /\ o.data = .set es ep t
 it : ∃ first,IsSetIter h I S first i es.size ep /\ Jf w es ep t S T L h i first
section
variable {P : Program} {w : World} {A : Around} {E : Value -> Shared -> Prop} {s : Shared} {es : Array (Int × Value)} {ep : Nat} {t : SetTable} {S T I : Addr} {L : List Value} {i : Nat}
theorem next_item (hf : t.fits es.size = true) (hk : TabOk t (!byT w)) (hL : L.length = es.size) (hTI : T ≠ I) (hSI : S ≠ I) (st : SetSt w es ep t S T I L i s.heap) (hi : i < es.size) {Q : Option Value -> Shared -> Prop}
  (h : ∀ h',Heap.SameBut I s.heap h' -> SetSt w es ep t S T I L (i + 1) h' -> Q (some (L.getD i .none)) { s with heap:=h' }) : wpAny (model P w) A (pyNext (.ref I)) Q E s:=by
 obtain ⟨⟨oS,hS,hSd⟩,first,hit,by_⟩:=st
 obtain ⟨o,ho,hc,hd⟩:=id hit
 have hLi : L.getD i .none = L[i]'(by omega):=by simp [List.getD,hL,hi]
 unfold pyNext
 refine wpAny_bind (wpAny_attempt (wpAny_callSpecial?_slot (name:=Str.ofString "__next__") hit.typeIs SF.slot_next (wpAny_call_entry SF.slot_next hit.typeIs SF.entry_next ?_ (SF.args_next _))))
 unfold Builtin.«set_iterator.__next__»
 refine wpAny_bind (m:=slotArgs "__next__" 0 _) (wpAny_pure ?_)
 refine wpAny_bind (wpAny_fieldsOf ho hd ?_)
 dsimp only
 unfold setEntries
 refine wpAny_bind (wpAny_bind (wpAny_setState_of hS hSd hf (wpAny_pure ?_)))
 rw [if_neg (by simp)]
 have upI : ∀ (f : Array Value -> Array Value),(s.heap.update I (Obj.mapFields f)).get? I = some (Obj.mapFields f o):=fun f => Heap.get?_update_self _ ho (Obj.isFreed_of_fields (Obj.data_mapFields hd _))
 have other : ∀ (f : Array Value -> Array Value) b,b ≠ I -> (s.heap.update I (Obj.mapFields f)).get? b = s.heap.get? b:=fun f b hb => Heap.get?_update_other _ _ (Ne.symm hb)
 have put1 : ∀ (h1 : Heap) (fi : Value),IsSetIter h1 I S fi i es.size ep -> IsSetIter (h1.update I (Obj.mapFields (·.setIfInBounds 1 (rawInt ((i : Int) + 1))))) I S fi (i + 1) es.size ep:=by
  rintro h1 fi ⟨o1,ho1,hc1,hd1⟩
  exact ⟨_,Heap.get?_update_self _ ho1 (Obj.isFreed_of_fields (Obj.data_mapFields hd1 _)),(Obj.cls_mapFields ..).trans hc1,by rw [Obj.data_mapFields hd1]; simp [rawInt]⟩
 have put0 : ∀ (h1 : Heap) (fi : Value) (nx : Nat),IsSetIter h1 I S fi i es.size ep -> IsSetIter (h1.update I (Obj.mapFields (·.setIfInBounds 0 (rawInt nx)))) I S (.int nx 0) i es.size ep:=by
  rintro h1 fi nx ⟨o1,ho1,hc1,hd1⟩
  exact ⟨_,Heap.get?_update_self _ ho1 (Obj.isFreed_of_fields (Obj.data_mapFields hd1 _)),(Obj.cls_mapFields ..).trans hc1,by rw [Obj.data_mapFields hd1]; simp [rawInt]⟩
 have keepS : ∀ h1,Heap.SameBut I s.heap h1 -> ∃ o,h1.get? S = some o /\ o.data = .set es ep t:=fun h1 sb => ⟨oS,(sb.2 S hSI).trans hS,hSd⟩
 rcases by_ with ⟨bt,⟨z,rfl⟩,eL⟩ | ⟨bt,pl,⟨z,rfl,hz⟩,eL⟩ | ⟨bt,rfl,pl,pp,⟨oT,eT,hT,hTd⟩,eL⟩
 ·have px:=tZ (w.params.setOrder S ep) es
  have hx : i < (pickOrder (w.params.setOrder S ep) es).size:=by rw [<- Array.length_toList,px.length_eq,Array.length_toList]; exact hi
  refine wpAny_bind ?_
  unfold setNext
  refine wpAny_bind (wpAny_setState_of hS hSd hf ?_)
  unfold setsByText
  refine wpAny_bind (wpAny_bind (wpAny_askSetting (wpAny_pure ?_)))
  rw [if_pos (show (model P w).w.params.followText "set-order" = true from bt),if_neg (by simp)]
  unfold setWalk setsByText
  refine wpAny_bind (wpAny_bind (wpAny_setState_of hS hSd hf ?_))
  refine wpAny_bind (wpAny_bind (wpAny_askSetting (wpAny_pure ?_)))
  rw [if_pos (show (model P w).w.params.followText "set-order" = true from bt)]
  refine wpAny_bind (wpAny_askSetting (wpAny_pure (wpAny_pure ?_)))
  have ex : (pickOrder ((model P w).w.params.setOrder S ep) es)[((i : Nat) : Int).toNat]? = some (pickOrder (w.params.setOrder S ep) es)[i]:=by
   rw [Int.toNat_natCast]
   exact Array.getElem?_eq_getElem hx
  rw [ex]
  dsimp only [Option.map]
  refine wpAny_bind (wpAny_setField ho hd (by simp) ?_)
  obtain ⟨o1,ho1,hc1,hd1⟩:=put0 _ _ z hit
  rw [show ((z : Nat) : Int).toNat = z from Int.toNat_natCast z]
  refine wpAny_bind (wpAny_setField ho1 hd1 (by simp) (wpAny_pure ⟨_,rfl,wpAny_pure ?_⟩))
  have sb : Heap.SameBut I s.heap ((s.heap.update I (Obj.mapFields (·.setIfInBounds 0 (rawInt z)))).update I (Obj.mapFields (·.setIfInBounds 1 (rawInt ((i : Int) + 1))))):=(Heap.SameBut.update ..).trans (Heap.SameBut.update ..)
  have q:=h _ sb ⟨keepS _ sb,_,put1 _ _ (put0 _ _ z hit),.inl ⟨bt,⟨z,rfl⟩,eL⟩⟩
  rw [hLi] at q
  have eLi : L[i]'(by omega) = (pickOrder (w.params.setOrder S ep) es)[i].2:=by simp [eL]
  rw [eLi] at q
  exact q
 ·have hpz : t.place.size = es.size:=by
   simp only [SetTable.fits,Bool.and_eq_true,beq_iff_eq,decide_eq_true_eq] at hf
   exact hf.1
  have hip : i < t.place.size:=by omega
  refine wpAny_bind ?_
  unfold setNext
  refine wpAny_bind (wpAny_setState_of hS hSd hf ?_)
  unfold setsByText
  refine wpAny_bind (wpAny_bind (wpAny_askSetting (wpAny_pure ?_)))
  rw [if_neg (show ¬ ((model P w).w.params.followText "set-order" = true) from by rw [show (model P w).w.params.followText "set-order" = false from bt]; exact Bool.false_ne_true)]
  show wpAny _ _ (if (!t.plain && decide (es.size > 1)) = true then _ else _) _ _ _
  rw [if_neg (by
   rcases pl with q | q
   ·rw [q]; simp
   ·simp; omega)]
  show wpAny _ _ ((if (!t.led && !es.isEmpty) = true then _ else pure ()) >>= _) _ _ _
  rw [if_neg (by rw [hk.led,bt]; simp)]
  refine wpAny_bind (wpAny_pure (wpAny_pure ?_))
  rw [Int.toNat_natCast,hz,Array.getElem?_eq_getElem hi,Array.getElem?_eq_getElem hip]
  dsimp only
  refine wpAny_bind (wpAny_setField ho hd (by simp) ?_)
  obtain ⟨o1,ho1,hc1,hd1⟩:=put0 _ _ (t.place[i] + 1) hit
  refine wpAny_bind (wpAny_setField ho1 hd1 (by simp) (wpAny_pure ⟨_,rfl,wpAny_pure ?_⟩))
  have sb : Heap.SameBut I s.heap ((s.heap.update I (Obj.mapFields (·.setIfInBounds 0 (rawInt (t.place[i] + 1 : Nat))))).update I (Obj.mapFields (·.setIfInBounds 1 (rawInt ((i : Int) + 1))))):=(Heap.SameBut.update ..).trans (Heap.SameBut.update ..)
  have q:=h _ sb ⟨keepS _ sb,_,put1 _ _ (put0 _ _ (t.place[i] + 1) hit),.inr (.inl ⟨bt,pl,⟨_,rfl,C7 hk.rise hip⟩,eL⟩)⟩
  rw [hLi] at q
  have eLi : L[i]'(by omega) = es[i].2:=by simp [eL]
  rw [eLi] at q
  exact q
 ·have lpl : pl.length = es.size:=by rw [pp.length_eq,List.length_range]
  have hpl : pl[i]'(by omega) < es.size:=List.mem_range.mp (pp.mem_iff.mp (List.getElem_mem _))
  show wpAny _ _ (seqItems? (.ref T) >>= _) _ _ _
  unfold seqItems?
  refine wpAny_bind (wpAny_bind (wpAny_load hT ?_))
  rw [hTd]
  refine wpAny_pure ?_
  dsimp only
  have ep1 : (pl.map fun p : Nat => Value.int (p : Int) 0).toArray[((i : Nat) : Int).toNat]? = some (Value.int ((pl[i]'(by omega) : Nat) : Int) 0):=by
   rw [Int.toNat_natCast]
   simp [lpl,hi]
  rw [ep1]
  dsimp only
  unfold setNextDrawn
  refine wpAny_bind (wpAny_bind (wpAny_setState_of hS hSd hf ?_))
  dsimp only
  rw [if_neg (by simp),Int.toNat_natCast,Array.getElem?_eq_getElem hpl]
  dsimp only
  refine wpAny_pure (wpAny_bind (wpAny_setField ho hd (by simp) (wpAny_pure ⟨_,rfl,wpAny_pure ?_⟩)))
  have sb : Heap.SameBut I s.heap (s.heap.update I (Obj.mapFields (·.setIfInBounds 1 (rawInt ((i : Int) + 1))))):=Heap.SameBut.update ..
  have q:=h _ sb ⟨keepS _ sb,_,put1 _ _ hit,.inr (.inr ⟨bt,rfl,pl,pp,⟨oT,eT,(sb.2 T hTI).trans hT,hTd⟩,eL⟩)⟩
  rw [hLi] at q
  have eLi : L[i]'(by omega) = es[pl[i]'(by omega)].2:=by simp [eL,Array.getD,hpl]
  rw [eLi] at q
  exact q
theorem next_end (hh : A.handled = none) (hf : t.fits es.size = true) (hk : TabOk t (!byT w)) (hSI : S ≠ I) (st : SetSt w es ep t S T I L es.size s.heap) {Q : Option Value -> Shared -> Prop}
  (h : ∀ h',Heap.ExtBut I s.heap h' -> Q none { s with heap:=h' }) : wpAny (model P w) A (pyNext (.ref I)) Q E s:=by
 obtain ⟨⟨oS,hS,hSd⟩,first,hit,by_⟩:=st
 obtain ⟨o,ho,hc,hd⟩:=id hit
 unfold pyNext
 refine wpAny_bind (wpAny_attempt (wpAny_callSpecial?_slot (name:=Str.ofString "__next__") hit.typeIs SF.slot_next (wpAny_call_entry SF.slot_next hit.typeIs SF.entry_next ?_ (SF.args_next _))))
 unfold Builtin.«set_iterator.__next__»
 refine wpAny_bind (m:=slotArgs "__next__" 0 _) (wpAny_pure ?_)
 refine wpAny_bind (wpAny_fieldsOf ho hd ?_)
 dsimp only
 unfold setEntries
 refine wpAny_bind (wpAny_bind (wpAny_setState_of hS hSd hf (wpAny_pure ?_)))
 rw [if_neg (by simp)]
 have stop : ∀ h1,Heap.ExtBut I s.heap h1 -> wpAny (model P w) A.in1 (do let e <- newExc (.type "StopIteration") []; raiseNew e : Sem Fin) (fun fin s' => ∃ v,fin = Fin.done (Flow.ret v) /\ wpAny (model P w) A (pure (some v)) Q E s')
   (fun e s' => wpAny (model P w) A (do if <- isInstance e (.type "StopIteration") then pure none else throw e) Q E s') { s with heap:=h1 }:=by
  intro h1 e1
  refine wpAny_bind ?_
  simp only [newExc,newTuple]
  refine wpAny_bind (wpAny_newObj_type ?_ (by size_fits))
  refine wpAny_bind (m:=firstArgMember _ _) (wpAny_of_eq (a:=Value.none) (by first | rfl | (simp only [firstArgMember]; rfl)) ?_)
  refine wpAny_newObj_type ?_ (by size_fits)
  simp only [raiseNew]
  refine wpAny_bind (wpAny_handled ?_)
  rw [show A.in1.handled = none from hh]
  refine wpAny_bind (wpAny_pure (wpAny_throw ?_))
  refine wpAny_bind (wpAny_isInstance (T := "StopIteration") (b:=true) ⟨_,Heap.get?_push_size _ rfl,rfl⟩ isSubtype_stop ?_)
  exact wpAny_pure (h _ ((e1.push _).push _))
 rcases by_ with ⟨bt,⟨z,rfl⟩,eL⟩ | ⟨bt,pl,⟨z,rfl,hz⟩,eL⟩ | ⟨bt,rfl,pl,pp,⟨oT,eT,hT,hTd⟩,eL⟩
 ·have px:=tZ (w.params.setOrder S ep) es
  have hx : (pickOrder (w.params.setOrder S ep) es).size = es.size:=by rw [<- Array.length_toList,px.length_eq,Array.length_toList]
  refine wpAny_bind ?_
  unfold setNext
  refine wpAny_bind (wpAny_setState_of hS hSd hf ?_)
  unfold setsByText
  refine wpAny_bind (wpAny_bind (wpAny_askSetting (wpAny_pure ?_)))
  rw [if_pos (show (model P w).w.params.followText "set-order" = true from bt),if_neg (by simp)]
  unfold setWalk setsByText
  refine wpAny_bind (wpAny_bind (wpAny_setState_of hS hSd hf ?_))
  refine wpAny_bind (wpAny_bind (wpAny_askSetting (wpAny_pure ?_)))
  rw [if_pos (show (model P w).w.params.followText "set-order" = true from bt)]
  refine wpAny_bind (wpAny_askSetting (wpAny_pure (wpAny_pure ?_)))
  have ex : (pickOrder ((model P w).w.params.setOrder S ep) es)[((es.size : Nat) : Int).toNat]? = none:=by
   rw [Int.toNat_natCast]
   exact Array.getElem?_eq_none (Nat.le_of_eq hx)
  rw [ex]
  dsimp only [Option.map]
  refine wpAny_bind (wpAny_setField ho hd (by simp) ?_)
  exact stop _ (Heap.SameBut.update ..).extBut
 ·have hpz : t.place.size = es.size:=by
   simp only [SetTable.fits,Bool.and_eq_true,beq_iff_eq,decide_eq_true_eq] at hf
   exact hf.1
  refine wpAny_bind ?_
  unfold setNext
  refine wpAny_bind (wpAny_setState_of hS hSd hf ?_)
  unfold setsByText
  refine wpAny_bind (wpAny_bind (wpAny_askSetting (wpAny_pure ?_)))
  rw [if_neg (show ¬ ((model P w).w.params.followText "set-order" = true) from by rw [show (model P w).w.params.followText "set-order" = false from bt]; exact Bool.false_ne_true)]
  show wpAny _ _ (if (!t.plain && decide (es.size > 1)) = true then _ else _) _ _ _
  rw [if_neg (by
   rcases pl with q | q
   ·rw [q]; simp
   ·simp; omega)]
  show wpAny _ _ ((if (!t.led && !es.isEmpty) = true then _ else pure ()) >>= _) _ _ _
  rw [if_neg (by rw [hk.led,bt]; simp)]
  refine wpAny_bind (wpAny_pure (wpAny_pure ?_))
  rw [Int.toNat_natCast,hz,Array.getElem?_eq_none (Nat.le_refl _)]
  dsimp only
  refine wpAny_bind (wpAny_setField ho hd (by simp) ?_)
  exact stop _ (Heap.SameBut.update ..).extBut
 ·have lpl : pl.length = es.size:=by rw [pp.length_eq,List.length_range]
  show wpAny _ _ (seqItems? (.ref T) >>= _) _ _ _
  unfold seqItems?
  refine wpAny_bind (wpAny_bind (wpAny_load hT ?_))
  rw [hTd]
  refine wpAny_pure ?_
  dsimp only
  have ep1 : (pl.map fun p : Nat => Value.int (p : Int) 0).toArray[((es.size : Nat) : Int).toNat]? = none:=by
   rw [Int.toNat_natCast]
   simp [lpl]
  rw [ep1]
  dsimp only
  refine wpAny_bind (wpAny_setField ho hd (by simp) ?_)
  have hd0:=Obj.data_mapFields hd (·.setIfInBounds 0 (rawInt 0))
  refine wpAny_bind (wpAny_setField (Heap.get?_update_self _ ho (Obj.isFreed_of_fields hd0)) hd0 (by simp) ?_)
  exact stop _ ((Heap.SameBut.update ..).trans (Heap.SameBut.update ..)).extBut
end
end L2
set_option Elab.async false
set_option linter.all false
set_option maxRecDepth 100000
namespace L2
open PySem PySem.Spec PyProof.Rows
namespace SF
theorem entry_iter_self : entryFor table "set_iterator.__iter__" = some Builtin.«dict_keyiterator.__iter__» := entryFor_alias (id' := "dict_keyiterator.__iter__") (by kernel_rfl) rfl (by decide +kernel) (by kernel_rfl)
theorem args_iter_self (a : Value) : argsOk "set_iterator.__iter__" ⟨[a],[]⟩:=by unfold argsOk; kernel_rfl
end SF
section
variable {P : Program} {w : World} {A : Around} {E : Value -> Shared -> Prop} {s : Shared} {es : Array (Int × Value)} {ep : Nat} {t : SetTable} {S T I : Addr} {L : List Value}
theorem K3 (hh : A.handled = none) (hf : t.fits es.size = true) (hk : TabOk t (!byT w)) (hL : L.length = es.size) (hTI : T ≠ I) (hSI : S ≠ I) :
  WalksS P w A I [I,S,T] [I] (fun a b => b = a) es.size (fun i v => v = L.getD i .none) (fun i s => SetSt w es ep t S T I L i s.heap) where
 sub:=fun b hb => by simp at hb; simp [hb]
 grefl:=fun _ => rfl
 gtrans:=fun _ _ _ h1 h2 => h2.trans h1
 frame:=fun i s h' tk st _ k => by
  obtain ⟨⟨oS,hS,hSd⟩,first,⟨o,ho,r⟩,by_⟩:=st
  refine ⟨⟨oS,k S (by simp) _ hS,hSd⟩,first,⟨o,k I (by simp) _ ho,r⟩,?_⟩
  rcases by_ with z | z | ⟨b,e,pl,pp,⟨oT,eT,hT,hTd⟩,eL⟩
  ·exact .inl z
  ·exact .inr (.inl z)
  ·exact .inr (.inr ⟨b,e,pl,pp,⟨oT,eT,k T (by simp) _ hT,hTd⟩,eL⟩)
 item:=fun i s Q E hi st hQ => next_item hf hk hL hTI hSI st hi fun h' sb st' => hQ _ _ rfl st' ⟨fun b o hb e => (sb.2 b fun z => hb (by simp [z])).trans e,rfl,rfl,rfl,Nat.le_refl _⟩
 done:=fun s Q E st hQ => next_end hh hf hk hSI st fun h' eb => hQ _ ⟨fun b o hb e => eb b o (fun z => hb (by simp [z])) e,rfl,rfl,rfl,Nat.le_refl _⟩
 self:=fun i s Q E st hQ => by
  obtain ⟨_,first,hit,_⟩:=st
  refine wpAny_pyIter_slot hit.typeIs SF.slot_iter_self (wpAny_call_entry SF.slot_iter_self hit.typeIs SF.entry_iter_self ?_ (SF.args_iter_self _))
  show wpAny _ _ (ret (.ref I)) _ _ s
  exact wpAny_pure ⟨_,rfl,"set_iterator",_,hit.typeIs,SF.slot_next.lookup,hQ⟩
theorem Kp {o : Obj} {Q : Value -> Shared -> Prop} (ho : s.heap.get? S = some o) (hex : o.ExactSet) (hd : o.data = .set es ep t) (hb : es.size < scanBound) (hf : t.fits es.size = true) (hk : TabOk t (!byT w))
  (h : ∀ (h' : Heap) (d' : Drawn) (I T : Addr) (L : List Value),L.Perm (es.toList.map (·.2)) -> SetSt w es ep t S T I L 0 h' -> (∀ b u,s.heap.get? b = some u -> h'.get? b = some u) -> s.heap.objs.size <= I -> I < h'.objs.size -> T ≠ I -> (T = S \/ s.heap.objs.size <= T) -> Q (.ref I) { s with heap:=h',drawn:=d' }) :
  wpAny (model P w) A (pyIter (.ref S)) Q E s:=by
 have hT : s.TypeIs (.ref S) "set" := ⟨o,ho,hex.1⟩
 have hSl : S < s.heap.objs.size:=Heap.lt_size ho
 refine wpAny_pyIter_slot hT F.slot_set_iter (wpAny_call_entry F.slot_set_iter hT SF.entry_iter ?_ (F.args_set_iter_1 _))
 unfold Builtin.«frozenset.__iter__» Builtin.Frozenset.slot0 Builtin.Frozenset.sizeOf setEntries
 refine wpAny_bind (wpAny_bind (m:=slotArgs "__iter__" 0 _) (wpAny_pure (wpAny_pure ?_)))
 refine wpAny_bind (wpAny_bind (wpAny_bind (wpAny_setState_of ho hd hf (wpAny_pure (wpAny_pure ?_)))))
 refine wpAny_bind ?_
 unfold setDrawn setsByText
 refine wpAny_bind (wpAny_setState_of ho hd hf ?_)
 refine wpAny_bind (wpAny_bind (wpAny_askSetting (wpAny_pure (wpAny_pure ?_))))
 show wpAny _ _ (if (!byT w && (!t.plain && decide (es.size > 1))) = true then _ else _) _ _ _
 by_cases c : (!byT w && (!t.plain && decide (es.size > 1))) = true
 ·rw [if_pos c]
  have bt : byT w = false:=by
   cases b : byT w with
   | false => rfl
   | true => rw [b] at c; simp at c
  refine wpAny_bind (zF _ _ _ _ (by simp) fun pl d' pp => wpAny_bind ?_)
  have lpl0 : pl.length = es.size:=by rw [pp.length_eq,List.length_range]
  refine wpAny_newTuple (hsz:=by rw [List.length_map,lpl0]; exact fits_of_scanBound hb) ?_
  have lpl : pl.length = es.size:=by rw [pp.length_eq,List.length_range]
  have ho1 : (s.heap.push (seqObj "tuple" (pl.map fun i : Nat => rawInt i).toArray 0)).get? S = some o:=Heap.get?_push_of_some _ ho
  unfold setEpoch
  refine wpAny_bind (wpAny_bind (wpAny_setState_of (s:={ s with heap:=s.heap.push (seqObj "tuple" (pl.map fun i : Nat => rawInt i).toArray 0),drawn:=d' }) ho1 hd hf (wpAny_pure ?_)))
  unfold newFields
  refine wpAny_bind (wpAny_newObj_type (wpAny_pure ⟨_,rfl,"set_iterator",_,⟨_,Heap.get?_push_size _ rfl,rfl⟩,SF.slot_next.lookup,?_⟩) (by size_fits))
  refine h _ d' _ s.heap.objs.size (pl.map fun p => (es.getD p (0,.none)).2) ?_ ⟨⟨o,Heap.get?_push_of_some _ ho1,hd⟩,_,⟨_,Heap.get?_push_size _ rfl,rfl,rfl⟩,.inr (.inr ⟨bt,rfl,pl,pp,⟨_,0,Heap.get?_push_of_some _ (Heap.get?_push_size _ rfl),rfl⟩,rfl⟩)⟩
   (fun b u q => Heap.get?_push_of_some _ (Heap.get?_push_of_some _ q)) ?_ ?_ ?_ ?_
  ·refine (pp.map _).trans ?_
   rw [show (List.range es.size).map (fun p => (es.getD p (0,.none)).2) = es.toList.map (·.2) from by
    refine List.ext_getElem (by simp) fun i h1 h2 => ?_
    have hi : i < es.size:=by simpa using h1
    simp [Array.getD,hi]]
  ·rw [Heap.size_push]; exact Nat.le_succ _
  ·exact Heap.lt_size (Heap.get?_push_size _ rfl)
  ·rw [Heap.size_push]; exact Nat.ne_of_lt (Nat.lt_succ_self _)
  ·exact .inr (Nat.le_refl _)
 ·rw [if_neg c]
  refine wpAny_bind (wpAny_pure ?_)
  unfold setEpoch
  refine wpAny_bind (wpAny_bind (wpAny_setState_of ho hd hf (wpAny_pure ?_)))
  unfold newFields
  refine wpAny_bind (wpAny_newObj_type (wpAny_pure ⟨_,rfl,"set_iterator",_,⟨_,Heap.get?_push_size _ rfl,rfl⟩,SF.slot_next.lookup,?_⟩) (by size_fits))
  cases bt : byT w with
  | true =>
   refine h _ s.drawn _ S ((pickOrder (w.params.setOrder S ep) es).toList.map (·.2)) ((tZ _ es).map _) ⟨⟨o,Heap.get?_push_of_some _ ho,hd⟩,_,⟨_,Heap.get?_push_size _ rfl,rfl,rfl⟩,.inl ⟨bt,⟨0,rfl⟩,rfl⟩⟩
    (fun b u q => Heap.get?_push_of_some _ q) (Nat.le_refl _) ?_ (Nat.ne_of_lt hSl) ?_
   ·rw [Heap.size_push]; exact Nat.lt_succ_self _
   ·exact .inl rfl
  | false =>
   rw [bt] at c
   have pl : t.plain = true \/ es.size <= 1:=by
    cases q : t.plain with
    | true => exact .inl rfl
    | false =>
     rw [q] at c
     simp at c
     exact .inr c
   refine h _ s.drawn _ S (es.toList.map (·.2)) (List.Perm.refl _) ⟨⟨o,Heap.get?_push_of_some _ ho,hd⟩,_,⟨_,Heap.get?_push_size _ rfl,rfl,rfl⟩,.inr (.inl ⟨bt,pl,⟨0,rfl,C8 hk.rise⟩,rfl⟩)⟩
    (fun b u q => Heap.get?_push_of_some _ q) (Nat.le_refl _) ?_ (Nat.ne_of_lt hSl) ?_
   ·rw [Heap.size_push]; exact Nat.lt_succ_self _
   ·exact .inl rfl
end
end L2
set_option Elab.async false
set_option linter.all false
set_option maxRecDepth 100000
namespace L2
open PySem PySem.Spec PyProof.Rows
section
variable {P : Program} {w : World} {A : Around} {E : Value -> Shared -> Prop} {s : Shared} {S : Addr} {ns : List Int}
end
end L2
set_option Elab.async false
set_option linter.all false
set_option maxRecDepth 100000
namespace L2
open PySem PySem.Spec PyProof.Rows
section
variable {X : Cx}
end
end L2
set_option Elab.async false
set_option linter.all false
set_option maxRecDepth 100000
namespace PySem
open PyProof.Rows
section
variable {prog : Program} {w : World} {K : Type} [DecidableEq K] {knd : KeyKind prog w K} {A : Around} {E : Value -> Shared -> Prop} {s : Shared} {R : Result -> Shared -> Prop}
end
end PySem
namespace L2
open PySem PySem.Spec PyProof.Rows
section
variable {X : Cx}
end
section
variable {X : Cx} {pins : List (Addr × Obj)} {σ : St} {H : Hp} {s : Shared} {a : Addr} {z : V} {u r : Value} {A : Around} {E : Value -> Shared -> Prop} {kvs : List (Key × V)} {k : Key}
end
section
variable {X : Cx} {o e f : Expr} {apos cpos : Pos} {td ty tx : TE}
end
end L2
set_option Elab.async false
set_option linter.all false
set_option maxRecDepth 100000
namespace L2
open PySem PySem.Spec PyProof.Rows
section
variable {X : Cx} {pins : List (Addr × Obj)} {σ : St} {H : Hp} {s : Shared} {a : Addr} {o : Obj} {kvs : List (Key × V)}
end
section
variable {X : Cx} {tg : Expr}
end
section
variable {X : Cx}
end
end L2
set_option Elab.async false
set_option linter.all false
set_option maxRecDepth 100000
namespace L2
open PySem PySem.Spec PyProof.Rows
section
variable {P : Program} {w : World} {A : Around} {E : Value -> Shared -> Prop} {s : Shared}
end
end L2
set_option Elab.async false
set_option linter.all false
set_option maxRecDepth 100000
namespace L2
open PySem PySem.Spec PyProof.Rows
section
variable {X : Cx}
end
end L2
set_option Elab.async false
set_option linter.all false
set_option maxRecDepth 100000
namespace PySem
open PyProof.Rows
section
variable {prog : Program} {w : World} {A : Around} {E : Value -> Shared -> Prop} {s : Shared}
end
end PySem
namespace L2
open PySem PySem.Spec PyProof.Rows
section
variable {X : Cx} {a : Expr} {ta : TA} {p p2 pos pos2 : Pos}
end
end L2
namespace L2
open PySem PySem.Spec PyProof.Rows
section
variable {X : Cx} {N : List Str} {scope : Scope} {ix : List (Option Nat)} {elt iter cond tg : Expr} {pos spos : Pos} {te : TE} {g : TG} {wi : TI} {tc : TT}
theorem uG {i : Nat} {y : Str} {py : Pos} (hc : X.calm = true) (hN : X.N.Nodup) (hyi : X.N[i]? = some y) (hy : Loc X.env.scope y) (S : BlkScope X.N X.env.scope N ix scope) (hi : PI X tg iter wi) (hg : ∀ fp s H C,PG (bN X N scope fp s H C) tg g) (ht : ∀ fp s H C,PT (bN X N scope fp s H C) cond tc) (he : ∀ fp s H C,PE (bN X N scope fp s H C) elt te)
  (hsw : swapsWith (.ListComp elt [⟨tg,iter,[cond],0⟩] scope pos) (some (.Name y py)) spos.line X.env = pure true:=by rfl)
  (hf : X.fn y = true \/ X.env.scope.names.lookup y = some .local:=by first | exact .inl rfl | exact .inr rfl | assumption)
  (hs : ∀ x,foldedSetIterable iter X.env x = pure x:=by intro _; rfl) : PS X (.Assign [.Name y py] (.ListComp elt [⟨tg,iter,[cond],0⟩] scope pos) spos) (sy (Hr ix wi g tc te) (aF i)):=by
 intro pins s σ H D I h
 rw [exec_Assign_Name_used _ _ _ _ hsw]
 refine wpAny_bind (wpAny_standAt (wpAny_bind ?_))
 show wpAny _ X.A (do let _ <- comprehension (.ListComp elt [⟨tg,iter,[cond],0⟩] scope pos) scope X.env _ (newList []) false (eval iter X.env) (some (assign (.Name y py) X.env))) _ _ s
 refine wpAny_bind (wpAny_mono (wpAny_comprehension_free (use:=some (assign (.Name y py) X.env)) (Q:=fun _ s' => SP X pins D .next s') rfl hs (km (S.clos I.ok)) S.kind S.locs
  (thn (hi pins s σ H _ I h) fun v s1 h1 => thn h1 fun itv s2 h2 => ?_)) (fun _ s' hq => wpAny_pure (wpAny_pure hq)) fun _ _ e => e)
 obtain ⟨it,fp,tn,J,H2,e,I2,T,st2,f2,hW⟩:=h2
 subst e
 refine zD (RR:=fun acc C => compPost (model X.prog X.w) X.A X.xe (some (assign (.Name y py) X.env)) (fun _ s' => SP X pins D .next s') acc C) I2 hc S T st2 f2 (hg _ _ _) (ht _ _ _) (he _ _ _) hW ?_
 intro Dl C s' H' m I' hn fC q
 show wpAny _ X.A (assign (.Name y py) X.env (.ref Dl)) _ _ s'
 refine wpAny_assign_Name (zS I' hN hyi hy (v:=.ref Dl) rfl (fun s2 I2' hsb => ?_) hf)
 obtain ⟨a,sb,ha⟩:=hsb
 refine ⟨m,hn.sameBut sb ?_,fun h3 sb3 => ⟨_,H',I2'.turned (t' := s2.toks) (fun b o hb e => (sb3.2 b hb).trans e) fC.1 fC.2.1 fC.2.2.2.1 fC.2.2.2.2.1 fC.2.2.2.2.2,q⟩⟩
 rcases ha with z | z
 ·rw [z]; exact fC.2.1
 ·exact Ne.symm (fC.2.2.2.2.1 _ _ z)
end
end L2
set_option Elab.async false
set_option linter.all false
set_option maxRecDepth 100000
namespace L2
open PySem PySem.Spec PyProof.Rows
section
variable {X : Cx} {tg : Expr}
end
section
variable {X : Cx} {a b c : Expr} {ta : TA} {p p2 pos pos2 : Pos}
end
end L2
set_option Elab.async false
set_option linter.all false
set_option maxRecDepth 100000
set_option maxHeartbeats 4000000
namespace L2
open PySem PySem.Spec PyProof.Rows
end L2
set_option Elab.async false
set_option linter.all false
set_option maxRecDepth 100000
set_option maxHeartbeats 4000000
namespace L2
open PySem PySem.Spec PyProof.Rows
section
variable {X : Cx}
end
end L2
set_option Elab.async false
set_option linter.all false
set_option maxRecDepth 100000
set_option maxHeartbeats 4000000
namespace L2
open PySem PySem.Spec PyProof.Rows
end L2
set_option Elab.async false
set_option linter.all false
set_option maxRecDepth 100000
set_option maxHeartbeats 4000000
namespace PySem
open PyProof.Rows
section
variable {prog : Program} {w : World} {K : Type} [DecidableEq K] {knd : KeyKind prog w K} {A : Around} {E : Value -> Shared -> Prop} {s : Shared} {R : Result -> Shared -> Prop}
end
end PySem
namespace L2
open PySem PySem.Spec PyProof.Rows
section
variable {X : Cx}
end
end L2
set_option Elab.async false
set_option linter.all false
set_option maxRecDepth 100000
set_option maxHeartbeats 4000000
namespace PySem
section
variable {prog : Program} {w : World} {A : Around} {E : Value -> Shared -> Prop} {s : Shared}
end
end PySem
namespace L2
open PySem PySem.Spec PyProof.Rows
section
variable {X : Cx}
end
end L2
set_option Elab.async false
set_option linter.all false
set_option maxRecDepth 100000
set_option maxHeartbeats 4000000
namespace L2
open PySem PySem.Spec PyProof.Rows
end L2
set_option Elab.async false
set_option linter.all false
set_option maxRecDepth 100000
set_option maxHeartbeats 4000000
namespace L2
open PySem PySem.Spec PyProof.Rows
section
variable {X : Cx} {pins : List (Addr × Obj)} {σ : St} {H : Hp} {s : Shared}
end
end L2
set_option Elab.async false
set_option linter.all false
set_option maxRecDepth 100000
set_option maxHeartbeats 4000000
namespace L2
open PySem PySem.Spec PyProof.Rows
section
variable {X : Cx} {pins : List (Addr × Obj)} {σ : St} {H : Hp} {s : Shared}
open Classical in
noncomputable def isR (H : Hp) (ns : List Int) (u : Value) : Bool:=decide (∃ b,u = Value.ref b /\ H b = some (.tup (ns.map V.int)))
end
end L2
set_option Elab.async false
set_option linter.all false
set_option maxRecDepth 100000
set_option maxHeartbeats 4000000
namespace L2
open PySem PySem.Spec PyProof.Rows
section
variable {X : Cx}
end
end L2
set_option Elab.async false
set_option linter.all false
set_option maxRecDepth 100000
set_option maxHeartbeats 4000000
namespace L2
open PySem PySem.Spec PyProof.Rows
section
variable {X : Cx} {pins : List (Addr × Obj)} {σ : St} {H : Hp} {s : Shared} {a : Addr} {o : Obj} {kvs : List (List Key × V)}
end
section
variable {X : Cx} {tg : Expr}
end
end L2
set_option Elab.async false
set_option linter.all false
set_option maxRecDepth 100000
set_option maxHeartbeats 4000000
namespace L2
open PySem PySem.Spec PyProof.Rows
end L2
set_option Elab.async false
set_option linter.all false
set_option maxRecDepth 100000
namespace PySem
end PySem
namespace L2
open PySem PySem.Spec PyProof.Rows
end L2
set_option Elab.async false
set_option linter.all false
set_option maxRecDepth 100000
set_option maxHeartbeats 4000000
namespace L2
open PySem PySem.Spec PyProof.Rows
section
variable {X : Cx}
end
end L2
set_option Elab.async false
set_option linter.all false
set_option maxRecDepth 100000
set_option maxHeartbeats 4000000
namespace PySem
section
variable {prog : Program} {w : World} {A : Around} {E : Value -> Shared -> Prop} {s : Shared}
end
end PySem
namespace L2
open PySem PySem.Spec PyProof.Rows
end L2
set_option Elab.async false
set_option linter.all false
set_option maxRecDepth 100000
set_option maxHeartbeats 4000000
namespace L2
open PySem PySem.Spec PyProof.Rows
abbrev NK:=Int × List Int
section
variable {X : Cx} {pins : List (Addr × Obj)} {σ : St} {H : Hp} {s : Shared} {d : Addr} {ks : List (NK × Addr)}
end
section
variable {X : Cx} {pos pos' : Pos} {o i value : Expr} {td ty tv : TE}
end
end L2
set_option Elab.async false
set_option linter.all false
set_option maxRecDepth 100000
namespace L2
open PySem PySem.Spec PyProof.Rows
structure Aloft (base : Heap) (l : List Env) (e : Addr) (cls a0 : Value) (fl : Value) (h : Heap) : Prop where
 stays : base.StaysIn h
 new : base.get? e = none
 fun_ : h.FunFrames base l
 tr : h.TracedAtW base e cls a0 fl
section
variable {P : Program} {w : World} {K : PySem.W.Frag} {mg : Str -> Option Value} {base : Heap} {N : List Str} {qual : Str} {scope : Scope} {f : Addr} {cd : Value} {A : Around} {outer : List Env} {s : Shared} {H : Hp} {E : XK}
end
section
variable {X : Cx} {pins : List (Addr × Obj)} {σ : St} {H : Hp} {s : Shared} {N : List Str} {ix : List (Option Nat)} {scope : Scope} {fp : List Addr} {tg elt iter : Expr} {pos spos : Pos} {J : It} {it : Addr} {tn : Nat -> Heap -> Prop} {g : TG} {te : TXE} {wi : TI} {Ex : XK}
end
end L2
set_option Elab.async false
set_option linter.all false
set_option maxRecDepth 100000
namespace L2
open PySem PySem.Spec PySem.W PySem.Builtin PySem.Builtin.ObjectAttr PyProof.Rows
def mroIs (K : PySem.W.Frag) (C : Addr) (as : List Addr) : Bool:=(clsIn K C).any fun cd => cd.mro == as.map Value.ref ++ VEm
section
variable {prog : Program} {w : World} {A : Around} {E : Value -> Shared -> Prop} {s : Shared} {K : PySem.W.Frag} {x C : Addr} {vs : Array Value} {name : Str} {v : Value} {as : List Addr}
end
end L2
set_option Elab.async false
set_option linter.all false
set_option maxRecDepth 100000
namespace L2
open PySem PySem.Spec PySem.W PySem.Builtin PySem.Builtin.ObjectAttr PyProof.Rows
def Jl (K : PySem.W.Frag) (C : Addr) (f : Addr) : Bool:=match K.lookup C with
 | some ⟨.type "type",_,.cls cd,sl⟩ => (match cd.mro,sl.toList with
  | .ref C' :: tl,[_,_,_,_,some (.builtin n),_] => C' == C && n == "ValueError.__new__" && !cd.hasDel && tailIn K VEm tl && nsOkIn K cd.ns && nsIn K cd.ns "__init__" == some (some (.ref f))
  | _,_ => false)
 | _ => false
section
variable {prog : Program} {w : World} {A : Around} {E : Value -> Shared -> Prop} {h : Heap} {g : Array GenState} {d : Drawn} {t : Nat} {os : OsState}
variable {nm q : Str} {C N : Addr} {bs bm : List Value} {hdct : Bool} {sn : List Str} {sub : List Value} {ab : Bool} {col : Option Bool} {dd : Option Addr} {k0 k1 k2 k3 k5 : Option Value}
end
section
variable {prog : Program} {w : World} {A : Around} {E : Value -> Shared -> Prop} {s : Shared} {K : PySem.W.Frag} {x C f : Addr} {vs : Array Value}
end
end L2
set_option Elab.async false
set_option linter.all false
set_option maxRecDepth 100000
namespace L2
open PySem PySem.Spec PyProof.Rows
structure XInit (K : PySem.W.Frag) (C f : Addr) : Prop where
 ex : Jl K C f = true
 fn : PySem.W.isFn K (.ref f) = true
 kp : PySem.W.keepIn K (.ref C) = true
 sa : PySem.W.findIn K (.ref C) "__setattr__" = some (some (.builtin "object.__setattr__"))
 hd : PySem.W.hasDictIn K C = true
 mr : ∃ as,mroIs K C as = true
 xc : XCls K C
section
variable {X : Cx} {k : Nat} {f C B : Addr} {fd : FuncData} {ps : List Str} {sp : Sp} {dvs : List V} {ds : List Value} {x y fl : Str} {p pos apos : Pos} {e o value : Expr} {es : List Expr} {t : TA} {ta tv : TE}
end
structure DefI (P : Program) (w : World) (K : PySem.W.Frag) (mg : Str -> Option Value) (base : Heap) (x : Str) (C f : Addr) (k : Nat) (ps : List Str) (sp : Sp) : Prop where
 m : mg x = some (.ref C)
 M : XInit K C f
 F : ∃ fd,Binds K fd ps [] /\ FnOk P w K mg base CX0 k f fd ps sp
end L2
set_option Elab.async false
set_option linter.all false
set_option maxRecDepth 100000
set_option maxHeartbeats 4000000
namespace L2
open PySem PySem.Spec PyProof.Rows
def K5 (h : Heap) (mg : Str -> Option Value) : Prop := ∃ bm o,mg "__builtins__" = some (.ref bm) /\ bm ≠ builtinsNs /\ bm ≠ mainGlobals /\ h.get? bm = some o /\ o.cls = .type "module" /\ o.dict = some builtinsNs /\ o.data = .plain
end L2
set_option Elab.async false
set_option linter.all false
set_option maxRecDepth 100000
set_option maxHeartbeats 4000000
namespace L2
open PySem PySem.Spec PyProof.Rows
def Jd (c : Addr) (qual : Str) (h : Heap) : Prop := ∃ o vs t,h.get? c = some o /\ o.data = .fields vs /\ vs[1]? = some (.str qual t)
def Kf (f : Addr) (qual : Str) (params : Arguments) (body : Expr) (scope : Scope) (clos : List (Str × Addr)) (c' : Addr) (h : Heap) : Prop := ∃ pm ctv,h.get? f = some (PySem.W.kla_obj "<lambda>" qual params body scope clos pm c' ctv)
structure LamK (K : PySem.W.Frag) (mg : Str -> Option Value) (base : Heap) (c Pt : Addr) : Prop where
 hd : PySem.W.codeHdIn K c Pt = true
 bm : K5 base mg
section
variable {X : Cx} {params : Arguments} {body : Expr} {scope : Scope} {pos : Pos} {clos : List (Str × Addr)} {c Pt : Addr}
end
end L2
set_option Elab.async false
set_option linter.all false
set_option maxRecDepth 100000
set_option maxHeartbeats 4000000
namespace L2
open PySem PySem.Spec PyProof.Rows
def FV (c : Addr) (o : Obj) (h : Heap) : Prop:=h.get? c = some o
def K7 (H : Hp) (c : Addr) (v : V) : Prop := ∃ o u,H c = some (.ext (FV c o)) /\ o.data = .cell (some u) /\ RelV v u
structure LamHas (H : Hp) (f c' : Addr) (qual : Str) (params : Arguments) (body : Expr) (scope : Scope) (clos : List (Str × Addr)) (cvs : List V) : Prop where
 fn : H f = some (.ext (Kf f qual params body scope clos c'))
 cd : H c' = some (.ext (Jd c' qual))
 cl : Paired (fun (p : Str × Addr) v => K7 H p.2 v) clos cvs
 nd : (clos.map (·.2)).Nodup
def less (H : Hp) (cs : List Addr) : Hp:=fun b => if b ∈ cs then none else H b
section
variable {P : Program} {w : World} {H H' : Hp} {h h' : Heap} {cs : List Addr} {fs : List Addr}
end
structure LamScope (ps fr : List Str) (sc : Scope) : Prop where
 kind : sc.kind = .function
 co : sc.isCoroutine = false
 gen : sc.isGenerator = false
 nd : (ps ++ fr).Nodup
 par : ∀ x ∈ ps,sc.names.lookup x = some .local
 fre : ∀ x ∈ fr,sc.names.lookup x = some .free
 nocell : ∀ y ∈ sc.names,y.2 ≠ .cell
 all : ∀ y ∈ sc.names,y.2 = .free -> y.1 ∈ fr
section
variable {P : Program} {w : World} {K : PySem.W.Frag} {mg : Str -> Option Value} {base : Heap} {k : Nat} {f c' : Addr} {qual : Str} {params : Arguments} {body : Expr} {scope : Scope} {clos : List (Str × Addr)} {cvs : List V} {ps : List Str} {A : Around} {outer : List Env} {s : Shared} {H : Hp} {us : List Value} {vs : List V} {Q : VK} {t : TE}
end
end L2
set_option Elab.async false
set_option linter.all false
set_option maxRecDepth 100000
set_option maxHeartbeats 4000000
namespace L2
open PySem PySem.Spec PyProof.Rows
section
variable {X : Cx} {x : Str} {p pos : Pos} {e : Expr} {es : List Expr} {t : TA} {tf : TE} {R : V -> List V -> Hp -> VK -> Prop}
end
section
variable {X : Cx} {x y : Str} {i j k : Nat} {c : Addr} {ps : List Str} {dvs : List V} {sp : Sp} {p pos : Pos} {e : Expr} {es : List Expr} {t : TA} {CX : CXT} {f : Addr} {fd : FuncData} {ds : List Value}
end
end L2
set_option Elab.async false
set_option linter.all false
set_option maxRecDepth 100000
set_option maxHeartbeats 4000000
namespace L2
open PySem PySem.Spec PyProof.Rows
open Classical in
noncomputable def LC (cells : List (Str × Addr)) (h : Heap) (H : Hp) : Hp:=fun b => if ∃ y,cells.lookup y = some b then (h.get? b).map fun o => .ext (FV b o) else H b
structure Mk0 (K : PySem.W.Frag) (C : Addr) : Prop where
 makes : PySem.W.makesIn K C = true
 init : PySem.W.findIn K (.ref C) "__init__" = some (some (.builtin "object.__init__"))
 kp : PySem.W.keepIn K (.ref C) = true
end L2
set_option Elab.async false
set_option linter.all false
set_option maxRecDepth 100000
set_option maxHeartbeats 4000000
namespace L2
open PySem PySem.Spec PyProof.Rows
structure LamScope1 (x : Str) (fr : List Str) (sc : Scope) : Prop where
 kind : sc.kind = .function
 co : sc.isCoroutine = false
 gen : sc.isGenerator = false
 nd : (x :: fr).Nodup
 cell : sc.names.lookup x = some .cell
 only : ∀ y ∈ sc.names,y.2 = .cell -> y.1 = x
 lay : ∀ n cl,cellsFrom n sc.names cl = (x,n) :: cl
 lays : ∀ h,pushCells h sc.names = h.push { cls:=.type "cell",data:=.cell none }
 fre : ∀ y ∈ fr,sc.names.lookup y = some .free
 all : ∀ y ∈ sc.names,y.2 = .free -> y.1 ∈ fr
section
variable {P : Program} {w : World} {K : PySem.W.Frag} {mg : Str -> Option Value} {base : Heap} {k : Nat} {f c' : Addr} {qual : Str} {params : Arguments} {body : Expr} {scope : Scope} {clos : List (Str × Addr)} {cvs : List V} {x : Str} {A : Around} {outer : List Env} {s : Shared} {H : Hp} {u : Value} {v : V} {Q : VK} {t : TE}
end
end L2
set_option Elab.async false
set_option linter.all false
set_option maxRecDepth 100000
set_option maxHeartbeats 4000000
namespace L2
open PySem PySem.Spec PyProof.Rows
section
variable {X : Cx}
def KH (K : PySem.W.Frag) : List V -> Hp -> VK -> Prop:=fun xs H Q => ∃ (a : Addr) (ns : List Int),xs = [.ref a] /\ SqL K H a (ns.map V.int) /\ ns ≠ [] /\ ∀ M,M ∈ ns -> (∀ z ∈ ns,z <= M) -> Q (.int M) H
theorem E9 (hc : X.calm = true) : fX X (.builtin "max") (KH X.K):=by
 intro pins s σ H xs us Q I r h
 obtain ⟨a,ns,rfl,hS,h0,h1⟩:=h
 obtain ⟨u,rfl,ru⟩:=r.one
 cases (show u = Value.ref a from ru)
 obtain ⟨its,rv,ht,hz⟩:=I.list hS
 have hlen:=rv.length
 rw [List.length_map] at hlen
 have hn' : 0 < ns.length:=List.length_pos_iff.mpr h0
 have hlt : a < s.heap.objs.size:=by obtain ⟨_,e,_⟩:=ht.isList; exact Heap.lt_size e
 refine call_max_walk (wpAny_pyIter_list ht.isList ?_)
 have W:=Walks.list (prog:=X.prog) (w:=X.w) (A:=X.A.in1) (I.ok.hd hc) s.heap.objs.size a (Nat.ne_of_lt hlt) its.toArray
 have hval : ∀ (i : Nat) (v : Value),its.toArray[i]? = some v -> ∃ t,v = .int (ns.getD i 0) t:=fun i v e => by
  have e' : its[i]? = some v:=by simpa using e
  have hi : i < ns.length:=by rw [hlen]; exact (List.getElem?_eq_some_iff.mp e').1
  obtain ⟨u,hu,ru⟩:=rv.get (i:=i) (x:=.int ns[i]) (by simp [hi])
  rw [e'] at hu
  cases hu
  obtain ⟨t,rfl⟩:=ru
  exact ⟨t,by simp [hi]⟩
 refine ⟨_,_,_,_,_,_,_,rfl,W,⟨⟨_,Heap.get?_push_size _ rfl,rfl,rfl⟩,ht.isList.push _⟩,fun b hb => ?_,by simp; omega,CmpOf.ints_gt (fun i => ns.getD i 0) hval,fun v h' tk hP hk => ?_⟩
 ·show b < (s.heap.push _).objs.size
  rw [Heap.size_push]
  rcases List.mem_cons.mp hb with rfl | hb
  ·exact Nat.lt_succ_self _
  ·rw [List.mem_singleton.mp hb]; exact Nat.lt_succ_of_lt hlt
 ·have I1 : Inv X pins σ H { s with heap:=h',toks:=tk }:=I.kept (t' := tk) fun b o e => hk b o (fun hm => by
   rw [List.mem_singleton.mp hm] at e
   exact Nat.lt_irrefl _ (Heap.lt_size e)) (Heap.get?_push_of_some _ e)
  obtain ⟨t,rfl⟩:=hval _ v hP
  have hb:=argBest_gt (fun i => ns.getD i 0) (its.toArray.size - 1)
  have hj : argBest (fun i j => decide (ns.getD i 0 > ns.getD j 0)) (its.toArray.size - 1) < ns.length:=by
   have:=hb.1
   rw [List.size_toArray] at this ⊢
   omega
  refine ⟨.int _,H,I1,⟨t,rfl⟩,h1 _ ?_ fun z hzm => ?_⟩
  ·rw [List.getD_eq_getElem?_getD,List.getElem?_eq_getElem hj,Option.getD_some]; exact List.getElem_mem hj
  ·obtain ⟨i,hi,rfl⟩:=List.getElem_of_mem hzm
   have:=hb.2 i (by rw [List.size_toArray]; omega)
   simpa [List.getD_eq_getElem?_getD,List.getElem?_eq_getElem hi] using this
end
end L2
set_option Elab.async false
set_option linter.all false
set_option maxRecDepth 100000
set_option maxHeartbeats 4000000
namespace L2
open PySem PySem.Spec PyProof.Rows
theorem yl : ∀ {ns : List Str} {us : List Value},Vals (ns.map V.str) us -> StrsAre us ns
 | [],_,h => by cases h; exact .nil
 | n :: ns,_,h => by
  cases h with
  | cons r t =>
   obtain ⟨tk,rfl⟩:=r
   exact .cons n tk (yl t)
theorem C0 : ∀ {ns : List Str} {us : List Value},StrsAre us ns -> Vals (ns.map V.str) us
 | _,_,.nil => .nil
 | _,_,.cons n t r => .cons ⟨t,rfl⟩ (C0 r)
section
variable {X : Cx}
theorem EO : OpR X (binaryOp .Mult) (fun x y H Q => ∃ z n,x = .str z /\ y = .int n /\ MulOk z n /\ Q (.str (Txt.mul z n)) H):=by
 intro pins s σ H x y v u Q I rx ry h
 obtain ⟨z,n,rfl,rfl,ok,q⟩:=h
 obtain ⟨t,rfl⟩:=rx
 obtain ⟨t',rfl⟩:=ry
 exact SB.mul ok fun t' k => ⟨.str _,H,I.tok _,⟨_,rfl⟩,q⟩
def rJoin : V -> List V -> Hp -> VK -> Prop:=fun x vs H Q => ∃ (z : Str) (l : Addr) (ys : List Str),x = .str z /\ vs = [.ref l] /\ H l = some (.lst (ys.map V.str)) /\ (ys.map (·.length)).sum + ys.length * z.length <= 16777216 /\ Q (.str (Txt.join z ys)) H
theorem EK : MtM X "str.join" rJoin:=by
 intro pins s σ H x vs v us Q I rx rv h
 obtain ⟨z,l,ys,rfl,rfl,hH,ok,q⟩:=h
 obtain ⟨t,rfl⟩:=rx
 obtain ⟨u,rfl,ru⟩:=rv.one
 cases ru
 obtain ⟨zz,its,n,r,hl,e⟩:=I.lstM hH
 exact join_list ⟨_,e,rfl,n,rfl⟩ (by simpa using yl r) ok fun t' k => ⟨.str _,H,I.tok _,⟨_,rfl⟩,q⟩
end
section
variable {X : Cx} {e v1 v2 : Expr} {es rest : List Expr} {pos : Pos} {n : Nat}
abbrev TFV:=St -> Hp -> Str -> (Str -> Hp -> Prop) -> Prop
def HK (X : Cx) (n : Nat) (es : List Expr) (t : TFV) : Prop := ∀ (pins : List (Addr × Obj)) (s : Shared) (σ : St) (H : Hp) (Q : Str -> Hp -> Prop) (out : Str),out.length <= n -> Inv X pins σ H s -> t σ H out Q ->
 wpAny (model X.prog X.w) X.A (joinParts out (evalEach es X.env)) (fun u s' => ∃ x tk H',u = .str x tk /\ Inv X pins σ H' s' /\ Q x H') X.xe s
def K0 : TFV:=fun _ H out Q => Q out H
def Ka (t1 : TF) (t2 : TFV) : TFV:=fun σ H out Q => t1 σ H fun x H1 => t2 σ H1 (out ++ x) Q
theorem ES (hn : n <= sizeLine:=by decide) : HK X n [] K0:=fun pins s σ H Q out ho I h => joinParts_nil ⟨out,_,H,rfl,I.tok _,h⟩ (Nat.le_trans ho hn)
theorem kQ {t1 : TF} {t2 : TFV} (h1 : PF X e t1) (h2 : HK X (n + 1000) es t2) (hn : n + 1000 <= sizeLine:=by decide) : HK X n (e :: es) (Ka t1 t2):=by
 intro pins s σ H Q out ho I h
 refine joinParts_cons (thn (h1 pins s σ H _ I h) fun u s1 ⟨x,tk,H1,hu,I1,hx,q⟩ => ?_)
 subst hu
 have hl : (out ++ x).length <= n + 1000:=by rw [strLen_append]; omega
 exact ⟨Nat.le_trans hl hn,h2 pins s1 σ H1 Q (out ++ x) hl I1 q⟩
def J4 (t : TFV) : TE:=fun σ H Q => t σ H Str.empty fun x H1 => Q (.str x) H1
theorem CK {t : TFV} (h : HK X 0 (v1 :: v2 :: rest) t) : PE X (.JoinedStr (v1 :: v2 :: rest) pos) (J4 t):=by
 intro pins s σ H Q I q
 exact JoinedStr_many (thn (h pins s σ H _ Str.empty (by decide) I q) fun u s1 ⟨x,tk,H1,hu,I1,q1⟩ => ⟨.str x,H1,I1,⟨tk,hu⟩,q1⟩)
end
theorem Az (x : Str) : Str.empty ++ x = x:=by
 show Str.mk (#[] ++ x.cps) = x
 rw [Array.empty_append]
end L2
set_option Elab.async false
set_option linter.all false
set_option maxRecDepth 100000
set_option maxHeartbeats 4000000
namespace L2
open PySem PySem.Spec PyProof.Rows
def bW (val : Nat -> Str) (i : Nat) : List Str:=((List.range i).map val).foldl step_dedup []
theorem nz (val : Nat -> Str) (i : Nat) : bW val (i + 1) = step_dedup (bW val i) (val i):=by
 unfold bW; rw [List.range_succ,List.map_append,List.foldl_append]; rfl
theorem Dj (s : List Str) (v : Str) : (step_dedup s v).length <= s.length + 1:=by
 unfold step_dedup
 split
 ·omega
 ·rw [List.length_append]; exact Nat.le_refl _
theorem hZ (val : Nat -> Str) : ∀ i,(bW val i).length <= i
 | 0 => Nat.le_refl _
 | i + 1 => by
  rw [nz]
  have:=hZ val i
  have:=Dj (bW val i) (val i)
  omega
theorem StrsAre.str_at : ∀ {vs : List Value} {ns : List Str},StrsAre vs ns -> ∀ (i : Nat) (v : Value),vs[i]? = some v -> ∃ t,v = .str (ns.getD i Str.empty) t
 | _,_,.nil,i,v,h => by simp at h
 | _,_,.cons y t r,0,v,h => ⟨t,(Option.some.inj h).symm⟩
 | _,_,.cons y t r,i + 1,v,h => by
  obtain ⟨t',e⟩:=StrsAre.str_at r i v (by simpa using h)
  exact ⟨t',by simpa using e⟩
theorem StrsAre.lengthS : ∀ {vs : List Value} {ns : List Str},StrsAre vs ns -> vs.length = ns.length
 | _,_,.nil => rfl
 | _,_,.cons _ _ r => by simp [StrsAre.lengthS r]
def leS (a b : Str) : Prop := ¬ b.cps.toList < a.cps.toList
theorem leS.trans {a b c : Str} (h : leS a b) (h' : leS b c) : leS a c:=List.not_lt.mpr (List.le_trans (List.not_lt.mp h) (List.not_lt.mp h'))
theorem zQ : ∀ (l : List Str) (p : Str),risingS p l = true -> (p :: l).Pairwise leS
 | [],p,_ => List.pairwise_singleton ..
 | x :: r,p,h => by
  have h' : (!ltCps x.cps.toList p.cps.toList && risingS x r) = true:=h
  obtain ⟨h1,h2⟩:=Bool.and_eq_true_iff.mp h'
  have px : leS p x:=by
   intro z
   rw [ltCps_eq,decide_eq_true z] at h1
   cases h1
  have ih:=zQ r x h2
  refine List.pairwise_cons.mpr ⟨fun y hy => ?_,ih⟩
  rcases List.mem_cons.mp hy with z | z
  ·rw [z]; exact px
  ·exact px.trans ((List.pairwise_cons.mp ih).1 y z)
theorem FN : ∀ (l : List Str),sortedS l = true -> l.Pairwise leS
 | [],_ => List.Pairwise.nil
 | x :: r,h => zQ r x h
theorem vn {prog : Program} {w : World} {A : Around} {E : Value -> Shared -> Prop} {s : Shared} {a : Addr} {vs : List Value} {ss : List Str} {n : Nat} {P : Fin -> Shared -> Prop} (ho : s.heap.get? a = some (seqObj "list" vs.toArray n)) (hS : StrsAre vs ss) (h64 : vs.length < 64)
  (h : ∀ (out : Array Value) (ss' : List Str),StrsAre out.toList ss' -> ss'.Perm ss -> ss'.Pairwise leS -> P (.done (.ret .none)) { s with heap:=sortedHeap s.heap a vs out }) : wpAny (model prog w) A (Builtin.«list.sort» ⟨[.ref a],[]⟩) P E s:=
 list_sort_treeK strKind_oneLt ho hS.keysOf (fun v₁ v₂ rest e => keyKind_strs (by rw [<- e]; exact hS)) h64 fun st' hp hs => by
  obtain ⟨ss',h1,h2,h3⟩:=sorted_out_str hS hp hs
  exact h _ ss' h1 h2 (FN _ h3)
def SetWS (P : Program) (w : World) (h : Heap) (a : Addr) (ns : List Str) : Prop:=
 ∃ o es ep t,h.get? a = some o /\ o.ExactSet /\ o.data = .set es ep t /\ ElemsOf (PySem.strKind P w) es.toList /\ (∀ e ∈ es.toList,∃ n u,e.2 = .str n u) /\ (es.toList.map fun e => strOf e.2).Perm ns /\ es.size < scanBound /\ t.fits es.size = true /\ TabOk t (!byT w)
theorem SetWS.keep {P : Program} {w : World} {h h' : Heap} {a : Addr} {ns : List Str} (x : SetWS P w h a ns) (k : ∀ o,h.get? a = some o -> h'.get? a = some o) : SetWS P w h' a ns:=by
 obtain ⟨o,es,ep,t,ho,r⟩:=x
 exact ⟨o,es,ep,t,k o ho,r⟩
section
variable {P : Program} {w : World} {A : Around} {E : Value -> Shared -> Prop} {s : Shared}
theorem ED {k n : Str} {u : Tok} : (PySem.strKind P w).is k (.str n u) = decide (k = n):=KeyKind.is_eq_decide (strKind_is P w n u) k
theorem E3 {h : Heap} {a : Addr} {o : Obj} {es es' : Array (Int × Value)} {ep : Nat} {t t' : SetTable} {ns : List Str} (ho : h.get? a = some o) (hex : o.ExactSet) (hd : o.data = .set es ep t) (hel : ElemsOf (PySem.strKind P w) es'.toList)
  (hi : ∀ e ∈ es'.toList,∃ n u,e.2 = .str n u) (hp : (es'.toList.map fun e => strOf e.2).Perm ns) (hb : es'.size < scanBound) (hf : t'.fits es'.size = true) (hk : TabOk t' (!byT w)) :
  (h.update a (Obj.putSet es' t')).get? a = some { o with data:=.set es' (ep + 1) t' } /\ SetWS P w (h.update a (Obj.putSet es' t')) a ns:=by
 have hg : (h.update a (Obj.putSet es' t')).get? a = some { o with data:=.set es' (ep + 1) t' }:=by
  have q:=Heap.get?_update_self (Obj.putSet es' t') ho (by rw [putSet_of es' t' hd]; rfl)
  rw [putSet_of es' t' hd] at q
  exact q
 exact ⟨hg,_,es',ep + 1,t',hg,hex,rfl,hel,hi,hp,hb,hf,hk⟩
theorem BU {g : Bool -> Sem Unit} (hg : ∀ (b : Bool) (s₁ : Shared) (Q' : Unit -> Shared -> Prop),Q' () s₁ -> wpAny (model P w) A (g b) Q' E s₁) {a : Addr} {o : Obj} {es es1 : Array (Int × Value)} {ep : Nat} {t t2 : SetTable} {ns : List Str} {R : Option Bool -> Shared -> Prop} {wd : Bool}
  (ho : s.heap.get? a = some o) (hex : o.ExactSet) (hd : o.data = .set es ep t) (hel : ElemsOf (PySem.strKind P w) es1.toList) (hi : ∀ e ∈ es1.toList,∃ n u,e.2 = .str n u) (hp : (es1.toList.map fun e => strOf e.2).Perm ns) (hb : es1.size < scanBound)
  (hf : t2.fits es1.size = true) (hk : TabOk t2 (!byT w)) (h : ∀ h',Heap.SameBut a s.heap h' -> SetWS P w h' a ns -> R (some true) { s with heap:=h' }) :
  wpAny (model P w) A (do
    storeSet a es1 t2
    if (!wd && t2.tooFull) = true then do
      g (relayAll t2 es1 (SetTable.grown es1.size)).2.2
      storeSet a (relayAll t2 es1 (SetTable.grown es1.size)).1 (relayAll t2 es1 (SetTable.grown es1.size)).2.1
      pure (some true)
     else pure (some true)) R E s:=by
 refine wpAny_bind (wpAny_storeSet_of ho hd ?_ (fits_of_scanBound hb))
 obtain ⟨ho1,hS1⟩:=E3 (P:=P) (w:=w) ho hex hd hel hi hp hb hf hk
 have sb1:=Heap.SameBut.update s.heap a (Obj.putSet es1 t2)
 split
 ·have rp:=relayAll_perm t2 es1 (SetTable.grown es1.size)
  have rf:=relayAll_fits t2 es1 (SetTable.grown es1.size)
  have rt:=Bv hk es1 (SetTable.grown es1.size)
  generalize relayAll t2 es1 (SetTable.grown es1.size) = Rl at rp rf rt ⊢
  obtain ⟨es2,t3,gave⟩:=Rl
  dsimp only at rp rf rt ⊢
  have sz : es2.size = es1.size:=by rw [<- Array.length_toList,rp.length_eq,Array.length_toList]
  have hb2 : es2.size < scanBound:=by rw [sz]; exact hb
  refine wpAny_bind (hg _ _ _ ?_)
  refine wpAny_bind (wpAny_storeSet_of ho1 rfl ?_ (fits_of_scanBound hb2))
  obtain ⟨_,hS2⟩:=E3 (P:=P) (w:=w) (ns:=ns) ho1 hex rfl (hel.perm rp) (fun e he => hi e (rp.mem_iff.mp he)) ((rp.map _).trans hp) hb2 rf rt
  exact wpAny_pure (h _ (sb1.trans (Heap.SameBut.update _ a _)) hS2)
 ·exact wpAny_pure (h _ sb1 hS1)
theorem CQ {a : Addr} {ns : List Str} {k : Str} {u : Tok} {Q : Bool -> Shared -> Prop} (hS : SetWS P w s.heap a ns) (hroom : ns.length + 1 < scanBound)
  (h : ∀ h' b,Heap.SameBut a s.heap h' -> SetWS P w h' a (step_dedup ns k) -> Q b { s with heap:=h' }) : wpAny (model P w) A (setAddHashed a (.str k u) ((PySem.strKind P w).hash k)) Q E s:=by
 obtain ⟨o,es,ep,t,ho,hex,hd,hel,hi,hp,hb,hf,hk⟩:=hS
 have hsz : es.size = ns.length:=by rw [<- hp.length_eq,List.length_map,Array.length_toList]
 have mem : ∀ z : Str,z ∈ ns ↔ ∃ e ∈ es.toList,(PySem.strKind P w).is z e.2 = true:=fun z => by
  rw [<- hp.mem_iff,List.mem_map]
  constructor
  ·rintro ⟨e,he,rfl⟩
   obtain ⟨n,v,e2⟩:=hi e he
   exact ⟨e,he,by rw [e2,ED]; simp [strOf]⟩
  ·rintro ⟨e,he,q⟩
   obtain ⟨n,v,e2⟩:=hi e he
   rw [e2,ED] at q
   exact ⟨e,he,by rw [e2]; exact (of_decide_eq_true q).symm⟩
 unfold setAddHashed setAddHashedIn
 refine wpAny_holding (wpAny_bind (wpAny_setState_of ho hd hf ?_))
 dsimp only
 rw [byScan_of (x:=.str k u) rfl hb hel]
 simp only [↓reduceIte]
 unfold setAddByScan
 refine wpAny_bind (wpAny_bind (wpAny_rule ?_))
 refine wpAny_bind (wpAny_setScan_of (strKind_is P w k u) ho hd hf hel ?_)
 cases hr : List.findIdx? (fun e => (PySem.strKind P w).is k e.2) es.toList with
 | some j =>
  dsimp only
  obtain ⟨hj,pj,_⟩:=List.findIdx?_eq_some_iff_getElem.mp hr
  have kin : k ∈ ns:=(mem k).mpr ⟨es.toList[j],List.getElem_mem hj,pj⟩
  refine wpAny_pure (wpAny_pure ?_)
  have q:=h s.heap false (Heap.SameBut.refl a s.heap) ⟨o,es,ep,t,ho,hex,hd,hel,hi,by
   unfold step_dedup
   rw [if_pos (by simpa using kin)]
   exact hp,hb,hf,hk⟩
  cases s
  exact q
 | none =>
  dsimp only
  have nin : k ∉ ns:=fun z => by
   obtain ⟨e,he,q⟩:=(mem k).mp z
   have:=List.findIdx?_eq_none_iff.mp hr e he
   rw [q] at this
   cases this
  have gw : ∀ (b : Bool) (s₁ : Shared) (Q' : Unit -> Shared -> Prop),Q' () s₁ -> wpAny (model P w) A (match b with | true => rule "set.scan.the-table-gave-way" | false => pure ()) Q' E s₁:=fun b s₁ Q' q => by
   cases b
   ·exact wpAny_pure q
   ·exact wpAny_rule q
  have lp:=layNew_perm t es ((PySem.strKind P w).hash k) (.str k u)
  have lf:=layNew_fits t es ((PySem.strKind P w).hash k) (.str k u)
  have lt:=Dv hk es ((PySem.strKind P w).hash k) (.str k u)
  generalize layNew t es ((PySem.strKind P w).hash k) (.str k u) = L at lp lf lt ⊢
  obtain ⟨es1,t1,wd,gave⟩:=L
  dsimp only at lp lf lt ⊢
  rw [Array.toList_push] at lp
  have hel1 : ElemsOf (PySem.strKind P w) es1.toList:=(hel.push (strKind_is P w k u) rfl).perm lp
  have hi1 : ∀ e ∈ es1.toList,∃ n v,e.2 = .str n v:=fun e he => by
   rcases List.mem_append.mp (lp.mem_iff.mp he) with z | z
   ·exact hi e z
   ·rw [List.mem_singleton.mp z]; exact ⟨k,u,rfl⟩
  have hp1 : (es1.toList.map fun e => strOf e.2).Perm (step_dedup ns k):=by
   unfold step_dedup
   rw [if_neg (by simpa using nin)]
   refine (lp.map _).trans ?_
   rw [List.map_append]
   exact hp.append (List.Perm.refl _)
  have hb1 : es1.size < scanBound:=by rw [<- Array.length_toList,lp.length_eq,List.length_append,Array.length_toList,hsz]; exact hroom
  refine wpAny_bind (gw _ _ _ ?_)
  split
  ·refine wpAny_bind ?_
   rw [hashByValue_scannable 8 (x:=.str k u) rfl]
   refine wpAny_pure ?_
   exact BU (fun b s₁ Q' q => gw b s₁ Q' q) ho hex hd hel1 hi1 hp1 hb1 (by split <;> first | exact lf | exact SetTable.fits_plain_off lf) (by split <;> first | exact lt | exact ⟨lt.1,lt.2,lt.3⟩) fun h' sb S => wpAny_pure (h h' true sb S)
  ·refine wpAny_bind (wpAny_pure ?_)
   simp only [↓reduceIte]
   exact BU (fun b s₁ Q' q => gw b s₁ Q' q) ho hex hd hel1 hi1 hp1 hb1 lf lt fun h' sb S => wpAny_pure (h h' true sb S)
end
section
variable {P : Program} {w : World} {A : Around} {E : Value -> Shared -> Prop} {R : Result -> Shared -> Prop} {I : Addr} {fp wr : List Addr} {G : Array GenState -> Array GenState -> Prop} {n : Nat} {Pz : Nat -> Value -> Prop} {St : Nat -> Shared -> Prop}
theorem zp (W : WalksS P w A.in1 I fp wr G n Pz St) (S : Addr) (hSf : S ∉ fp) (val : Nat -> Str) (hval : ∀ i v,Pz i v -> ∃ t,v = .str (val i) t) (hb : n + 1 < scanBound) :
  ∀ (k i : Nat) (s : Shared),n - i = k -> i <= n -> St i s -> SetWS P w s.heap S (bW val i) -> (∀ s',Moved (S :: wr) G s s' -> SetWS P w s'.heap S (bW val n) -> R (.ok (.ret .none)) s') ->
   codeAny (model P w) A (.builtin "set.update.loop" ⟨[.ref S,.ref I],[]⟩) R s:=by
 have nw : S ∉ wr:=fun z => hSf (W.sub _ z)
 have up : ∀ b ∈ wr,b ∈ S :: wr:=fun b z => List.mem_cons_of_mem _ z
 intro k
 induction k with
 | zero =>
  intro i s hk hi hst hS hR
  obtain rfl : i = n:=by omega
  refine codeAny_builtin F.entry_set_update_loop ?_
  rw [Around.under_plainId F.plain_set_update_loop _]
  refine wpAny_bind (m:=pyNext (.ref I)) (W.done s _ _ hst fun s' hm => ?_)
  exact wpAny_pure (hR s' (hm.mono up) (hS.keep fun o q => hm.heap S o nw q))
 | succ k ih =>
  intro i s hk hi hst hS hR
  have hlt : i < n:=by omega
  refine codeAny_builtin F.entry_set_update_loop ?_
  rw [Around.under_plainId F.plain_set_update_loop _]
  refine wpAny_bind (m:=pyNext (.ref I)) (W.item i s _ _ hlt hst fun v s' hP hst' hm => ?_)
  obtain ⟨t,rfl⟩:=hval i v hP
  have hS' : SetWS P w s'.heap S (bW val i):=hS.keep fun o q => hm.heap S o nw q
  refine wpAny_bind (m:=holding [Value.str (val i) t] (setAdd S (.str (val i) t))) (wpAny_holding ?_)
  unfold setAdd
  refine wpAny_holding (wpAny_bind ((PySem.strKind P w).pyHash (k:=val i) (strKind_is _ _ _ _) ?_))
  have room : (bW val i).length + 1 < scanBound:=by
   have:=hZ val i
   omega
  refine CQ (s:={ s' with toks:=s'.toks + 1 }) hS' room fun h' b sb S2 => ?_
  rw [<- nz] at S2
  refine wpAny_pure ⟨plainId_quiet F.plain_set_update_loop _,ih (i + 1) _ (by omega) hlt (W.frame _ s' _ _ hst' (Nat.le_succ _) fun b hb o e => ?_) S2 fun s2 m2 S3 => ?_⟩
  ·rw [sb.2 b (fun z : b = S => hSf (z ▸ hb))]; exact e
  ·refine hR s2 (Moved.trans W.gtrans ((hm.mono up).then_heap (Nat.le_succ _) fun b o hb e => ?_) m2) S3
   rw [sb.2 b (fun z : b = S => hb (by rw [z]; exact List.mem_cons_self))]; exact e
end
section
variable {P : Program} {w : World} {A : Around} {E : Value -> Shared -> Prop} {s : Shared}
theorem Ks (h : Heap) (hg : h.get? a = some (dz w)) : SetWS P w h a []:=
 ⟨_,#[],0,_,hg,⟨rfl,rfl,rfl⟩,rfl,(fun e he => by cases he),(fun e he => by cases he),List.Perm.refl _,by decide,rfl,⟨List.Pairwise.nil,rfl,rfl⟩⟩
set_option maxHeartbeats 3200000 in
theorem Dd {l : Addr} {items : Array Value} {ns : List Str} {Q : Value -> Shared -> Prop} (hh : A.handled = none) (hl : s.heap.IsList l items) (hi : StrsAre items.toList ns) (hb : items.size + 1 < scanBound)
  (h : ∀ (h' : Heap) (tk : Nat),SetWS P w h' s.heap.objs.size (bW (fun i => ns.getD i Str.empty) items.size) -> (∀ b o,b < s.heap.objs.size -> s.heap.get? b = some o -> h'.get? b = some o) -> Q (.ref s.heap.objs.size) { s with heap:=h',toks:=tk }) :
  wpAny (model P w) A (call (.type "set") [.ref l]) Q E s:=by
 obtain ⟨c,tl,hmro⟩:=F.called_set.mro
 have hmade:=F.called_set.made
 have hsub:=F.called_set.sub
 refine wpAny_call (codeAny_of_tree ?_)
 show wpAny _ _ (callAny (.type "set") _) _ _ _
 refine wpAny_pure ⟨Code.quiet_builtin _ (by decide +kernel),codeAny_builtin F.entry_type_call ?_⟩
 rw [Around.under_plain (weight_type_call_type "set" [.ref l] []) rfl]
 have h1:=F.called_set.notType
 have h2:=F.called_set.canCreate
 have hct:=F.typeCall_set_1 (.ref l)
 repeat (any_goals (first | assumption | wp_step))
 refine codeAny_mono (Fd (.ref l) (E:=E) (Q₁:=fun obj s₁ => obj = .ref s.heap.objs.size /\ s₁ = { s with heap:=s.heap.push (dz w) }) ⟨rfl,rfl⟩) fun r s₁ hr => ?_
 cases r with
 | error e => exact hr
 | ok fl =>
  cases fl with
  | ret obj =>
   obtain ⟨rfl,rfl⟩:=hr
   have hS : (s.heap.push (dz w)).get? s.heap.objs.size = some (dz w):=Heap.get?_push_size _ rfl
   have hT : Shared.TypeIs { s with heap:=s.heap.push (dz w) } (.ref s.heap.objs.size) "set" := ⟨_,hS,rfl⟩
   have hli:=F.called_set.init.lookup
   have hbi:=F.called_set.init.bind (.ref s.heap.objs.size)
   repeat (any_goals (first | assumption | wp_step))
   refine codeAny_mono (codeAny_call_builtin (R:=wants (fun r s₂ => r = .none /\ ∃ h' tk,s₂ = { s with heap:=h',toks:=tk } /\ SetWS P w h' s.heap.objs.size (bW (fun i => ns.getD i Str.empty) items.size) /\
     (∀ b o,b < s.heap.objs.size -> s.heap.get? b = some o -> h'.get? b = some o)) E) F.called_set.init.plain F.entry_set_init (check_set_init_1 hT ?_)) fun r₂ s₂ hr₂ => ?_
   ·obtain ⟨ol,hol,hcl,nl,hdl⟩:=hl
    obtain ⟨ocls,odict,odata,oslots⟩:=ol
    simp only at hcl hdl
    subst hcl; subst hdl
    have hol' : (s.heap.push (dz w)).get? l = some { cls:=.type "list",dict:=odict,data:=.seq items nl,slots:=oslots }:=Heap.get?_push_of_some _ hol
    have hsls:=F.sub_list_set
    have hslf:=F.sub_list_frozenset
    have hl1 : (s.heap.push (dz w)).IsList l items:=⟨_,hol',rfl,nl,rfl⟩
    have hne : (Value.type "list" == Value.type "dict") = false:=by decide
    have hS0 : (s.heap.push (dz w)).get? s.heap.objs.size = some { cls:=.type "set",dict:=none,data:=.set #[] 0 (.fresh 0 0 (!byT w)) }:=hS
    unfold Builtin.«set.__init__» noKeywords Builtin.Frozenset.updateFrom
    generalize hPI : pyIter = PI
    wp_walk
    subst hPI
    refine wpAny_pyIter_list hl1 (wpAny_bind (wpAny_runValue ?_))
    have hlS : l < s.heap.objs.size:=Heap.lt_size hol
    have hh3 : A.in1.in1.in1.handled = none:=by simp [hh]
    have neI : l ≠ (s.heap.push (dz w)).objs.size:=by rw [Heap.size_push]; exact Nat.ne_of_lt (Nat.lt_succ_of_lt hlS)
    have nS : s.heap.objs.size ∉ [(s.heap.push (dz w)).objs.size,l]:=by
     rw [Heap.size_push]
     simp only [List.mem_cons,List.mem_singleton,List.not_mem_nil,or_false,not_or]
     exact ⟨Nat.ne_of_lt (Nat.lt_succ_self _),Nat.ne_of_gt hlS⟩
    refine zp ((Walks.list hh3 _ l neI items).toS) s.heap.objs.size nS (fun i => ns.getD i Str.empty) (fun i v hv => StrsAre.str_at hi i v (by rw [Array.getElem?_toList]; exact hv)) hb (items.size - 0) 0 _ (by omega) (Nat.zero_le _)
     ⟨⟨_,Heap.get?_push_size _ rfl,rfl,rfl⟩,(hl1.push _)⟩ ?_ ?_
    ·exact Ks (w:=w) _ (Heap.get?_push_of_some _ hS)
    ·rintro ⟨h',g',d',tk',os'⟩ hm hS'
     have eg : g' = s.gens:=hm.gens
     have ed : d' = s.drawn:=hm.drawn
     have eo : os' = s.os:=hm.os
     subst eg ed eo
     refine wpAny_pure ?_
     show wpAny _ _ (ret Value.none) _ _ _
     refine wpAny_pure ⟨rfl,h',tk',rfl,hS',fun b o hb e => ?_⟩
     refine hm.heap b o ?_ (Heap.get?_push_of_some _ (Heap.get?_push_of_some _ e))
     rw [Heap.size_push]
     simp only [List.mem_cons,List.mem_singleton,List.not_mem_nil,or_false,not_or]
     exact ⟨Nat.ne_of_lt hb,Nat.ne_of_lt (Nat.lt_succ_of_lt hb)⟩
   ·cases r₂ with
    | error e => exact hr₂
    | ok fl₂ =>
     cases fl₂ with
     | ret r =>
      obtain ⟨rfl,h',tk,rfl,hS',hk'⟩:=hr₂
      repeat (any_goals (first | assumption | wp_step))
      exact h _ _ hS' hk'
     | next => exact hr₂
     | brk => exact hr₂
     | cont => exact hr₂
  | next => exact hr
  | brk => exact hr
  | cont => exact hr
end
section
variable {P : Program} {w : World} {A : Around} {E : Value -> Shared -> Prop} {s : Shared} {S : Addr} {ns : List Str}
theorem Fe {Q : List Value -> Shared -> Prop} (hh : A.handled = none) (hS : SetWS P w s.heap S ns)
  (hQ : ∀ (vs : List Value) (ms : List Str) (h' : Heap) (d' : Drawn) (tk : Nat),StrsAre vs ms -> ms.Perm ns -> (∀ b u,s.heap.get? b = some u -> h'.get? b = some u) -> s.heap.objs.size <= h'.objs.size -> Q vs { s with heap:=h',drawn:=d',toks:=tk }) :
  wpAny (model P w) A (collect (.ref S)) Q E s:=by
 obtain ⟨o,es,ep,t,ho,hex,hd,hel,hi,hp,hb,hf,hk⟩:=hS
 have hSl : S < s.heap.objs.size:=Heap.lt_size ho
 unfold collect
 refine wpAny_bind (wpAny_runValue (codeAny_builtin F.entry_proto_collect ?_))
 rw [Around.under_plainId F.plain_proto_collect _]
 show wpAny _ A.in1 (newList [] >>= fun l => again (.builtin "list.__iadd__" ⟨[l,.ref S],[]⟩)) _ _ s
 refine wpAny_bind (wpAny_newObj_type ?_)
 refine wpAny_pure ⟨plainId_quiet F.plain_list_iadd _,codeAny_builtin F.entry_list_iadd ?_⟩
 rw [Around.under_plainId F.plain_list_iadd _]
 generalize hN : ({ cls:=.type "list",data:=.seq ([] : List Value).toArray } : Obj) = oN
 have ho1 : (s.heap.push oN).get? S = some o:=Heap.get?_push_of_some _ ho
 have hN1 : (s.heap.push oN).get? s.heap.objs.size = some oN:=Heap.get?_push_size _ (by rw [<- hN]; rfl)
 have ne : s.heap.objs.size ≠ S:=Nat.ne_of_gt hSl
 have hT : (⟨s.heap.push oN,s.gens,s.drawn,s.toks,s.os⟩ : Shared).TypeIs (.ref S) "set" := ⟨o,ho1,hex.1⟩
 show wpAny _ A.in1 (Builtin.List.listExtendWith (.ref s.heap.objs.size) (.ref S) (.ref s.heap.objs.size)) _ _ ⟨s.heap.push oN,s.gens,s.drawn,s.toks,s.os⟩
 unfold Builtin.List.listExtendWith
 refine wpAny_bind (wpAny_typeOf hT ?_)
 rw [if_neg (by
  have h1 : Builtin.List.listSameRef (.ref s.heap.objs.size) (.ref S) = false:=by simp [Builtin.List.listSameRef,ne]
  rw [h1]
  decide)]
 refine wpAny_bind (Kp ho1 hex hd hb hf hk fun h1 d1 I T L pL st keep hI1 hI2 hTI hT2 => ?_)
 have ho2 : h1.get? S = some o:=keep S o ho1
 have hT2' : (⟨h1,s.gens,d1,s.toks,s.os⟩ : Shared).TypeIs (.ref S) "set" := ⟨o,ho2,hex.1⟩
 refine wpAny_bind (wpAny_holding ?_)
 unfold Builtin.List.listLengthHint
 refine wpAny_bind (wpAny_specialOf hT2' F.slot_set_len.lookup ?_)
 (generalize hid : ("set.__len__" : String) = id0; wp_delta; rw [show splitId id0 = some ("set","__len__") from by subst hid; decide +kernel]; subst hid)
 refine wpAny_bind (wpAny_isInstance (b:=true) hT2' sub_set_self ?_)
 show wpAny _ _ (typeOf (.ref S) >>= _) _ _ _
 refine wpAny_bind (wpAny_typeOf hT2' (wpAny_pure ?_))
 show wpAny _ A.in1 (rule "list.extend.makes-room" >>= fun _ => Builtin.List.listTouch (.ref s.heap.objs.size) >>= fun _ =>
  again (.builtin "list.extend.loop" ⟨[.ref s.heap.objs.size,.ref I,.ref s.heap.objs.size],[]⟩)) _ _ _
 refine wpAny_bind (wpAny_rule ?_)
 have hN2 : h1.get? s.heap.objs.size = some { cls:=.type "list",data:=.seq ([] : List Value).toArray }:=by rw [hN]; exact keep _ _ hN1
 refine wpAny_bind ?_
 show wpAny _ A.in1 (updateSeq s.heap.objs.size (·.push .none) >>= fun _ => updateSeq s.heap.objs.size (·.pop)) _ _ _
 refine wpAny_bind (wpAny_updateSeq hN2 rfl ?_)
 have hN3:=Heap.get?_update_self (Obj.mapSeq (·.push Value.none)) hN2 rfl
 refine wpAny_updateSeq hN3 rfl ?_
 have hN4:=Heap.get?_update_self (Obj.mapSeq (·.pop)) hN3 rfl
 have oth : ∀ b u,b ≠ s.heap.objs.size -> h1.get? b = some u -> ((h1.update s.heap.objs.size (Obj.mapSeq (·.push Value.none))).update s.heap.objs.size (Obj.mapSeq (·.pop))).get? b = some u:=
  fun b u hb q => (Heap.get?_update_other _ _ (Ne.symm hb)).trans ((Heap.get?_update_other _ _ (Ne.symm hb)).trans q)
 have lL : L.length = es.size:=by rw [pL.length_eq,List.length_map,Array.length_toList]
 have nI : s.heap.objs.size ≠ I:=by
  rw [Heap.size_push] at hI1
  exact Nat.ne_of_lt hI1
 have nT : s.heap.objs.size ≠ T:=by
  rcases hT2 with z | z
  ·rw [z]; exact ne
  ·rw [Heap.size_push] at z
   exact Nat.ne_of_lt z
 have SI : S ≠ I:=by
  rw [Heap.size_push] at hI1
  exact Nat.ne_of_lt (Nat.lt_of_lt_of_le hSl (Nat.le_trans (Nat.le_succ _) hI1))
 have W : WalksS P w A.in1 I [I,S,T] [I] (fun a b => b = a) es.size (fun i v => v = L.getD i .none) (fun i s => SetSt w es ep t S T I L i s.heap):=K3 (A:=A.in1) (by simp [hh]) hf hk lL hTI SI
 have nfp : s.heap.objs.size ∉ [I,S,T]:=by
  simp only [List.mem_cons,List.not_mem_nil,or_false,not_or]
  exact ⟨nI,ne,nT⟩
 refine wpAny_pure ⟨plainId_quiet F.plain_extend_loop _,codeAny_extend_loopS W (fits_of_scanBound hb) _ nfp _ es.size 0 _ _ _ rfl (Nat.zero_le _)
  (W.frame 0 ⟨h1,s.gens,d1,s.toks,s.os⟩ _ s.toks st (Nat.le_refl _) fun b hb' u q => oth b u (fun z => nfp (z ▸ hb')) q) hN4 (ItemsOf.nil _) fun s' acc' c' hm hS' hacc => ?_⟩
 show wpAny _ A (load s.heap.objs.size >>= _) _ _ s'
 refine wpAny_bind (wpAny_load hS' (wpAny_pure ?_))
 obtain ⟨h',g',d',tk',os'⟩:=s'
 have eg : g' = s.gens:=hm.gens
 have eo : os' = s.os:=hm.os
 subst eg eo
 have eacc : acc'.toList = L:=by
  refine List.ext_getElem (by rw [Array.length_toList,hacc.1,lL]) fun i h1' h2' => ?_
  have:=hacc.2 i acc'[i] (by simp at h1'; simp [h1'])
  simp [this,h2']
 rw [eacc]
 have allI : ∀ vs : List Value,(∀ v ∈ vs,∃ n u,v = Value.str n u) -> StrsAre vs (vs.map strOf):=by
  intro vs
  induction vs with
  | nil => intro _; exact .nil
  | cons v r ih =>
   intro al
   obtain ⟨n,u,rfl⟩:=al v List.mem_cons_self
   exact .cons n u (ih fun x hx => al x (List.mem_cons_of_mem _ hx))
 refine hQ L (L.map strOf) h' d' tk' (allI L fun v hv => ?_) ?_ (fun b u q => ?_) (Nat.le_of_lt (Heap.lt_size hS'))
 ·obtain ⟨e,he,rfl⟩:=List.mem_map.mp (pL.mem_iff.mp hv)
  exact hi e he
 ·refine (pL.map _).trans ?_
  rw [List.map_map]
  exact hp
 ·have hbn : b ≠ s.heap.objs.size:=Nat.ne_of_lt (Heap.lt_size q)
  refine hm.heap b u ?_ (oth b u hbn (keep b u (Heap.get?_push_of_some _ q)))
  simp only [List.mem_cons,List.not_mem_nil,or_false,not_or]
  refine ⟨hbn,Nat.ne_of_lt (Nat.lt_of_lt_of_le (Heap.lt_size q) ?_)⟩
  rw [Heap.size_push] at hI1
  exact Nat.le_trans (Nat.le_succ _) hI1
theorem Hl {Q : Value -> Shared -> Prop} (hh : A.handled = none) (hS : SetWS P w s.heap S ns) (h64 : ns.length < 64)
  (h : ∀ (l : Addr) (out : List Value) (ms : List Str) (e : Nat) (h' : Heap) (d' : Drawn) (tk : Nat),StrsAre out ms -> ms.Perm ns -> ms.Pairwise leS -> s.heap.objs.size <= l -> h'.get? l = some (seqObj "list" out.toArray e) -> (∀ b u,s.heap.get? b = some u -> h'.get? b = some u) ->
   Q (.ref l) { s with heap:=h',drawn:=d',toks:=tk }) : wpAny (model P w) A (call (.builtin "sorted") [.ref S]) Q E s:=by
 refine Calls.call_function_entry kind_sorted plain_sorted entry_sorted (args_sorted1 _) ?_
 unfold Builtin.«sorted»
 refine wpAny_bind (m:=checkCount "sorted" 1 1 _) (wpAny_pure ?_)
 refine wpAny_bind (Fe (by simp [hh]) hS fun vs ms h1 d1 tk1 hI hp keep hsz1 => ?_)
 have l64 : vs.length < 64:=by
  have e1 : vs.length = ms.length:=(StrsAre.lengthS hI)
  have e2:=hp.length_eq
  omega
 refine wpAny_bind (wpAny_newList (hsz:=Nat.le_trans (Nat.le_of_lt l64) (by decide)) ?_)
 have hoL : (h1.push (seqObj "list" vs.toArray 0)).get? h1.objs.size = some (seqObj "list" vs.toArray 0):=Heap.get?_push_size _ rfl
 refine wpAny_bind (wpAny_holding (wpAny_call_entry slot_list_sort ⟨_,hoL,rfl⟩ entry_list_sort (vn hoL hI l64 fun out ns' a1 a2 a3 => ⟨_,rfl,?_⟩) (args_list_sort _)))
 obtain ⟨e,he⟩:=sortedHeap_at (vs:=vs) (out:=out) hoL
 refine wpAny_pure ⟨_,rfl,?_⟩
 refine h h1.objs.size out.toList ns' e _ d1 tk1 a1 (a2.trans hp) a3 ?_ (by simpa using he) fun b u q => ?_
 ·exact hsz1
 ·have q1:=keep b u q
  have lt:=Heap.lt_size q1
  rw [sortedHeap_old (Nat.ne_of_lt lt) (by rw [Heap.size_push]; exact Nat.lt_succ_of_lt lt)]
  exact Heap.get?_push_of_some _ q1
end
end L2
set_option Elab.async false
set_option linter.all false
set_option maxRecDepth 100000
set_option maxHeartbeats 4000000
namespace L2
open PySem PySem.Spec PyProof.Rows
abbrev lg (P : Program) (w : World) (S : Addr) (ns : List Str) : HO:=.ext fun h => SetWS P w h S ns
def fR (ns : List Str) : List Str:=ns.foldl step_dedup []
theorem xa (ns : List Str) : bW (fun i => ns.getD i Str.empty) ns.length = fR ns:=by
 unfold bW fR
 congr 1
 refine List.ext_getElem (by simp) fun i h1 h2 => ?_
 simp [List.getD,h2]
theorem Dk {s : List Str} {v k : Str} : k ∈ step_dedup s v ↔ k ∈ s \/ k = v:=by
 unfold step_dedup
 split
 ·rename_i h
  have hv : v ∈ s:=by simpa using h
  exact ⟨.inl,fun z => z.elim id fun e => e ▸ hv⟩
 ·simp
theorem Ax {s : List Str} {v : Str} (h : s.Nodup) : (step_dedup s v).Nodup:=by
 unfold step_dedup
 split
 ·exact h
 ·rename_i c
  have hv : v ∉ s:=by simpa using c
  exact List.nodup_append.mpr ⟨h,by simp,fun a ha b hb e => hv (by rw [<- List.mem_singleton.mp hb,<- e]; exact ha)⟩
theorem rS : ∀ (ns s : List Str) (k : Str),k ∈ ns.foldl step_dedup s ↔ k ∈ s \/ k ∈ ns
 | [],s,k => by simp
 | n :: r,s,k => by
  rw [List.foldl_cons,rS r,Dk,List.mem_cons]
  constructor
  ·rintro ((h | h) | h)
   ·exact .inl h
   ·exact .inr (.inl h)
   ·exact .inr (.inr h)
  ·rintro (h | h | h)
   ·exact .inl (.inl h)
   ·exact .inl (.inr h)
   ·exact .inr h
theorem once_memS {ns : List Str} {k : Str} : k ∈ fR ns ↔ k ∈ ns:=by
 unfold fR
 rw [rS]
 simp
theorem nO : ∀ (ns s : List Str),s.Nodup -> (ns.foldl step_dedup s).Nodup
 | [],s,h => h
 | n :: r,s,h => nO r _ (Ax h)
theorem CI (ns : List Str) : (fR ns).Nodup:=nO ns [] List.Pairwise.nil
theorem rR : ∀ (ns s : List Str),(ns.foldl step_dedup s).length <= s.length + ns.length
 | [],s => Nat.le_refl _
 | n :: r,s => by
  refine Nat.le_trans (rR r _) ?_
  have : (step_dedup s n).length <= s.length + 1:=by
   unfold step_dedup
   split
   ·exact Nat.le_succ _
   ·rw [List.length_append]; exact Nat.le_refl _
  rw [List.length_cons]
  omega
theorem kO (ns : List Str) : (fR ns).length <= ns.length:=by
 have q:=rR ns []
 unfold fR
 simpa using q
section
variable {X : Cx}
theorem iX (hc : X.calm = true) : fX X (.type "set") (fun xs H Q => ∃ (a : Addr) (ns : List Str),xs = [.ref a] /\ H a = some (.lst (ns.map V.str)) /\ ns.length < 4000 /\ ∀ S,H S = none -> Q (.ref S) (upd H S (lg X.prog X.w S (fR ns)))):=by
 intro pins s σ H xs us Q I r h
 obtain ⟨a,ns,rfl,ha,hz,q⟩:=h
 obtain ⟨u,rfl,rx⟩:=vals1 r
 cases rx
 obtain ⟨_,its,n,rv,hl,e⟩:=I.lstM ha
 have hln : its.length = ns.length:=by rw [<- hl,List.length_map]
 refine Dd (I.ok.hd hc) ⟨_,e,rfl,n,rfl⟩ (ns:=ns) (by simpa using yl rv) (by simp only [List.size_toArray]; unfold scanBound; omega) fun h' tk hS keep => ?_
 have k2 : ∀ b o,s.heap.get? b = some o -> h'.get? b = some o:=fun b o z => keep b o (Heap.lt_size z) z
 have hS' : SetWS X.prog X.w h' s.heap.objs.size (fR ns):=by
  simp only [List.size_toArray] at hS
  rw [hln,xa] at hS
  exact hS
 refine ⟨.ref s.heap.objs.size,_,I.laid (o:=lg X.prog X.w s.heap.objs.size (fR ns)) (t' := tk) k2 (Nat.le_refl _) (show SetWS X.prog X.w h' s.heap.objs.size (fR ns) /\ (∃ o,h'.get? s.heap.objs.size = some o) /\ ∀ h1 h2 : Heap,SetWS X.prog X.w h1 s.heap.objs.size (fR ns) -> (∀ o,h1.get? s.heap.objs.size = some o -> h2.get? s.heap.objs.size = some o) -> SetWS X.prog X.w h2 s.heap.objs.size (fR ns) from ⟨hS',?_,fun h1 h2 p kp => p.keep kp⟩),rfl,q _ (I.hok.fresh (Nat.le_refl _))⟩
 obtain ⟨o,es,ep,t,ho,_⟩:=hS'
 exact ⟨o,ho⟩
theorem dU (hc : X.calm = true) : fX X (.builtin "sorted") (fun xs H Q => ∃ (S : Addr) (ns : List Str),xs = [.ref S] /\ H S = some (lg X.prog X.w S ns) /\ ns.length < 64 /\
  ∀ (l : Addr) (ms : List Str),H l = none -> ms.Perm ns -> ms.Pairwise leS -> Q (.ref l) (upd H l (.lst (ms.map V.str)))):=by
 intro pins s σ H xs us Q I r h
 obtain ⟨S,ns,rfl,hS,h64,q⟩:=h
 obtain ⟨u,rfl,rx⟩:=vals1 r
 cases rx
 obtain ⟨p,_,_⟩:=(show ObjOk X.prog X.w H s.heap S (lg X.prog X.w S ns) from I.hok S _ hS)
 refine Hl (I.ok.hd hc) p h64 fun l out ms e h' d' tk hI hp hs hle hg keep => ?_
 have I1 : Inv X pins σ (upd H l (.lst (ms.map V.str))) { s with heap:=h',toks:=tk }:=I.laid (t' := tk) keep hle ⟨by
  rw [List.length_map,hp.length_eq]
  exact Nat.le_trans (Nat.le_of_lt h64) (by decide),out,e,C0 hI,hg⟩
 exact ⟨.ref l,_,⟨I1.ok,I1.os,I1.bare,I1.base,I1.loc,I1.cell,I1.free,I1.freeC,I1.pin,I1.hok,I1.len⟩,rfl,q l ms (I.hok.fresh hle) hp hs⟩
end
end L2
set_option Elab.async false
set_option linter.all false
set_option maxRecDepth 100000
set_option maxHeartbeats 4000000
namespace L2
open PySem PySem.Spec PyProof.Rows
abbrev atT (z : Str) (i : Nat) : List Nat:=z.cps.toList.drop i
def aO (l : List Nat) : Str:=⟨l.toArray⟩
theorem kT (l : List Nat) : (aO l).cps.toList = l:=rfl
theorem mj (z : Str) : aO z.cps.toList = z:=rfl
theorem str_inj {a b : Str} (h : a.cps.toList = b.cps.toList) : a = b:=by rw [<- mj a,<- mj b,h]
theorem aj (a b : Str) : (a ++ b).cps.toList = a.cps.toList ++ b.cps.toList:=by
 show (a.cps ++ b.cps).toList = _
 rw [Array.toList_append]
theorem du (a : Str) : a.length = a.cps.toList.length:=rfl
theorem FP (z y : Str) (i : Nat) (h : i <= z.length) : (fromIndex z.length (i : Int) + y.length <= z.length && Builtin.Str.subAt z y (fromIndex z.length (i : Int))) = y.cps.toList.isPrefixOf (atT z i):=by
 have e : fromIndex z.length (i : Int) = i:=by
  unfold fromIndex
  rw [if_neg (by omega)]
  omega
 rw [e]
 have hz : z.length = z.cps.toList.length:=rfl
 have hy : y.length = y.cps.toList.length:=rfl
 rw [Bool.eq_iff_iff,Bool.and_eq_true,decide_eq_true_eq,List.isPrefixOf_iff_prefix]
 unfold Builtin.Str.subAt
 rw [beq_iff_eq]
 have ex : (z.cps.extract i (i + y.length)).toList = (atT z i).take y.length:=by
  rw [Array.toList_extract]
  unfold atT
  rw [List.extract_eq_drop_take]
  congr 1
  omega
 constructor
 ·rintro ⟨h1,h2⟩
  rw [List.prefix_iff_eq_take,<- hy,<- ex,h2]
 ·intro h1
  have l:=h1.length_le
  rw [List.length_drop] at l
  refine ⟨by omega,?_⟩
  have:=List.prefix_iff_eq_take.mp h1
  rw [<- hy,<- ex] at this
  exact (Array.toList_inj.mp this).symm
section
variable {X : Cx}
def IH : V -> List V -> Hp -> VK -> Prop:=fun x vs H Q => ∃ (z y : Str) (i : Nat),x = .str z /\ vs = [.str y,.int (i : Int)] /\ i <= z.length /\ Q (.bl (y.cps.toList.isPrefixOf (atT z i))) H
theorem Fx : MtM X "str.startswith" IH:=by
 intro pins s σ H x vs v us Q I rx rv h
 obtain ⟨z,y,i,rfl,rfl,hi,q⟩:=h
 obtain ⟨t,rfl⟩:=rx
 obtain ⟨u1,u2,rfl,⟨t1,rfl⟩,⟨t2,rfl⟩⟩:=vals2 rv
 refine call_gives F.slot_str_startswith (typeIs_str _ _ _) F.entry_str_startswith (F.args_str_startswith_3 _ _ _) (gives_str_startswith_from z y i t t1 t2) ?_
 rw [FP z y i hi]
 exact ⟨.bl _,H,I,rfl,q⟩
theorem oq : OpR X (compareOp .LtE) (fun x y H Q => ∃ i j,x = .str i /\ y = .str j /\ Q (.bl (!decide (j.cps.toList < i.cps.toList))) H):=by
 intro pins s σ H x y v u Q I rx ry h
 obtain ⟨i,j,rfl,rfl,q⟩:=h
 obtain ⟨t,rfl⟩:=rx
 obtain ⟨t',rfl⟩:=ry
 exact PySem.P.le_str (bp I q rfl)
def Lm : V -> Option Int -> Option Int -> Hp -> VK -> Prop:=fun x lo hi H Q => ∃ (z : Str) (i j : Nat),x = .str z /\ lo = some (i : Int) /\ hi = some (j : Int) /\ i <= j /\ j <= z.length /\ z.length <= sizeLine /\ Q (.str (aO ((atT z i).take (j - i)))) H
theorem JV : SlR X Lm:=by
 intro pins s σ H x v vl vu lo hi sl Q I rx hs pl pu h
 obtain ⟨z,i,j,rfl,rfl,rfl,hij,hj,hz,q⟩:=h
 obtain ⟨t,rfl⟩:=rx
 cases pl with
 | int _ ti =>
  cases pu with
  | int _ tj =>
   refine ⟨"str",_,F.slot_str_getitem.lookup,typeIs_str _ _ _,wpAny_getItem_str_slice (l:=some ((i : Int),ti)) (u:=some ((j : Int),tj)) (st:=none) hs rfl (post_val_or_str ⟨?_,fun t' k => ?_⟩)⟩
   ·exact Nat.le_trans (Txt.slice_le z _ _) hz
   ·refine ⟨.str _,H,I.tok _,⟨t',?_⟩,q⟩
    have:=StrLaws.sliceText_nat z hij hj
    unfold StrLaws.sliceText at this
    show Value.str (Txt.slice z (some (i : Int)) (some (j : Int))) t' = _
    unfold Txt.slice
    rw [this]
    rfl
end
end L2
namespace L2
open PySem PySem.Spec PyProof.Rows
def Itx (x : Str) : It:=⟨fun i _ => i < x.length,fun i H v H' => H' = H /\ ∃ c,x.cps.toList[i]? = some c /\ v = .str (aO [c]),fun i _ => x.length <= i⟩
theorem Hu {P : Program} {w : World} {K : PySem.W.Frag} {tg : Expr} (x : Str) (t : Tok) (it : Addr) : Turn P w K tg (Itx x) [it] it (fun i h => h.IsStrIter it "str_ascii_iterator" x t i) where
 mem:=by simp
 obj:=fun i h st b hb => by
  have e : b = it:=by simpa using hb
  subst e
  obtain ⟨o,e,c,d⟩:=st
  exact ⟨o,e,fun v z => by rw [d] at z; cases z⟩
 keep:=fun i h h' st k => by
  obtain ⟨o,e,r⟩:=st
  exact ⟨o,k it (by simp) o e,r⟩
 item:=by
  intro X hP hw hK hc i pins s σ H E I hf st hg
  subst hP hw hK
  have hi : i < x.cps.toList.length:=hg
  obtain ⟨f0,f1,f2,f3,f4,f5⟩:=hf it (by simp)
  refine wpAny_pyNext_ascii_item st (c:=x.cps.toList[i]) (by rw [<- Array.getElem?_toList]; exact List.getElem?_eq_getElem hi) fun h' st' sb => ?_
  have I1 : Inv X pins σ H { s with heap:=h',toks:=s.toks + 1 }:=I.turned (t' := s.toks + 1) (fun b o hb e => (sb.2 b hb).trans e) f0 f1 f3 f4 f5
  obtain ⟨o,e,c,d⟩:=id st'
  exact ⟨_,rfl,EA (s:={ s with heap:=h',toks:=s.toks + 1 }) e c d (by decide) ⟨.str (aO [x.cps.toList[i]]),H,I1,⟨_,rfl⟩,⟨rfl,_,List.getElem?_eq_getElem hi,rfl⟩,st',fun b hb => (hf b hb).1⟩⟩
 done:=by
  intro X hP hw hK hc i pins s σ H E I hf st hg
  subst hP hw hK
  have hi : x.cps.toList.length <= i:=hg
  obtain ⟨f0,f1,f2,f3,f4,f5⟩:=hf it (by simp)
  exact wpAny_pyNext_ascii_end (I.ok.hd hc) st (by rw [<- Array.getElem?_toList]; exact List.getElem?_eq_none hi) fun h' eb => ⟨rfl,I.turned (t' := s.toks) (fun b o hb e => eb b o hb e) f0 f1 f3 f4 f5⟩
 self:=fun _ _ _ _ _ st h => wpAny_pyIter_striter_ascii st h
section
variable {X : Cx} {tg : Expr}
def Ld (tl : TE) : TI:=fun σ H R => tl σ H fun v H1 => ∃ x : Str,v = .str x /\ x.cps.all (· < 128) = true /\ R (Itx x) H1
theorem JP {l : Expr} {tl : TE} (hl : PE X l tl) : PI X tg l (Ld tl):=by
 intro pins s σ H R I h
 refine thn (hl pins s σ H _ I h) fun v s1 ⟨y,H1,I1,r1,q1⟩ => ?_
 obtain ⟨x,e,ha,q⟩:=q1
 subst e
 obtain ⟨t,rfl⟩:=r1
 refine wpAny_pyIter_ascii ha ?_
 refine ⟨s1.heap.objs.size,[s1.heap.objs.size],_,_,H1,rfl,I1.kept (t' := s1.toks) fun b o e => Heap.get?_push_of_some _ e,Hu x t _,⟨_,Heap.get?_push_size _ rfl,rfl,rfl⟩,fun b hb => ?_,q⟩
 have e : b = s1.heap.objs.size:=by simpa using hb
 subst e
 exact I1.fpOk (Nat.le_refl _) (I1.hok.fresh (Nat.le_refl _))
end
theorem F9 {z : Str} {ix : List (Option Nat)} {te : TE} {σ : St} {H : Hp} {Qd : Addr -> Hp -> Prop} (Pv : Addr -> Nat -> List V -> Hp -> Prop)
  (h0 : ∀ D,H D = none -> Pv D 0 [] (upd H D (.lst [])))
  (hs : ∀ D i c ys H' (Q' : VK),H D = none -> z.cps.toList[i]? = some c -> H' D = some (.lst ys) -> Pv D i ys H' -> (∀ y H4,H4 D = some (.lst ys) -> ys.length < sizeLine -> Pv D (i + 1) (ys ++ [y]) (upd H4 D (.lst (ys ++ [y]))) -> Q' y H4) ->
   te ((aZ ix σ).set 0 (some (.str (aO [c])))) H' Q')
  (hd : ∀ D ys H',H D = none -> H' D = some (.lst ys) -> Pv D z.length ys H' -> Qd D H') : BS (Itx z) ix (aF 0) te σ H Qd:=by
 intro D hD
 refine ⟨fun i m σ' H' => m = z.length - i /\ i <= z.length /\ (σ' = aZ ix σ \/ ∃ t,σ' = (aZ ix σ).set 0 t) /\ ∃ ys,H' D = some (.lst ys) /\ Pv D i ys H',⟨z.length,by simp,Nat.zero_le _,.inl rfl,[],af,h0 D hD⟩,?_⟩
 rintro i m σ' H' ⟨rfl,hi,hσ,ys,hy,p⟩
 by_cases hlt : i < z.length
 ·refine .inr ⟨hlt,fun x H2 y => ?_⟩
  obtain ⟨e1,c,hc,e2⟩:=y
  subst e1 e2
  have es : σ'.set 0 (some (.str (aO [c]))) = (aZ ix σ).set 0 (some (.str (aO [c]))):=by
   rcases hσ with z | ⟨t,z⟩
   ·rw [z]
   ·rw [z,List.set_set]
  show te (σ'.set 0 (some (.str (aO [c])))) _ _
  rw [es]
  refine hs D i c ys _ _ hD hc hy p fun y H4 h4 hz p4 => ⟨ys,h4,hz,z.length - (i + 1),by omega,rfl,hlt,.inr ⟨_,rfl⟩,ys ++ [y],af,p4⟩
 ·have e : i = z.length:=by omega
  subst e
  exact .inl ⟨Nat.le_refl _,hd D ys H' hD hy p⟩
end L2
set_option Elab.async false
set_option linter.all false
set_option maxRecDepth 100000
set_option maxHeartbeats 4000000
namespace L2
open PySem PySem.Spec PyProof.Rows
structure DefMeX (P : Program) (w : World) (K : PySem.W.Frag) (mg : Str -> Option Value) (base : Heap) (C : Addr) (m : Str) (k : Nat) (ps : List Str) (sp : Sp) : Prop where
 cl : Cls K C
 ex : ∃ (f : Addr) (fd : FuncData),Meth K C m f /\ Binds K fd ps [] /\ FnOk P w K mg base (CX1 P w) k f fd ps sp
section
variable {X : Cx} {m x : Str} {C : Addr} {j k : Nat} {ps : List Str} {dvs : List V} {sp : Sp} {apos pos p : Pos} {o e : Expr} {es : List Expr} {ta te : TE} {t : TA} {pl : Sem Bool} {E : XK}
theorem jz (G : DefMeX X.prog X.w X.K X.mg X.base C m k ps sp) (hr : Room j X.A) (hx : Passes (CX1 X.prog X.w) X E) (ho : PE X o ta) (ha : PA X (e :: es) t) (hkj : k <= j:=by decide)
  (hst : starEach (e :: es) X.env = (false,eval e X.env) :: starEach es X.env:=by rfl) (hpl : (backTo pos (starEach es X.env)).any (·.1) = false:=by rfl)
  (ht : eval (.Call (.Attribute o m apos) (e :: es) [] pos) X.env = (do
   let ov <- eval o X.env
   standAt apos.atName
   let (f,first) <- holding [ov] (getMethod ov m pl)
   callWith pos f first (backTo pos (starEach (e :: es) X.env)) (backToKw pos (keywordEach [] X.env))):=by rfl) :
  PE X (.Call (.Attribute o m apos) (e :: es) [] pos) (CZ C m sp [] E ta t):=by
 obtain ⟨f,fd,hm,hb,F⟩:=G.ex
 exact ER ho G.cl hm F (hr.mono hkj) hb .nil hx ha hst hpl ht
theorem jA (G : DefMeX X.prog X.w X.K X.mg X.base C m k ps sp) (hr : Room j X.A) (hx : Passes (CX1 X.prog X.w) X E) (ho : PE X o ta) (hkj : k <= j:=by decide)
  (ht : eval (.Call (.Attribute o m apos) [] [] pos) X.env = (do
   let ov <- eval o X.env
   standAt apos.atName
   let (f,first) <- holding [ov] (getMethod ov m pl)
   callWith pos f first (backTo pos (starEach [] X.env)) (backToKw pos (keywordEach [] X.env))):=by rfl) :
  PE X (.Call (.Attribute o m apos) [] [] pos) (CZ C m sp [] E ta zo):=by
 obtain ⟨f,fd,hm,hb,F⟩:=G.ex
 exact G5 ho G.cl hm F (hr.mono hkj) hb .nil hx ht
theorem DM (G : DefX X.prog X.w X.K X.mg X.base x k ps dvs sp) (hr : Room j X.A) (ha : PA X (e :: es) t) (hkj : k <= j:=by decide) (hg : Gl X x:=by rfl) (hdb : (x == ("__debug__" : Str)) = false:=by decide)
  (he : starEach (e :: es) X.env = (false,eval e X.env) :: starEach es X.env:=by rfl) (hpl : (backTo pos (starEach es X.env)).any (·.1) = false:=by rfl) :
  PE X (.Call (.Name x p) (e :: es) [] pos) (uI sp dvs E0 t):=by
 obtain ⟨f,fd,ds,hm,hk,hd,hb,F⟩:=G.ex
 exact Bl F (hr.mono hkj) hg hm hk hb hd (fun _ _ _ _ _ _ _ ⟨_,_,_,_,_,_,_,_,_,_,_,_,_,h⟩ => h.elim) ha hdb he hpl
def Lu (te : TE) : TF:=fun σ H Q => te σ H fun v H1 => ∃ x,v = .str x /\ (reprText x).length <= 1000 /\ Q (reprText x) H1
theorem JO (he : PE X e te) : PF X (.FormattedValue e 114 none pos) (Lu te):=by
 intro pins s σ H Q I h
 refine wpAny_FormattedValue_repr (thn (he pins s σ H _ I h) fun u s1 ⟨v,H1,I1,r,q⟩ => ?_)
 obtain ⟨x,rfl,hx,q⟩:=q
 obtain ⟨tk,rfl⟩:=(show ∃ t,u = Value.str x t from r)
 exact wpAny_pyReprObj_str (formatField_str (fun t' tk' => ⟨_,t',H1,rfl,(I1.tok _).tok _,hx,q⟩) (Nat.le_trans hx (by decide))) (Nat.le_trans hx (by decide))
end
def fk (K : PySem.W.Frag) : Nat -> Hp -> V -> V -> Prop
 | 0,_,u,v => (∃ x,u = .str x /\ v = .str x) \/ ∃ n,u = .int n /\ v = .int n
 | d + 1,H,u,v => ((∃ x,u = .str x /\ v = .str x) \/ ∃ n,u = .int n /\ v = .int n) \/ ∃ (a b : Addr) (us vs : List V),u = .ref a /\ v = .ref b /\ SqT K H a us /\ SqT K H b vs /\ Paired (fk K d H) us vs
section
variable {X : Cx} {pins : List (Addr × Obj)} {σ : St} {H : Hp} {s : Shared}
theorem Kw {R : V -> V -> Prop} {xs ys : List V} {j : Nat} (h1 : j < xs.length) (h2 : j < ys.length) (p : Paired R xs ys) : R xs[j] ys[j]:=by
 induction p generalizing j with
 | nil => exact absurd h1 (Nat.not_lt_zero _)
 | cons a t ih =>
  cases j with
  | zero => exact a
  | succ j => exact ih (by simpa using h1) (by simpa using h2)
theorem sI {d : Nat} (ih : ∀ {A : Around} {x y : V} {u v : Value},A.units + d < cLine -> fk X.K d H x y -> RelV x u -> RelV y v -> SeqAt.EqAt A s u v true) {A : Around} {a b : Addr} {us vs : List V} (I : Inv X pins σ H s) (hu : A.units + (d + 1) < cLine) (ha : SqT X.K H a us) (hb : SqT X.K H b vs) (p : Paired (fk X.K d H) us vs) :
  ∃ its jts : List Value,s.heap.IsTuple a its.toArray /\ s.heap.IsTuple b jts.toArray /\ its.length = jts.length /\ ∀ j (h1 : j < its.toArray.size) (h2 : j < jts.toArray.size),SeqAt.EqAt A.in1 s its.toArray[j] jts.toArray[j] true:=by
 obtain ⟨its,r1,p1,_⟩:=I.tuple ha
 obtain ⟨jts,r2,p2,_⟩:=I.tuple hb
 have l1:=r1.length
 have l2:=r2.length
 have l3:=p.length
 refine ⟨its,jts,p1,p2,by omega,fun j h1 h2 => ?_⟩
 have j1 : j < us.length:=by simp at h1; omega
 have j2 : j < vs.length:=by omega
 obtain ⟨u1,e1,q1⟩:=r1.get (i:=j) (x:=us[j]) (by simp [j1])
 obtain ⟨u2,e2,q2⟩:=r2.get (i:=j) (x:=vs[j]) (by simp [j2])
 have g1 : its.toArray[j] = u1:=by
  have:=(List.getElem?_eq_some_iff.mp e1).2
  simpa using this
 have g2 : jts.toArray[j] = u2:=by
  have:=(List.getElem?_eq_some_iff.mp e2).2
  simpa using this
 rw [g1,g2]
 exact ih (A:=A.in1) (show A.units + 1 + d < cLine by omega) (Kw j1 j2 p) q1 q2
theorem wm {A : Around} {x y : V} {u v : Value} (h : (∃ z,x = .str z /\ y = .str z) \/ ∃ n,x = .int n /\ y = .int n) (ru : RelV x u) (rv : RelV y v) : SeqAt.EqAt A s u v true:=by
 rcases h with ⟨z,rfl,rfl⟩ | ⟨n,rfl,rfl⟩
 ·obtain ⟨t,rfl⟩:=(show ∃ t,u = Value.str z t from ru)
  obtain ⟨t',rfl⟩:=(show ∃ t,v = Value.str z t from rv)
  have q:=SeqAt.EqAt.str_str (A:=A) (s:=s) z t z t'
  simpa using q
 ·obtain ⟨t,rfl⟩:=(show ∃ t,u = Value.int n t from ru)
  obtain ⟨t',rfl⟩:=(show ∃ t,v = Value.int n t from rv)
  have q:=SeqAt.EqAt.int_int (A:=A) (s:=s) n t n t'
  rw [beq_self_eq_true] at q
  exact q
theorem C5 {its jts : List Value} (l : its.length = jts.length) : ((List.range (min its.toArray.size jts.toArray.size)).all (fun _ => true) && its.toArray.size == jts.toArray.size) = true:=by
 simp
 omega
theorem wk (I : Inv X pins σ H s) : ∀ {d : Nat} {A : Around} {x y : V} {u v : Value},A.units + d < cLine -> fk X.K d H x y -> RelV x u -> RelV y v -> SeqAt.EqAt A s u v true
 | 0,_,_,_,_,_,_,h,ru,rv => wm h ru rv
 | d + 1,A,x,y,u,v,hu,h,ru,rv => by
  rcases h with h | ⟨a,b,us,vs,rfl,rfl,ha,hb,p⟩
  ·exact wm h ru rv
  ·cases ru
   cases rv
   by_cases eab : a = b
   ·subst eab; exact SeqAt.EqAt.same _
   obtain ⟨its,jts,p1,p2,l,q⟩:=sI (fun {A x y u v} h1 h2 h3 h4 => wk I h1 h2 h3 h4) I hu ha hb p
   have z:=SeqAt.RcAt.tuples (A:=A) (e:=fun _ => true) p1 p2 (by omega) q
   rw [C5 l] at z
   exact SeqAt.EqAt.of_refs eab z
def JS (K : PySem.W.Frag) (d : Nat) (b : Bool) : R2:=fun x y H Q => ∃ (a c : Addr) (us vs : List V),x = .ref a /\ y = .ref c /\ SqT K H a us /\ SqT K H c vs /\ Paired (fk K d H) us vs /\ Q (.bl b) H
theorem JK (d : Nat) (hu : X.A.units + (d + 1) < cLine) : OpR X (compareOp .Eq) (JS X.K d true):=by
 intro pins s σ H x y v u Q I r1 r2 h
 obtain ⟨a,c,us,vs,rfl,rfl,ha,hc,p,q⟩:=h
 cases r1
 cases r2
 obtain ⟨its,jts,p1,p2,l,z⟩:=sI (A:=X.A) (fun {A x y u v} h1 h2 h3 h4 => wk I h1 h2 h3 h4) I hu ha hc p
 have z:=SeqAt.RcAt.tuples (A:=X.A) (e:=fun _ => true) p1 p2 (by omega) z
 rw [C5 l] at z
 exact z X.prog X.w X.xe _ ⟨.bl true,H,I,rfl,q⟩
theorem GX (d : Nat) (hu : X.A.units + (d + 1) < cLine) : OpR X (compareOp .NotEq) (JS X.K d false):=by
 intro pins s σ H x y v u Q I r1 r2 h
 obtain ⟨a,c,us,vs,rfl,rfl,ha,hc,p,q⟩:=h
 cases r1
 cases r2
 obtain ⟨its,jts,p1,p2,l,z⟩:=sI (A:=X.A) (fun {A x y u v} h1 h2 h3 h4 => wk I h1 h2 h3 h4) I hu ha hc p
 refine SeqAt.RcNeAt.tuples (e:=fun _ => true) p1 p2 (by omega) z X.prog X.w X.xe _ ⟨.bl false,H,I,?_,q⟩
 show Value.bool _ = Value.bool _
 rw [C5 l]
 rfl
end
end L2
set_option Elab.async false
set_option linter.all false
set_option maxRecDepth 100000
set_option maxHeartbeats 8000000
namespace My
open PySem L2
abbrev LL:=List (List Int)
abbrev LI:=List Int
abbrev OV:=Option V
theorem gi_ {α : Type} {l : List α} {i : Nat} {a : α} (h : l[i]? = some a) : ∃ h : i < l.length,l[i] = a:=List.getElem?_eq_some_iff.mp h
theorem mq_ {α : Type} {l : List α} {i : Nat} {a : α} (h : l[i]? = some a) : a ∈ l:=List.mem_of_getElem? h
theorem ma_ {α : Type} {a : α} {s t : List α} : a ∈ s ++ t ↔ a ∈ s \/ a ∈ t:=List.mem_append
theorem lm_ {α β : Type} {f : α -> β} {l : List α} : (l.map f).length = l.length:=List.length_map f
theorem qT_ {K : PySem.W.Frag} {H : Hp} {a : Addr} {xs : List V} (h : H a = some (.tup xs)) : SqT K H a xs:=SqT.of h
theorem qL_ {K : PySem.W.Frag} {H : Hp} {a : Addr} {xs : List V} (h : H a = some (.lst xs)) : SqL K H a xs:=SqL.of h
def top (i : Nat) : Stmt:=PySem.Challenge.pw_figuretell_k54_no_statement.main.body.getD i (.Pass ⟨0,0,0,0⟩)
abbrev iA : Stmt:=top 17
abbrev df : Stmt:=top 18
abbrev cW : Stmt:=top 19
abbrev ug : Stmt:=top 26
abbrev eZ : Stmt:=top 29
abbrev fe : Stmt:=top 30
abbrev fc : Stmt:=top 31
abbrev gk : Stmt:=top 32
abbrev gm : Stmt:=top 33
abbrev dJ : Stmt:=top 34
abbrev bO : Stmt:=top 35
abbrev gn : Stmt:=top 36
abbrev cD : Stmt:=top 37
abbrev dI : Stmt:=top 38
abbrev cE : Stmt:=top 39
abbrev cg : Stmt:=top 40
abbrev bL : Stmt:=top 41
abbrev bK : Stmt:=top 42
abbrev ck : Stmt:=top 43
abbrev eY : Stmt:=top 44
abbrev cP : Stmt:=top 45
abbrev cL : Stmt:=top 46
abbrev sj : Stmt:=top 47
abbrev bP : Stmt:=inClass (top 27) 0
abbrev cK : Stmt:=inClass (top 27) 1
abbrev dc : Stmt:=inClass (top 27) 2
abbrev dH : Stmt:=inClass (top 27) 3
abbrev bq : Stmt:=inClass (top 27) 4
abbrev bU : Stmt:=inClass (top 27) 5
abbrev bT : Stmt:=inClass (top 27) 6
abbrev bQ : Stmt:=inClass (top 27) 7
abbrev bJ : Stmt:=inClass (top 27) 8
abbrev bR : Stmt:=inClass (top 27) 9
abbrev cJ : Stmt:=inClass (top 27) 10
abbrev de : Stmt:=inClass (top 27) 11
abbrev cx : Stmt:=inClass (top 27) 12
abbrev da : Stmt:=inClass (top 27) 13
theorem Js {c A B : Prop} [Decidable c] (h1 : c -> A) (h2 : ¬ c -> B) : if decide c = true then A else B:=tI (fun h => h1 (of_decide_eq_true h)) fun h => h2 fun z => h (decide_eq_true z)
theorem Ko {c A B : Prop} [Decidable c] (h1 : ¬ c -> A) (h2 : c -> B) : if (!decide c) = true then A else B:=tI (fun h => h1 fun z => by rw [decide_eq_true z] at h; cases h) fun h => h2 (Decidable.byContradiction fun z => h (by rw [decide_eq_false z]; rfl))
theorem AG {a b : Int} {A B : Prop} (h1 : a = b -> A) (h2 : a ≠ b -> B) : if decide (V.int a = V.int b) = true then A else B:=Js (fun h => h1 (V.int.inj h)) fun h => h2 fun z => h (congrArg V.int z)
theorem bH {a b : Int} (h : 0 < b) : 0 <= a % b /\ a % b < b:=⟨Int.emod_nonneg a (by omega),Int.emod_lt_of_pos a h⟩
theorem di {t u : TS} {D : Ends} {σ : St} {H : Hp} (R : St -> Hp -> Prop) (h1 : ∀ σ' H',R σ' H' -> u D σ' H') (h2 : ∀ D' : Ends,(∀ σ' H',R σ' H' -> D'.nx σ' H') -> t D' σ H) : Eg t u D σ H:=h2 { D with nx:=u D } h1
theorem bu {H H' : Hp} {p : Addr} {o : HO} (h : Same H H') (hp : H p = none) : Same H (upd H' p o):=fun b u e => by rw [az (aA e hp)]; exact h b u e
theorem JA {x : Int} (h : 0 <= x) : ∃ n : Nat,x = (n : Int):=⟨x.toNat,by omega⟩
theorem getD_at {α : Type} {xs : List α} {i : Nat} {d : α} (h : i < xs.length) : xs.getD i d = xs[i]:=by simp [h]
theorem rD {ns : LI} {k : Int} (h0 : 0 <= k) (h : k < (ns.length : Int)) : atI (ns.map V.int) k = some (.int (ns.getD k.toNat 0)):=by
 have hk : k.toNat < ns.length:=by omega
 have ek : k = ((k.toNat : Nat) : Int):=by omega
 have q : atI (ns.map V.int) ((k.toNat : Nat) : Int) = some (.int ns[k.toNat]):=Eo (by rw [List.getElem?_map,List.getElem?_eq_getElem hk] <;> rfl)
 rw [<- ek] at q
 rw [q,getD_at hk]
abbrev Prt:=Int × Str
inductive Stt where
 | cmp (k : Str) (a b : List Prt)
 | sg (r : Str) (a : List Prt) (s : Int)
 | lk (r : Str) (a : List Prt) (q : Str) (b : List Prt)
 | no (s : Stt)
 | jn (k : Str) (s t : Stt)
 | ch (k n : Str) (s : Stt)
def cu (i : Int) : Str:=Str.ofString (toString i)
def aR (p : Prt) : Str:=if p.2 = ("" : Str) then cu p.1 else if p.1 = 1 then p.2 else cu p.1 ++ ("*" : Str) ++ p.2
def bx (ps : List Prt) : Str:=Txt.join (" + " : Str) (ps.map aR)
def kC (r : Str) (a : List Prt) : Str:=r ++ ("[" : Str) ++ bx a ++ ("]" : Str)
def aq : Stt -> Str
 | .cmp k a b => bx a ++ ((" " : Str) ++ k ++ (" " : Str)) ++ bx b
 | .sg r a s => kC r a ++ (" = " : Str) ++ cu s
 | .lk r a q b => kC r a ++ (" = " : Str) ++ kC q b
 | .no s => ("not " : Str) ++ aq s
 | .jn k s t => ("(" : Str) ++ aq s ++ ((" " : Str) ++ k ++ (" " : Str)) ++ aq t ++ (")" : Str)
 | .ch k n s => (k ++ (" " : Str) ++ n ++ (": " : Str)) ++ aq s
def aN : Stt -> Nat
 | .cmp .. => 0
 | .sg .. => 0
 | .lk .. => 0
 | .no s => 1 + aN s
 | .jn _ s t => 1 + max (aN s) (aN t)
 | .ch _ _ s => 1 + aN s
def wj (ps : List Prt) : Prop:=ps.length <= 20 /\ ∀ p ∈ ps,(0 <= p.1 /\ p.1 < 10000000) /\ p.2.length <= 20
def Wf : Stt -> Prop
 | .cmp k a b => (k = ("=" : Str) \/ k = ("<=" : Str) \/ k = ("<" : Str)) /\ wj a /\ wj b
 | .sg r a s => r.length <= 20 /\ wj a /\ 0 <= s /\ s < 10000000
 | .lk r a q b => r.length <= 20 /\ wj a /\ q.length <= 20 /\ wj b
 | .no s => Wf s
 | .jn k s t => (k = ("and" : Str) \/ k = ("or" : Str)) /\ Wf s /\ Wf t
 | .ch k n s => (k = ("some" : Str) \/ k = ("all" : Str)) /\ n.length <= 20 /\ Wf s
def jU (H : Hp) (a : Addr) (p : Prt) : Prop:=H a = some (.tup [.int p.1,.str p.2])
def SumAt (H : Hp) (v : V) (ps : List Prt) : Prop := ∃ (a : Addr) (as : List Addr),v = .ref a /\ H a = some (.tup (as.map V.ref)) /\ Paired (jU H) as ps
def StAt (H : Hp) : V -> Stt -> Prop
 | v,.cmp k a b => ∃ (x : Addr) (va vb : V),v = .ref x /\ H x = some (.tup [.str k,va,vb]) /\ SumAt H va a /\ SumAt H vb b
 | v,.sg r a s => ∃ (x : Addr) (va : V),v = .ref x /\ H x = some (.tup [.str "is",.str r,va,.int s]) /\ SumAt H va a
 | v,.lk r a q b => ∃ (x : Addr) (va vb : V),v = .ref x /\ H x = some (.tup [.str "like",.str r,va,.str q,vb]) /\ SumAt H va a /\ SumAt H vb b
 | v,.no s => ∃ (x : Addr) (vs : V),v = .ref x /\ H x = some (.tup [.str "not",vs]) /\ StAt H vs s
 | v,.jn k s t => ∃ (x : Addr) (vs vt : V),v = .ref x /\ H x = some (.tup [.str k,vs,vt]) /\ StAt H vs s /\ StAt H vt t
 | v,.ch k n s => ∃ (x : Addr) (vs : V),v = .ref x /\ H x = some (.tup [.str k,.str n,vs]) /\ StAt H vs s
abbrev jH (H H' : Hp) : Prop := ∀ (b : Addr) (xs : List V),H b = some (.tup xs) -> H' b = some (.tup xs)
theorem tkS {H H' : Hp} (s : Same H H') : jH H H' := fun b xs e => s _ _ e
theorem SumAt.same {H H' : Hp} {v : V} {ps : List Prt} (h : SumAt H v ps) (s : jH H H') : SumAt H' v ps:=by
 obtain ⟨a,as,e,h1,h2⟩:=h
 exact ⟨a,as,e,s _ _ h1,Paired.mapP h2 fun _ _ q => s _ _ q⟩
theorem StAt.same {H H' : Hp} (s : jH H H') : ∀ {st : Stt} {v : V},StAt H v st -> StAt H' v st
 | .cmp k a b,v,⟨x,va,vb,e,h,h1,h2⟩ => ⟨x,va,vb,e,s _ _ h,h1.same s,h2.same s⟩
 | .sg r a n,v,⟨x,va,e,h,h1⟩ => ⟨x,va,e,s _ _ h,h1.same s⟩
 | .lk r a q b,v,⟨x,va,vb,e,h,h1,h2⟩ => ⟨x,va,vb,e,s _ _ h,h1.same s,h2.same s⟩
 | .no t,v,⟨x,vs,e,h,h1⟩ => ⟨x,vs,e,s _ _ h,StAt.same s h1⟩
 | .jn k t u,v,⟨x,vs,vt,e,h,h1,h2⟩ => ⟨x,vs,vt,e,s _ _ h,StAt.same s h1,StAt.same s h2⟩
 | .ch k n t,v,⟨x,vs,e,h,h1⟩ => ⟨x,vs,e,s _ _ h,StAt.same s h1⟩
theorem len_app (a b : Str) : (a ++ b).length = a.length + b.length:=strLen_append a b
theorem rQ {i : Int} (h0 : 0 <= i) (h1 : i < 10000000) : (cu i).length <= 20 /\ i.natAbs.log2 < 1920:=by
 have hn : i.natAbs < 10 ^ 8:=by omega
 constructor
 ·have q:=int_text_length_le10 (a:=i) (k:=8) (by decide) hn
  unfold cu
  rw [ofString_length]
  omega
 ·rcases Nat.eq_zero_or_pos i.natAbs with z | z
  ·rw [z]; decide
  ·exact (Nat.log2_lt (by omega)).mpr (Nat.lt_trans hn (by decide))
theorem FG {p : Prt} (h : (0 <= p.1 /\ p.1 < 10000000) /\ p.2.length <= 20) : (aR p).length <= 41:=by
 have n:=(rQ h.1.1 h.1.2).1
 unfold aR
 split
 ·omega
 ·split
  ·omega
  ·rw [len_app,len_app]
   have : (("*" : Str)).length = 1:=by decide
   omega
theorem Ed {B : Nat} : ∀ (xs : List Nat),(∀ x ∈ xs,x <= B) -> xs.sum <= xs.length * B
 | [],_ => Nat.zero_le _
 | x :: r,h => by
  have h1:=h x List.mem_cons_self
  have h2:=Ed r fun y hy => h y (List.mem_cons_of_mem _ hy)
  rw [List.sum_cons,List.length_cons,Nat.succ_mul]
  omega
theorem FH {ps : List Prt} (h : wj ps) : ((ps.map aR).map (·.length)).sum + (ps.map aR).length * ((" + " : Str)).length <= 16777216:=by
 have l:=Ed (B:=41) ((ps.map aR).map (·.length)) fun x hx => by
  obtain ⟨y,hy,rfl⟩:=List.mem_map.mp hx
  obtain ⟨p,hp,rfl⟩:=List.mem_map.mp hy
  exact FG (h.2 p hp)
 have e : ((" + " : Str)).length = 3:=by decide
 rw [lm_,lm_] at l
 rw [e,lm_]
 have:=h.1
 omega
end My
set_option Elab.async false
set_option linter.all false
set_option maxRecDepth 100000
set_option maxHeartbeats 8000000
namespace My
open PySem L2
theorem V_str {a b : Str} : (V.str a = V.str b) ↔ a = b:=⟨fun h => V.str.inj h,fun h => by rw [h]⟩
def Gu : List V:=[.str "=",.str "<=",.str "<"]
def Dt : List V:=[.str "and",.str "or"]
structure RCls (K : PySem.W.Frag) (C : Addr) : Prop where
 cl : Cls K C
 nt : NoAttr K C "text"
 na : NoAttr K C "at"
structure Rd (H : Hp) (C x : Addr) (z : Str) (i : Nat) : Prop where
 ob : ∃ dx : Addr,H x = some (.ins C dx [("text",.str z),("at",.int (i : Int))])
def But (x : Addr) (H H' : Hp) : Prop := ∀ c u,c ≠ x -> H c = some u -> H' c = some u
theorem But.refl (x : Addr) (H : Hp) : But x H H:=fun _ _ _ h => h
theorem But.trans {x : Addr} {H H1 H2 : Hp} (h : But x H H1) (h' : But x H1 H2) : But x H H2:=fun c u n e => h' c u n (h c u n e)
theorem lC {x : Addr} {H H' : Hp} (h : Same H H') : But x H H' := fun c u _ e => h c u e
theorem Rd.same {H H' : Hp} {C x : Addr} {z : Str} {i : Nat} (h : Rd H C x z i) (s : Same H H') : Rd H' C x z i:=by
 obtain ⟨dx,e⟩:=h.ob
 exact ⟨dx,s _ _ e⟩
def Here (z : Str) (i : Nat) (p : Str) (r : List Nat) : Prop:=atT z i = p.cps.toList ++ r
theorem Here.le {z : Str} {i : Nat} {p : Str} {r : List Nat} (h : Here z i p r) (hi : i <= z.length) : i + p.length + r.length = z.length:=by
 have e:=congrArg List.length h
 rw [List.length_drop,List.length_append] at e
 have e1 : z.length = z.cps.toList.length:=rfl
 have e2 : p.length = p.cps.toList.length:=rfl
 omega
theorem Here.on {z : Str} {i : Nat} {p : Str} {r : List Nat} (h : Here z i p r) : atT z (i + p.length) = r:=by
 have e2 : p.length = p.cps.toList.length:=rfl
 show z.cps.toList.drop (i + p.length) = r
 rw [<- List.drop_drop,show z.cps.toList.drop i = _ from h,e2,List.drop_left]
def iy (C : Addr) : Sp:=fun vs H Q _ => ∃ (x : Addr) (z p : Str) (i : Nat),vs = [.ref x,.str p] /\ Rd H C x z i /\ i <= z.length /\ p.length <= 1000 /\
 (p.cps.toList.isPrefixOf (atT z i) = false -> Q (.bl false) H) /\ (p.cps.toList.isPrefixOf (atT z i) = true -> ∀ H',Rd H' C x z (i + p.length) -> But x H H' -> Q (.bl true) H')
def inR (a b c : Nat) : Bool:=decide (a <= c /\ c <= b)
def uH (C : Addr) : Sp:=fun vs H Q _ => ∃ (x : Addr) (z p : Str) (i a b : Nat) (r : List Nat),vs = [.ref x,.str (aO [a]),.str (aO [b])] /\ Rd H C x z i /\ i <= z.length /\ z.length <= 1000 /\ Here z i p r /\ (∀ c ∈ p.cps.toList,inR a b c = true) /\ (∀ c,r.head? = some c -> inR a b c = false) /\
 ∀ H',Rd H' C x z (i + p.length) -> But x H H' -> Q (.str p) H'
theorem le1 (a c : Nat) : (!decide (([c] : List Nat) < [a])) = decide (a <= c):=by
 by_cases h : a <= c
 ·rw [decide_eq_true h,decide_eq_false (by rw [List.cons_lt_cons_iff]; rintro (z | ⟨_,z⟩) <;> first | omega | exact absurd z (List.not_lt_nil _))]
  rfl
 ·rw [decide_eq_false h,decide_eq_true (by rw [List.cons_lt_cons_iff]; exact .inl (by omega))]
  rfl
section
variable {P : Program} {w : World} {K : PySem.W.Frag} {mg : Str -> Option Value} {base : Heap} {f : Addr} {fd : FuncData} {dV : Value} {C : Addr}
theorem vL : FnScope ["self","word"] ["self","word"] (ai cK):=⟨rfl,rfl,rfl,by decide +kernel,rfl,by decide +kernel,by decide +kernel⟩
theorem xY : FnScope ["self","word"] ["self","word"] (ai dc):=⟨rfl,rfl,rfl,by decide +kernel,rfl,by decide +kernel,by decide +kernel⟩
theorem sc_Reader_run : FnScope ["self","first","last","begin"] ["self","first","last"] (ai dH):=⟨rfl,rfl,rfl,by decide +kernel,rfl,by decide +kernel,by decide +kernel⟩
theorem GU (F : FunD K "takes" "Reader.takes" cK dV f fd) (rc : RCls K C) (bo : mg "len" = none) : FnOk P w K mg base CX0 1 f fd ["self","word"] (iy C):=by
 refine F.ok vL (fun vs H Q E h => ?_) (fun cdv A outer s H vs Q E hr h => ?_)
 ·obtain ⟨x,z,p,i,rfl,_⟩:=h
  rfl
 obtain ⟨x,z,p,i,rfl,⟨dx,hx⟩,hi,lp,q0,q1⟩:=h
 refine ⟨_,(au (bG (gj (dD (ia PySem.F.plainAttrs_str PySem.F.slot_str_startswith PySem.F.type_str_startswith Fx (gf (pv 0) rfl) (aa (pv 1) (aa (gf (pv 0) rfl) ae))))) (ax (aU jO)) aW)
   (au (xU (pv 0) (ak bf (gf (pv 0) rfl) (aD bA (by rfl) bo cq (aa (pv 1) ae))) rfl)
   (ax (aU jO)))),?_⟩
 have l1000 : p.length <= sizeLine:=Nat.le_trans lp (by decide)
 refine ⟨_,rfl,x,C,dx,_,_,rfl,hx,rc.cl,rc.nt,rfl,rfl,_,rfl,_,rfl,x,C,dx,_,_,rfl,hx,rc.cl,rc.na,rfl,z,p,i,rfl,rfl,hi,_,rfl,?_⟩
 by_cases c : p.cps.toList.isPrefixOf (atT z i) = true
 ·rw [c]
  refine cN ?_
  refine ⟨_,rfl,x,C,dx,_,_,rfl,hx,rc.cl,rc.na,rfl,_,rfl,p,rfl,l1000,_,_,rfl,rfl,_,rfl,x,C,dx,_,rfl,hx,rc.cl,rc.na,(by show 2 < 1000; decide),?_⟩
  refine q1 c _ ⟨dx,?_⟩ fun c u n e => by rw [az n]; exact e
  rw [af]
  show some (HO.ins C dx [("text",.str z),("at",.int ((i : Int) + (p.length : Int)))]) = some (HO.ins C dx [("text",.str z),("at",.int ((i + p.length : Nat) : Int))])
  rw [Int.natCast_add]
 ·have c' := Bool.eq_false_iff.mpr c
  rw [c']
  exact cY (q0 c')
theorem JG (F : FunD K "run" "Reader.run" dH dV f fd) (rc : RCls K C) (bo : mg "len" = none) : FnOk P w K mg base CX0 1 f fd ["self","first","last"] (uH C):=by
 refine F.ok sc_Reader_run (fun vs H Q E h => ?_) (fun cdv A outer s H vs Q E hr h => ?_)
 ·obtain ⟨x,z,p,i,a,b,r,rfl,_⟩:=h
  rfl
 obtain ⟨x,z,p,i,a,b,r,rfl,⟨dx,hx⟩,hi,lz,hh,hin,hout,q⟩:=h
 refine ⟨_,(au (ay (i:=3) sc_Reader_run.nd rfl (Or.inl rfl) (gf (pv 0) rfl))
   (au (sd PassesOwn.never (PW.pt (rg (aM mF (gf (pv 0) rfl) (aD bA (by rfl) bo cq (aa (gf (pv 0) rfl) ae)) (aS _)) (sf (xW oq oq (pv 1) (cC tJ (gf (pv 0) rfl) (gf (pv 0) rfl) (fun _ _ => rfl)) (pv 2))))) (ax (xU (pv 0) (ak bf (gf (pv 0) rfl) ag) rfl)))
   (ax (aU (jB JV (gf (pv 0) rfl) (jQ (pv 3)) (jQ (gf (pv 0) rfl))))))),?_⟩
 have hle:=hh.le hi
 have lz' : z.length <= sizeLine:=Nat.le_trans lz (by decide)
 refine ⟨_,rfl,x,C,dx,_,_,rfl,hx,rc.cl,rc.na,rfl,?_⟩
 try dsimp only [aF,aK,List.set]
 refine di (t:=yk _ _) (fun σ' H' => σ' = [some (.ref x),some (.str (aO [a])),some (.str (aO [b])),some (.int (i : Int))] /\ H' x = some (.ins C dx [("text",.str z),("at",.int ((i + p.length : Nat) : Int))]) /\ But x H H') ?_ (fun D' nxt => ?_)
 rotate_left
 ·refine we (fun mm σ' H' => ∃ k : Nat,mm = p.length - k /\ k <= p.length /\ σ' = [some (.ref x),some (.str (aO [a])),some (.str (aO [b])),some (.int (i : Int))] /\ H' x = some (.ins C dx [("text",.str z),("at",.int ((i + k : Nat) : Int))]) /\ But x H H') ⟨_,0,rfl,Nat.zero_le _,rfl,hx,But.refl x H⟩ ?_
  rintro mm σ' H4 ⟨k,rfl,hk,rfl,hx4,bt⟩
  refine ⟨_,rfl,x,C,dx,_,_,rfl,hx4,rc.cl,rc.na,rfl,_,rfl,x,C,dx,_,_,rfl,hx4,rc.cl,rc.nt,rfl,z,rfl,lz',_,_,rfl,rfl,_,rfl,?_⟩
  have zk : ∀ c,(p.cps.toList ++ r)[k]? = some c -> atI z.cps.toList ((i + k : Nat) : Int) = some c:=fun c hc => by
   have e : z.cps.toList[i + k]? = some c:=by
    rw [<- hc,<- show atT z i = _ from hh,List.getElem?_drop]
   have hlt : i + k < z.cps.toList.length:=(gi_ e).1
   unfold atI ixN
   rw [if_pos (by omega),if_pos (by omega),Int.toNat_natCast]
   exact e
  have chk : ∀ (c : Nat) (Q : Bool -> Hp -> Prop),(p.cps.toList ++ r)[k]? = some c -> Q (inR a b c) H4 -> Ht (Ee (fun x y H Q => ∃ i j,x = V.str i /\ y = V.str j /\ Q (V.bl (!decide (j.cps.toList < i.cps.toList))) H) (fun x y H Q => ∃ i j,x = V.str i /\ y = V.str j /\ Q (V.bl (!decide (j.cps.toList < i.cps.toList))) H) (yj 1) (tOp KG (J0 K (yj 0) (Str.ofString "text")) (J0 K (yj 0) (Str.ofString "at"))) (yj 2)) [some (.ref x),some (.str (aO [a])),some (.str (aO [b])),some (.int (i : Int))] H4 Q:=fun c Q hc q => by
   refine ⟨_,rfl,_,rfl,x,C,dx,_,_,rfl,hx4,rc.cl,rc.nt,rfl,_,rfl,x,C,dx,_,_,rfl,hx4,rc.cl,rc.na,rfl,z,_,c,rfl,rfl,lz',zk c hc,_,_,rfl,rfl,_,rfl,?_⟩
   have e1:=le1 a c
   have e2:=le1 c b
   by_cases c1 : a <= c
   ·rw [show (!decide (([c] : List Nat) < (aO [a]).cps.toList)) = true from e1.trans (decide_eq_true c1)]
    refine cY ⟨_,rfl,_,_,rfl,rfl,_,rfl,?_⟩
    rw [show (!decide ((aO [b]).cps.toList < ([c] : List Nat))) = inR a b c from e2.trans (by unfold inR; exact decide_eq_decide.mpr ⟨fun h => ⟨c1,h⟩,fun h => h.2⟩)]
    exact q
   ·rw [show (!decide (([c] : List Nat) < (aO [a]).cps.toList)) = false from e1.trans (decide_eq_false c1)]
    refine cN ⟨_,rfl,?_⟩
    rw [show inR a b c = false from decide_eq_false fun h => c1 h.1] at q
    exact q
  have hfin : k = p.length -> D'.nx [some (.ref x),some (.str (aO [a])),some (.str (aO [b])),some (.int (i : Int))] H4:=fun e => nxt _ _ ⟨rfl,by rw [<- e]; exact hx4,bt⟩
  refine tI (fun c0 => ?_) (fun c0 => ?_)
  ·have c0' := of_decide_eq_true c0
   have e2 : p.length = p.cps.toList.length:=rfl
   have hkl : k < (p.cps.toList ++ r).length:=by rw [List.length_append]; omega
   refine chk _ _ (List.getElem?_eq_getElem hkl) ?_
   by_cases hkp : k < p.length
   ·have hm : inR a b (p.cps.toList ++ r)[k] = true:=hin _ (by rw [List.getElem_append_left (by omega)]; exact List.getElem_mem _)
    rw [hm]
    refine cY ⟨fun σ' H' => ∃ m',m' < p.length - k /\ ∃ k : Nat,m' = p.length - k /\ k <= p.length /\ σ' = [some (.ref x),some (.str (aO [a])),some (.str (aO [b])),some (.int (i : Int))] /\ H' x = some (.ins C dx [("text",.str z),("at",.int ((i + k : Nat) : Int))]) /\ But x H H',fun _ _ h => h,?_⟩
    refine ⟨_,rfl,x,C,dx,_,_,rfl,hx4,rc.cl,rc.na,rfl,_,_,rfl,rfl,_,rfl,x,C,dx,_,rfl,hx4,rc.cl,rc.na,(by show 2 < 1000; decide),?_⟩
    refine ⟨p.length - (k + 1),by omega,k + 1,rfl,by omega,rfl,?_,fun c u n e => by rw [az n]; exact bt c u n e⟩
    rw [af]
    rfl
   ·have ek : k = p.length:=by omega
    have hh' : r.head? = some (p.cps.toList ++ r)[k]:=by
     rw [List.getElem_append_right (by omega),List.head?_eq_getElem?,<- List.getElem?_eq_getElem]
     congr 1
     omega
    rw [hout _ hh']
    exact cN (hfin ek)
  ·have c0' : ¬ ((i + k : Nat) : Int) < (z.length : Int):=fun h => c0 (decide_eq_true h)
   exact hfin (by omega)
 rintro σ' H4 ⟨rfl,hx4,bt⟩
 have e : aO ((atT z i).take (i + p.length - i)) = p:=by
  rw [Nat.add_sub_cancel_left,show atT z i = _ from hh,show p.length = p.cps.toList.length from rfl,List.take_left]
  rfl
 refine ⟨_,rfl,x,C,dx,_,_,rfl,hx4,rc.cl,rc.nt,rfl,_,rfl,_,rfl,_,rfl,x,C,dx,_,_,rfl,hx4,rc.cl,rc.na,rfl,_,rfl,z,i,i + p.length,rfl,rfl,rfl,by omega,by omega,lz',?_⟩
 rw [e]
 exact q H4 ⟨dx,hx4⟩ bt
end
def xq : List V:=[.str "and",.str "or",.str "not",.str "some",.str "all"]
def jV (a b : Nat) (n : Str) : Prop:=1 <= n.length /\ n.length <= 6 /\ ∀ c ∈ n.cps.toList,inR a b c = true
def cn (n : Str) : Prop:=jV 97 122 n /\ inV (.str n) xq = false
def fm (r : Str) : Prop:=jV 65 90 r
theorem nF (K : PySem.W.Frag) : PySem.W.kitOne K (.type "str") (.type "str") = some true:=by with_unfolding_all rfl
def Off1 (a b : Nat) (r : List Nat) : Prop := ∀ c,r.head? = some c -> inR a b c = false
theorem EI {x : V} : [x,V.str (Str.ofString "a"),V.str (Str.ofString "z")] = [x,V.str (aO [97]),V.str (aO [122])]:=by
 rw [show Str.ofString "a" = aO [97] from by decide +kernel,show Str.ofString "z" = aO [122] from by decide +kernel]
theorem AV {x : V} : [x,V.str (Str.ofString "A"),V.str (Str.ofString "Z")] = [x,V.str (aO [65]),V.str (aO [90])]:=by
 rw [show Str.ofString "A" = aO [65] from by decide +kernel,show Str.ofString "Z" = aO [90] from by decide +kernel]
theorem EH {x : V} : [x,V.str (Str.ofString "0"),V.str (Str.ofString "9")] = [x,V.str (aO [48]),V.str (aO [57])]:=by
 rw [show Str.ofString "0" = aO [48] from by decide +kernel,show Str.ofString "9" = aO [57] from by decide +kernel]
theorem dC {n : Int} (h0 : 0 <= n) : 1 <= (cu n).length /\ ∀ c ∈ (cu n).cps.toList,inR 48 57 c = true:=by
 obtain ⟨m,rfl⟩:=Int.eq_ofNat_of_zero_le h0
 have e : (cu ((m : Nat) : Int)).cps.toList = (Nat.toDigits 10 m).map Char.toNat:=PySem.W.KIN.signs_num m
 constructor
 ·rw [du,e,lm_]
  exact (by first | exact PySem.P.toDigits_len_ge 10 m | exact PySem.toDigits_len_ge 10 m)
 ·intro c hc
  rw [e] at hc
  obtain ⟨ch,hch,ec⟩:=List.mem_map.mp hc
  have r:=PyProof.Rows.digit_range (Nat.isDigit_of_mem_toDigits (by decide) (by decide) hch)
  rw [<- ec]
  exact decide_eq_true r
section
variable {P : Program} {w : World} {K : PySem.W.Frag} {mg : Str -> Option Value} {base : Heap} {f : Addr} {fd : FuncData} {dV : Value} {C TW : Addr} {tk : Tok}
theorem zg : FnScope ["thing","first","last"] ["thing","first","last"] (ai cW):=⟨rfl,rfl,rfl,by decide +kernel,rfl,by decide +kernel,by decide +kernel⟩
theorem bk_is_text_of_0 : BlkScope ["thing","first","last"] (ai cW) ["letter","first","last"] [none,some 1,some 2] { kind:=ScopeKind.function,names:=[(".0",NameKind.local),("letter",NameKind.local),("first",NameKind.free),("last",NameKind.free)],isGenerator:=false,isCoroutine:=false,more:=[] }:=⟨rfl,by decide +kernel,by decide +kernel,by decide +kernel,by decide +kernel,rfl,by decide +kernel⟩
theorem DX : FnScope ["thing"] ["thing"] (ai iA):=⟨rfl,rfl,rfl,by decide +kernel,rfl,by decide +kernel,by decide +kernel⟩
theorem xZ : FnScope ["thing"] ["thing"] (ai df):=⟨rfl,rfl,rfl,by decide +kernel,rfl,by decide +kernel,by decide +kernel⟩
theorem sc_Reader_name : FnScope ["self","letters"] ["self"] (ai da):=⟨rfl,rfl,rfl,by decide +kernel,rfl,by decide +kernel,by decide +kernel⟩
theorem sc_Reader_number : FnScope ["self","digits"] ["self"] (ai cx):=⟨rfl,rfl,rfl,by decide +kernel,rfl,by decide +kernel,by decide +kernel⟩
end
def gL (p : Prt) : Prop:=(p.2 = ("" : Str) /\ 0 <= p.1 /\ p.1 <= 999999) \/ (cn p.2 /\ 1 <= p.1 /\ p.1 <= 20)
def C2 (r : List Nat) : Prop := ∀ c,r.head? = some c -> inR 48 57 c = false /\ inR 97 122 c = false /\ c ≠ 42
theorem vX {n : Str} {a b : Nat} (h : jV a b n) (r : List Nat) : ∃ c,(n.cps.toList ++ r).head? = some c /\ inR a b c = true:=by
 cases e : n.cps.toList with
 | nil =>
  have h1:=h.1
  rw [du,e] at h1
  exact absurd h1 (by decide)
 | cons c l => exact ⟨c,rfl,h.2.2 c (by rw [e]; exact List.mem_cons_self)⟩
theorem GF {c : Nat} (h : inR 97 122 c = true) : inR 48 57 c = false /\ inR 65 90 c = false:=by
 have:=of_decide_eq_true h
 exact ⟨decide_eq_false (by omega),decide_eq_false (by omega)⟩
theorem vW {n : Str} (h : cn n) : n ≠ ("" : Str):=fun e => by
 have:=h.1.1
 rw [e] at this
 exact absurd this (by decide)
theorem CW : (Str.ofString "*").cps.toList = [42]:=by decide +kernel
section
variable {P : Program} {w : World} {K : PySem.W.Frag} {mg : Str -> Option Value} {base : Heap} {f : Addr} {fd : FuncData} {dV : Value} {C TW : Addr} {tk : Tok}
theorem sc_Reader_part : FnScope ["self","begin","number"] ["self"] (ai de):=⟨rfl,rfl,rfl,by decide +kernel,rfl,by decide +kernel,by decide +kernel⟩
theorem sc_Reader_added : FnScope ["self","parts"] ["self"] (ai cJ):=⟨rfl,rfl,rfl,by decide +kernel,rfl,by decide +kernel,by decide +kernel⟩
end
def cM : List Prt -> Str
 | [] => ""
 | q :: qs => (" + " : Str) ++ (aR q ++ cM qs)
theorem E7 (a : Str) : a ++ ("" : Str) = a:=str_inj (by rw [aj]; show _ ++ (Str.ofString "").cps.toList = _; rw [show (Str.ofString "").cps.toList = [] from by decide +kernel,List.append_nil])
theorem iB : ∀ (p : Prt) (qs : List Prt),bx (p :: qs) = aR p ++ cM qs
 | p,[] => by
  unfold bx Txt.join
  rw [StrLaws.glued_eq_join]
  exact (E7 (aR p)).symm
 | p,q :: qs => by
  have ih:=iB q qs
  unfold bx Txt.join at ih ⊢
  rw [StrLaws.glued_eq_join] at ih ⊢
  show aR p ++ (" + " : Str) ++ Str.join (" + " : Str) ((q :: qs).map aR) = _
  rw [ih,Str.append_assoc]
  rfl
def dS (ps : List Prt) : Prop:=ps ≠ [] /\ ps.length <= 8 /\ ∀ p ∈ ps,gL p
def C3 (r : List Nat) : Prop:=C2 r /\ (Str.ofString " + ").cps.toList.isPrefixOf r = false
theorem kR : (Str.ofString " + ").cps.toList = [32,43,32]:=by decide +kernel
theorem xb {qs : List Prt} {r : List Nat} (h : C2 r) : C2 ((cM qs).cps.toList ++ r):=by
 cases qs with
 | nil =>
  show C2 ((Str.ofString "").cps.toList ++ r)
  rw [show (Str.ofString "").cps.toList = [] from by decide +kernel]
  exact h
 | cons q qs =>
  intro c hc
  have e : (cM (q :: qs)).cps.toList = [32,43,32] ++ (aR q ++ cM qs).cps.toList:=by
   show ((Str.ofString " + ") ++ (aR q ++ cM qs)).cps.toList = _
   rw [aj,kR]
  rw [e] at hc
  cases hc
  decide
theorem tkB {H H' : Hp} {C x : Addr} {z : Str} {i : Nat} (rd : Rd H C x z i) (bt : But x H H') : jH H H' := fun b xs e => bt b _ (fun h => by
 obtain ⟨dx,hx⟩:=rd.ob
 rw [h,hx] at e
 cases e) e
theorem qT {R : Addr -> Prt -> Prop} : ∀ {as : List Addr} {ps : List Prt} {a : Addr} {p : Prt},Paired R as ps -> R a p -> Paired R (as ++ [a]) (ps ++ [p])
 | _,_,_,_,.nil,h => .cons h .nil
 | _,_,_,_,.cons q t,h => .cons q (qT t h)
section
variable {P : Program} {w : World} {K : PySem.W.Frag} {mg : Str -> Option Value} {base : Heap} {f : Addr} {fd : FuncData} {dV : Value} {C TW : Addr} {tk : Tok}
end
theorem nV {w t : List Nat} {a b : Nat} (hw : w.head? = some a) (ht : t.head? = some b) (ne : a ≠ b) : w.isPrefixOf t = false:=by
 cases w with
 | nil => cases hw
 | cons x w =>
  cases t with
  | nil => cases ht
  | cons y t =>
   cases hw
   cases ht
   show ((a == b) && _) = false
   rw [show (a == b) = false from by simpa using ne]
   rfl
def cw (k : Str) : Str:=(" " : Str) ++ k ++ (" " : Str)
def FolT (r : List Nat) : Prop:=r = [] \/ (∃ t,r = 41 :: t) \/ (∃ t,r = [32,97,110,100,32] ++ t) \/ ∃ t,r = [32,111,114,32] ++ t
theorem FolT.fs {r : List Nat} (h : FolT r) : C3 r:=by
 unfold C3
 rw [kR]
 rcases h with e | ⟨t,e⟩ | ⟨t,e⟩ | ⟨t,e⟩ <;> subst e
 ·exact ⟨fun c hc => (by cases hc),rfl⟩
 ·exact ⟨fun c hc => by (cases hc; decide),rfl⟩
 ·exact ⟨fun c hc => by (cases hc; decide),rfl⟩
 ·exact ⟨fun c hc => by (cases hc; decide),rfl⟩
theorem FolT.off {r : List Nat} (h : FolT r) : Off1 48 57 r:=fun c hc => (h.fs.1 c hc).1
def yq (k : Str) : Prop:=k = ("=" : Str) \/ k = ("<=" : Str) \/ k = ("<" : Str)
theorem me (k : Str) : (cw k).cps.toList = 32 :: (k.cps.toList ++ [32]):=by
 unfold cw
 rw [aj,aj]
 show ((Str.ofString " ").cps.toList ++ k.cps.toList) ++ (Str.ofString " ").cps.toList = _
 rw [show (Str.ofString " ").cps.toList = [32] from by decide +kernel]
 rfl
theorem tD : (("=" : Str)).cps.toList = [61]:=by decide +kernel
theorem tQ : (("<=" : Str)).cps.toList = [60,61]:=by decide +kernel
theorem tR : (("<" : Str)).cps.toList = [60]:=by decide +kernel
theorem AA {k : Str} (h : yq k) (t : List Nat) : C3 ((cw k).cps.toList ++ t):=by
 unfold C3
 rw [kR,me]
 rcases h with e | e | e <;> subst e
 ·rw [tD]; exact ⟨fun c hc => by (cases hc; decide),rfl⟩
 ·rw [tQ]; exact ⟨fun c hc => by (cases hc; decide),rfl⟩
 ·rw [tR]; exact ⟨fun c hc => by (cases hc; decide),rfl⟩
theorem II {k k' : Str} (h : yq k) (h' : yq k') (t : List Nat) : (cw k').cps.toList.isPrefixOf ((cw k).cps.toList ++ t) = decide (k' = k):=by
 have n1 : (("=" : Str)) ≠ ("<=" : Str):=by decide +kernel
 have n2 : (("=" : Str)) ≠ ("<" : Str):=by decide +kernel
 have n3 : (("<=" : Str)) ≠ ("<" : Str):=by decide +kernel
 rw [me,me]
 rcases h with e | e | e <;> rcases h' with e' | e' | e' <;> subst e e'
 ·rw [decide_eq_true rfl,tD]; rfl
 ·rw [decide_eq_false (Ne.symm n1),tD,tQ]; rfl
 ·rw [decide_eq_false (Ne.symm n2),tD,tR]; rfl
 ·rw [decide_eq_false n1,tD,tQ]; rfl
 ·rw [decide_eq_true rfl,tQ]; rfl
 ·rw [decide_eq_false (Ne.symm n3),tR,tQ]; rfl
 ·rw [decide_eq_false n2,tD,tR]; rfl
 ·rw [decide_eq_false n3,tR,tQ]; rfl
 ·rw [decide_eq_true rfl,tR]; rfl
section
variable {P : Program} {w : World} {K : PySem.W.Frag} {mg : Str -> Option Value} {base : Heap} {f : Addr} {fd : FuncData} {dV : Value} {C TC : Addr} {tk : Tok}
theorem sc_Reader_compared : FnScope ["self","one","kind"] ["self"] (ai bQ):=⟨rfl,rfl,rfl,by decide +kernel,rfl,by decide +kernel,by decide +kernel⟩
theorem sc_Reader_place_of : FnScope ["self","row","added"] ["self","row"] (ai bR):=⟨rfl,rfl,rfl,by decide +kernel,rfl,by decide +kernel,by decide +kernel⟩
theorem sc_Reader_looked_up : FnScope ["self","row","one","other_row"] ["self","row"] (ai bJ):=⟨rfl,rfl,rfl,by decide +kernel,rfl,by decide +kernel,by decide +kernel⟩
end
def Wr : Stt -> Prop
 | .cmp k a b => yq k /\ dS a /\ dS b
 | .sg r a s => fm r /\ dS a /\ 0 <= s /\ s <= 999999
 | .lk r a q b => fm r /\ dS a /\ fm q /\ dS b
 | .no s => Wr s
 | .jn k s t => (k = ("and" : Str) \/ k = ("or" : Str)) /\ Wr s /\ Wr t
 | .ch k n s => (k = ("some" : Str) \/ k = ("all" : Str)) /\ cn n /\ Wr s
def brk (a : List Prt) : Str:=("[" : Str) ++ bx a ++ ("]" : Str)
def jnT (k : Str) (s t : Stt) : Str:=aq s ++ cw k ++ aq t ++ (")" : Str)
def chT (n : Str) (s : Stt) : Str:=n ++ (": " : Str) ++ aq s
theorem vT : (("and" : Str)).cps.toList = [97,110,100]:=by decide +kernel
theorem Bi : (("or" : Str)).cps.toList = [111,114]:=by decide +kernel
theorem Hk : (("some" : Str)).cps.toList = [115,111,109,101]:=by decide +kernel
theorem HM : (("all" : Str)).cps.toList = [97,108,108]:=by decide +kernel
theorem Gk {k : Str} (h : k = ("and" : Str) \/ k = ("or" : Str)) (t : List Nat) : FolT ((cw k).cps.toList ++ t):=by
 rw [me]
 rcases h with e | e <;> subst e
 ·rw [vT]; exact .inr (.inr (.inl ⟨t,rfl⟩))
 ·rw [Bi]; exact .inr (.inr (.inr ⟨t,rfl⟩))
theorem Gq {k k' : Str} (h : k = ("and" : Str) \/ k = ("or" : Str)) (h' : k' = ("and" : Str) \/ k' = ("or" : Str)) (t : List Nat) : (cw k').cps.toList.isPrefixOf ((cw k).cps.toList ++ t) = decide (k' = k):=by
 have n1 : (("and" : Str)) ≠ ("or" : Str):=by decide +kernel
 rw [me,me]
 rcases h with e | e <;> rcases h' with e' | e' <;> subst e e'
 ·rw [decide_eq_true rfl,vT]; rfl
 ·rw [decide_eq_false (Ne.symm n1),vT,Bi]; rfl
 ·rw [decide_eq_false n1,vT,Bi]; rfl
 ·rw [decide_eq_true rfl,Bi]; rfl
section
variable {P : Program} {w : World} {K : PySem.W.Frag} {mg : Str -> Option Value} {base : Heap} {f : Addr} {fd : FuncData} {dV : Value} {C TC TJ : Addr} {tk : Tok}
theorem sc_Reader_joined : FnScope ["self","deep","one","kind","other"] ["self","deep"] (ai bU):=⟨rfl,rfl,rfl,by decide +kernel,rfl,by decide +kernel,by decide +kernel⟩
theorem sc_Reader_chosen : FnScope ["self","kind","deep","name"] ["self","kind","deep"] (ai bT):=⟨rfl,rfl,rfl,by decide +kernel,rfl,by decide +kernel,by decide +kernel⟩
end
theorem rP : (Str.ofString "not ").cps.toList = [110,111,116,32]:=by decide +kernel
theorem rV : (Str.ofString "(").cps.toList = [40]:=by decide +kernel
theorem gp : (("some" : Str) ++ (" " : Str)).cps.toList = [115,111,109,101] ++ [32]:=by decide +kernel
theorem iP : (("all" : Str) ++ (" " : Str)).cps.toList = [97,108,108] ++ [32]:=by decide +kernel
theorem tw_app {f : Nat -> Bool} : ∀ {p r : List Nat},(∀ c ∈ p,f c = true) -> (∀ c,r.head? = some c -> f c = false) -> (p ++ r).takeWhile f = p
 | [],[],_,_ => rfl
 | [],c :: r,_,h => by
  rw [List.nil_append,List.takeWhile_cons,h c rfl]
  rfl
 | c :: p,r,hp,h => by
  rw [List.cons_append,List.takeWhile_cons,hp c List.mem_cons_self,if_pos rfl,tw_app (fun c' h' => hp c' (List.mem_cons_of_mem _ h')) h]
theorem A3 {w n : Str} (hw : ∀ c ∈ w.cps.toList,inR 97 122 c = true) (hW : inV (.str w) xq = true) (on : cn n) {rest : List Nat} (of : Off1 97 122 rest) : (w.cps.toList ++ [32]).isPrefixOf (n.cps.toList ++ rest) = false:=by
 rw [Bool.eq_false_iff]
 intro h
 obtain ⟨t,e⟩:=List.isPrefixOf_iff_prefix.mp h
 have e1:=tw_app (f:=inR 97 122) on.1.2.2 of
 have e2:=tw_app (f:=inR 97 122) (r:=32 :: t) hw (fun c hc => by (cases hc; decide))
 rw [<- e,List.append_assoc] at e1
 have e3 : w.cps.toList = n.cps.toList:=e2.symm.trans e1
 have:=on.2
 rw [<- str_inj e3,hW] at this
 cases this
def Start (T : List Nat) : Prop:=(∃ c,T.head? = some c /\ (inR 48 57 c = true \/ inR 65 90 c = true)) \/ ∃ (n : Str) (rest : List Nat),cn n /\ T = n.cps.toList ++ rest /\ Off1 97 122 rest
structure Plain (T : List Nat) : Prop where
 n : (Str.ofString "not ").cps.toList.isPrefixOf T = false
 p : (Str.ofString "(").cps.toList.isPrefixOf T = false
 s : (("some" : Str) ++ (" " : Str)).cps.toList.isPrefixOf T = false
 a : (("all" : Str) ++ (" " : Str)).cps.toList.isPrefixOf T = false
theorem CY {T : List Nat} (h : Start T) : Plain T:=by
 rcases h with ⟨c,hc,h⟩ | ⟨n,rest,on,e,of⟩
 ·have hr : c <= 90 /\ 48 <= c:=by
   rcases h with h | h
   ·have:=of_decide_eq_true h; omega
   ·have:=of_decide_eq_true h; omega
  exact ⟨by rw [rP]; exact nV rfl hc (by omega),by rw [rV]; exact nV rfl hc (by omega),by rw [gp]; exact nV rfl hc (by omega),by rw [iP]; exact nV rfl hc (by omega)⟩
 ·subst e
  obtain ⟨c,hc,hcr⟩:=vX on.1 rest
  have hr:=of_decide_eq_true hcr
  refine ⟨?_,by rw [rV]; exact nV rfl hc (by omega),?_,?_⟩
  ·have:=A3 (w:=("not" : Str)) (by decide +kernel) (by decide +kernel) on of
   rw [show (("not" : Str)).cps.toList = [110,111,116] from by decide +kernel] at this
   rw [rP]
   exact this
  ·have:=A3 (w:=("some" : Str)) (by decide +kernel) (by decide +kernel) on of
   rw [Hk] at this
   rw [gp]
   exact this
  ·have:=A3 (w:=("all" : Str)) (by decide +kernel) (by decide +kernel) on of
   rw [HM] at this
   rw [iP]
   exact this
theorem zT {a : List Prt} (h : dS a) {t : List Nat} (ft : C2 t) : Start ((bx a).cps.toList ++ t) /\ Off1 65 90 ((bx a).cps.toList ++ t):=by
 cases a with
 | nil => exact absurd rfl h.1
 | cons p qs =>
  have po:=h.2.2 p List.mem_cons_self
  rw [iB,aj,List.append_assoc]
  have ft' : C2 ((cM qs).cps.toList ++ t):=xb ft
  by_cases cA : ¬ p.2 = ("" : Str) /\ p.1 = 1
  ·have en : aR p = p.2:=(if_neg cA.1).trans (if_pos cA.2)
   have on : cn p.2:=by
    rcases po with o | o
    ·exact absurd o.1 cA.1
    ·exact o.1
   rw [en]
   obtain ⟨c,hc,hcr⟩:=vX on.1 ((cM qs).cps.toList ++ t)
   refine ⟨.inr ⟨p.2,_,on,rfl,fun c hc => (ft' c hc).2.1⟩,fun c' hc' => ?_⟩
   rw [hc] at hc'
   cases hc'
   exact (GF hcr).2
  ·have n01 : 0 <= p.1:=by
    rcases po with o | o
    ·exact o.2.1
    ·omega
   obtain ⟨R,hR⟩ : ∃ R,(aR p).cps.toList = (cu p.1).cps.toList ++ R:=by
    by_cases c2 : p.2 = ("" : Str)
    ·exact ⟨[],by rw [show aR p = cu p.1 from if_pos c2,List.append_nil]⟩
    ·have c1 : ¬ p.1 = 1:=fun h => cA ⟨c2,h⟩
     exact ⟨_,by rw [show aR p = cu p.1 ++ ("*" : Str) ++ p.2 from (if_neg c2).trans (if_neg c1),aj,aj,List.append_assoc]⟩
   have nd:=dC n01
   rw [hR]
   cases e : (cu p.1).cps.toList with
   | nil =>
    have:=nd.1
    rw [du,e] at this
    exact absurd this (by decide)
   | cons c l =>
    have hd:=nd.2 c (by rw [e]; exact List.mem_cons_self)
    refine ⟨.inl ⟨c,rfl,.inl hd⟩,fun c' hc' => ?_⟩
    cases hc'
    have:=of_decide_eq_true hd
    exact decide_eq_false (by omega)
theorem zR {row : Str} (h : fm row) (t : List Nat) : Start (row.cps.toList ++ t):=by
 obtain ⟨c,hc,hr⟩:=vX h t
 exact .inl ⟨c,hc,.inr hr⟩
theorem sq (r : Str) (a : List Prt) (s : Int) : aq (.sg r a s) = r ++ (brk a ++ (" = " : Str) ++ cu s):=by
 unfold aq kC brk
 simp only [Str.append_assoc]
theorem sk (r : Str) (a : List Prt) (q : Str) (b : List Prt) : aq (.lk r a q b) = r ++ (brk a ++ (" = " : Str) ++ (q ++ brk b)):=by
 unfold aq kC brk
 simp only [Str.append_assoc]
theorem mf (k : Str) (s t : Stt) : aq (.jn k s t) = ("(" : Str) ++ jnT k s t:=by
 show ("(" : Str) ++ aq s ++ cw k ++ aq t ++ (")" : Str) = _
 unfold jnT
 simp only [Str.append_assoc]
theorem wb (k n : Str) (s : Stt) : aq (.ch k n s) = (k ++ (" " : Str)) ++ chT n s:=by
 show (k ++ (" " : Str) ++ n ++ (": " : Str)) ++ aq s = _
 unfold chT
 simp only [Str.append_assoc]
def Ds : List V:=[.str "some",.str "all"]
theorem HS {k k' : Str} (h : k = ("some" : Str) \/ k = ("all" : Str)) (h' : k' = ("some" : Str) \/ k' = ("all" : Str)) (t : List Nat) : (k' ++ (" " : Str)).cps.toList.isPrefixOf ((k ++ (" " : Str)).cps.toList ++ t) = decide (k' = k):=by
 have n1 : (("some" : Str)) ≠ ("all" : Str):=by decide +kernel
 rcases h with e | e <;> rcases h' with e' | e' <;> subst e e'
 ·rw [decide_eq_true rfl,gp]; rfl
 ·rw [decide_eq_false (Ne.symm n1),gp,iP]; rfl
 ·rw [decide_eq_false n1,gp,iP]; rfl
 ·rw [decide_eq_true rfl,iP]; rfl
section
variable {P : Program} {w : World} {K : PySem.W.Frag} {mg : Str -> Option Value} {base : Heap} {f : Addr} {fd : FuncData} {dV : Value} {C TH : Addr} {tk : Tok}
theorem sc_Reader_statement : FnScope ["self","deep","kind","row"] ["self","deep"] (ai bq):=⟨rfl,rfl,rfl,by decide +kernel,rfl,by decide +kernel,by decide +kernel⟩
theorem sc_read : FnScope ["text","reader","statement"] ["text"] (ai ug):=⟨rfl,rfl,rfl,by decide +kernel,rfl,by decide +kernel,by decide +kernel⟩
theorem rj : FnScope ["self","text"] ["self","text"] (ai bP):=⟨rfl,rfl,rfl,by decide +kernel,rfl,by decide +kernel,by decide +kernel⟩
end
instance (a b : Nat) (n : Str) : Decidable (jV a b n):=inferInstanceAs (Decidable (_ /\ _ /\ _))
instance (n : Str) : Decidable (cn n):=inferInstanceAs (Decidable (_ /\ _))
instance (n : Str) : Decidable (fm n):=inferInstanceAs (Decidable (jV _ _ _))
instance (n : Str) : Decidable (yq n):=inferInstanceAs (Decidable (_ \/ _))
instance (p : Prt) : Decidable (gL p):=inferInstanceAs (Decidable (_ \/ _))
instance (ps : List Prt) : Decidable (dS ps):=inferInstanceAs (Decidable (_ /\ _ /\ _))
def wrD : (st : Stt) -> Decidable (Wr st)
 | .cmp k a b => inferInstanceAs (Decidable (yq k /\ dS a /\ dS b))
 | .sg r a s => inferInstanceAs (Decidable (fm r /\ dS a /\ 0 <= s /\ s <= 999999))
 | .lk r a q b => inferInstanceAs (Decidable (fm r /\ dS a /\ fm q /\ dS b))
 | .no s => wrD s
 | .jn k s t => have:=wrD s; have:=wrD t; inferInstanceAs (Decidable ((k = ("and" : Str) \/ k = ("or" : Str)) /\ Wr s /\ Wr t))
 | .ch k n s => have:=wrD s; inferInstanceAs (Decidable ((k = ("some" : Str) \/ k = ("all" : Str)) /\ cn n /\ Wr s))
instance (st : Stt) : Decidable (Wr st):=wrD st
def cF (w : Str) (T : List Nat) : Option (List Nat):=if w.cps.toList.isPrefixOf T = true then some (T.drop w.length) else none
theorem dh {w : Str} {T T1 : List Nat} (h : cF w T = some T1) : w.cps.toList.isPrefixOf T = true /\ T = w.cps.toList ++ T1:=by
 unfold cF at h
 by_cases c : w.cps.toList.isPrefixOf T = true
 ·rw [if_pos c] at h
  obtain ⟨t,e⟩:=List.isPrefixOf_iff_prefix.mp c
  cases h
  refine ⟨c,?_⟩
  rw [<- e,du,List.drop_left]
 ·rw [if_neg c] at h
  cases h
theorem dE (w : Str) (T : List Nat) : cF w (w.cps.toList ++ T) = some T:=by
 unfold cF
 rw [if_pos (List.isPrefixOf_iff_prefix.mpr (List.prefix_append ..)),du,List.drop_left]
theorem bV {w : Str} {T : List Nat} (h : w.cps.toList.isPrefixOf T = false) : cF w T = none:=if_neg (by rw [h]; decide)
theorem Ay {f : Nat -> Bool} : ∀ {p r : List Nat},(∀ c ∈ p,f c = true) -> (∀ c,r.head? = some c -> f c = false) -> (p ++ r).dropWhile f = r
 | [],[],_,_ => rfl
 | [],c :: r,_,h => by
  rw [List.nil_append,List.dropWhile_cons,h c rfl]
  rfl
 | c :: p,r,hp,h => by
  rw [List.cons_append,List.dropWhile_cons,hp c List.mem_cons_self,if_pos rfl,Ay (fun c' h' => hp c' (List.mem_cons_of_mem _ h')) h]
theorem tw_in {f : Nat -> Bool} : ∀ {T : List Nat},∀ c ∈ T.takeWhile f,f c = true
 | [],c,h => nomatch h
 | d :: T,c,h => by
  rw [List.takeWhile_cons] at h
  by_cases e : f d = true
  ·rw [if_pos e] at h
   rcases List.mem_cons.mp h with z | z
   ·rw [z]; exact e
   ·exact tw_in (T:=T) c z
  ·rw [if_neg e] at h
   cases h
theorem tw {f : Nat -> Bool} : ∀ {T : List Nat},∀ c,(T.dropWhile f).head? = some c -> f c = false
 | [],c,h => nomatch h
 | d :: T,c,h => by
  rw [List.dropWhile_cons] at h
  by_cases e : f d = true
  ·rw [if_pos e] at h
   exact tw (T:=T) c h
  ·rw [if_neg e] at h
   cases h
   exact Bool.eq_false_iff.mpr e
theorem tw_dw {f : Nat -> Bool} {T : List Nat} : T.takeWhile f ++ T.dropWhile f = T:=List.takeWhile_append_dropWhile
def jx (T : List Nat) : Option (Str × List Nat):=if cn (aO (T.takeWhile (inR 97 122))) then some (aO (T.takeWhile (inR 97 122)),T.dropWhile (inR 97 122)) else none
theorem qL {T r : List Nat} {n : Str} (h : jx T = some (n,r)) : T = n.cps.toList ++ r /\ cn n:=by
 unfold jx at h
 by_cases c : cn (aO (T.takeWhile (inR 97 122)))
 ·rw [if_pos c] at h
  cases h
  exact ⟨tw_dw.symm,c⟩
 ·rw [if_neg c] at h
  cases h
theorem xx {n : Str} {r : List Nat} (on : cn n) (of : Off1 97 122 r) : jx (n.cps.toList ++ r) = some (n,r):=by
 unfold jx
 rw [tw_app on.1.2.2 of,Ay on.1.2.2 of,mj,if_pos on]
def oY (l : List Nat) : Nat:=l.foldl (fun acc c => acc * 10 + (c - 48)) 0
def qM (T : List Nat) : Option (Int × List Nat):=
 if T.takeWhile (inR 48 57) = [] then none else if cu (oY (T.takeWhile (inR 48 57))) ≠ aO (T.takeWhile (inR 48 57)) then none else if 999999 < (oY (T.takeWhile (inR 48 57)) : Int) then none else some ((oY (T.takeWhile (inR 48 57)) : Int),T.dropWhile (inR 48 57))
theorem zM {T r : List Nat} {n : Int} (h : qM T = some (n,r)) : T = (cu n).cps.toList ++ r /\ 0 <= n /\ n <= 999999:=by
 unfold qM at h
 by_cases c : T.takeWhile (inR 48 57) = []
 ·rw [if_pos c] at h; cases h
 rw [if_neg c] at h
 by_cases c1 : cu (oY (T.takeWhile (inR 48 57))) ≠ aO (T.takeWhile (inR 48 57))
 ·rw [if_pos c1] at h; cases h
 rw [if_neg c1] at h
 by_cases c2 : 999999 < (oY (T.takeWhile (inR 48 57)) : Int)
 ·rw [if_pos c2] at h; cases h
 rw [if_neg c2] at h
 cases h
 refine ⟨?_,by omega,by omega⟩
 rw [Decidable.not_not.mp c1]
 exact tw_dw.symm
theorem A4 {n : Int} {r : List Nat} (n0 : 0 <= n) (n1 : n <= 999999) (of : Off1 48 57 r) : qM ((cu n).cps.toList ++ r) = some (n,r):=by
 have nd:=dC n0
 have ev : ((oY (cu n).cps.toList : Nat) : Int) = n:=by
  obtain ⟨m,rfl⟩:=Int.eq_ofNat_of_zero_le n0
  have e : (cu ((m : Nat) : Int)).cps.toList = (Nat.toDigits 10 m).map Char.toNat:=PySem.W.KIN.signs_num m
  rw [e]
  exact congrArg _ (PySem.W.KIN.val_back m)
 have ne : ¬ (cu n).cps.toList = []:=fun z => by
  have:=nd.1
  rw [du,z] at this
  exact absurd this (by decide)
 unfold qM
 rw [tw_app nd.2 of,Ay nd.2 of,ev,mj,if_neg ne,if_neg (fun h => h rfl),if_neg (by omega)]
def gJ (T : List Nat) : Option (Prt × List Nat):=
 if T.takeWhile (inR 48 57) = [] then (jx T).bind fun q => some ((1,q.1),q.2)
 else (qM T).bind fun q => match cF "*" q.2 with
  | none => some ((q.1,""),q.2)
  | some T2 => if 2 <= q.1 /\ q.1 <= 20 then (jx T2).bind fun s => some ((q.1,s.1),s.2) else none
theorem qU {T r : List Nat} {p : Prt} (h : gJ T = some (p,r)) : T = (aR p).cps.toList ++ r /\ gL p:=by
 unfold gJ at h
 by_cases c : T.takeWhile (inR 48 57) = []
 ·rw [if_pos c] at h
  obtain ⟨⟨n,r1⟩,e,h⟩:=Option.bind_eq_some_iff.mp h
  cases h
  obtain ⟨e1,on⟩:=qL e
  refine ⟨?_,.inr ⟨on,by show (1 : Int) <= 1; decide,by show (1 : Int) <= 20; decide⟩⟩
  rw [show aR (1,n) = n from (if_neg (vW on)).trans (if_pos rfl)]
  exact e1
 ·rw [if_neg c] at h
  obtain ⟨⟨n,r1⟩,e,h⟩:=Option.bind_eq_some_iff.mp h
  obtain ⟨e1,n0,n1⟩:=zM e
  dsimp only at h
  cases e2 : cF "*" r1 with
  | none =>
   rw [e2] at h
   cases h
   refine ⟨?_,.inl ⟨rfl,n0,n1⟩⟩
   rw [show aR (n,("" : Str)) = cu n from if_pos rfl]
   exact e1
  | some T2 =>
   rw [e2] at h
   dsimp only at h
   by_cases c2 : 2 <= n /\ n <= 20
   ·rw [if_pos c2] at h
    obtain ⟨⟨s,r2⟩,e3,h⟩:=Option.bind_eq_some_iff.mp h
    cases h
    obtain ⟨e4,on⟩:=qL e3
    refine ⟨?_,.inr ⟨on,by show (1 : Int) <= n; omega,c2.2⟩⟩
    rw [show aR (n,s) = cu n ++ ("*" : Str) ++ s from (if_neg (vW on)).trans (if_neg (show ¬ n = 1 by omega)),aj,aj,List.append_assoc,List.append_assoc,<- e4,<- (dh e2).2]
    exact e1
   ·rw [if_neg c2] at h
    cases h
theorem CJ {p : Prt} {r : List Nat} (ok : gL p) (fo : C2 r) : gJ ((aR p).cps.toList ++ r) = some (p,r):=by
 obtain ⟨n,s⟩:=p
 unfold gJ
 by_cases c2 : s = ("" : Str)
 ·have n01 : 0 <= n /\ n <= 999999:=by
   rcases ok with o | o
   ·exact o.2
   ·exact absurd c2 (vW o.1)
  have nd:=dC n01.1
  have of : Off1 48 57 r:=fun c hc => (fo c hc).1
  rw [show aR (n,s) = cu n from if_pos c2,tw_app nd.2 of,if_neg,A4 n01.1 n01.2 of]
  ·show (match cF "*" r with | none => some ((n,("" : Str)),r) | some T2 => _) = _
   rw [bV,c2]
   show ([42] : List Nat).isPrefixOf r = false
   cases r with
   | nil => rfl
   | cons c l =>
    have:=(fo c rfl).2.2
    show ((42 == c) && _) = false
    rw [show (42 == c) = false from by simpa using fun h => this h.symm]
    rfl
  ·intro z
   have:=nd.1
   rw [du,z] at this
   exact absurd this (by decide)
 ·have on : cn s /\ 1 <= n /\ n <= 20:=by
   rcases ok with o | o
   ·exact absurd o.1 c2
   ·exact o
  have ofn : Off1 97 122 r:=fun c hc => (fo c hc).2.1
  by_cases c1 : n = 1
  ·rw [show aR (n,s) = s from (if_neg c2).trans (if_pos c1),if_pos,xx on.1 ofn,c1]
   ·rfl
   ·obtain ⟨c,hc,hcr⟩:=vX on.1.1 r
    cases e : s.cps.toList ++ r with
    | nil => rfl
    | cons d l =>
     rw [e] at hc
     cases hc
     rw [List.takeWhile_cons,(GF hcr).1]
     rfl
  ·have nd:=dC (n:=n) (by omega)
   have of : Off1 48 57 ((("*" : Str)).cps.toList ++ (s.cps.toList ++ r)):=by
    rw [CW]
    intro c hc
    cases hc
    decide
   rw [show aR (n,s) = cu n ++ ("*" : Str) ++ s from (if_neg c2).trans (if_neg c1),aj,aj,List.append_assoc,List.append_assoc,tw_app nd.2 of,if_neg,A4 (by omega) (by omega) of]
   ·show (match cF "*" ((("*" : Str)).cps.toList ++ (s.cps.toList ++ r)) with | none => some ((n,("" : Str)),(("*" : Str)).cps.toList ++ (s.cps.toList ++ r)) | some T2 => _) = _
    rw [dE]
    show (if 2 <= n /\ n <= 20 then (jx (s.cps.toList ++ r)).bind fun s => some ((n,s.1),s.2) else none) = _
    rw [if_pos ⟨by omega,by omega⟩,xx on.1 ofn]
    rfl
   ·intro z
    have:=nd.1
    rw [du,z] at this
    exact absurd this (by decide)
def dN : Nat -> List Nat -> Option (List Prt × List Nat)
 | 0,T => some ([],T)
 | k + 1,T => match cF " + " T with
  | none => some ([],T)
  | some T1 => (gJ T1).bind fun q => (dN k q.2).bind fun s => some (q.1 :: s.1,s.2)
theorem tail_nil : (cM []).cps.toList = []:=by decide +kernel
theorem xv : ∀ (k : Nat) {T r : List Nat} {ps : List Prt},dN k T = some (ps,r) -> T = (cM ps).cps.toList ++ r /\ ∀ p ∈ ps,gL p
 | 0,T,r,ps,h => by
  cases h
  exact ⟨by rw [tail_nil]; rfl,fun _ h => nomatch h⟩
 | k + 1,T,r,ps,h => by
  unfold dN at h
  cases e : cF " + " T with
  | none =>
   rw [e] at h
   cases h
   exact ⟨by rw [tail_nil]; rfl,fun _ h => nomatch h⟩
  | some T1 =>
   rw [e] at h
   obtain ⟨⟨p,r1⟩,e1,h⟩:=Option.bind_eq_some_iff.mp h
   obtain ⟨⟨qs,r2⟩,e2,h⟩:=Option.bind_eq_some_iff.mp h
   cases h
   obtain ⟨f1,o1⟩:=qU e1
   obtain ⟨f2,o2⟩:=xv k e2
   refine ⟨?_,fun q hq => by rcases List.mem_cons.mp hq with z | z; (rw [z]; exact o1); exact o2 q z⟩
   show T = (Str.ofString " + " ++ (aR p ++ cM qs)).cps.toList ++ r2
   rw [aj,aj,List.append_assoc,List.append_assoc,<- f2,<- f1]
   exact (dh e).2
theorem Cz : ∀ (qs : List Prt) {k : Nat} {r : List Nat},(∀ p ∈ qs,gL p) -> C3 r -> qs.length < k -> dN k ((cM qs).cps.toList ++ r) = some (qs,r)
 | [],k + 1,r,_,fo,_ => by
  unfold dN
  rw [tail_nil,List.nil_append,bV fo.2]
 | q :: qs,k + 1,r,ok,fo,l => by
  unfold dN
  have l' : qs.length < k:=by simpa using l
  have e : (cM (q :: qs)).cps.toList ++ r = (Str.ofString " + ").cps.toList ++ ((aR q).cps.toList ++ ((cM qs).cps.toList ++ r)):=by
   show (Str.ofString " + " ++ (aR q ++ cM qs)).cps.toList ++ r = _
   rw [aj,aj,List.append_assoc,List.append_assoc]
  rw [e,dE]
  show (gJ ((aR q).cps.toList ++ ((cM qs).cps.toList ++ r))).bind _ = _
  rw [CJ (ok q List.mem_cons_self) (xb fo.1)]
  show (dN k ((cM qs).cps.toList ++ r)).bind _ = _
  rw [Cz qs (fun p hp => ok p (List.mem_cons_of_mem _ hp)) fo l']
  rfl
 | _,0,_,_,_,l => absurd l (Nat.not_lt_zero _)
def sumF (T : List Nat) : Option (List Prt × List Nat):=(gJ T).bind fun q => (dN 1000 q.2).bind fun s => if s.1.length <= 7 then some (q.1 :: s.1,s.2) else none
theorem uq {T r : List Nat} {a : List Prt} (h : sumF T = some (a,r)) : T = (bx a).cps.toList ++ r /\ dS a:=by
 obtain ⟨⟨p,r1⟩,e1,h⟩:=Option.bind_eq_some_iff.mp h
 obtain ⟨⟨qs,r2⟩,e2,h⟩:=Option.bind_eq_some_iff.mp h
 dsimp only at h
 by_cases c : qs.length <= 7
 ·rw [if_pos c] at h
  cases h
  obtain ⟨f1,o1⟩:=qU e1
  obtain ⟨f2,o2⟩:=xv _ e2
  refine ⟨?_,List.cons_ne_nil _ _,by simpa using c,fun q hq => by rcases List.mem_cons.mp hq with z | z; (rw [z]; exact o1); exact o2 q z⟩
  rw [iB,aj,List.append_assoc,<- f2]
  exact f1
 ·rw [if_neg c] at h
  cases h
theorem BM {a : List Prt} {r : List Nat} (h : dS a) (fo : C3 r) : sumF ((bx a).cps.toList ++ r) = some (a,r):=by
 cases a with
 | nil => exact absurd rfl h.1
 | cons p qs =>
  unfold sumF
  have l8:=h.2.1
  rw [List.length_cons] at l8
  rw [iB,aj,List.append_assoc,CJ (h.2.2 p List.mem_cons_self) (xb fo.1)]
  show (dN 1000 ((cM qs).cps.toList ++ r)).bind _ = _
  rw [Cz qs (fun q hq => h.2.2 q (List.mem_cons_of_mem _ hq)) fo (by omega)]
  exact if_pos (show qs.length <= 7 by omega)
def fh (g : Str -> Str) : List Str -> List Nat -> Option (Str × List Nat)
 | [],_ => none
 | k :: ks,T => match cF (g k) T with
  | some T1 => some (k,T1)
  | none => fh g ks T
theorem kM {g : Str -> Str} : ∀ {ks : List Str} {T r : List Nat} {k : Str},fh g ks T = some (k,r) -> k ∈ ks /\ T = (g k).cps.toList ++ r
 | [],_,_,_,h => nomatch h
 | k' :: ks,T,r,k,h => by
  unfold fh at h
  cases e : cF (g k') T with
  | none =>
   rw [e] at h
   exact ⟨List.mem_cons_of_mem _ (kM h).1,(kM h).2⟩
  | some T1 =>
   rw [e] at h
   cases h
   exact ⟨List.mem_cons_self,(dh e).2⟩
theorem vU {g : Str -> Str} {k : Str} {t : List Nat} : ∀ {ks : List Str},(∀ k' ∈ ks,(g k').cps.toList.isPrefixOf ((g k).cps.toList ++ t) = decide (k' = k)) -> k ∈ ks -> fh g ks ((g k).cps.toList ++ t) = some (k,t)
 | [],_,h => nomatch h
 | k' :: ks,hp,h => by
  unfold fh
  by_cases e : k' = k
  ·subst e
   rw [dE]
  ·have:=hp k' List.mem_cons_self
   rw [decide_eq_false e] at this
   rw [bV this]
   exact vU (fun q hq => hp q (List.mem_cons_of_mem _ hq)) ((List.mem_cons.mp h).resolve_left (Ne.symm e))
theorem Ez {g : Str -> Str} {T : List Nat} : ∀ {ks : List Str},(∀ k ∈ ks,(g k).cps.toList.isPrefixOf T = false) -> fh g ks T = none
 | [],_ => rfl
 | k :: ks,h => by
  unfold fh
  rw [bV (h k List.mem_cons_self)]
  exact Ez fun q hq => h q (List.mem_cons_of_mem _ hq)
def cmpKs : List Str:=["=","<=","<"]
def joinKs : List Str:=["and","or"]
def choKs : List Str:=["some","all"]
theorem cmpKs_in {k : Str} : k ∈ cmpKs ↔ yq k:=by
 unfold cmpKs yq
 simp only [List.mem_cons,List.not_mem_nil,or_false]
theorem joinKs_in {k : Str} : k ∈ joinKs ↔ (k = ("and" : Str) \/ k = ("or" : Str)):=by
 unfold joinKs
 simp only [List.mem_cons,List.not_mem_nil,or_false]
theorem choKs_in {k : Str} : k ∈ choKs ↔ (k = ("some" : Str) \/ k = ("all" : Str)):=by
 unfold choKs
 simp only [List.mem_cons,List.not_mem_nil,or_false]
def dy (k : Str) : Str:=k ++ (" " : Str)
def yz (T : List Nat) : Option (Stt × List Nat):=(sumF T).bind fun q => (fh cw cmpKs q.2).bind fun w => (sumF w.2).bind fun s => some (.cmp w.1 q.1 s.1,s.2)
def gi (row : Str) (T : List Nat) : Option (List Prt × List Nat):=if fm row then (cF "[" T).bind fun T1 => (sumF T1).bind fun q => (cF "]" q.2).bind fun T3 => some (q.1,T3) else none
def rO (row : Str) (T : List Nat) : Option (Stt × List Nat):=(gi row T).bind fun q => (cF " = " q.2).bind fun T2 =>
 if T2.takeWhile (inR 65 90) = [] then (qM T2).bind fun s => some (.sg row q.1 s.1,s.2)
 else (gi (aO (T2.takeWhile (inR 65 90))) (T2.dropWhile (inR 65 90))).bind fun s => some (.lk row q.1 (aO (T2.takeWhile (inR 65 90))) s.1,s.2)
def uB (S : List Nat -> Option (Stt × List Nat)) (T : List Nat) : Option (Stt × List Nat):=(S T).bind fun q => (fh cw joinKs q.2).bind fun w => (S w.2).bind fun s => (cF ")" s.2).bind fun T5 => some (.jn w.1 q.1 s.1,T5)
def Ak (S : List Nat -> Option (Stt × List Nat)) (k : Str) (T : List Nat) : Option (Stt × List Nat):=(jx T).bind fun q => (cF ": " q.2).bind fun T2 => (S T2).bind fun s => some (.ch k q.1 s.1,s.2)
def dQ (T : List Nat) : Option (Stt × List Nat):=if T.takeWhile (inR 65 90) = [] then yz T else rO (aO (T.takeWhile (inR 65 90))) (T.dropWhile (inR 65 90))
def bS : Nat -> List Nat -> Option (Stt × List Nat)
 | 0,_ => none
 | d + 1,T => match cF "not " T with
  | some T1 => (bS d T1).bind fun s => some (.no s.1,s.2)
  | none => match cF "(" T with
   | some T1 => uB (bS d) T1
   | none => match fh dy choKs T with
    | some w => Ak (bS d) w.1 w.2
    | none => dQ T
def gK (z : Str) : Option Stt:=if 1000 < z.length then none else (bS 21 z.cps.toList).bind fun q => if q.2 = [] then some q.1 else none
theorem strL_nil {l : List Nat} : aO l = ("" : Str) ↔ l = []:=by
 constructor
 ·intro h
  have:=congrArg (fun s : Str => s.cps.toList) h
  rw [show (("" : Str)).cps.toList = [] from by decide +kernel] at this
  exact this
 ·rintro rfl
  decide +kernel
theorem Fc {T r : List Nat} {st : Stt} (h : yz T = some (st,r)) : T = (aq st).cps.toList ++ r /\ Wr st /\ aN st = 0:=by
 obtain ⟨⟨a,r1⟩,e1,h⟩:=Option.bind_eq_some_iff.mp h
 obtain ⟨⟨k,r2⟩,e2,h⟩:=Option.bind_eq_some_iff.mp h
 obtain ⟨⟨b,r3⟩,e3,h⟩:=Option.bind_eq_some_iff.mp h
 cases h
 obtain ⟨f1,o1⟩:=uq e1
 obtain ⟨f2,o2⟩:=kM e2
 obtain ⟨f3,o3⟩:=uq e3
 dsimp only at o2 f3
 refine ⟨?_,⟨cmpKs_in.mp f2,o1,o3⟩,rfl⟩
 rw [show aq (.cmp k a b) = (bx a ++ cw k) ++ bx b from rfl,aj,aj,List.append_assoc,List.append_assoc,<- f3,<- o2]
 exact f1
theorem uF {T r : List Nat} {row : Str} {a : List Prt} (h : gi row T = some (a,r)) : T = (brk a).cps.toList ++ r /\ dS a /\ fm row:=by
 unfold gi at h
 by_cases c : fm row
 ·rw [if_pos c] at h
  obtain ⟨r1,e1,h⟩:=Option.bind_eq_some_iff.mp h
  obtain ⟨⟨a',r2⟩,e2,h⟩:=Option.bind_eq_some_iff.mp h
  obtain ⟨r3,e3,h⟩:=Option.bind_eq_some_iff.mp h
  cases h
  obtain ⟨f2,o2⟩:=uq e2
  refine ⟨?_,o2,c⟩
  unfold brk
  rw [aj,aj,List.append_assoc,List.append_assoc,<- (dh e3).2]
  dsimp only
  rw [<- f2]
  exact (dh e1).2
 ·rw [if_neg c] at h
  cases h
theorem Dw {T r : List Nat} {row : Str} {st : Stt} (h : rO row T = some (st,r)) : row.cps.toList ++ T = (aq st).cps.toList ++ r /\ Wr st /\ aN st = 0:=by
 obtain ⟨⟨a,r1⟩,e1,h⟩:=Option.bind_eq_some_iff.mp h
 obtain ⟨r2,e2,h⟩:=Option.bind_eq_some_iff.mp h
 obtain ⟨f1,o1,ro⟩:=uF e1
 have f2:=(dh e2).2
 dsimp only at h f2
 by_cases c : r2.takeWhile (inR 65 90) = []
 ·rw [if_pos c] at h
  obtain ⟨⟨n,r3⟩,e3,h⟩:=Option.bind_eq_some_iff.mp h
  cases h
  obtain ⟨f3,n0,n1⟩:=zM e3
  refine ⟨?_,⟨ro,o1,n0,n1⟩,rfl⟩
  rw [sq,aj,aj,aj,f1,f2,f3]
  simp only [List.append_assoc]
 ·rw [if_neg c] at h
  obtain ⟨⟨b,r3⟩,e3,h⟩:=Option.bind_eq_some_iff.mp h
  cases h
  obtain ⟨f3,o3,ro3⟩:=uF e3
  refine ⟨?_,⟨ro,o1,ro3,o3⟩,rfl⟩
  rw [sk,aj,aj,aj,aj,f1,f2]
  simp only [List.append_assoc]
  rw [<- f3,kT,tw_dw]
theorem CL {T r : List Nat} {st : Stt} (h : dQ T = some (st,r)) : T = (aq st).cps.toList ++ r /\ Wr st /\ aN st = 0:=by
 unfold dQ at h
 by_cases c : T.takeWhile (inR 65 90) = []
 ·rw [if_pos c] at h
  exact Fc h
 ·rw [if_neg c] at h
  have:=Dw h
  rw [kT,tw_dw] at this
  exact this
theorem jE : ∀ (d : Nat) {T r : List Nat} {st : Stt},bS d T = some (st,r) -> T = (aq st).cps.toList ++ r /\ Wr st /\ aN st < d
 | 0,_,_,_,h => nomatch h
 | d + 1,T,r,st,h => by
  unfold bS at h
  cases e : cF "not " T with
  | some T1 =>
   rw [e] at h
   obtain ⟨⟨s,r1⟩,e1,h⟩:=Option.bind_eq_some_iff.mp h
   cases h
   obtain ⟨f,wr,dp⟩:=jE d e1
   refine ⟨?_,wr,show 1 + aN s < d + 1 by omega⟩
   rw [show aq (.no s) = Str.ofString "not " ++ aq s from rfl,aj,List.append_assoc]
   dsimp only
   rw [<- f]
   exact (dh e).2
  | none =>
   rw [e] at h
   dsimp only at h
   cases e2 : cF "(" T with
   | some T1 =>
    rw [e2] at h
    obtain ⟨⟨s,r1⟩,e3,h⟩:=Option.bind_eq_some_iff.mp h
    obtain ⟨⟨k,r2⟩,e4,h⟩:=Option.bind_eq_some_iff.mp h
    obtain ⟨⟨t,r3⟩,e5,h⟩:=Option.bind_eq_some_iff.mp h
    obtain ⟨r4,e6,h⟩:=Option.bind_eq_some_iff.mp h
    cases h
    obtain ⟨f1,w1,d1⟩:=jE d e3
    obtain ⟨f2,w2,d2⟩:=jE d e5
    obtain ⟨kk,f3⟩:=kM e4
    dsimp only at f2 f3
    refine ⟨?_,⟨joinKs_in.mp kk,w1,w2⟩,show 1 + max (aN s) (aN t) < d + 1 by omega⟩
    rw [mf,aj]
    unfold jnT
    rw [aj,aj,aj]
    simp only [List.append_assoc]
    rw [<- (dh e6).2]
    dsimp only
    rw [<- f2,<- f3,<- f1]
    exact (dh e2).2
   | none =>
    rw [e2] at h
    dsimp only at h
    cases e3 : fh dy choKs T with
    | some w =>
     obtain ⟨k,T1⟩:=w
     rw [e3] at h
     obtain ⟨⟨n,r1⟩,e4,h⟩:=Option.bind_eq_some_iff.mp h
     obtain ⟨r2,e5,h⟩:=Option.bind_eq_some_iff.mp h
     obtain ⟨⟨s,r3⟩,e6,h⟩:=Option.bind_eq_some_iff.mp h
     cases h
     obtain ⟨kk,f3⟩:=kM e3
     obtain ⟨f4,on⟩:=qL e4
     obtain ⟨f1,w1,d1⟩:=jE d e6
     dsimp only at f4 f3
     refine ⟨?_,⟨choKs_in.mp kk,on,w1⟩,show 1 + aN s < d + 1 by omega⟩
     rw [wb]
     unfold chT
     rw [aj,aj,aj,aj]
     simp only [List.append_assoc]
     rw [<- f1,<- (dh e5).2]
     dsimp only
     rw [<- f4]
     unfold dy at f3
     rw [aj,List.append_assoc] at f3
     exact f3
    | none =>
     rw [e3] at h
     obtain ⟨f,w1,d1⟩:=CL h
     exact ⟨f,w1,by omega⟩
theorem Bu : (Str.ofString "]").cps.toList = [93]:=by decide +kernel
theorem AQ : (Str.ofString "[").cps.toList = [91]:=by decide +kernel
theorem Ia (t : List Nat) : C3 ((Str.ofString "]").cps.toList ++ t):=by
 rw [Bu]
 exact ⟨fun c hc => by (cases hc; decide),by rw [kR]; rfl⟩
theorem ua {row : Str} {a : List Prt} {t : List Nat} (ro : fm row) (h : dS a) : gi row ((brk a).cps.toList ++ t) = some (a,t):=by
 unfold gi brk
 rw [if_pos ro,aj,aj,List.append_assoc,List.append_assoc,dE]
 show (sumF _).bind _ = _
 rw [BM h (Ia t)]
 simp only [Option.bind_some]
 rw [dE]
 rfl
theorem tw_row {row : Str} {a : List Prt} {t : List Nat} (ro : fm row) : (row.cps.toList ++ ((brk a).cps.toList ++ t)).takeWhile (inR 65 90) = row.cps.toList /\ (row.cps.toList ++ ((brk a).cps.toList ++ t)).dropWhile (inR 65 90) = (brk a).cps.toList ++ t:=by
 have of : ∀ c,((brk a).cps.toList ++ t).head? = some c -> inR 65 90 c = false:=by
  unfold brk
  rw [aj,aj,show (("[" : Str)).cps.toList = [91] from AQ]
  intro c hc
  cases hc
  decide
 exact ⟨tw_app ro.2.2 of,Ay ro.2.2 of⟩
theorem Bw {row : Str} (ro : fm row) : ¬ row.cps.toList = []:=fun z => by
 have:=ro.1
 rw [du,z] at this
 exact absurd this (by decide)
theorem G8 {row : Str} {a : List Prt} {n : Int} {r : List Nat} (wr : Wr (.sg row a n)) (fo : FolT r) : dQ ((aq (.sg row a n)).cps.toList ++ r) = some (.sg row a n,r):=by
 have e : (aq (.sg row a n)).cps.toList ++ r = row.cps.toList ++ ((brk a).cps.toList ++ ((Str.ofString " = ").cps.toList ++ ((cu n).cps.toList ++ r))):=by
  rw [sq,aj,aj,aj]
  simp only [List.append_assoc]
 have h:=tw_row (a:=a) (t:=(Str.ofString " = ").cps.toList ++ ((cu n).cps.toList ++ r)) wr.1
 have nd:=dC wr.2.2.1
 have nl : ((cu n).cps.toList ++ r).takeWhile (inR 65 90) = []:=by
  cases en : (cu n).cps.toList with
  | nil =>
   have:=nd.1
   rw [du,en] at this
   exact absurd this (by decide)
  | cons c l =>
   have:=of_decide_eq_true (nd.2 c (by rw [en]; exact List.mem_cons_self))
   rw [List.cons_append,List.takeWhile_cons,show inR 65 90 c = false from decide_eq_false (by omega)]
   rfl
 unfold dQ
 rw [e,h.1,h.2,if_neg (Bw wr.1),mj]
 unfold rO
 rw [ua wr.1 wr.2.1]
 simp only [Option.bind_some]
 rw [dE]
 show (if ((cu n).cps.toList ++ r).takeWhile (inR 65 90) = [] then (qM ((cu n).cps.toList ++ r)).bind fun s => some (Stt.sg row a s.1,s.2) else _) = _
 rw [if_pos nl,A4 wr.2.2.1 wr.2.2.2 fo.off]
 rfl
theorem G7 {row q : Str} {a b : List Prt} {r : List Nat} (wr : Wr (.lk row a q b)) : dQ ((aq (.lk row a q b)).cps.toList ++ r) = some (.lk row a q b,r):=by
 have e : (aq (.lk row a q b)).cps.toList ++ r = row.cps.toList ++ ((brk a).cps.toList ++ ((Str.ofString " = ").cps.toList ++ (q.cps.toList ++ ((brk b).cps.toList ++ r)))):=by
  rw [sk,aj,aj,aj,aj]
  simp only [List.append_assoc]
 have h:=tw_row (a:=a) (t:=(Str.ofString " = ").cps.toList ++ (q.cps.toList ++ ((brk b).cps.toList ++ r))) wr.1
 have h2:=tw_row (a:=b) (t:=r) wr.2.2.1
 unfold dQ
 rw [e,h.1,h.2,if_neg (Bw wr.1),mj]
 unfold rO
 rw [ua wr.1 wr.2.1]
 simp only [Option.bind_some]
 rw [dE]
 show (if (q.cps.toList ++ ((brk b).cps.toList ++ r)).takeWhile (inR 65 90) = [] then _ else (gi (aO ((q.cps.toList ++ ((brk b).cps.toList ++ r)).takeWhile (inR 65 90))) ((q.cps.toList ++ ((brk b).cps.toList ++ r)).dropWhile (inR 65 90))).bind fun s => some (Stt.lk row a (aO ((q.cps.toList ++ ((brk b).cps.toList ++ r)).takeWhile (inR 65 90))) s.1,s.2)) = _
 rw [h2.1,h2.2,if_neg (Bw wr.2.2.1),mj,ua wr.2.2.1 wr.2.2.2]
 rfl
theorem FI {k : Str} {a b : List Prt} {r : List Nat} (wr : Wr (.cmp k a b)) (fo : FolT r) : dQ ((aq (.cmp k a b)).cps.toList ++ r) = some (.cmp k a b,r):=by
 have e : (aq (.cmp k a b)).cps.toList ++ r = (bx a).cps.toList ++ ((cw k).cps.toList ++ ((bx b).cps.toList ++ r)):=by
  rw [show aq (.cmp k a b) = (bx a ++ cw k) ++ bx b from rfl,aj,aj,List.append_assoc,List.append_assoc]
 have ss:=zT wr.2.1 (AA wr.1 ((bx b).cps.toList ++ r)).1
 have nl : ((bx a).cps.toList ++ ((cw k).cps.toList ++ ((bx b).cps.toList ++ r))).takeWhile (inR 65 90) = []:=by
  cases en : (bx a).cps.toList ++ ((cw k).cps.toList ++ ((bx b).cps.toList ++ r)) with
  | nil => rfl
  | cons c l =>
   rw [en] at ss
   rw [List.takeWhile_cons,ss.2 c rfl]
   rfl
 unfold dQ
 rw [e,if_pos nl]
 unfold yz
 rw [BM wr.2.1 (AA wr.1 _)]
 show (fh cw cmpKs ((cw k).cps.toList ++ ((bx b).cps.toList ++ r))).bind _ = _
 rw [vU (fun k' hk' => II wr.1 (cmpKs_in.mp hk') _) (cmpKs_in.mpr wr.1)]
 show (sumF ((bx b).cps.toList ++ r)).bind _ = _
 rw [BM wr.2.2 fo.fs]
 rfl
theorem rz {d : Nat} {T : List Nat} (h : Start T) : bS (d + 1) T = dQ T:=by
 have p:=CY h
 unfold bS
 rw [bV p.n]
 dsimp only
 rw [bV p.p]
 dsimp only
 rw [Ez fun k hk => by
  rcases choKs_in.mp hk with e | e
  ·rw [e]; exact p.s
  ·rw [e]; exact p.a]
theorem jD : ∀ {st : Stt} {d : Nat} {r : List Nat},Wr st -> aN st < d -> FolT r -> bS d ((aq st).cps.toList ++ r) = some (st,r)
 | _,0,_,_,h,_ => absurd h (Nat.not_lt_zero _)
 | .cmp k a b,d + 1,r,wr,_,fo => by
  rw [rz,FI wr fo]
  rw [show aq (.cmp k a b) = (bx a ++ cw k) ++ bx b from rfl,aj,aj,List.append_assoc,List.append_assoc]
  exact (zT wr.2.1 (AA wr.1 _).1).1
 | .sg row a n,d + 1,r,wr,_,fo => by
  rw [rz,G8 wr fo]
  rw [sq,aj,List.append_assoc]
  exact zR wr.1 _
 | .lk row a q b,d + 1,r,wr,_,fo => by
  rw [rz,G7 wr]
  rw [sk,aj,List.append_assoc]
  exact zR wr.1 _
 | .no s,d + 1,r,wr,h,fo => by
  have h' : 1 + aN s < d + 1:=h
  unfold bS
  rw [show aq (.no s) = Str.ofString "not " ++ aq s from rfl,aj,List.append_assoc,dE]
  show (bS d ((aq s).cps.toList ++ r)).bind _ = _
  rw [jD (st:=s) wr (by omega) fo]
  rfl
 | .jn k s t,d + 1,r,wr,h,fo => by
  have h' : 1 + max (aN s) (aN t) < d + 1:=h
  have e : (aq (.jn k s t)).cps.toList ++ r = (Str.ofString "(").cps.toList ++ ((aq s).cps.toList ++ ((cw k).cps.toList ++ ((aq t).cps.toList ++ ((Str.ofString ")").cps.toList ++ r)))):=by
   rw [mf,aj]
   unfold jnT
   rw [aj,aj,aj]
   simp only [List.append_assoc]
  unfold bS
  rw [e,bV (by rw [rP,rV]; rfl)]
  dsimp only
  rw [dE]
  show uB (bS d) _ = _
  unfold uB
  rw [jD (st:=s) wr.2.1 (by omega) (Gk wr.1 _)]
  show (fh cw joinKs ((cw k).cps.toList ++ ((aq t).cps.toList ++ ((Str.ofString ")").cps.toList ++ r)))).bind _ = _
  rw [vU (fun k' hk' => Gq wr.1 (joinKs_in.mp hk') _) (joinKs_in.mpr wr.1)]
  show (bS d ((aq t).cps.toList ++ ((Str.ofString ")").cps.toList ++ r))).bind _ = _
  rw [jD (st:=t) wr.2.2 (by omega) (.inr (.inl ⟨r,by rw [show (Str.ofString ")").cps.toList = [41] from by decide +kernel]; rfl⟩))]
  simp only [Option.bind_some]
  rw [dE]
  rfl
 | .ch k n s,d + 1,r,wr,h,fo => by
  have h' : 1 + aN s < d + 1:=h
  have e : (aq (.ch k n s)).cps.toList ++ r = (dy k).cps.toList ++ (n.cps.toList ++ ((Str.ofString ": ").cps.toList ++ ((aq s).cps.toList ++ r))):=by
   rw [wb]
   unfold chT dy
   rw [aj,aj,aj,aj]
   simp only [List.append_assoc]
  have en : (Str.ofString "not ").cps.toList.isPrefixOf ((dy k).cps.toList ++ (n.cps.toList ++ ((Str.ofString ": ").cps.toList ++ ((aq s).cps.toList ++ r)))) = false /\ (Str.ofString "(").cps.toList.isPrefixOf ((dy k).cps.toList ++ (n.cps.toList ++ ((Str.ofString ": ").cps.toList ++ ((aq s).cps.toList ++ r)))) = false:=by
   unfold dy
   rw [rP,rV]
   rcases wr.1 with e | e <;> subst e
   ·rw [gp]; exact ⟨rfl,rfl⟩
   ·rw [iP]; exact ⟨rfl,rfl⟩
  unfold bS
  rw [e,bV en.1]
  dsimp only
  rw [bV en.2]
  dsimp only
  rw [vU (g:=dy) (fun k' hk' => HS wr.1 (choKs_in.mp hk') _) (choKs_in.mpr wr.1)]
  show Ak (bS d) k _ = _
  unfold Ak
  rw [xx wr.2.1 (by rw [show (Str.ofString ": ").cps.toList = [58,32] from by decide +kernel]; intro c hc; cases hc; decide)]
  simp only [Option.bind_some]
  rw [dE]
  show (bS d ((aq s).cps.toList ++ r)).bind _ = _
  rw [jD (st:=s) wr.2.2 (by omega) fo]
  rfl
theorem rh {z : Str} {st : Stt} (h : gK z = some st) : z = aq st /\ Wr st /\ aN st <= 20 /\ z.length <= 1000:=by
 unfold gK at h
 by_cases c : 1000 < z.length
 ·rw [if_pos c] at h
  cases h
 rw [if_neg c] at h
 obtain ⟨⟨s,r⟩,e,h⟩:=Option.bind_eq_some_iff.mp h
 dsimp only at h
 by_cases c2 : r = []
 ·rw [if_pos c2] at h
  cases h
  obtain ⟨f,wr,dp⟩:=jE _ e
  rw [c2,List.append_nil] at f
  exact ⟨str_inj f,wr,by omega,by omega⟩
 ·rw [if_neg c2] at h
  cases h
theorem xX {st : Stt} (wr : Wr st) (dp : aN st <= 20) (l : (aq st).length <= 1000) : gK (aq st) = some st:=by
 unfold gK
 rw [if_neg (by omega)]
 have:=jD (d:=21) (r:=[]) wr (by omega) (.inl rfl)
 rw [List.append_nil] at this
 rw [this]
 rfl
theorem Hj {s t : Stt} (ws : Wr s) (wt : Wr t) (h : aq s = aq t) : s = t:=by
 have h1:=jD (d:=aN s + aN t + 1) (r:=[]) ws (by omega) (.inl rfl)
 have h2:=jD (d:=aN s + aN t + 1) (r:=[]) wt (by omega) (.inl rfl)
 rw [h,h2] at h1
 cases h1
 rfl
def uv (z : Str) : Prop := ∀ i,((atT z i).takeWhile (inR 48 57)).length <= 100
structure Tx (H : Hp) (C x : Addr) (z : Str) (i : Nat) : Prop where
 rd : Rd H C x z i
 le : i <= z.length
 lz : z.length <= 1000
 dg : uv z
def Mir (C N x : Addr) (z : Str) {α : Type} (R : Option (α × List Nat)) (At : Hp -> V -> α -> Prop) (H : Hp) (Q : VK) (E : XK) : Prop:=
 (∀ (a : α) (j : Nat) (v : V) (H' : Hp),R = some (a,atT z j) -> j <= z.length -> Rd H' C x z j -> But x H H' -> At H' v a -> Q v H') /\ (R = none -> ∀ H',But x H H' -> E (.ref N) none H')
def spM (C N : Addr) {α : Type} (F : List Nat -> Option (α × List Nat)) (At : Hp -> V -> α -> Prop) : Sp:=fun vs H Q E => ∃ (x : Addr) (z : Str) (i : Nat),vs = [.ref x] /\ Tx H C x z i /\ Mir C N x z (F (atT z i)) At H Q E
def mi (C N : Addr) : Sp:=fun vs H Q E => ∃ (x : Addr) (z p : Str) (i : Nat),vs = [.ref x,.str p] /\ Tx H C x z i /\ p.length <= 1000 /\ (reprText p).length <= 1000 /\
 (∀ (j : Nat) (H' : Hp),cF p (atT z i) = some (atT z j) -> j <= z.length -> Rd H' C x z j -> But x H H' -> Q .non H') /\ (cF p (atT z i) = none -> ∀ H',But x H H' -> E (.ref N) none H')
def BR (_ : Hp) (v : V) (n : Str) : Prop:=v = .str n
def Ek (_ : Hp) (v : V) (n : Int) : Prop:=v = .int n
def C1 (H : Hp) (v : V) (p : Prt) : Prop := ∃ T : Addr,v = .ref T /\ jU H T p
theorem jS {w z : Str} {i : Nat} (hi : i <= z.length) (h : w.cps.toList.isPrefixOf (atT z i) = true) : cF w (atT z i) = some (atT z (i + w.length)) /\ i + w.length <= z.length:=by
 constructor
 ·unfold cF
  rw [if_pos h,List.drop_drop]
 ·have l:=(List.isPrefixOf_iff_prefix.mp h).length_le
  rw [List.length_drop] at l
  have e1 : z.length = z.cps.toList.length:=rfl
  have e2 : w.length = w.cps.toList.length:=rfl
  omega
theorem uf (z : Str) (i a b : Nat) : Here z i (aO ((atT z i).takeWhile (inR a b))) ((atT z i).dropWhile (inR a b)):=tw_dw.symm
theorem om (z : Str) (i : Nat) : (atT z i).length = z.length - i:=List.length_drop ..
def oB : Sp:=fun vs H Q _ => ∃ (n : Str) (a b : Nat),vs = [.str n,.str (aO [a]),.str (aO [b])] /\ (∀ c ∈ n.cps.toList,inR a b c = true) /\ b < 128 /\ n.length <= 1000 /\ ∀ H',Same H H' -> Q (.bl (decide (jV a b n))) H'
def uk : Sp:=fun vs H Q _ => ∃ n : Str,vs = [.str n] /\ (∀ c ∈ n.cps.toList,inR 97 122 c = true) /\ n.length <= 1000 /\ ∀ H',Same H H' -> Q (.bl (decide (cn n))) H'
def um : Sp:=fun vs H Q _ => ∃ n : Str,vs = [.str n] /\ (∀ c ∈ n.cps.toList,inR 65 90 c = true) /\ n.length <= 1000 /\ ∀ H',Same H H' -> Q (.bl (decide (fm n))) H'
theorem DW {z : Str} (lz : z.length <= 1000) (i a b : Nat) : (aO ((atT z i).takeWhile (inR a b))).length <= 1000:=by
 have h:=uf z i a b
 have e:=congrArg List.length h
 rw [List.length_append,om] at e
 have e2 : (aO ((atT z i).takeWhile (inR a b))).length = (aO ((atT z i).takeWhile (inR a b))).cps.toList.length:=rfl
 omega
theorem sQ {X : Cx} : fX X (.type "int") (fun xs H Q => ∃ l : List Nat,xs = [.str (aO l)] /\ l ≠ [] /\ (∀ c ∈ l,inR 48 57 c = true) /\ l.length <= 640 /\ Q (.int (oY l : Int)) H):=by
 intro pins s σ H xs us Q I r h
 obtain ⟨l,rfl,ne,hd,hl,q⟩:=h
 obtain ⟨u,rfl,t,rfl⟩:=vals1 r
 exact PySem.W.KIN.call_text (x:=aO l) (PySem.intText_digits (fun c hc => of_decide_eq_true (hd c hc)) ne (Nat.le_trans hl (by decide))) hl ⟨.int (oY l : Int),H,I.tok _,⟨_,rfl⟩,q⟩
theorem Ew : ∀ (l : List Nat) (a : Nat),(∀ c ∈ l,inR 48 57 c = true) -> l.foldl (fun acc c => acc * 10 + (c - 48)) a < (a + 1) * 10 ^ l.length
 | [],a,_ => by simp
 | c :: l,a,h => by
  have h1:=of_decide_eq_true (h c List.mem_cons_self)
  have ih:=Ew l (a * 10 + (c - 48)) fun d hd => h d (List.mem_cons_of_mem _ hd)
  rw [List.foldl_cons,List.length_cons,Nat.pow_succ]
  refine Nat.lt_of_lt_of_le ih ?_
  rw [Nat.mul_comm (10 ^ l.length) 10,<- Nat.mul_assoc]
  exact Nat.mul_le_mul_right _ (by omega)
theorem Gf {l : List Nat} (h : ∀ c ∈ l,inR 48 57 c = true) (hl : l.length <= 100) : ((oY l : Nat) : Int).natAbs.log2 < 1920:=by
 have h1 : oY l < (0 + 1) * 10 ^ l.length:=Ew l 0 h
 have h2 : 10 ^ l.length <= 10 ^ 100:=Nat.pow_le_pow_right (by decide) hl
 rw [Int.natAbs_natCast]
 rcases Nat.eq_zero_or_pos (oY l) with z | z
 ·rw [z]; decide
 ·exact (Nat.log2_lt (by omega)).mpr (Nat.lt_of_lt_of_le (show oY l < 10 ^ 100 by omega) (by decide +kernel))
section
variable {P : Program} {w : World} {K : PySem.W.Frag} {mg : Str -> Option Value} {base : Heap} {f : Addr} {fd : FuncData} {dV : Value} {C N TW : Addr} {tk : Tok}
theorem GN (F : FunD K "need" "Reader.need" dc dV f fd) (bc : DefMe P w K mg base C "takes" 1 ["self","word"] (iy C)) (q_NoText : PySem.W.excIn K N VEm "ValueError.__new__" = true) (aI : mg "NoText" = some (.ref N)) : FnOk P w K mg base (CX1 P w) 2 f fd ["self","word"] (mi C N):=by
 refine F.okX xY (fun vs H Q E h => ?_) (fun cdv A outer s H vs Q E hr h => ?_)
 ·obtain ⟨x,z,p,i,rfl,_⟩:=h
  rfl
 obtain ⟨x,z,p,i,rfl,tx,lp,lr,q,qE⟩:=h
 refine ⟨_,(ax (bG (gj (dD (kP bc hr (pv 0) (aa (pv 1) ae)))) (ax (cI q_NoText rfl aI dM (aa (ot (cf (JO (pv 1)) (cf gh ou))) ae))) aW)),?_⟩
 obtain ⟨dx,hx⟩:=tx.rd.ob
 refine ⟨_,rfl,x,dx,_,rfl,hx,rfl,_,rfl,x,z,p,i,rfl,tx.rd,tx.le,lp,fun h => ⟨_,rfl,cY ?_⟩,fun h H' rd' bt => ⟨_,rfl,cN ?_⟩⟩
 ·refine ⟨_,rfl,p,rfl,lr,fun _ => ⟨(by show 1 <= 8; decide),qE (bV h) H (But.refl x H)⟩⟩
 ·have ta:=jS tx.le h
  exact q _ H' ta.1 ta.2 rd' bt
theorem DL (F : FunD K "is_text_of" "is_text_of" cW dV f fd) (aH : mg "isinstance" = none) (ig : mg "str" = none) (bo : mg "len" = none) (HH : mg "all" = none) (nB : mg "MOST_LONG" = some (.int 6 tk)) : FnOk P w K mg base CX0 1 f fd ["thing","first","last"] oB:=by
 refine F.ok zg (fun vs H Q E h => ?_) (fun cdv A outer s H vs Q E hr h => ?_)
 ·obtain ⟨n,a,b,rfl,_⟩:=h
  rfl
 obtain ⟨n,a,b,rfl,ok,hb,ln,q⟩:=h
 refine ⟨_,(au (bG (PW.pt (Hc (gj (dD (aD BZ (by rfl) aH ba (aa (pv 0) (aa (Bk (v:=.ty "str") rfl ig sO rfl) ae))))) (DR (gj (xW EN EN ag (aD bA (by rfl) bo cq (aa (pv 0) ae)) (bw (v:=.int 6) rfl nB ⟨_,rfl⟩)))))) (ax (aU jO)) aW)
   (ax (aU (aD (F4 rfl) (by rfl) HH Ji (aa (rY rfl bk_is_text_of_0 (JP (pv 0)) (fun _ _ _ _ => (aG (i:=0) bk_is_text_of_0.nd rfl (Or.inl rfl))) (fun _ _ _ _ => (G1 oq oq (pv 1) (pv 0) (pv 2)))) ae))))),?_⟩
 have l6 : n.length <= sizeLine:=Nat.le_trans ln (by decide)
 have asc : n.cps.all (· < 128) = true:=by
  rw [Array.all_eq_true_iff_forall_mem]
  intro c hc
  have:=of_decide_eq_true (ok c (Array.mem_toList_iff.mpr hc))
  exact decide_eq_true (by omega)
 refine ⟨_,rfl,_,_,_,_,rfl,TyOf.str _,nF K,_,rfl,cN ?_⟩
 refine ⟨_,rfl,n,rfl,l6,_,_,rfl,rfl,_,rfl,?_⟩
 by_cases c1 : 1 <= n.length
 rotate_left
 ·rw [decide_eq_false (show ¬ (1 : Int) <= (n.length : Int) by omega)]
  refine cN ⟨_,rfl,cY ?_⟩
  rw [decide_eq_false (show ¬ jV a b n from fun h => c1 h.1)] at q
  exact q H (Same.refl _)
 rw [decide_eq_true (show (1 : Int) <= (n.length : Int) by omega)]
 refine cY ⟨_,_,rfl,rfl,_,rfl,?_⟩
 by_cases c2 : n.length <= 6
 rotate_left
 ·rw [decide_eq_false (show ¬ (n.length : Int) <= 6 by omega)]
  refine cY ?_
  rw [decide_eq_false (show ¬ jV a b n from fun h => c2 h.2.1)] at q
  exact q H (Same.refl _)
 rw [decide_eq_true (show (n.length : Int) <= 6 by omega)]
 refine cN ?_
 rw [decide_eq_true (show jV a b n from ⟨c1,c2,ok⟩)] at q
 refine ⟨_,rfl,n,rfl,asc,?_⟩
 refine F9 (z:=n) (fun D i ys H' => Same H H' /\ ys = (List.replicate i true).map V.bl) (fun D hD => ⟨ah hD _,rfl⟩) ?_ ?_
 ·rintro D i c ys H' Q' hD hc hy ⟨hs,rfl⟩ k'
  have hi:=(gi_ hc).1
  have e3 : n.length = n.cps.toList.length:=rfl
  have hr:=of_decide_eq_true (ok c (mq_ hc))
  refine ⟨_,rfl,_,rfl,_,_,rfl,rfl,_,rfl,?_⟩
  rw [show (!decide ((aO [c]).cps.toList < (aO [a]).cps.toList)) = true from (le1 a c).trans (decide_eq_true hr.1)]
  refine cY ⟨_,rfl,_,_,rfl,rfl,?_⟩
  rw [show (!decide ((aO [b]).cps.toList < (aO [c]).cps.toList)) = true from (le1 c b).trans (decide_eq_true hr.2)]
  refine k' _ _ hy (fg (by rw [lm_,List.length_replicate]; omega)) ⟨bu hs hD,?_⟩
  rw [List.replicate_succ',List.map_append]
  rfl
 ·rintro L ys H' hL hy ⟨hs,rfl⟩
  refine ⟨L,_,rfl,qL_ hy,?_⟩
  rw [show (List.replicate n.length true).all id = true from List.all_eq_true.mpr fun x hx => List.eq_of_mem_replicate hx]
  exact q H' hs
theorem DF (F : FunD K "is_name" "is_name" iA dV f fd) (dF : DefOk P w K mg base "is_text_of" 1 ["thing","first","last"] [] oB) (AE : mg "WORDS" = some (.ref TW)) (sqW : ∀ H,SqT K H TW xq) : FnOk P w K mg base CX0 2 f fd ["thing"] uk:=by
 refine F.ok DX (fun vs H Q E h => ?_) (fun cdv A outer s H vs Q E hr h => ?_)
 ·obtain ⟨n,rfl,_⟩:=h
  rfl
 obtain ⟨n,rfl,ok,ln,q⟩:=h
 refine ⟨_,(ax (aU (GY (br dF hr (aa (pv 0) (aa ar (aa ar ae)))) (G6 (rX Bh (pv 0) (bw (v:=.ref _) rfl AE rfl) (by with_unfolding_all rfl)))))),?_⟩
 refine ⟨_,rfl,n,97,122,EI,ok,by decide,ln,fun H' s' => ⟨_,rfl,?_⟩⟩
 by_cases c : jV 97 122 n
 ·rw [decide_eq_true c]
  refine cY ⟨_,rfl,TW,_,rfl,.inr (sqW _),rfl,rfl,?_⟩
  have:=q H' s'
  by_cases c2 : inV (.str n) xq = false
  ·rw [decide_eq_true (show cn n from ⟨c,c2⟩)] at this
   rw [c2]
   exact this
  ·rw [decide_eq_false (show ¬ cn n from fun h => c2 h.2)] at this
   rw [show inV (.str n) xq = true by simpa using c2]
   exact this
 ·rw [decide_eq_false c]
  have:=q H' s'
  rw [decide_eq_false (show ¬ cn n from fun h => c h.1)] at this
  exact cN this
theorem DG (F : FunD K "is_row_name" "is_row_name" df dV f fd) (dF : DefOk P w K mg base "is_text_of" 1 ["thing","first","last"] [] oB) : FnOk P w K mg base CX0 2 f fd ["thing"] um:=by
 refine F.ok xZ (fun vs H Q E h => ?_) (fun cdv A outer s H vs Q E hr h => ?_)
 ·obtain ⟨n,rfl,_⟩:=h
  rfl
 obtain ⟨n,rfl,ok,ln,q⟩:=h
 refine ⟨_,(ax (aU (br dF hr (aa (pv 0) (aa ar (aa ar ae)))))),?_⟩
 exact ⟨_,rfl,n,65,90,AV,ok,by decide,ln,q⟩
theorem GL (F : FunD K "name" "Reader.name" da dV f fd) (dv : DefMe P w K mg base C "run" 1 ["self","first","last"] (uH C)) (sG : DefOk P w K mg base "is_name" 2 ["thing"] [] uk) (q_NoText : PySem.W.excIn K N VEm "ValueError.__new__" = true) (aI : mg "NoText" = some (.ref N)) : FnOk P w K mg base (CX1 P w) 3 f fd ["self"] (spM C N jx BR):=by
 refine F.okX sc_Reader_name (fun vs H Q E h => ?_) (fun cdv A outer s H vs Q E hr h => ?_)
 ·obtain ⟨x,z,i,rfl,_⟩:=h
  rfl
 obtain ⟨x,z,i,rfl,tx,q,qE⟩:=h
 refine ⟨_,(au (ay (i:=1) sc_Reader_name.nd rfl (Or.inl rfl) (kP dv hr (pv 0) (aa ar (aa ar ae))))
   (au (bG (gj (dD (I9 sG hr (aa (pv 1) ae)))) (ax (cI q_NoText rfl aI dM (aa ar ae))) aW)
   (ax (aU (pv 1))))),?_⟩
 obtain ⟨dx,hx⟩:=tx.rd.ob
 have hh:=uf z i 97 122
 have hle:=hh.le tx.le
 refine ⟨_,rfl,x,dx,_,rfl,hx,rfl,x,z,_,i,97,122,_,EI,tx.rd,tx.le,tx.lz,hh,tw_in,tw,fun H1 rd1 bt1 => ?_⟩
 try dsimp only [aF,aK,List.set]
 refine ⟨_,rfl,_,rfl,tw_in,DW tx.lz i 97 122,fun H2 s2 => ⟨_,rfl,?_⟩⟩
 by_cases c : cn (aO ((atT z i).takeWhile (inR 97 122)))
 ·rw [decide_eq_true c]
  refine cN ⟨_,rfl,?_⟩
  exact q _ _ _ H2 (by unfold jx; rw [if_pos c,hh.on]) (by omega) (rd1.same s2) (bt1.trans (lC s2)) rfl
 ·rw [decide_eq_false c]
  exact cY ⟨(by show 1 <= 8; decide),qE (if_neg c) H2 (bt1.trans (lC s2))⟩
theorem DH (F : FunD K "number" "Reader.number" cx dV f fd) (dv : DefMe P w K mg base C "run" 1 ["self","first","last"] (uH C)) (gz : mg "MOST_NUMBER" = some (.int 999999 tk)) (ig : mg "str" = none) (uJ : mg "int" = none) (q_NoText : PySem.W.excIn K N VEm "ValueError.__new__" = true) (aI : mg "NoText" = some (.ref N)) : FnOk P w K mg base (CX1 P w) 2 f fd ["self"] (spM C N qM Ek):=by
 refine F.okX sc_Reader_number (fun vs H Q E h => ?_) (fun cdv A outer s H vs Q E hr h => ?_)
 ·obtain ⟨x,z,i,rfl,_⟩:=h
  rfl
 obtain ⟨x,z,i,rfl,tx,q,qE⟩:=h
 refine ⟨_,(au (ay (i:=1) sc_Reader_number.nd rfl (Or.inl rfl) (kP dv hr (pv 0) (aa ar (aa ar ae))))
   (au (bG (PW.pt (Hc (aM gI (pv 1) ar (aS _)) (DR (aM GW (bD ik (by rfl) ig sO (aa (bD sQ (by rfl) uJ Af (aa (pv 1) ae)) ae)) (pv 1) (aS _))))) (ax (cI q_NoText rfl aI dM (aa ar ae))) aW)
   (au (bG (aM rT (bD sQ (by rfl) uJ Af (aa (pv 1) ae)) (bw (v:=.int 999999) rfl gz ⟨_,rfl⟩) (aS _)) (ax (cI q_NoText rfl aI dM (aa (ot (cf gh (cf (qV (bw (v:=.int 999999) rfl gz ⟨_,rfl⟩)) ou))) ae))) aW)
   (ax (aU (bD sQ (by rfl) uJ Af (aa (pv 1) ae))))))),?_⟩
 obtain ⟨dx,hx⟩:=tx.rd.ob
 have hh:=uf z i 48 57
 have hle:=hh.le tx.le
 have dg:=tx.dg i
 refine ⟨_,rfl,x,dx,_,rfl,hx,rfl,x,z,_,i,48,57,_,EH,tx.rd,tx.le,tx.lz,hh,tw_in,tw,fun H1 rd1 bt1 => ?_⟩
 try dsimp only [aF,aK,List.set]
 refine ⟨_,rfl,rfl,_,rfl,?_⟩
 by_cases c0 : (atT z i).takeWhile (inR 48 57) = []
 ·rw [decide_eq_true (show V.str (aO ((atT z i).takeWhile (inR 48 57))) = V.str (Str.ofString "") from V_str.mpr (strL_nil.mpr c0))]
  exact cY (cY ⟨(by show 1 <= 8; decide),qE (if_pos c0) H1 bt1⟩)
 rw [decide_eq_false (show ¬ V.str (aO ((atT z i).takeWhile (inR 48 57))) = V.str (Str.ofString "") from fun h => c0 (strL_nil.mp (V_str.mp h)))]
 refine cN ⟨_,rfl,_,rfl,c0,tw_in,by omega,_,rfl,Gf tw_in dg,_,rfl,rfl,_,rfl,?_⟩
 by_cases c1 : cu (oY ((atT z i).takeWhile (inR 48 57))) = aO ((atT z i).takeWhile (inR 48 57))
 rotate_left
 ·rw [show decide (V.str (Str.ofString (toString ((oY ((atT z i).takeWhile (inR 48 57)) : Nat) : Int))) = V.str (aO ((atT z i).takeWhile (inR 48 57)))) = false from decide_eq_false fun h => c1 (V_str.mp h)]
  exact cY ⟨(by show 1 <= 8; decide),qE (by unfold qM; rw [if_neg c0,if_pos c1]) H1 bt1⟩
 rw [show decide (V.str (Str.ofString (toString ((oY ((atT z i).takeWhile (inR 48 57)) : Nat) : Int))) = V.str (aO ((atT z i).takeWhile (inR 48 57)))) = true from decide_eq_true (V_str.mpr c1)]
 refine cN ⟨_,rfl,_,rfl,c0,tw_in,by omega,_,_,rfl,rfl,_,rfl,?_⟩
 by_cases c2 : (999999 : Int) < (oY ((atT z i).takeWhile (inR 48 57)) : Int)
 ·rw [decide_eq_true c2]
  refine cY (.inr ⟨_,rfl,by decide,by decide,fun _ => ⟨(by show 1 <= 8; decide),qE (by unfold qM; rw [if_neg c0,if_neg (fun h => h c1),if_pos c2]) H1 bt1⟩⟩)
 ·rw [decide_eq_false c2]
  refine cN ⟨_,rfl,_,rfl,c0,tw_in,by omega,?_⟩
  exact q _ _ _ H1 (by unfold qM; rw [if_neg c0,if_neg (fun h => h c1),if_neg c2,hh.on]) (by omega) rd1 bt1 rfl
end
def AtPlace (row : Str) (H : Hp) (v : V) (a : List Prt) : Prop := ∃ (T : Addr) (va : V),v = .ref T /\ H T = some (.tup [.str row,va]) /\ SumAt H va a
def yh (C N : Addr) : Sp:=fun vs H Q E => ∃ (x : Addr) (z row : Str) (i : Nat),vs = [.ref x,.str row] /\ Tx H C x z i /\ (∀ c ∈ row.cps.toList,inR 65 90 c = true) /\ row.length <= 1000 /\ Mir C N x z (gi row (atT z i)) (AtPlace row) H Q E
theorem yn {ks : List Str} {n : Nat} {y : V} (h : (ks.map V.str)[n]? = some y) : ∃ κ,y = .str κ /\ κ ∈ ks /\ ks.drop n = κ :: ks.drop (n + 1):=by
 rw [List.getElem?_map] at h
 cases e : ks[n]? with
 | none => rw [e] at h; cases h
 | some κ =>
  rw [e] at h
  cases h
  obtain ⟨hl,ek⟩:=gi_ e
  exact ⟨κ,rfl,mq_ e,by rw [List.drop_eq_getElem_cons hl,ek]⟩
theorem xf {g : Str -> Str} {κ : Str} {ks : List Str} {T : List Nat} (h : (g κ).cps.toList.isPrefixOf T = false) : fh g (κ :: ks) T = fh g ks T:=by
 rw [fh,bV h]
theorem xg {g : Str -> Str} {κ : Str} {ks : List Str} {T T1 : List Nat} (h : cF (g κ) T = some T1) : fh g (κ :: ks) T = some (κ,T1):=by
 rw [fh,h]
section
variable {P : Program} {w : World} {K : PySem.W.Frag} {mg : Str -> Option Value} {base : Heap} {f : Addr} {fd : FuncData} {dV : Value} {C N TC : Addr} {tk : Tok}
theorem GO (F : FunD K "part" "Reader.part" de dV f fd) (rc : RCls K C) (dv : DefMe P w K mg base C "run" 1 ["self","first","last"] (uH C)) (bc : DefMe P w K mg base C "takes" 1 ["self","word"] (iy C)) (GEX_name : DefMeX P w K mg base C "name" 3 ["self"] (spM C N jx BR)) (GEX_number : DefMeX P w K mg base C "number" 2 ["self"] (spM C N qM Ek)) (gx : mg "MOST_FACTOR" = some (.int 20 tk)) (q_NoText : PySem.W.excIn K N VEm "ValueError.__new__" = true) (aI : mg "NoText" = some (.ref N)) : FnOk P w K mg base (CX1 P w) 4 f fd ["self"] (spM C N gJ C1):=by
 refine F.okX sc_Reader_part (fun vs H Q E h => ?_) (fun cdv A outer s H vs Q E hr h => ?_)
 ·obtain ⟨x,z,i,rfl,_⟩:=h
  rfl
 obtain ⟨x,z,i,rfl,tx,q,qE⟩:=h
 refine ⟨_,(au (ay (i:=1) sc_Reader_part.nd rfl (Or.inl rfl) (gf (pv 0) rfl))
   (au (bG (aM gI (kP dv hr (pv 0) (aa ar (aa ar ae))) ar (aS _)) (ax (aU (aV (aa ag (aa (jA GEX_name hr aY (pv 0)) ae))))) aW)
   (au (xU (pv 0) (pv 1) rfl)
   (au (ay (i:=2) sc_Reader_part.nd rfl (Or.inl rfl) (jA GEX_number hr aY (pv 0)))
   (au (bG (gj (dD (kP bc hr (pv 0) (aa ar ae)))) (ax (aU (aV (aa (pv 2) (aa ar ae))))) aW)
   (au (bG (gj (xW EN EN ag (pv 2) (bw (v:=.int 20) rfl gx ⟨_,rfl⟩))) (ax (cI q_NoText rfl aI dM (aa (ot (cf gh (cf (qV (bw (v:=.int 20) rfl gx ⟨_,rfl⟩)) ou))) ae))) aW)
   (ax (aU (aV (aa (pv 2) (aa (jA GEX_name hr aY (pv 0)) ae))))))))))),?_⟩
 obtain ⟨dx,hx⟩:=tx.rd.ob
 refine ⟨_,rfl,x,C,dx,_,_,rfl,hx,rc.cl,rc.na,rfl,?_⟩
 try dsimp only [aF,aK,List.set]
 have hh:=uf z i 48 57
 have hle:=hh.le tx.le
 refine ⟨_,rfl,x,dx,_,rfl,hx,rfl,x,z,_,i,48,57,_,EH,tx.rd,tx.le,tx.lz,hh,tw_in,tw,fun H1 rd1 bt1 => ?_⟩
 refine ⟨rfl,_,rfl,?_⟩
 by_cases c0 : (atT z i).takeWhile (inR 48 57) = []
 ·rw [decide_eq_true (show V.str (aO ((atT z i).takeWhile (inR 48 57))) = V.str (Str.ofString "") from V_str.mpr (strL_nil.mpr c0))]
  refine cY ?_
  have rd1' : Rd H1 C x z i:=by
   rw [c0] at rd1
   exact rd1
  obtain ⟨dx1,hx1⟩:=rd1'.ob
  refine ⟨_,rfl,x,dx1,_,rfl,hx1,rfl,x,z,i,rfl,⟨rd1',tx.le,tx.lz,tx.dg⟩,fun n j v H2 e hj rd2 bt2 hv => ⟨(by show 2 <= sizeLine; decide),fun T hT => ?_⟩,fun e H2 bt2 => qE (by unfold gJ; rw [if_pos c0,e]; rfl) H2 (bt1.trans bt2)⟩
  cases (show v = .str n from hv)
  have s3:=ah hT (HO.tup [V.int 1,V.str n])
  exact q (1,n) j (.ref T) _ (by unfold gJ; rw [if_pos c0,e]; rfl) hj (rd2.same s3) (bt1.trans (bt2.trans (lC s3))) ⟨T,rfl,af⟩
 ·rw [decide_eq_false (show ¬ V.str (aO ((atT z i).takeWhile (inR 48 57))) = V.str (Str.ofString "") from fun h => c0 (strL_nil.mp (V_str.mp h)))]
  refine cN ?_
  obtain ⟨dx1,hx1⟩:=rd1.ob
  refine ⟨_,rfl,_,rfl,x,C,dx1,_,rfl,hx1,rc.cl,rc.na,(by show 2 < 1000; decide),?_⟩
  obtain ⟨o2,eo⟩ : ∃ o2,HO.ins C dx1 (mH (Str.ofString "at") (.int (i : Int)) [("text",.str z),("at",.int ((i + (aO ((atT z i).takeWhile (inR 48 57))).length : Nat) : Int))]) = o2:=⟨_,rfl⟩
  have rd2 : Rd (upd H1 x o2) C x z i:=⟨dx1,by rw [af,<- eo]; rfl⟩
  have bt2 : But x H1 (upd H1 x o2):=fun c u n e => by rw [az n]; exact e
  show Eg _ _ _ _ (upd H1 x (HO.ins C dx1 (mH (Str.ofString "at") (.int (i : Int)) [("text",.str z),("at",.int ((i + (aO ((atT z i).takeWhile (inR 48 57))).length : Nat) : Int))])))
  rw [eo]
  obtain ⟨H2,e2⟩ : ∃ H2,upd H1 x o2 = H2:=⟨_,rfl⟩
  rw [e2] at rd2 bt2 ⊢
  obtain ⟨dx2,hx2⟩:=rd2.ob
  refine ⟨_,rfl,x,dx2,_,rfl,hx2,rfl,x,z,i,rfl,⟨rd2,tx.le,tx.lz,tx.dg⟩,fun n j v H3 e hj rd3 bt3 hv => ?_,fun e H3 bt3 => qE (by unfold gJ; rw [if_neg c0,e]; rfl) H3 (bt1.trans (bt2.trans bt3))⟩
  cases (show v = .int n from hv)
  try dsimp only [aF,aK,List.set]
  have bt03:=bt1.trans (bt2.trans bt3)
  obtain ⟨dx3,hx3⟩:=rd3.ob
  have e42 : (Str.ofString "*").length = 1:=by decide
  refine ⟨_,rfl,x,dx3,_,rfl,hx3,rfl,x,z,Str.ofString "*",j,rfl,rd3,hj,by rw [e42]; decide,fun h => ⟨_,rfl,cY ?_⟩,fun h H4 rd4 bt4 => ⟨_,rfl,cN ?_⟩⟩
  ·refine ⟨_,rfl,(by show 2 <= sizeLine; decide),fun T hT => ?_⟩
   have s4:=ah hT (HO.tup [V.int n,V.str (Str.ofString "")])
   refine q (n,("" : Str)) j (.ref T) _ ?_ hj (rd3.same s4) (bt03.trans (lC s4)) ⟨T,rfl,af⟩
   unfold gJ
   rw [if_neg c0,e,Option.bind_some]
   dsimp only
   rw [bV h]
  ·have ta:=jS hj h
   have pe : ∀ o,(if 2 <= n /\ n <= 20 then (jx (atT z (j + (Str.ofString "*").length))).bind fun s => some (((n,s.1) : Prt),s.2) else none) = o -> gJ (atT z i) = o:=fun o ho => by
    unfold gJ
    rw [if_neg c0,e,Option.bind_some]
    dsimp only
    rw [ta.1]
    exact ho
   refine ⟨_,rfl,_,_,rfl,rfl,_,rfl,?_⟩
   by_cases c1 : (2 : Int) <= n
   rotate_left
   ·rw [decide_eq_false c1]
    exact cN ⟨_,rfl,cY (.inr ⟨_,rfl,by decide,by decide,fun _ => ⟨(by show 1 <= 8; decide),qE (pe none (if_neg fun h => c1 h.1)) H4 (bt03.trans bt4)⟩⟩)⟩
   rw [decide_eq_true c1]
   refine cY ⟨_,_,rfl,rfl,_,rfl,?_⟩
   by_cases c2 : n <= (20 : Int)
   rotate_left
   ·rw [decide_eq_false c2]
    exact cY (.inr ⟨_,rfl,by decide,by decide,fun _ => ⟨(by show 1 <= 8; decide),qE (pe none (if_neg fun h => c2 h.2)) H4 (bt03.trans bt4)⟩⟩)
   rw [decide_eq_true c2]
   refine cN ?_
   obtain ⟨dx4,hx4⟩:=rd4.ob
   refine ⟨_,rfl,_,rfl,x,dx4,_,rfl,hx4,rfl,x,z,_,rfl,⟨rd4,ta.2,tx.lz,tx.dg⟩,fun s' j2 v H5 e5 hj5 rd5 bt5 hv => ⟨(by show 2 <= sizeLine; decide),fun T hT => ?_⟩,fun e5 H5 bt5 => qE (pe none (by rw [if_pos ⟨c1,c2⟩,e5]; rfl)) H5 (bt03.trans (bt4.trans bt5))⟩
   cases (show v = .str s' from hv)
   have s6:=ah hT (HO.tup [V.int n,V.str s'])
   exact q (n,s') j2 (.ref T) _ (pe _ (by rw [if_pos ⟨c1,c2⟩,e5]; rfl)) hj5 (rd5.same s6) (bt03.trans (bt4.trans (bt5.trans (lC s6)))) ⟨T,rfl,af⟩
theorem Fz (F : FunD K "added" "Reader.added" cJ dV f fd) (bc : DefMe P w K mg base C "takes" 1 ["self","word"] (iy C)) (GEX_part : DefMeX P w K mg base C "part" 4 ["self"] (spM C N gJ C1)) (ip : mg "MOST_PARTS" = some (.int 8 tk)) (bo : mg "len" = none) (iz : mg "tuple" = none) (q_NoText : PySem.W.excIn K N VEm "ValueError.__new__" = true) (aI : mg "NoText" = some (.ref N)) : FnOk P w K mg base (CX1 P w) 5 f fd ["self"] (spM C N sumF SumAt):=by
 refine F.okX sc_Reader_added (fun vs H Q E h => ?_) (fun cdv A outer s H vs Q E hr h => ?_)
 ·obtain ⟨x,z,i,rfl,_⟩:=h
  rfl
 obtain ⟨x,z,i,rfl,tx,q,qE⟩:=h
 refine ⟨_,(au (ay (i:=1) sc_Reader_added.nd rfl (Or.inl rfl) (bE (aa (jA GEX_part hr aY (pv 0)) ae)))
   (au (sd PassesOwn.leaving (dD (kP bc hr (pv 0) (aa ar ae))) (ax (cm (ia PySem.F.plainAttrs_list PySem.F.slot_list_append PySem.F.type_list_append bI (pv 1) (aa (jA GEX_part hr aY (pv 0)) ae)))))
   (au (bG (aM rT (aD bz (by rfl) bo cq (aa (pv 1) ae)) (bw (v:=.int 8) rfl ip ⟨_,rfl⟩) (aS _)) (ax (cI q_NoText rfl aI dM (aa (ot (cf gh (cf (qV (bw (v:=.int 8) rfl ip ⟨_,rfl⟩)) (cf gh ou)))) ae))) aW)
   (ax (aU (bD kj (by rfl) iz wC (aa (pv 1) ae))))))),?_⟩
 obtain ⟨dx,hx⟩:=tx.rd.ob
 refine ⟨_,rfl,x,dx,_,rfl,hx,rfl,x,z,i,rfl,tx,fun p0 j0 v H1 e0 hj0 rd1 bt1 hv => ⟨(by show 1 <= sizeLine; decide),fun L hL => ?_⟩,fun e H1 bt1 => qE (by unfold sumF; rw [e]; rfl) H1 bt1⟩
 obtain ⟨T,ev,hT⟩:=hv
 subst ev
 try dsimp only [aF,aK,List.set]
 have sL:=ah hL (HO.lst [V.ref T])
 have fL : ∀ c u,c ≠ x -> H c = some u -> c ≠ L:=fun c u n e h => by
  have:=bt1 c u n e
  rw [h,hL] at this
  cases this
 have se : ∀ o,((dN 1000 (atT z j0)).bind fun s => if s.1.length <= 7 then some (p0 :: s.1,s.2) else none) = o -> sumF (atT z i) = o:=fun o ho => by
  unfold sumF
  rw [e0]
  exact ho
 refine di (t:=yk _ _) (fun σ' H' => ∃ (as : List Addr) (qs : List Prt) (j : Nat),σ' = [some (.ref x),some (.ref L)] /\ H' L = some (.lst (as.map V.ref)) /\ Paired (jU H') as (p0 :: qs) /\ Rd H' C x z j /\ j <= z.length /\ dN 1000 (atT z j0) = some (qs,atT z j) /\ qs.length <= 1000 /\ But x H H') ?_ (fun D' nxt => ?_)
 rotate_left
 ·refine we (fun mm σ' H' => ∃ (as : List Addr) (qs : List Prt) (k j : Nat),mm = z.length - j /\ σ' = [some (.ref x),some (.ref L)] /\ H' L = some (.lst (as.map V.ref)) /\ Paired (jU H') as (p0 :: qs) /\ Rd H' C x z j /\ j <= z.length /\ dN 1000 (atT z j0) = ((dN k (atT z j)).bind fun s => some (qs ++ s.1,s.2)) /\ z.length - j <= k /\ qs.length + k <= 1000 /\ But x H H') ⟨_,[T],[],1000,j0,rfl,rfl,af,.cons (sL _ _ hT) .nil,rd1.same sL,hj0,?_,?_,Nat.le_refl _,bt1.trans (lC sL)⟩ ?_
  ·cases dN 1000 (atT z j0) <;> rfl
  ·have:=tx.lz
   omega
  rintro mm σ' H4 ⟨as,qs,k,j,rfl,rfl,hL4,PA4,rd4,hj,em,hk,hq,bt4⟩
  have las : as.length = (p0 :: qs).length:=Paired.length PA4
  rw [List.length_cons] at las
  obtain ⟨dx4,hx4⟩:=rd4.ob
  have nxL : L ≠ x:=xy hL4 hx4 (by intro h; cases h)
  have p3 : (Str.ofString " + ").length = 3:=by decide
  refine ⟨_,rfl,x,dx4,_,rfl,hx4,rfl,x,z,Str.ofString " + ",j,rfl,rd4,hj,by rw [p3]; decide,fun h => ⟨_,rfl,cN ?_⟩,fun h H5 rd5 bt5 => ⟨_,rfl,cY ?_⟩⟩
  ·refine nxt _ _ ⟨as,qs,j,rfl,hL4,PA4,rd4,hj,?_,by omega,bt4⟩
   rw [em]
   cases k with
   | zero => rw [dN,Option.bind_some,List.append_nil]
   | succ k => rw [dN,bV h,Option.bind_some,List.append_nil]
  have ta:=jS hj h
  rw [p3] at ta rd5
  cases k with
  | zero => exact absurd hk (by omega)
  | succ k =>
  have em2 : ∀ o : Option (List Prt × List Nat),(((gJ (atT z (j + 3))).bind fun q => (dN k q.2).bind fun s => some (q.1 :: s.1,s.2)).bind fun s => some (qs ++ s.1,s.2)) = o -> dN 1000 (atT z j0) = o:=fun o ho => by
   rw [em,dN,ta.1]
   exact ho
  refine ⟨fun σ' H' => ∃ m',m' < z.length - j /\ ∃ (as : List Addr) (qs : List Prt) (k j : Nat),m' = z.length - j /\ σ' = [some (.ref x),some (.ref L)] /\ H' L = some (.lst (as.map V.ref)) /\ Paired (jU H') as (p0 :: qs) /\ Rd H' C x z j /\ j <= z.length /\ dN 1000 (atT z j0) = ((dN k (atT z j)).bind fun s => some (qs ++ s.1,s.2)) /\ z.length - j <= k /\ qs.length + k <= 1000 /\ But x H H',fun _ _ h => h,?_⟩
  have hL5:=bt5 L _ nxL hL4
  obtain ⟨dx5,hx5⟩:=rd5.ob
  refine ⟨_,rfl,.inl ⟨rfl,_,qL_ hL5⟩,_,rfl,x,dx5,_,rfl,hx5,rfl,x,z,_,rfl,⟨rd5,ta.2,tx.lz,tx.dg⟩,fun p j2 v H6 e6 hj6 rd6 bt6 hv => ?_,fun e6 H6 bt6 => qE (se none (by rw [em2 none (by rw [e6]; rfl)]; rfl)) H6 (bt4.trans (bt5.trans bt6))⟩
  obtain ⟨T2,ev,hT6⟩:=hv
  subst ev
  have hL6:=bt6 L _ nxL hL5
  refine ⟨L,_,_,rfl,rfl,hL6,Nat.lt_of_le_of_lt (show _ <= 2000 by rw [lm_]; omega) (by decide),?_⟩
  have tk6 : jH H4 H6:=fun b xs e => tkB rd5 bt6 b xs (tkB rd4 bt5 b xs e)
  have tk7 : jH H6 (upd H6 L (.lst (as.map V.ref ++ [.ref T2]))):=fun b xs e => by rw [az (xy e hL6 (by intro h; cases h))]; exact e
  have lt:=congrArg List.length (qU e6).1
  rw [List.length_append,om,om] at lt
  refine ⟨z.length - j2,by omega,as ++ [T2],qs ++ [p],k,j2,rfl,rfl,by rw [af,List.map_append]; rfl,?_,?_,hj6,?_,by omega,by rw [List.length_append,List.length_singleton]; omega,fun c u n e => by rw [az (fL c u n e)]; exact bt6 c u n (bt5 c u n (bt4 c u n e))⟩
  ·exact qT (ps:=p0 :: qs) (Paired.mapP PA4 fun _ _ e => tk7 _ _ (tk6 _ _ e)) (tk7 _ _ hT6)
  ·obtain ⟨dx6,hx6⟩:=rd6.ob
   exact ⟨dx6,by rw [az (Ne.symm nxL)]; exact hx6⟩
  ·refine em2 _ ?_
   rw [e6,Option.bind_some]
   dsimp only
   cases dN k (atT z j2) with
   | none => rfl
   | some s => simp only [Option.bind_some,List.append_assoc,List.singleton_append]
 rintro σ' H4 ⟨as,qs,j,rfl,hL4,PA4,rd4,hj4,em,lq,bt4⟩
 have las : as.length = (p0 :: qs).length:=Paired.length PA4
 rw [List.length_cons] at las
 refine ⟨_,rfl,L,_,rfl,.inl (qL_ hL4),_,_,rfl,rfl,_,rfl,?_⟩
 by_cases c : qs.length <= 7
 ·rw [decide_eq_false (show ¬ (8 : Int) < ((as.map V.ref).length : Int) by rw [lm_]; omega)]
  refine cN ⟨_,rfl,L,_,rfl,.inl ⟨qL_ hL4,fun T2 hT2 => ?_⟩⟩
  have s5:=ah hT2 (HO.tup (as.map V.ref))
  exact q (p0 :: qs) j (.ref T2) _ (se _ (by rw [em,Option.bind_some]; exact if_pos c)) hj4 (rd4.same s5) (bt4.trans (lC s5)) ⟨T2,as,rfl,af,Paired.mapP PA4 fun _ _ e => s5 _ _ e⟩
 ·rw [decide_eq_true (show (8 : Int) < ((as.map V.ref).length : Int) by rw [lm_]; omega)]
  exact cY (.inr ⟨_,rfl,by decide,by decide,fun _ => ⟨(by show 1 <= 8; decide),qE (se none (by rw [em,Option.bind_some]; exact if_neg c)) H4 bt4⟩⟩)
end
def wc (C N : Addr) : Sp:=fun vs H Q E => ∃ (x : Addr) (z row : Str) (i : Nat),vs = [.ref x,.str row] /\ Tx H C x z i /\ (∀ c ∈ row.cps.toList,inR 65 90 c = true) /\ row.length <= 1000 /\ Mir C N x z (rO row (atT z i)) StAt H Q E
theorem EY {κ : Str} (h : κ.length <= 4) : (cw κ).length <= 1000:=by
 unfold cw
 rw [len_app,len_app]
 have : ((" " : Str)).length = 1:=by decide
 omega
section
variable {P : Program} {w : World} {K : PySem.W.Frag} {mg : Str -> Option Value} {base : Heap} {f : Addr} {fd : FuncData} {dV : Value} {C N TC : Addr} {tk : Tok}
theorem Bg (F : FunD K "compared" "Reader.compared" bQ dV f fd) (bc : DefMe P w K mg base C "takes" 1 ["self","word"] (iy C)) (GEX_added : DefMeX P w K mg base C "added" 5 ["self"] (spM C N sumF SumAt)) (nA : mg "COMPARING" = some (.ref TC)) (sqC : ∀ H,SqT K H TC Gu) (q_NoText : PySem.W.excIn K N VEm "ValueError.__new__" = true) (aI : mg "NoText" = some (.ref N)) : FnOk P w K mg base (CX1 P w) 6 f fd ["self"] (spM C N yz StAt):=by
 refine F.okX sc_Reader_compared (fun vs H Q E h => ?_) (fun cdv A outer s H vs Q E hr h => ?_)
 ·obtain ⟨x,z,i,rfl,_⟩:=h
  rfl
 obtain ⟨x,z,i,rfl,tx,q,qE⟩:=h
 refine ⟨_,(au (ay (i:=1) sc_Reader_compared.nd rfl (Or.inl rfl) (jA GEX_added hr aY (pv 0)))
   (au (qZ PassesOwn.leaving rfl (DN (bw (v:=.ref _) rfl nA rfl)) (aG (i:=2) sc_Reader_compared.nd rfl (Or.inl rfl)) (ax (bG (dD (kP bc hr (pv 0) (aa (CK (kQ gh (kQ (qV (pv 2)) (kQ gh ES)))) ae))) (ax (aU (aV (aa (pv 2) (aa (pv 1) (aa (jA GEX_added hr aY (pv 0)) ae)))))) aW)))
   (ax (cI q_NoText rfl aI dM (aa ar ae))))),?_⟩
 obtain ⟨dx,hx⟩:=tx.rd.ob
 refine ⟨_,rfl,x,dx,_,rfl,hx,rfl,x,z,i,rfl,tx,fun a j va H1 e1 hj rd1 bt1 ha => ?_,fun e H1 bt1 => qE (by unfold yz; rw [e]; rfl) H1 bt1⟩
 try dsimp only [aF,aK,List.set]
 obtain ⟨dx1,hx1⟩:=rd1.ob
 have ce : ∀ o,((fh cw cmpKs (atT z j)).bind fun w => (sumF w.2).bind fun s => some (Stt.cmp w.1 a s.1,s.2)) = o -> yz (atT z i) = o:=fun o ho => by
  unfold yz
  rw [e1]
  exact ho
 refine ⟨TC,rfl,⟨_,sqC _⟩,?_⟩
 refine AB (K:=K) (xs:=Gu) (fun n σ' H' => (∃ v2,σ' = [some (.ref x),some va,v2]) /\ H' = H1 /\ fh cw cmpKs (atT z j) = fh cw (cmpKs.drop n) (atT z j)) ⟨⟨none,rfl⟩,rfl,rfl⟩ (fun _ _ _ _ _ => sqC _) ?_ ?_
 ·rintro n y σ' H' hm ⟨⟨v2,rfl⟩,eH,hn⟩
  subst eH
  obtain ⟨κ,rfl,hκ,ed⟩:=yn (ks:=cmpKs) hm
  have kl : κ.length <= 4:=by rcases cmpKs_in.mp hκ with e | e | e <;> subst e <;> decide
  refine ⟨_,rfl,x,dx1,_,rfl,hx1,rfl,_,rfl,.inl ⟨κ,rfl,Nat.le_trans kl (by decide),?_⟩⟩
  refine ⟨x,z,cw κ,j,?_,rd1,hj,EY kl,fun h => ⟨_,rfl,cN ?_⟩,fun h H2 rd2 bt2 => ⟨_,rfl,cY ?_⟩⟩
  ·show [V.ref x,V.str (Str.empty ++ Str.ofString " " ++ κ ++ Str.ofString " ")] = _
   rw [Az]
   rfl
  ·exact ⟨⟨_,rfl⟩,rfl,by rw [hn,ed,xf h]⟩
  ·have ta:=jS hj h
   have ff : fh cw cmpKs (atT z j) = some (κ,atT z (j + (cw κ).length)):=by rw [hn,ed,xg ta.1]
   obtain ⟨dx2,hx2⟩:=rd2.ob
   refine ⟨_,rfl,_,rfl,_,rfl,x,dx2,_,rfl,hx2,rfl,x,z,_,rfl,⟨rd2,ta.2,tx.lz,tx.dg⟩,fun b j3 vb H3 e3 hj3 rd3 bt3 hb => ⟨(by show 3 <= sizeLine; decide),fun T hT => ?_⟩,fun e3 H3 bt3 => qE (ce none (by rw [ff,Option.bind_some]; dsimp only; rw [e3]; rfl)) H3 (bt1.trans (bt2.trans bt3))⟩
   have s4:=ah hT (HO.tup [V.str κ,va,vb])
   exact q (.cmp κ a b) j3 (.ref T) _ (ce _ (by rw [ff,Option.bind_some]; dsimp only; rw [e3]; rfl)) hj3 (rd3.same s4) (bt1.trans (bt2.trans (bt3.trans (lC s4)))) ⟨T,va,vb,rfl,af,ha.same (fun b' xs e => s4 _ _ (tkB rd2 bt3 _ _ (tkB rd1 bt2 _ _ e))),hb.same (tkS s4)⟩
 ·rintro σ' H' ⟨⟨v2,rfl⟩,eH,hn⟩
  subst eH
  exact ⟨(by show 1 <= 8; decide),qE (ce none (by rw [hn]; rfl)) H' bt1⟩
theorem FF (F : FunD K "place_of" "Reader.place_of" bR dV f fd) (GEX_need : DefMeX P w K mg base C "need" 2 ["self","word"] (mi C N)) (GEX_added : DefMeX P w K mg base C "added" 5 ["self"] (spM C N sumF SumAt)) (jT : DefOk P w K mg base "is_row_name" 2 ["thing"] [] um) (q_NoText : PySem.W.excIn K N VEm "ValueError.__new__" = true) (aI : mg "NoText" = some (.ref N)) : FnOk P w K mg base (CX1 P w) 6 f fd ["self","row"] (yh C N):=by
 refine F.okX sc_Reader_place_of (fun vs H Q E h => ?_) (fun cdv A outer s H vs Q E hr h => ?_)
 ·obtain ⟨x,z,row,i,rfl,_⟩:=h
  rfl
 obtain ⟨x,z,row,i,rfl,tx,ro,lr,q,qE⟩:=h
 refine ⟨_,(au (bG (gj (dD (I9 jT hr (aa (pv 1) ae)))) (ax (cI q_NoText rfl aI dM (aa ar ae))) aW)
   (au (cm (jz GEX_need hr aY (pv 0) (aa ar ae)))
   (au (ay (i:=2) sc_Reader_place_of.nd rfl (Or.inl rfl) (jA GEX_added hr aY (pv 0)))
   (au (cm (jz GEX_need hr aY (pv 0) (aa ar ae)))
   (ax (aU (aV (aa (pv 1) (aa (pv 2) ae))))))))),?_⟩
 refine ⟨_,rfl,row,rfl,ro,lr,fun H1 s1 => ⟨_,rfl,?_⟩⟩
 by_cases c : fm row
 rotate_left
 ·rw [decide_eq_false c]
  exact cY ⟨(by show 1 <= 8; decide),qE (if_neg c) H1 (lC s1)⟩
 rw [decide_eq_true c]
 refine cN ?_
 have rd1:=tx.rd.same s1
 obtain ⟨dx1,hx1⟩:=rd1.ob
 refine ⟨_,rfl,x,dx1,_,rfl,hx1,rfl,x,z,Str.ofString "[",i,rfl,⟨rd1,tx.le,tx.lz,tx.dg⟩,by decide,by decide +kernel,fun j2 H2 e2 hj2 rd2 bt2 => ?_,fun e2 H2 bt2 => qE (by unfold gi; rw [if_pos c,e2]; rfl) H2 ((lC s1).trans bt2)⟩
 obtain ⟨dx2,hx2⟩:=rd2.ob
 have b2:=(lC (x:=x) s1).trans bt2
 refine ⟨_,rfl,x,dx2,_,rfl,hx2,rfl,x,z,j2,rfl,⟨rd2,hj2,tx.lz,tx.dg⟩,fun a j3 va H3 e3 hj3 rd3 bt3 ha => ?_,fun e3 H3 bt3 => qE (by unfold gi; rw [if_pos c,e2,Option.bind_some,e3]; rfl) H3 (b2.trans bt3)⟩
 try dsimp only [aF,aK,List.set]
 obtain ⟨dx3,hx3⟩:=rd3.ob
 refine ⟨_,rfl,x,dx3,_,rfl,hx3,rfl,x,z,Str.ofString "]",j3,rfl,⟨rd3,hj3,tx.lz,tx.dg⟩,by decide,by decide +kernel,fun j4 H4 e4 hj4 rd4 bt4 => ?_,fun e4 H4 bt4 => qE (by unfold gi; rw [if_pos c,e2,Option.bind_some,e3,Option.bind_some]; dsimp only; rw [e4]; rfl) H4 (b2.trans (bt3.trans bt4))⟩
 refine ⟨_,rfl,_,rfl,(by show 2 <= sizeLine; decide),fun T hT => ?_⟩
 have s5:=ah hT (HO.tup [V.str row,va])
 exact q a j4 (.ref T) _ (by unfold gi; rw [if_pos c,e2,Option.bind_some,e3,Option.bind_some]; dsimp only; rw [e4]; rfl) hj4 (rd4.same s5) (b2.trans (bt3.trans (bt4.trans (lC s5)))) ⟨T,va,rfl,af,ha.same fun b' xs e => s5 _ _ (tkB rd3 bt4 _ _ e)⟩
theorem GK (F : FunD K "looked_up" "Reader.looked_up" bJ dV f fd) (GEX_place_of : DefMeX P w K mg base C "place_of" 6 ["self","row"] (yh C N)) (GEX_need : DefMeX P w K mg base C "need" 2 ["self","word"] (mi C N)) (dv : DefMe P w K mg base C "run" 1 ["self","first","last"] (uH C)) (GEX_number : DefMeX P w K mg base C "number" 2 ["self"] (spM C N qM Ek)) : FnOk P w K mg base (CX1 P w) 7 f fd ["self","row"] (wc C N):=by
 refine F.okX sc_Reader_looked_up (fun vs H Q E h => ?_) (fun cdv A outer s H vs Q E hr h => ?_)
 ·obtain ⟨x,z,row,i,rfl,_⟩:=h
  rfl
 obtain ⟨x,z,row,i,rfl,tx,ro,lr,q,qE⟩:=h
 refine ⟨_,(au (ay (i:=2) sc_Reader_looked_up.nd rfl (Or.inl rfl) (jz GEX_place_of hr aY (pv 0) (aa (pv 1) ae)))
   (au (cm (jz GEX_need hr aY (pv 0) (aa ar ae)))
   (au (ay (i:=3) sc_Reader_looked_up.nd rfl (Or.inl rfl) (kP dv hr (pv 0) (aa ar (aa ar ae))))
   (au (bG (aM gI (pv 3) ar (aS _)) (ax (aU (ak vY (ak vY (aV (aa ar ae)) (pv 2)) (aV (aa (jA GEX_number hr aY (pv 0)) ae))))) aW)
   (ax (aU (ak vY (ak vY (aV (aa ar ae)) (pv 2)) (jz GEX_place_of hr aY (pv 0) (aa (pv 3) ae))))))))),?_⟩
 obtain ⟨dx,hx⟩:=tx.rd.ob
 refine ⟨_,rfl,x,dx,_,rfl,hx,rfl,_,rfl,x,z,row,i,rfl,tx,ro,lr,fun a j1 v H1 e1 hj1 rd1 bt1 hv => ?_,fun e1 H1 bt1 => qE (by unfold rO; rw [e1]; rfl) H1 bt1⟩
 obtain ⟨T1,va,ev,hT1,ha1⟩:=hv
 subst ev
 try dsimp only [aF,aK,List.set]
 obtain ⟨dx1,hx1⟩:=rd1.ob
 refine ⟨_,rfl,x,dx1,_,rfl,hx1,rfl,x,z,Str.ofString " = ",j1,rfl,⟨rd1,hj1,tx.lz,tx.dg⟩,by decide,by decide +kernel,fun j2 H2 e2 hj2 rd2 bt2 => ?_,fun e2 H2 bt2 => qE (by unfold rO; rw [e1,Option.bind_some]; dsimp only; rw [e2]; rfl) H2 (bt1.trans bt2)⟩
 obtain ⟨dx2,hx2⟩:=rd2.ob
 have tk12:=tkB rd1 bt2
 have bt02:=bt1.trans bt2
 have hT2:=tk12 _ _ hT1
 have ha2:=ha1.same tk12
 have hh:=uf z j2 65 90
 have hle:=hh.le hj2
 have le : ∀ o,(if (atT z j2).takeWhile (inR 65 90) = [] then (qM (atT z j2)).bind fun s => some (Stt.sg row a s.1,s.2) else (gi (aO ((atT z j2).takeWhile (inR 65 90))) ((atT z j2).dropWhile (inR 65 90))).bind fun s => some (Stt.lk row a (aO ((atT z j2).takeWhile (inR 65 90))) s.1,s.2)) = o -> rO row (atT z i) = o:=fun o ho => by
  unfold rO
  rw [e1,Option.bind_some]
  dsimp only
  rw [e2,Option.bind_some]
  exact ho
 refine ⟨_,rfl,x,dx2,_,rfl,hx2,rfl,x,z,_,j2,65,90,_,AV,rd2,hj2,tx.lz,hh,tw_in,tw,fun H3 rd3 bt3 => ?_⟩
 try dsimp only [aF,aK,List.set]
 refine ⟨_,rfl,rfl,_,rfl,?_⟩
 have hT3:=tkB rd2 bt3 _ _ hT2
 have ha3:=ha2.same (tkB rd2 bt3)
 by_cases c0 : (atT z j2).takeWhile (inR 65 90) = []
 ·rw [decide_eq_true (show V.str (aO ((atT z j2).takeWhile (inR 65 90))) = V.str (Str.ofString "") from V_str.mpr (strL_nil.mpr c0))]
  replace rd3 : Rd H3 C x z j2:=by
   rw [c0] at rd3
   exact rd3
  refine cY ⟨(by show 1 <= sizeLine; decide),fun Ta hTa => ?_⟩
  have s4:=ah hTa (HO.tup [V.str (Str.ofString "is")])
  refine ⟨_,rfl,Ta,T1,_,_,rfl,rfl,qT_ af,qT_ (s4 _ _ hT3),(by show 3 <= sizeLine; decide),fun h => (by cases h),fun _ h => (by cases h),fun _ _ Tb hTb => ?_⟩
  have s5:=ah hTb (HO.tup [V.str (Str.ofString "is"),V.str row,va])
  have rd5:=(rd3.same s4).same s5
  obtain ⟨dx5,hx5⟩:=rd5.ob
  have b5:=bt02.trans (bt3.trans (lC (s4.trans s5)))
  refine ⟨_,rfl,x,dx5,_,rfl,hx5,rfl,x,z,j2,rfl,⟨rd5,hj2,tx.lz,tx.dg⟩,fun n j6 v H6 e6 hj6 rd6 bt6 hv => ?_,fun e6 H6 bt6 => qE (le none (by rw [if_pos c0,e6]; rfl)) H6 (b5.trans bt6)⟩
  cases (show v = .int n from hv)
  refine ⟨(by show 1 <= sizeLine; decide),fun Tc hTc => ?_⟩
  have s7:=ah hTc (HO.tup [V.int n])
  have tk6:=tkB rd5 bt6
  refine ⟨Tb,Tc,_,_,rfl,rfl,qT_ (s7 _ _ (tk6 _ _ af)),qT_ af,(by show 4 <= sizeLine; decide),fun h => (by cases h),fun _ h => (by cases h),fun _ _ Td hTd => ?_⟩
  have s8:=ah hTd (HO.tup [V.str (Str.ofString "is"),V.str row,va,V.int n])
  exact q (.sg row a n) j6 (.ref Td) _ (le _ (by rw [if_pos c0,e6]; rfl)) hj6 ((rd6.same s7).same s8) (b5.trans (bt6.trans (lC (s7.trans s8)))) ⟨Td,va,rfl,af,(ha3.same (tkS (s4.trans s5))).same fun b' xs e => (s7.trans s8) _ _ (tk6 _ _ e)⟩
 ·rw [decide_eq_false (show ¬ V.str (aO ((atT z j2).takeWhile (inR 65 90))) = V.str (Str.ofString "") from fun h => c0 (strL_nil.mp (V_str.mp h)))]
  refine cN ⟨(by show 1 <= sizeLine; decide),fun Ta hTa => ?_⟩
  have s4:=ah hTa (HO.tup [V.str (Str.ofString "like")])
  refine ⟨_,rfl,Ta,T1,_,_,rfl,rfl,qT_ af,qT_ (s4 _ _ hT3),(by show 3 <= sizeLine; decide),fun h => (by cases h),fun _ h => (by cases h),fun _ _ Tb hTb => ?_⟩
  have s5:=ah hTb (HO.tup [V.str (Str.ofString "like"),V.str row,va])
  have rd5:=(rd3.same s4).same s5
  obtain ⟨dx5,hx5⟩:=rd5.ob
  have b5:=bt02.trans (bt3.trans (lC (s4.trans s5)))
  refine ⟨_,rfl,x,dx5,_,rfl,hx5,rfl,_,rfl,x,z,_,_,rfl,⟨rd5,by omega,tx.lz,tx.dg⟩,tw_in,DW tx.lz j2 65 90,fun b j6 v H6 e6 hj6 rd6 bt6 hv => ?_,fun e6 H6 bt6 => qE (le none (by rw [if_neg c0]; rw [hh.on] at e6; rw [e6]; rfl)) H6 (b5.trans bt6)⟩
  obtain ⟨Tc,vb,ev,hTc,hb⟩:=hv
  subst ev
  have tk6:=tkB rd5 bt6
  refine ⟨Tb,Tc,_,_,rfl,rfl,qT_ (tk6 _ _ af),qT_ hTc,(by show 5 <= sizeLine; decide),fun h => (by cases h),fun _ h => (by cases h),fun _ _ Td hTd => ?_⟩
  have s8:=ah hTd (HO.tup [V.str (Str.ofString "like"),V.str row,va,V.str (aO ((atT z j2).takeWhile (inR 65 90))),vb])
  exact q (.lk row a _ b) j6 (.ref Td) _ (le _ (by rw [if_neg c0]; rw [hh.on] at e6; rw [e6]; rfl)) hj6 (rd6.same s8) (b5.trans (bt6.trans (lC s8))) ⟨Td,va,vb,rfl,af,(ha3.same (tkS (s4.trans s5))).same fun b' xs e => s8 _ _ (tk6 _ _ e),hb.same (tkS s8)⟩
end
def su (C N : Addr) (d : Nat) : Sp:=fun vs H Q E => ∃ (x : Addr) (z : Str) (k i : Nat),vs = [.ref x,.int ((k : Int) - 1)] /\ k <= d /\ Tx H C x z i /\ Mir C N x z (bS k (atT z i)) StAt H Q E
def oA (C N : Addr) (d : Nat) : Sp:=fun vs H Q E => ∃ (x : Addr) (z : Str) (k i : Nat),vs = [.ref x,.int ((k : Int) - 1)] /\ k < d /\ Tx H C x z i /\ Mir C N x z (bS k (atT z i)) StAt H Q E
def EZ (C N : Addr) (d : Nat) : Sp:=fun vs H Q E => ∃ (x : Addr) (z : Str) (k i : Nat),vs = [.ref x,.int (((k + 1 : Nat) : Int) - 1)] /\ k < d /\ Tx H C x z i /\ Mir C N x z (uB (bS k) (atT z i)) StAt H Q E
def Hm (C N : Addr) (d : Nat) : Sp:=fun vs H Q E => ∃ (x : Addr) (z κ : Str) (k i : Nat),vs = [.ref x,.str κ,.int (((k + 1 : Nat) : Int) - 1)] /\ k < d /\ Tx H C x z i /\ Mir C N x z (Ak (bS k) κ (atT z i)) StAt H Q E
theorem HX {x : V} {k : Nat} : [x,V.int (((k + 1 : Nat) : Int) - 1 - 1)] = [x,V.int ((k : Int) - 1)]:=by
 rw [show (((k + 1 : Nat) : Int) - 1 - 1) = (k : Int) - 1 by omega]
section
variable {P : Program} {w : World} {K : PySem.W.Frag} {mg : Str -> Option Value} {base : Heap} {f : Addr} {fd : FuncData} {dV : Value} {C N TJ TH : Addr} {tk : Tok}
theorem GJ {d : Nat} (F : FunD K "joined" "Reader.joined" bU dV f fd) (bc : DefMe P w K mg base C "takes" 1 ["self","word"] (iy C)) (GEX_need : DefMeX P w K mg base C "need" 2 ["self","word"] (mi C N)) (GEX_statement : DefMeX P w K mg base C "statement" (2 * d + 7) ["self","deep"] (oA C N d)) (kN : mg "JOINING" = some (.ref TJ)) (sqJ : ∀ H,SqT K H TJ Dt) (q_NoText : PySem.W.excIn K N VEm "ValueError.__new__" = true) (aI : mg "NoText" = some (.ref N)) : FnOk P w K mg base (CX1 P w) (2 * d + 8) f fd ["self","deep"] (EZ C N d):=by
 refine F.okX sc_Reader_joined (fun vs H Q E h => ?_) (fun cdv A outer s H vs Q E hr h => ?_)
 ·obtain ⟨x,z,k,i,rfl,_⟩:=h
  rfl
 obtain ⟨x,z,k,i,rfl,kd,tx,q,qE⟩:=h
 refine ⟨_,(au (ay (i:=2) sc_Reader_joined.nd rfl (Or.inl rfl) (jz GEX_statement hr aY (pv 0) (aa (ak jy (pv 1) ag) ae) (hkj:=by omega)))
   (au (qZ PassesOwn.leaving rfl (DN (bw (v:=.ref _) rfl kN rfl)) (aG (i:=3) sc_Reader_joined.nd rfl (Or.inl rfl)) (ax (bG (dD (kP bc hr (pv 0) (aa (CK (kQ gh (kQ (qV (pv 3)) (kQ gh ES)))) ae) (hkj:=by omega))) (au (ay (i:=4) sc_Reader_joined.nd rfl (Or.inl rfl) (jz GEX_statement hr aY (pv 0) (aa (ak jy (pv 1) ag) ae) (hkj:=by omega)))
   (au (cm (jz GEX_need hr aY (pv 0) (aa ar ae) (hkj:=by omega)))
   (ax (aU (aV (aa (pv 3) (aa (pv 2) (aa (pv 4) ae)))))))) aW)))
   (ax (cI q_NoText rfl aI dM (aa ar ae))))),?_⟩
 obtain ⟨dx,hx⟩:=tx.rd.ob
 refine ⟨_,rfl,x,dx,_,rfl,hx,rfl,_,rfl,_,_,rfl,rfl,x,z,k,i,HX,kd,tx,fun s1 j1 va H1 e1 hj1 rd1 bt1 ha => ?_,fun e1 H1 bt1 => qE (by unfold uB; rw [e1]; rfl) H1 bt1⟩
 try dsimp only [aF,aK,List.set]
 obtain ⟨dx1,hx1⟩:=rd1.ob
 have je : ∀ o,((fh cw joinKs (atT z j1)).bind fun w => (bS k w.2).bind fun s => (cF ")" s.2).bind fun T5 => some (Stt.jn w.1 s1 s.1,T5)) = o -> uB (bS k) (atT z i) = o:=fun o ho => by
  unfold uB
  rw [e1]
  exact ho
 refine ⟨TJ,rfl,⟨_,sqJ _⟩,?_⟩
 refine AB (K:=K) (xs:=Dt) (fun n σ' H' => (∃ v3,σ' = [some (.ref x),some (.int (((k + 1 : Nat) : Int) - 1)),some va,v3,none]) /\ H' = H1 /\ fh cw joinKs (atT z j1) = fh cw (joinKs.drop n) (atT z j1)) ⟨⟨none,rfl⟩,rfl,rfl⟩ (fun _ _ _ _ _ => sqJ _) ?_ ?_
 ·rintro n y σ' H' hm ⟨⟨v3,rfl⟩,eH,hn⟩
  subst eH
  obtain ⟨κ,rfl,hκ,ed⟩:=yn (ks:=joinKs) hm
  have kl : κ.length <= 4:=by rcases joinKs_in.mp hκ with e | e <;> subst e <;> decide
  refine ⟨_,rfl,x,dx1,_,rfl,hx1,rfl,_,rfl,.inl ⟨κ,rfl,Nat.le_trans kl (by decide),?_⟩⟩
  refine ⟨x,z,cw κ,j1,?_,rd1,hj1,EY kl,fun h => ⟨_,rfl,cN ?_⟩,fun h H2 rd2 bt2 => ⟨_,rfl,cY ?_⟩⟩
  ·show [V.ref x,V.str (Str.empty ++ Str.ofString " " ++ κ ++ Str.ofString " ")] = _
   rw [Az]
   rfl
  ·exact ⟨⟨_,rfl⟩,rfl,by rw [hn,ed,xf h]⟩
  ·have ta:=jS hj1 h
   have ff : fh cw joinKs (atT z j1) = some (κ,atT z (j1 + (cw κ).length)):=by rw [hn,ed,xg ta.1]
   obtain ⟨dx2,hx2⟩:=rd2.ob
   have b2:=bt1.trans bt2
   refine ⟨_,rfl,x,dx2,_,rfl,hx2,rfl,_,rfl,_,_,rfl,rfl,x,z,k,_,HX,kd,⟨rd2,ta.2,tx.lz,tx.dg⟩,fun t1 j3 vb H3 e3 hj3 rd3 bt3 hb => ?_,fun e3 H3 bt3 => qE (je none (by rw [ff,Option.bind_some]; dsimp only; rw [e3]; rfl)) H3 (b2.trans bt3)⟩
   try dsimp only [aF,aK,List.set]
   obtain ⟨dx3,hx3⟩:=rd3.ob
   refine ⟨_,rfl,x,dx3,_,rfl,hx3,rfl,x,z,Str.ofString ")",j3,rfl,⟨rd3,hj3,tx.lz,tx.dg⟩,by decide,by decide +kernel,fun j4 H4 e4 hj4 rd4 bt4 => ?_,fun e4 H4 bt4 => qE (je none (by rw [ff,Option.bind_some]; dsimp only; rw [e3,Option.bind_some]; dsimp only; rw [e4]; rfl)) H4 (b2.trans (bt3.trans bt4))⟩
   refine ⟨_,rfl,_,rfl,_,rfl,(by show 3 <= sizeLine; decide),fun T hT => ?_⟩
   have s5:=ah hT (HO.tup [V.str κ,va,vb])
   exact q (.jn κ s1 t1) j4 (.ref T) _ (je _ (by rw [ff,Option.bind_some]; dsimp only; rw [e3,Option.bind_some]; dsimp only; rw [e4]; rfl)) hj4 (rd4.same s5) (b2.trans (bt3.trans (bt4.trans (lC s5)))) ⟨T,va,vb,rfl,af,StAt.same (fun b' xs e => s5 _ _ (tkB rd3 bt4 _ _ (tkB rd2 bt3 _ _ (tkB rd1 bt2 _ _ e)))) ha,StAt.same (fun b' xs e => s5 _ _ (tkB rd3 bt4 _ _ e)) hb⟩
 ·rintro σ' H' ⟨⟨v2,rfl⟩,eH,hn⟩
  subst eH
  exact ⟨(by show 1 <= 8; decide),qE (je none (by rw [hn]; rfl)) H' bt1⟩
theorem Im {d : Nat} (F : FunD K "chosen" "Reader.chosen" bT dV f fd) (GEX_name : DefMeX P w K mg base C "name" 3 ["self"] (spM C N jx BR)) (GEX_need : DefMeX P w K mg base C "need" 2 ["self","word"] (mi C N)) (GEX_statement : DefMeX P w K mg base C "statement" (2 * d + 7) ["self","deep"] (oA C N d)) : FnOk P w K mg base (CX1 P w) (2 * d + 8) f fd ["self","kind","deep"] (Hm C N d):=by
 refine F.okX sc_Reader_chosen (fun vs H Q E h => ?_) (fun cdv A outer s H vs Q E hr h => ?_)
 ·obtain ⟨x,z,κ,k,i,rfl,_⟩:=h
  rfl
 obtain ⟨x,z,κ,k,i,rfl,kd,tx,q,qE⟩:=h
 refine ⟨_,(au (ay (i:=3) sc_Reader_chosen.nd rfl (Or.inl rfl) (jA GEX_name hr aY (pv 0) (hkj:=by omega)))
   (au (cm (jz GEX_need hr aY (pv 0) (aa ar ae) (hkj:=by omega)))
   (ax (aU (aV (aa (pv 1) (aa (pv 3) (aa (jz GEX_statement hr aY (pv 0) (aa (ak jy (pv 2) ag) ae) (hkj:=by omega)) ae)))))))),?_⟩
 obtain ⟨dx,hx⟩:=tx.rd.ob
 refine ⟨_,rfl,x,dx,_,rfl,hx,rfl,x,z,i,rfl,tx,fun n j1 v H1 e1 hj1 rd1 bt1 hv => ?_,fun e1 H1 bt1 => qE (by unfold Ak; rw [e1]; rfl) H1 bt1⟩
 cases (show v = .str n from hv)
 try dsimp only [aF,aK,List.set]
 obtain ⟨dx1,hx1⟩:=rd1.ob
 refine ⟨_,rfl,x,dx1,_,rfl,hx1,rfl,x,z,Str.ofString ": ",j1,rfl,⟨rd1,hj1,tx.lz,tx.dg⟩,by decide,by decide +kernel,fun j2 H2 e2 hj2 rd2 bt2 => ?_,fun e2 H2 bt2 => qE (by unfold Ak; rw [e1,Option.bind_some]; dsimp only; rw [e2]; rfl) H2 (bt1.trans bt2)⟩
 obtain ⟨dx2,hx2⟩:=rd2.ob
 refine ⟨_,rfl,_,rfl,_,rfl,x,dx2,_,rfl,hx2,rfl,_,rfl,_,_,rfl,rfl,x,z,k,j2,HX,kd,⟨rd2,hj2,tx.lz,tx.dg⟩,fun s1 j3 va H3 e3 hj3 rd3 bt3 ha => ⟨(by show 3 <= sizeLine; decide),fun T hT => ?_⟩,fun e3 H3 bt3 => qE (by unfold Ak; rw [e1,Option.bind_some]; dsimp only; rw [e2,Option.bind_some,e3]; rfl) H3 (bt1.trans (bt2.trans bt3))⟩
 have s4:=ah hT (HO.tup [V.str κ,V.str n,va])
 exact q (.ch κ n s1) j3 (.ref T) _ (by unfold Ak; rw [e1,Option.bind_some]; dsimp only; rw [e2,Option.bind_some,e3]; rfl) hj3 (rd3.same s4) (bt1.trans (bt2.trans (bt3.trans (lC s4)))) ⟨T,va,rfl,af,StAt.same (tkS s4) ha⟩
theorem GS {d : Nat} (F : FunD K "statement" "Reader.statement" bq dV f fd) (bc : DefMe P w K mg base C "takes" 1 ["self","word"] (iy C)) (dv : DefMe P w K mg base C "run" 1 ["self","first","last"] (uH C)) (GEX_statement : DefMeX P w K mg base C "statement" (2 * d + 7) ["self","deep"] (oA C N d)) (GEX_joined : DefMeX P w K mg base C "joined" (2 * d + 8) ["self","deep"] (EZ C N d)) (GEX_chosen : DefMeX P w K mg base C "chosen" (2 * d + 8) ["self","kind","deep"] (Hm C N d)) (GEX_compared : DefMeX P w K mg base C "compared" 6 ["self"] (spM C N yz StAt)) (GEX_looked_up : DefMeX P w K mg base C "looked_up" 7 ["self","row"] (wc C N)) (jm : mg "CHOOSING" = some (.ref TH)) (sqH : ∀ H,SqT K H TH Ds) (cO : mg "MOST_DEEP" = some (.int 20 tk)) (q_NoText : PySem.W.excIn K N VEm "ValueError.__new__" = true) (aI : mg "NoText" = some (.ref N)) : FnOk P w K mg base (CX1 P w) (2 * d + 9) f fd ["self","deep"] (su C N d):=by
 refine F.okX sc_Reader_statement (fun vs H Q E h => ?_) (fun cdv A outer s H vs Q E hr h => ?_)
 ·obtain ⟨x,z,k,i,rfl,_⟩:=h
  rfl
 obtain ⟨x,z,k,i,rfl,kd,tx,q,qE⟩:=h
 refine ⟨_,(au (bG (aM mF (pv 1) ag (aS _)) (ax (cI q_NoText rfl aI dM (aa (ot (cf gh (cf (qV (bw (v:=.int 20) rfl cO ⟨_,rfl⟩)) (cf gh ou)))) ae))) aW)
   (au (bG (dD (kP bc hr (pv 0) (aa ar ae) (hkj:=by omega))) (ax (aU (aV (aa ar (aa (jz GEX_statement hr aY (pv 0) (aa (ak jy (pv 1) ag) ae) (hkj:=by omega)) ae))))) aW)
   (au (bG (dD (kP bc hr (pv 0) (aa ar ae) (hkj:=by omega))) (ax (aU (jz GEX_joined hr aY (pv 0) (aa (pv 1) ae) (hkj:=by omega)))) aW)
   (au (qZ PassesOwn.leaving rfl (DN (bw (v:=.ref _) rfl jm rfl)) (aG (i:=2) sc_Reader_statement.nd rfl (Or.inl rfl)) (ax (bG (dD (kP bc hr (pv 0) (aa (ak av (pv 2) ar) ae) (hkj:=by omega))) (ax (aU (jz GEX_chosen hr aY (pv 0) (aa (pv 2) (aa (pv 1) ae)) (hkj:=by omega)))) aW)))
   (au (ay (i:=3) sc_Reader_statement.nd rfl (Or.inl rfl) (kP dv hr (pv 0) (aa ar (aa ar ae)) (hkj:=by omega)))
   (ax (aU (G4 (aM gI (pv 3) ar (aS _)) (jA GEX_compared hr aY (pv 0) (hkj:=by omega)) (jz GEX_looked_up hr aY (pv 0) (aa (pv 3) ae) (hkj:=by omega)))))))))),?_⟩
 obtain ⟨dx,hx⟩:=tx.rd.ob
 refine ⟨_,rfl,_,_,rfl,rfl,_,rfl,?_⟩
 cases k with
 | zero =>
  rw [decide_eq_true (show ((0 : Nat) : Int) - 1 < 0 by decide)]
  exact cY (.inr ⟨_,rfl,by decide,by decide,fun _ => ⟨(by show 1 <= 8; decide),qE rfl H (But.refl x H)⟩⟩)
 | succ k =>
 rw [decide_eq_false (show ¬ ((k + 1 : Nat) : Int) - 1 < 0 by omega)]
 refine cN ?_
 have ln : (Str.ofString "not ").length <= 1000:=by decide
 have lp : (Str.ofString "(").length <= 1000:=by decide
 refine ⟨_,rfl,x,dx,_,rfl,hx,rfl,x,z,Str.ofString "not ",i,rfl,tx.rd,tx.le,ln,fun h0 => ⟨_,rfl,cN ?_⟩,fun h0 H1 rd1 bt1 => ⟨_,rfl,cY ?_⟩⟩
 rotate_left
 ·have ta:=jS tx.le h0
  obtain ⟨dx1,hx1⟩:=rd1.ob
  have se : ∀ o,((bS k (atT z (i + (Str.ofString "not ").length))).bind fun s => some (Stt.no s.1,s.2)) = o -> bS (k + 1) (atT z i) = o:=fun o ho => by
   rw [bS,ta.1]
   exact ho
  refine ⟨_,rfl,x,dx1,_,rfl,hx1,rfl,_,rfl,_,_,rfl,rfl,x,z,k,_,HX,by omega,⟨rd1,ta.2,tx.lz,tx.dg⟩,fun s1 j2 va H2 e2 hj2 rd2 bt2 ha => ⟨(by show 2 <= sizeLine; decide),fun T hT => ?_⟩,fun e2 H2 bt2 => qE (se none (by rw [e2]; rfl)) H2 (bt1.trans bt2)⟩
  have s3:=ah hT (HO.tup [V.str (Str.ofString "not"),va])
  exact q (.no s1) j2 (.ref T) _ (se _ (by rw [e2]; rfl)) hj2 (rd2.same s3) (bt1.trans (bt2.trans (lC s3))) ⟨T,va,rfl,af,StAt.same (tkS s3) ha⟩
 refine ⟨_,rfl,x,dx,_,rfl,hx,rfl,x,z,Str.ofString "(",i,rfl,tx.rd,tx.le,lp,fun h1 => ⟨_,rfl,cN ?_⟩,fun h1 H1 rd1 bt1 => ⟨_,rfl,cY ?_⟩⟩
 rotate_left
 ·have ta:=jS tx.le h1
  obtain ⟨dx1,hx1⟩:=rd1.ob
  have se : ∀ o,uB (bS k) (atT z (i + (Str.ofString "(").length)) = o -> bS (k + 1) (atT z i) = o:=fun o ho => by
   rw [bS,bV h0]
   dsimp only
   rw [ta.1]
   exact ho
  exact ⟨_,rfl,x,dx1,_,rfl,hx1,rfl,_,rfl,x,z,k,_,rfl,by omega,⟨rd1,ta.2,tx.lz,tx.dg⟩,fun s1 j2 va H2 e2 hj2 rd2 bt2 ha => q s1 j2 va H2 (se _ e2) hj2 rd2 (bt1.trans bt2) ha,fun e2 H2 bt2 => qE (se none e2) H2 (bt1.trans bt2)⟩
 have se : ∀ o,(match fh dy choKs (atT z i) with | some w => Ak (bS k) w.1 w.2 | none => dQ (atT z i)) = o -> bS (k + 1) (atT z i) = o:=fun o ho => by
  rw [bS,bV h0]
  dsimp only
  rw [bV h1]
  exact ho
 refine ⟨TH,rfl,⟨_,sqH _⟩,?_⟩
 refine AB (K:=K) (xs:=Ds) (fun n σ' H' => (∃ v2,σ' = [some (.ref x),some (.int (((k + 1 : Nat) : Int) - 1)),v2,none]) /\ H' = H /\ fh dy choKs (atT z i) = fh dy (choKs.drop n) (atT z i)) ⟨⟨none,rfl⟩,rfl,rfl⟩ (fun _ _ _ _ _ => sqH _) ?_ ?_
 ·rintro n y σ' H' hm ⟨⟨v2,rfl⟩,eH,hn⟩
  subst eH
  obtain ⟨κ,rfl,hκ,ed⟩:=yn (ks:=choKs) hm
  have kl : κ.length <= 4:=by rcases choKs_in.mp hκ with e | e <;> subst e <;> decide
  have l1 : ((" " : Str)).length = 1:=by decide
  have sl : (dy κ).length <= 1000:=by
   unfold dy
   rw [len_app]
   omega
  refine ⟨_,rfl,x,dx,_,rfl,hx,rfl,_,rfl,_,_,rfl,rfl,(by show κ.length + ((" " : Str)).length <= sizeLine; exact Nat.le_trans (show _ <= 5 by omega) (by decide)),x,z,dy κ,i,rfl,tx.rd,tx.le,sl,fun h => ⟨_,rfl,cN ?_⟩,fun h H2 rd2 bt2 => ⟨_,rfl,cY ?_⟩⟩
  ·exact ⟨⟨_,rfl⟩,rfl,by rw [hn,ed,xf h]⟩
  ·have ta:=jS tx.le h
   have ff : fh dy choKs (atT z i) = some (κ,atT z (i + (dy κ).length)):=by rw [hn,ed,xg ta.1]
   obtain ⟨dx2,hx2⟩:=rd2.ob
   exact ⟨_,rfl,x,dx2,_,rfl,hx2,rfl,_,rfl,_,rfl,x,z,κ,k,_,rfl,by omega,⟨rd2,ta.2,tx.lz,tx.dg⟩,fun s1 j3 va H3 e3 hj3 rd3 bt3 ha => q s1 j3 va H3 (se _ (by rw [ff]; exact e3)) hj3 rd3 (bt2.trans bt3) ha,fun e3 H3 bt3 => qE (se none (by rw [ff]; exact e3)) H3 (bt2.trans bt3)⟩
 ·rintro σ' H' ⟨⟨v2,rfl⟩,eH,hn⟩
  subst eH
  have se2 : ∀ o,dQ (atT z i) = o -> bS (k + 1) (atT z i) = o:=fun o ho => se o (by rw [hn]; exact ho)
  have hh:=uf z i 65 90
  have hle:=hh.le tx.le
  refine ⟨_,rfl,x,dx,_,rfl,hx,rfl,x,z,_,i,65,90,_,AV,tx.rd,tx.le,tx.lz,hh,tw_in,tw,fun H3 rd3 bt3 => ?_⟩
  try dsimp only [aF,aK,List.set]
  refine ⟨_,rfl,rfl,_,rfl,?_⟩
  by_cases c0 : (atT z i).takeWhile (inR 65 90) = []
  ·rw [decide_eq_true (show V.str (aO ((atT z i).takeWhile (inR 65 90))) = V.str (Str.ofString "") from V_str.mpr (strL_nil.mpr c0))]
   replace rd3 : Rd H3 C x z i:=by
    rw [c0] at rd3
    exact rd3
   obtain ⟨dx3,hx3⟩:=rd3.ob
   exact cY ⟨_,rfl,x,dx3,_,rfl,hx3,rfl,x,z,i,rfl,⟨rd3,tx.le,tx.lz,tx.dg⟩,fun s1 j4 va H4 e4 hj4 rd4 bt4 ha => q s1 j4 va H4 (se2 _ (by unfold dQ; rw [if_pos c0]; exact e4)) hj4 rd4 (bt3.trans bt4) ha,fun e4 H4 bt4 => qE (se2 none (by unfold dQ; rw [if_pos c0]; exact e4)) H4 (bt3.trans bt4)⟩
  ·rw [decide_eq_false (show ¬ V.str (aO ((atT z i).takeWhile (inR 65 90))) = V.str (Str.ofString "") from fun h => c0 (strL_nil.mp (V_str.mp h)))]
   obtain ⟨dx3,hx3⟩:=rd3.ob
   exact cN ⟨_,rfl,x,dx3,_,rfl,hx3,rfl,_,rfl,x,z,_,_,rfl,⟨rd3,by omega,tx.lz,tx.dg⟩,tw_in,DW tx.lz i 65 90,fun s1 j4 va H4 e4 hj4 rd4 bt4 ha => q s1 j4 va H4 (se2 _ (by unfold dQ; rw [if_neg c0]; rw [hh.on] at e4; exact e4)) hj4 rd4 (bt3.trans bt4) ha,fun e4 H4 bt4 => qE (se2 none (by unfold dQ; rw [if_neg c0]; rw [hh.on] at e4; exact e4)) H4 (bt3.trans bt4)⟩
end
def BI (C : Addr) : Sp:=fun vs H Q _ => ∃ (x dx : Addr) (z : Str),vs = [.ref x,.str z] /\ H x = some (.ins C dx []) /\ ∀ H' : Hp,But x H H' -> Rd H' C x z 0 -> Q .non H'
def NoSt (K : PySem.W.Frag) (H : Hp) (v : V) : Prop:=(∃ ty,TyOf K H v ty /\ PySem.W.kitOne K ty (.type "str") = some false) \/ ∃ z : Str,v = .str z /\ z.length <= 1000000 /\ (z.length <= 1000 -> uv z) /\ gK z = none
def sr (K : PySem.W.Frag) (N : Addr) : Sp:=fun vs H Q E => ∃ v : V,vs = [v] /\ (NoSt K H v \/ ∃ (z : Str) (st : Stt),v = .str z /\ uv z /\ gK z = some st /\ ∀ (u : V) (H' : Hp),Same H H' -> StAt H' u st -> Q u H') /\ (NoSt K H v -> ∀ H',Same H H' -> E (.ref N) none H')
section
variable {P : Program} {w : World} {K : PySem.W.Frag} {mg : Str -> Option Value} {base : Heap} {f : Addr} {fd : FuncData} {dV : Value} {C N : Addr} {tk tk2 : Tok}
theorem GR (F : FunD K "__init__" "Reader.__init__" bP dV f fd) (rc : RCls K C) : FnOk P w K mg base CX0 1 f fd ["self","text"] (BI C):=by
 refine F.ok rj (fun vs H Q E h => ?_) (fun cdv A outer s H vs Q E hr h => ?_)
 ·obtain ⟨x,dx,z,rfl,_⟩:=h
  rfl
 obtain ⟨x,dx,z,rfl,hx,k⟩:=h
 refine ⟨_,(au (xU (pv 0) (pv 1) rfl)
   (ax (xU (pv 0) ag rfl))),?_⟩
 refine ⟨_,rfl,_,rfl,x,C,dx,[],rfl,hx,rc.cl,rc.nt,by decide,?_⟩
 refine ⟨_,rfl,x,C,dx,_,rfl,af,rc.cl,rc.na,by show 1 < 1000; decide,?_⟩
 refine k _ (fun c u hc e => ?_) ⟨dx,by rw [af]; rfl⟩
 rw [az hc,az hc]
 exact e
theorem GQ (F : FunD K "read" "read" ug dV f fd) (rc : RCls K C) (sF : DefMk P w K mg base "Reader" C 1 ["self","text"] (BI C)) (GEX_statement : DefMeX P w K mg base C "statement" 51 ["self","deep"] (su C N 21)) (fG : mg "MOST_LETTERS" = some (.int 1000 tk)) (cO : mg "MOST_DEEP" = some (.int 20 tk2)) (aH : mg "isinstance" = none) (ig : mg "str" = none) (bo : mg "len" = none) (q_NoText : PySem.W.excIn K N VEm "ValueError.__new__" = true) (aI : mg "NoText" = some (.ref N)) : FnOk P w K mg base (CX1 P w) 52 f fd ["text"] (sr K N):=by
 refine F.okX sc_read (fun vs H Q E h => ?_) (fun cdv A outer s H vs Q E hr h => ?_)
 ·obtain ⟨v,rfl,_⟩:=h
  rfl
 obtain ⟨v,rfl,h,qE0⟩:=h
 refine ⟨_,(au (bG (gj (dD (aD BZ (by rfl) aH ba (aa (pv 0) (aa (Bk (v:=.ty "str") rfl ig sO rfl) ae))))) (ax (cI q_NoText rfl aI dM (aa ar ae))) aW)
   (au (bG (aM rT (aD bA (by rfl) bo cq (aa (pv 0) ae)) (bw (v:=.int 1000) rfl fG ⟨_,rfl⟩) (aS _)) (ax (cI q_NoText rfl aI dM (aa (ot (cf gh (cf (qV (bw (v:=.int 1000) rfl fG ⟨_,rfl⟩)) (cf gh ou)))) ae))) aW)
   (au (ay (i:=1) sc_read.nd rfl (Or.inl rfl) (JL sF hr (aa (pv 0) ae)))
   (au (ay (i:=2) sc_read.nd rfl (Or.inl rfl) (jz GEX_statement hr aY (pv 1) (aa (bw (v:=.int 20) rfl cO ⟨_,rfl⟩) ae)))
   (au (bG (aM mF (gf (pv 1) rfl) (aD bA (by rfl) bo cq (aa (pv 0) ae)) (aS _)) (ax (cI q_NoText rfl aI dM (aa ar ae))) aW)
   (ax (aU (pv 2)))))))),?_⟩
 have h2 : (∃ ty,TyOf K H v ty /\ PySem.W.kitOne K ty (.type "str") = some false) \/ ∃ z : Str,v = .str z /\ z.length <= 1000000 /\ (z.length <= 1000 -> uv z) /\ (∀ (st : Stt) (u : V) (H' : Hp),gK z = some st -> Same H H' -> StAt H' u st -> Q u H'):=by
  rcases h with (h | ⟨z,e,lz,dg,no⟩) | ⟨z,st,e,dg,rd,q⟩
  ·exact .inl h
  ·exact .inr ⟨z,e,lz,dg,fun st u H' h => by rw [no] at h; cases h⟩
  ·exact .inr ⟨z,e,Nat.le_trans (rh rd).2.2.2 (by decide),fun _ => dg,fun st' u H' h => by rw [rd] at h; cases h; exact q u H'⟩
 rcases h2 with ⟨ty,tv,kit⟩ | ⟨z,rfl,lz,dg,q⟩
 ·exact ⟨_,rfl,_,_,_,_,rfl,tv,kit,_,rfl,cY ⟨(by show 1 <= 8; decide),qE0 (.inl ⟨ty,tv,kit⟩) H (Same.refl _)⟩⟩
 have qE : gK z = none -> ∀ H',Same H H' -> E (.ref N) none H' := fun h => qE0 (.inr ⟨z,rfl,lz,dg,h⟩)
 have lz' : z.length <= sizeLine:=Nat.le_trans lz (by decide)
 refine ⟨_,rfl,_,_,_,_,rfl,TyOf.str _,nF K,_,rfl,cN ?_⟩
 refine ⟨_,rfl,z,rfl,lz',_,_,rfl,rfl,_,rfl,?_⟩
 by_cases c : 1000 < z.length
 ·rw [decide_eq_true (show (1000 : Int) < (z.length : Int) by omega)]
  exact cY (.inr ⟨_,rfl,by decide,by decide,fun _ => ⟨(by show 1 <= 8; decide),qE (if_pos c) H (Same.refl _)⟩⟩)
 rw [decide_eq_false (show ¬ (1000 : Int) < (z.length : Int) by omega)]
 refine cN ?_
 have re : ∀ o,((bS 21 z.cps.toList).bind fun q => if q.2 = [] then some q.1 else none) = o -> gK z = o:=fun o ho => by
  unfold gK
  rw [if_neg c]
  exact ho
 refine ⟨_,rfl,fun x dx hx hdx ne => ?_⟩
 have s1 : Same H (upd (upd H dx (.own x)) x (.ins C dx [])):=fun b u e => by rw [az (aA e hx),az (aA e hdx)]; exact e
 refine ⟨x,dx,z,rfl,af,fun H2 bt2 rd2 => ⟨rfl,?_⟩⟩
 have s2 : Same H H2:=fun b u e => bt2 b u (aA e hx) (s1 _ _ e)
 try dsimp only [aF,aK,List.set]
 obtain ⟨dx2,hx2⟩:=rd2.ob
 refine ⟨_,rfl,x,dx2,_,rfl,hx2,rfl,x,z,21,0,rfl,by decide,⟨rd2,Nat.zero_le _,by omega,dg (by omega)⟩,fun st j v H3 e3 hj rd3 bt3 hv => ?_,fun e3 H3 bt3 => qE (re none (by rw [show z.cps.toList = atT z 0 from rfl,e3]; rfl)) H3 (fun b u e => bt3 b u (aA e hx) (s2 _ _ e))⟩
 try dsimp only [aF,aK,List.set]
 obtain ⟨dx3,hx3⟩:=rd3.ob
 have s3 : Same H H3:=fun b u e => bt3 b u (aA e hx) (s2 _ _ e)
 refine ⟨_,rfl,x,C,dx3,_,_,rfl,hx3,rc.cl,rc.na,rfl,_,rfl,z,rfl,lz',_,_,rfl,rfl,_,rfl,?_⟩
 by_cases cj : j < z.length
 ·rw [decide_eq_true (show ((j : Nat) : Int) < (z.length : Int) by omega)]
  refine cY ⟨(by show 1 <= 8; decide),qE (re none ?_) H3 s3⟩
  rw [show z.cps.toList = atT z 0 from rfl,e3,Option.bind_some]
  refine if_neg fun h => ?_
  have:=congrArg List.length h
  rw [om,List.length_nil] at this
  omega
 ·rw [decide_eq_false (show ¬ ((j : Nat) : Int) < (z.length : Int) by omega)]
  refine cN ⟨_,rfl,q st v H3 (re _ ?_) s3 hv⟩
  rw [show z.cps.toList = atT z 0 from rfl,e3,Option.bind_some]
  refine if_pos (List.length_eq_zero_iff.mp ?_)
  show (atT z j).length = 0
  rw [om]
  omega
end
theorem sc__law_draw : FnScope ["_law_script","_law_k","_law_cell"] ["_law_script","_law_k"] (ai eZ):=⟨rfl,rfl,rfl,by decide +kernel,rfl,by decide +kernel,by decide +kernel⟩
def SprAt (K : PySem.W.Frag) (H : Hp) (a : Addr) (ns : LI) : Prop:=SqL K H a (ns.map V.int) /\ ns.length <= 63
theorem SprAt.same {K : PySem.W.Frag} {H H' : Hp} {a : Addr} {ns : LI} (h : SprAt K H a ns) (s : Same H H') : SprAt K H' a ns:=⟨s.seq h.1,h.2⟩
def Ey (ns : LI) (k : Int) : Int:=if (0 : Int) < (((ns.map V.int).length : Nat) : Int) then ns.getD (k % (((ns.map V.int).length : Nat) : Int)).toNat 0 % 2147483629 + k / (((ns.map V.int).length : Nat) : Int) * 7349 + 1 else 2 * k + 1
def hX (ns : LI) (k : Int) : Int:=((Ey ns k * 48271 + k * k * 16807 + 3) % 2147483647) * ((Ey ns k * 48271 + k * k * 16807 + 3) % 2147483647) % 2147483629
theorem cX (ns : LI) (k : Int) : 0 <= hX ns k /\ hX ns k < 2147483629:=⟨Int.emod_nonneg _ (by decide),Int.emod_lt_of_pos _ (by decide)⟩
def fS (K : PySem.W.Frag) : Sp:=fun vs H Q _ => ∃ (a : Addr) (k : Int) (ns : LI),vs = [.ref a,.int k] /\ SprAt K H a ns /\ True /\ 0 <= k /\ k < 930 /\ Q (.int (hX ns k)) H
section
variable {P : Program} {w : World} {K : PySem.W.Frag} {mg : Str -> Option Value} {base : Heap} {f : Addr} {fd : FuncData} {dV : Value}
theorem GH (F : FunD K "_law_draw" "_law_draw" eZ dV f fd) (bo : mg "len" = none) : FnOk P w K mg base CX0 1 f fd ["_law_script","_law_k"] (fS K):=by
 refine F.ok sc__law_draw (fun vs H Q E h => ?_) (fun cdv A outer s H vs Q E hr h => ?_)
 ·obtain ⟨a,k,ns,rfl,_⟩:=h
  rfl
 obtain ⟨a,k,ns,rfl,⟨hS,h63⟩,_,h0,h1,q⟩:=h
 have hl : (ns.map V.int).length = ns.length:=List.length_map _
 refine ⟨_,(au (ay (i:=2) sc__law_draw.nd rfl (Or.inl rfl) (ak bf (ak nQ ag (pv 1)) ag))
   (au (bG (aM rT (aD bz (by rfl) bo cq (aa (pv 0) ae)) ag (aS _)) (ax (ay (i:=2) sc__law_draw.nd rfl (Or.inl rfl) (ak bf (ak bf (ak aX (cC bg (pv 0) (ak aX (pv 1) (aD bz (by rfl) bo cq (aa (pv 0) ae))) (fun _ _ => rfl)) ag) (ak nQ (ak bh (pv 1) (aD bz (by rfl) bo cq (aa (pv 0) ae))) ag)) ag))) aW)
   (au (ay (i:=2) sc__law_draw.nd rfl (Or.inl rfl) (ak aX (ak bf (ak bf (ak nQ (pv 2) ag) (ak nQ (ak nQ (pv 1) (pv 1)) ag)) ag) ag))
   (ax (aU (ak aX (ak nQ (pv 2) (pv 2)) ag)))))),?_⟩
 have hk : -(2 ^ 64) < k /\ k < 2 ^ 64:=⟨by omega,by omega⟩
 have hc : ∀ c : Int,-(2 ^ 64) < (c * 48271 + k * k * 16807 + 3) % 2147483647 /\ (c * 48271 + k * k * 16807 + 3) % 2147483647 < 2 ^ 64:=fun c => by
  have a1:=Int.emod_nonneg (c * 48271 + k * k * 16807 + 3) (show (2147483647 : Int) ≠ 0 by decide)
  have a2:=Int.emod_lt_of_pos (c * 48271 + k * k * 16807 + 3) (show (0 : Int) < 2147483647 by decide)
  exact ⟨by omega,by omega⟩
 refine ⟨_,rfl,_,_,rfl,rfl,.inl ⟨by decide,by decide⟩,_,_,rfl,rfl,?_⟩
 refine ⟨_,rfl,a,_,rfl,.inl hS,_,_,rfl,rfl,_,rfl,?_⟩
 refine tI (fun c => ?_) (fun c => ?_)
 ·have c' : (0 : Int) < (((ns.map V.int).length : Nat) : Int):=of_decide_eq_true c
  rw [hl] at c'
  have c2 : (0 : Int) < (((ns.map V.int).length : Nat) : Int):=by rw [hl]; exact c'
  have c3 : (((ns.map V.int).length : Nat) : Int) < 1073741824:=by rw [hl]; omega
  have m0:=Int.emod_nonneg k (show (((ns.map V.int).length : Nat) : Int) ≠ 0 by omega)
  have m1:=Int.emod_lt_of_pos k c2
  refine ⟨_,rfl,_,rfl,_,rfl,a,_,rfl,.inl hS,_,_,rfl,rfl,c2,a,_,_,_,rfl,rfl,hS,rD m0 (by rw [hl] at m1; rw [hl]; exact m1),_,_,rfl,rfl,(by show (0 : Int) < 2147483629; decide),
   _,rfl,_,rfl,a,_,rfl,.inl hS,_,_,rfl,rfl,⟨c2,c3⟩,_,_,rfl,rfl,.inr ⟨by decide,by decide⟩,_,_,rfl,rfl,_,_,rfl,rfl,?_⟩
  refine ⟨_,rfl,_,_,rfl,rfl,.inr ⟨by decide,by decide⟩,_,rfl,_,rfl,_,_,rfl,rfl,.inl hk,_,_,rfl,rfl,.inr ⟨by decide,by decide⟩,_,_,rfl,rfl,_,_,rfl,rfl,_,_,rfl,rfl,(by show (0 : Int) < 2147483647; decide),?_⟩
  exact ⟨_,rfl,_,rfl,_,_,rfl,rfl,.inl (hc _),_,_,rfl,rfl,(by show (0 : Int) < 2147483629; decide),by unfold hX Ey at q; rw [if_pos c2] at q; exact q⟩
 ·refine ⟨_,rfl,_,_,rfl,rfl,.inr ⟨by decide,by decide⟩,_,rfl,_,rfl,_,_,rfl,rfl,.inl hk,_,_,rfl,rfl,.inr ⟨by decide,by decide⟩,_,_,rfl,rfl,_,_,rfl,rfl,_,_,rfl,rfl,(by show (0 : Int) < 2147483647; decide),?_⟩
  exact ⟨_,rfl,_,rfl,_,_,rfl,rfl,.inl (hc _),_,_,rfl,rfl,(by show (0 : Int) < 2147483629; decide),by unfold hX Ey at q; rw [if_neg (fun z => c (decide_eq_true z))] at q; exact q⟩
end
def ltr (L : Str) (i : Int) : Str:=⟨#[L.cps.toList.getD i.toNat 0]⟩
def eO (n : Int) (L : Str) : Str:=if n / 26 % 2 = 0 then ltr L (n / 52 % 3) else ltr L (n % 26)
def jR (n : Int) : Int:=1 + n / 156 % 6
def ym (n : Int) : Int:=n / 936 % jR n
def mG (n : Int) (L : Str) : Str:=Txt.mul (eO n L) (ym n) ++ ltr L (n / 5616 % 26) ++ Txt.mul (eO n L) (jR n - ym n - 1)
def Fi : List V:=[.str "and",.str "or",.str "not",.str "some",.str "all"]
def kU (n : Int) (L : Str) : Str:=if inV (.str (mG n L)) Fi = true then mG n L ++ ("x" : Str) else mG n L
theorem zH (c : Array Nat) : ∀ (n : Nat) (acc : Array Nat),((List.replicate n c).foldl (· ++ ·) acc).size = acc.size + n * c.size
 | 0,acc => by simp
 | n + 1,acc => by
  rw [List.replicate_succ,List.foldl_cons,zH c n,Array.size_append,Nat.succ_mul]
  omega
theorem EL {x : Str} {k : Int} (h : x.length = 1) (h0 : 0 <= k) : (Txt.mul x k).length = k.toNat:=by
 unfold Txt.mul
 split
 ·have : k = 0:=by omega
  rw [this]
  rfl
 ·split
  ·rename_i c
   have : k = 1:=by
    rcases Bool.or_eq_true_iff.mp c with z | z
    ·exact beq_iff_eq.mp z
    ·rw [h] at z; cases z
   rw [this]
   exact h
  ·show (Array.size _) = _
   rw [zH]
   have e : x.cps.size = 1:=h
   rw [e]
   show 0 + k.toNat * 1 = _
   omega
theorem GC {x : Str} {k : Int} (h : x.length = 1) (h0 : 0 <= k) (h6 : k <= 6) : MulOk x k:=by
 unfold MulOk
 rw [h]
 have c : k = 0 \/ k = 1 \/ k = 2 \/ k = 3 \/ k = 4 \/ k = 5 \/ k = 6:=by omega
 rcases c with c | c | c | c | c | c | c
 ·subst c
  exact ⟨by decide,fun z => absurd (by decide) z,fun z => absurd (by decide) z⟩
 all_goals (subst c; refine ⟨by decide,fun _ _ => by decide,fun _ _ => by decide +kernel⟩)
theorem Ih (L : Str) (i : Int) : (ltr L i).length = 1:=rfl
theorem tF (n : Int) (L : Str) : (eO n L).length = 1:=by
 unfold eO
 split <;> rfl
theorem Hy {n : Int} (h : 0 <= n) : (1 <= jR n /\ jR n <= 6) /\ 0 <= ym n /\ ym n < jR n:=by
 have m:=bH (a:=n / 156) (b:=6) (by decide)
 have hs : 1 <= jR n /\ jR n <= 6:=by unfold jR; omega
 have m2:=bH (a:=n / 936) (b:=jR n) (by omega)
 exact ⟨hs,m2⟩
theorem oC {n : Int} (h : 0 <= n) (L : Str) : 1 <= (mG n L).length /\ (mG n L).length <= 6:=by
 obtain ⟨hs,w0,w1⟩:=Hy h
 unfold mG
 rw [len_app,len_app,Ih,EL (tF n L) w0,EL (tF n L) (by omega)]
 omega
theorem zW {n : Int} (h : 0 <= n) (L : Str) : 1 <= (kU n L).length /\ (kU n L).length <= 7:=by
 have:=oC h L
 unfold kU
 split
 ·rw [len_app]
  have : (("x" : Str)).length = 1:=by decide
  omega
 ·omega
def lowS : Str := "abcdefghijklmnopqrstuvwxyz"
def uppS : Str := "ABCDEFGHIJKLMNOPQRSTUVWXYZ"
def nmF (ns : LI) (i : Int) : Str:=kU (hX ns (900 + i % 4)) lowS
def rwF (ns : LI) (i : Int) : Str:=kU (hX ns (920 + i % 3)) uppS
def nm4 (ns : LI) : List Str:=[nmF ns 0,nmF ns 1,nmF ns 2,nmF ns 3]
def rw3 (ns : LI) : List Str:=[rwF ns 0,rwF ns 1,rwF ns 2]
theorem EM (ns : LI) (i : Int) : 1 <= (nmF ns i).length /\ (nmF ns i).length <= 7:=zW (cX _ _).1 _
theorem EX (ns : LI) (i : Int) : 1 <= (rwF ns i).length /\ (rwF ns i).length <= 7:=zW (cX _ _).1 _
theorem JB (ns : LI) (i : Int) : nmF ns i ∈ nm4 ns:=by
 have m:=bH (a:=i) (b:=4) (by decide)
 unfold nm4 nmF
 have c : i % 4 = 0 \/ i % 4 = 1 \/ i % 4 = 2 \/ i % 4 = 3:=by omega
 rcases c with c | c | c | c <;> rw [c] <;> simp
theorem Hh (ns : LI) (i : Int) : rwF ns i ∈ rw3 ns:=by
 have m:=bH (a:=i) (b:=3) (by decide)
 unfold rw3 rwF
 have c : i % 3 = 0 \/ i % 3 = 1 \/ i % 3 = 2:=by omega
 rcases c with c | c | c <;> rw [c] <;> simp
theorem Cv (c : Array Nat) : ∀ (n : Nat) (acc : Array Nat) (x : Nat),x ∈ ((List.replicate n c).foldl (· ++ ·) acc).toList -> x ∈ acc.toList \/ x ∈ c.toList
 | 0,acc,x,h => .inl h
 | n + 1,acc,x,h => by
  rw [List.replicate_succ,List.foldl_cons] at h
  rcases Cv c n _ x h with z | z
  ·rw [Array.toList_append] at z
   exact ma_.mp z
  ·exact .inr z
theorem EJ {x : Str} {k : Int} {c : Nat} (h : c ∈ (Txt.mul x k).cps.toList) : c ∈ x.cps.toList:=by
 unfold Txt.mul at h
 split at h
 ·exact absurd h (by show ¬ c ∈ ([] : List Nat); exact List.not_mem_nil)
 ·split at h
  ·exact h
  ·rcases Cv x.cps k.toNat #[] c h with z | z
   ·exact absurd z (by show ¬ c ∈ ([] : List Nat); exact List.not_mem_nil)
   ·exact z
theorem AW {L : Str} {i : Int} (h : L.length = 26) (h0 : 0 <= i) (h1 : i < 26) {c : Nat} (hc : c ∈ (ltr L i).cps.toList) : c ∈ L.cps.toList:=by
 have l : L.cps.toList.length = 26:=h
 have hi : i.toNat < L.cps.toList.length:=by omega
 have e : c = L.cps.toList.getD i.toNat 0:=List.mem_singleton.mp hc
 rw [e,getD_at hi]
 exact List.getElem_mem hi
theorem zG {n : Int} {L : Str} (h : L.length = 26) {c : Nat} (hc : c ∈ (eO n L).cps.toList) : c ∈ L.cps.toList:=by
 unfold eO at hc
 have m3:=bH (a:=n / 52) (b:=3) (by decide)
 have m26:=bH (a:=n) (b:=26) (by decide)
 split at hc
 ·exact AW h m3.1 (by omega) hc
 ·exact AW h m26.1 m26.2 hc
theorem zV {n : Int} {L : Str} (h : L.length = 26) {c : Nat} (hc : c ∈ (mG n L).cps.toList) : c ∈ L.cps.toList:=by
 unfold mG at hc
 have m5:=bH (a:=n / 5616) (b:=26) (by decide)
 rw [aj,aj] at hc
 rcases ma_.mp hc with z | z
 ·rcases ma_.mp z with z | z
  ·exact zG h (EJ z)
  ·exact AW h m5.1 m5.2 z
 ·exact zG h (EJ z)
theorem Jy : ∀ c ∈ lowS.cps.toList,inR 97 122 c = true:=by decide +kernel
theorem Kd : ∀ c ∈ uppS.cps.toList,inR 65 90 c = true:=by decide +kernel
theorem EC {w : Str} (h : inV (.str w) Fi = true) : w = ("and" : Str) \/ w = ("or" : Str) \/ w = ("not" : Str) \/ w = ("some" : Str) \/ w = ("all" : Str):=by
 unfold inV Fi at h
 simp only [List.any_cons,List.any_nil,Bool.or_false,Bool.or_eq_true,decide_eq_true_eq] at h
 rcases h with e | e | e | e | e
 ·exact .inl ((eq_of_beq (show ((_ : Str) == w) = true from e)).symm)
 ·exact .inr (.inl ((eq_of_beq (show ((_ : Str) == w) = true from e)).symm))
 ·exact .inr (.inr (.inl ((eq_of_beq (show ((_ : Str) == w) = true from e)).symm)))
 ·exact .inr (.inr (.inr (.inl ((eq_of_beq (show ((_ : Str) == w) = true from e)).symm))))
 ·exact .inr (.inr (.inr (.inr ((eq_of_beq (show ((_ : Str) == w) = true from e)).symm))))
theorem Kt {n : Int} (h0 : 0 <= n) : cn (kU n lowS):=by
 have l:=oC h0 lowS
 unfold kU
 split
 ·rename_i c
  rcases EC c with e | e | e | e | e <;> rw [e] <;> exact ⟨⟨by decide +kernel,by decide +kernel,by decide +kernel⟩,by decide +kernel⟩
 ·rename_i c
  exact ⟨⟨l.1,l.2,fun c hc => Jy c (zV (by decide +kernel) hc)⟩,Bool.eq_false_iff.mpr c⟩
theorem KO {n : Int} (h0 : 0 <= n) : fm (kU n uppS):=by
 have l:=oC h0 uppS
 have hin : ∀ c ∈ (mG n uppS).cps.toList,inR 65 90 c = true:=fun c hc => Kd c (zV (by decide +kernel) hc)
 unfold kU
 rw [if_neg fun c => ?_]
 ·exact ⟨l.1,l.2,hin⟩
 ·rcases EC c with e | e | e | e | e <;> (rw [e] at hin; exact absurd hin (by decide +kernel))
theorem DC (ns : LI) (i : Int) : cn (nmF ns i):=Kt (cX _ _).1
theorem Hi (ns : LI) (i : Int) : fm (rwF ns i):=KO (cX _ _).1
theorem Ae {L : Str} {i : Int} (h : L.length = 26) (h0 : 0 <= i) (h1 : i < 26) : ∃ c,atI L.cps.toList i = some c /\ ltr L i = ⟨#[c]⟩:=by
 have l : L.cps.toList.length = 26:=by rw [Array.length_toList]; exact h
 have hi : i.toNat < L.cps.toList.length:=by omega
 refine ⟨L.cps.toList[i.toNat],?_,?_⟩
 ·have:=Eo (List.getElem?_eq_getElem hi)
  rw [Int.toNat_of_nonneg h0] at this
  exact this
 ·unfold ltr
  rw [getD_at hi]
def BK : Sp:=fun vs H Q _ => ∃ (n : Int) (L : Str),vs = [.int n,.str L] /\ 0 <= n /\ L.length = 26 /\ ∀ H',Same H H' -> Q (.str (kU n L)) H'
def yf (K : PySem.W.Frag) : Sp:=fun vs H Q _ => ∃ (a : Addr) (i : Int) (ns : LI),vs = [.ref a,.int i] /\ SprAt K H a ns /\ True /\ ∀ H',Same H H' -> Q (.str (nmF ns i)) H'
def Eb (K : PySem.W.Frag) : Sp:=fun vs H Q _ => ∃ (a : Addr) (i : Int) (ns : LI),vs = [.ref a,.int i] /\ SprAt K H a ns /\ True /\ ∀ H',Same H H' -> Q (.str (rwF ns i)) H'
section
variable {P : Program} {w : World} {K : PySem.W.Frag} {mg : Str -> Option Value} {base : Heap} {f : Addr} {fd : FuncData} {dV : Value}
theorem sc__law_word : FnScope ["_law_number","_law_letters","_law_first","_law_size","_law_at","_law_found"] ["_law_number","_law_letters"] (ai fe):=⟨rfl,rfl,rfl,by decide +kernel,rfl,by decide +kernel,by decide +kernel⟩
theorem Bz : FnScope ["_law_script","_law_number"] ["_law_script","_law_number"] (ai fc):=⟨rfl,rfl,rfl,by decide +kernel,rfl,by decide +kernel,by decide +kernel⟩
theorem CP : FnScope ["_law_script","_law_number"] ["_law_script","_law_number"] (ai gk):=⟨rfl,rfl,rfl,by decide +kernel,rfl,by decide +kernel,by decide +kernel⟩
theorem Iv (F : FunD K "_law_word" "_law_word" fe dV f fd) : FnOk P w K mg base CX0 1 f fd ["_law_number","_law_letters"] BK:=by
 refine F.ok sc__law_word (fun vs H Q E h => ?_) (fun cdv A outer s H vs Q E hr h => ?_)
 ·obtain ⟨n,L,rfl,_⟩:=h
  rfl
 obtain ⟨n,L,rfl,n0,l26,q⟩:=h
 have lz : L.length <= sizeLine:=by rw [l26]; decide
 obtain ⟨hs,w0,w1⟩:=Hy n0
 have wl:=oC n0 L
 refine gP (aw (PSW.mk (ay (i:=2) sc__law_word.nd rfl (Or.inl rfl) (cC tJ (pv 1) (ak aX (pv 0) ag) (fun _ _ => rfl))))
   (aw (PSW.mk (bG (aM gI (ak aX (ak bh (pv 0) ag) ag) ag (aS _)) (ax (ay (i:=2) sc__law_word.nd rfl (Or.inl rfl) (cC tJ (pv 1) (ak aX (ak bh (pv 0) ag) ag) (fun _ _ => rfl)))) aW))
   (aw (PSW.mk (ay (i:=3) sc__law_word.nd rfl (Or.inl rfl) (ak bf ag (ak aX (ak bh (pv 0) ag) ag))))
   (aw (PSW.mk (ay (i:=4) sc__law_word.nd rfl (Or.inl rfl) (ak aX (ak bh (pv 0) ag) (pv 3))))
   (aw (PSW.mk (ay (i:=5) sc__law_word.nd rfl (Or.inl rfl) (ak av (ak av (ak EO (pv 2) (pv 4)) (cC tJ (pv 1) (ak aX (ak bh (pv 0) ag) ag) (fun _ _ => rfl))) (ak EO (pv 2) (ak jy (ak jy (pv 3) (pv 4)) ag)))))
   (aw (BO (PTW.mk (aM zN (pv 5) (aV (aa ar (aa ar (aa ar (aa ar (aa ar ae)))))) (by with_unfolding_all rfl))) (bC (PSW.mk (ay (i:=5) sc__law_word.nd rfl (Or.inl rfl) (ak av (pv 5) ar)))) yo)
   (bC (PSW.mk (aU (pv 5)))))))))) ?_
 have m26:=bH (a:=n) (b:=26) (by decide)
 obtain ⟨c0,e0,f0⟩:=Ae l26 m26.1 m26.2
 refine ⟨_,rfl,_,rfl,_,_,rfl,rfl,(by show (0 : Int) < 26; decide),_,_,_,rfl,rfl,lz,e0,?_⟩
 rw [<- f0]
 try dsimp only [aF,aK,List.set]
 refine di (fun σ' H' => σ' = [some (.int n),some (.str L),some (.str (eO n L)),none,none,none] /\ H' = H) ?_ (fun D' nxt => ?_)
 rotate_left
 ·refine ⟨_,rfl,_,_,rfl,rfl,⟨by decide,by decide⟩,_,_,rfl,rfl,(by show (0 : Int) < 2; decide),rfl,_,rfl,AG (fun c => ?_) (fun c => ?_)⟩
  ·have m3:=bH (a:=n / 52) (b:=3) (by decide)
   obtain ⟨c1,e1,f1⟩:=Ae l26 m3.1 (show n / 52 % 3 < 26 by omega)
   refine ⟨_,rfl,_,rfl,_,_,rfl,rfl,⟨by decide,by decide⟩,_,_,rfl,rfl,(by show (0 : Int) < 3; decide),_,_,_,rfl,rfl,lz,e1,nxt _ _ ⟨?_,rfl⟩⟩
   unfold eO
   rw [if_pos c,f1]
   rfl
  ·refine nxt _ _ ⟨?_,rfl⟩
   unfold eO
   rw [if_neg c]
   rfl
 rintro σ' H' ⟨rfl,rfl⟩
 refine ⟨_,rfl,_,_,rfl,rfl,⟨by decide,by decide⟩,_,_,rfl,rfl,(by show (0 : Int) < 6; decide),_,_,rfl,rfl,?_⟩
 try dsimp only [aF,aK,List.set]
 refine ⟨_,rfl,_,_,rfl,rfl,⟨by decide,by decide⟩,_,rfl,_,_,rfl,rfl,(show 0 < jR n by omega),?_⟩
 try dsimp only [aF,aK,List.set]
 have m5:=bH (a:=n / 5616) (b:=26) (by decide)
 obtain ⟨c2,e2,f2⟩:=Ae l26 m5.1 m5.2
 have fl:=tF n L
 have wl0:=wl.2
 unfold mG at wl0
 rw [len_app,len_app] at wl0
 have z6 : (100 : Nat) <= sizeLine:=by decide
 have x1 : (Str.ofString "x").length = 1:=by decide
 refine ⟨_,rfl,_,rfl,_,_,rfl,rfl,GC fl w0 (show ym n <= 6 by omega),_,rfl,_,rfl,_,_,rfl,rfl,⟨by decide,by decide⟩,_,_,rfl,rfl,(by show (0 : Int) < 26; decide),_,_,_,rfl,rfl,lz,e2,?_⟩
 rw [<- f2]
 refine ⟨_,_,rfl,rfl,(show (Txt.mul (eO n L) (ym n)).length + (ltr L (n / 5616 % 26)).length <= sizeLine by omega),?_⟩
 refine ⟨_,rfl,_,rfl,_,rfl,_,_,rfl,rfl,_,_,rfl,rfl,_,_,rfl,rfl,GC fl (show 0 <= jR n - ym n - 1 by omega) (show jR n - ym n - 1 <= 6 by omega),?_⟩
 refine ⟨_,_,rfl,rfl,(show (Txt.mul (eO n L) (ym n) ++ ltr L (n / 5616 % 26)).length + (Txt.mul (eO n L) (jR n - ym n - 1)).length <= sizeLine by rw [len_app]; omega),?_⟩
 have ew : (Txt.mul (eO n L) (n / 936 % (1 + n / 156 % 6)) ++ ltr L (n / 5616 % 26) ++ Txt.mul (eO n L) (1 + n / 156 % 6 - n / 936 % (1 + n / 156 % 6) - 1)) = mG n L:=rfl
 rw [ew]
 dsimp only [aF,aK,List.set]
 refine di (fun σ' H1 => σ' = [some (.int n),some (.str L),some (.str (eO n L)),some (.int (jR n)),some (.int (ym n)),some (.str (kU n L))] /\ Same H' H1) ?_ (fun D' nxt => ?_)
 rotate_left
 ·refine ⟨_,rfl,(by show 5 <= sizeLine; decide),fun t ht => ?_⟩
  have st:=ah ht (HO.tup Fi)
  refine ⟨t,Fi,rfl,.inr (qT_ af),rfl,rfl,_,rfl,?_⟩
  cases c : inV (.str (mG n L)) Fi with
  | true =>
   refine cY ⟨_,rfl,_,_,rfl,rfl,by omega,nxt _ _ ⟨?_,st⟩⟩
   unfold kU
   rw [if_pos c]
   rfl
  | false =>
   refine cN (nxt _ _ ⟨?_,st⟩)
   unfold kU
   rw [if_neg (by rw [c]; decide)]
   rfl
 rintro σ' H1 ⟨rfl,s1⟩
 exact ⟨_,rfl,q _ s1⟩
theorem Ir (F : FunD K "_law_name" "_law_name" fc dV f fd) (aC : DefOk P w K mg base "_law_draw" 1 ["_law_script","_law_k"] [] (fS K)) (eX : DefOk P w K mg base "_law_word" 1 ["_law_number","_law_letters"] [] BK) : FnOk P w K mg base CX0 2 f fd ["_law_script","_law_number"] (yf K):=by
 refine F.ok Bz (fun vs H Q E h => ?_) (fun cdv A outer s H vs Q E hr h => ?_)
 ·obtain ⟨a,i,ns,rfl,_⟩:=h
  rfl
 obtain ⟨a,i,ns,rfl,hS,h63,q⟩:=h
 have m:=bH (a:=i) (b:=4) (by decide)
 refine ⟨_,(ax (aU (br eX hr (aa (br aC hr (aa (pv 0) (aa (ak bf ag (ak aX (pv 1) ag)) ae))) (aa ar ae))))),?_⟩
 exact ⟨_,rfl,_,rfl,_,_,rfl,rfl,(by show (0 : Int) < 4; decide),_,_,rfl,rfl,a,_,ns,rfl,hS,h63,(show (0 : Int) <= 900 + i % 4 by omega),(show 900 + i % 4 < 930 by omega),_,lowS,rfl,(cX _ _).1,by decide +kernel,fun H' s' => q _ s'⟩
theorem Iu (F : FunD K "_law_row" "_law_row" gk dV f fd) (aC : DefOk P w K mg base "_law_draw" 1 ["_law_script","_law_k"] [] (fS K)) (eX : DefOk P w K mg base "_law_word" 1 ["_law_number","_law_letters"] [] BK) : FnOk P w K mg base CX0 2 f fd ["_law_script","_law_number"] (Eb K):=by
 refine F.ok CP (fun vs H Q E h => ?_) (fun cdv A outer s H vs Q E hr h => ?_)
 ·obtain ⟨a,i,ns,rfl,_⟩:=h
  rfl
 obtain ⟨a,i,ns,rfl,hS,h63,q⟩:=h
 have m:=bH (a:=i) (b:=3) (by decide)
 refine ⟨_,(ax (aU (br eX hr (aa (br aC hr (aa (pv 0) (aa (ak bf ag (ak aX (pv 1) ag)) ae))) (aa ar ae))))),?_⟩
 exact ⟨_,rfl,_,rfl,_,_,rfl,rfl,(by show (0 : Int) < 3; decide),_,_,rfl,rfl,a,_,ns,rfl,hS,h63,(show (0 : Int) <= 920 + i % 3 by omega),(show 920 + i % 3 < 930 by omega),_,uppS,rfl,(cX _ _).1,by decide +kernel,fun H' s' => q _ s'⟩
end
def fj (ps : List Prt) : List Str:=(ps.filter fun p => decide (p.2 ≠ ("" : Str))).map (·.2)
def jk : Stt -> List Str
 | .cmp _ a b => fj a ++ fj b
 | .sg _ a _ => fj a
 | .lk _ a _ b => fj a ++ fj b
 | .no s => jk s
 | .jn _ s t => jk s ++ jk t
 | .ch _ n s => (jk s).filter fun x => decide (x ≠ n)
def jC : Stt -> List Str
 | .cmp .. => []
 | .sg r _ _ => [r]
 | .lk r _ q _ => [r,q]
 | .no s => jC s
 | .jn _ s t => jC s ++ jC t
 | .ch _ _ s => jC s
structure IsNm (zs xs : List Str) : Prop where
 so : zs.Pairwise leS
 nd : zs.Nodup
 mem : ∀ x,x ∈ zs ↔ x ∈ xs
theorem IsNm.of_sorted {ms ns : List Str} (p : ms.Perm (fR ns)) (so : ms.Pairwise leS) : IsNm ms ns:=
 ⟨so,p.nodup_iff.mpr (CI ns),fun x => by rw [p.mem_iff,once_memS]⟩
theorem IsNm.congr {zs xs ys : List Str} (h : IsNm zs xs) (e : ∀ x,x ∈ xs ↔ x ∈ ys) : IsNm zs ys:=⟨h.so,h.nd,fun x => (h.mem x).trans (e x)⟩
theorem uo (ps : List Prt) (p : Prt) : fj (ps ++ [p]) = fj ps ++ (if p.2 = ("" : Str) then [] else [p.2]):=by
 unfold fj
 rw [List.filter_append,List.map_append]
 congr 1
 by_cases c : p.2 = ("" : Str)
 ·rw [if_pos c,List.filter_cons_of_neg (by simp [c])]; rfl
 ·rw [if_neg c,List.filter_cons_of_pos (by simp [c])]; rfl
theorem GD {x : Str} (h : 1 <= x.length) : x ≠ ("" : Str):=fun z => by
 rw [z] at h
 exact absurd h (by decide)
theorem Paired.snocP : ∀ {R : Addr -> Prt -> Prop} {as : List Addr} {ps : List Prt} {a : Addr} {p : Prt},Paired R as ps -> R a p -> Paired R (as ++ [a]) (ps ++ [p])
 | _,_,_,_,_,.nil,h => .cons h .nil
 | _,_,_,_,_,.cons q t,h => .cons q (Paired.snocP t h)
structure SmOk (ns : LI) (ps : List Prt) : Prop where
 ok : wj ps
 le : ps.length <= 8
 nm : ∀ x ∈ fj ps,x ∈ nm4 ns
 rd : ∀ p ∈ ps,gL p
theorem SmOk.nlen {ns : LI} {ps : List Prt} (h : SmOk ns ps) : (fj ps).length <= 8:=by
 unfold fj
 rw [lm_]
 exact Nat.le_trans (List.length_filter_le ..) h.le
theorem JC {i : Int} (h0 : 0 <= i) (h1 : i <= 999999) : (cu i).length <= 6:=PyProof.Rows.toString_length_le h0 (by decide) (show i < 10 ^ 6 by omega)
theorem Ku {i : Int} (h0 : 0 <= i) (h1 : i <= 20) : (cu i).length <= 2:=PyProof.Rows.toString_length_le h0 (by decide) (show i < 10 ^ 2 by omega)
theorem part9 {p : Prt} (h : gL p) : (aR p).length <= 9:=by
 unfold aR
 rcases h with h | h
 ·rw [if_pos h.1]
  have:=JC h.2.1 h.2.2
  omega
 ·have l6:=h.1.1.2.1
  split
  ·have:=Ku (show 0 <= p.1 by omega) h.2.2
   omega
  ·split
   ·omega
   ·rw [len_app,len_app]
    have:=Ku (show 0 <= p.1 by omega) h.2.2
    have : (("*" : Str)).length = 1:=by decide
    omega
theorem SmOk.tlen {ns : LI} {ps : List Prt} (h : SmOk ns ps) : (bx ps).length <= 93:=by
 unfold bx Txt.join
 rw [size_glued]
 have l:=Ed (B:=9) ((ps.map aR).map (·.length)) fun x hx => by
  obtain ⟨y,hy,rfl⟩:=List.mem_map.mp hx
  obtain ⟨p,hp,rfl⟩:=List.mem_map.mp hy
  exact part9 (h.rd p hp)
 have e : ((" + " : Str)).length = 3:=by decide
 rw [lm_,lm_] at l
 rw [e,lm_]
 have:=h.le
 omega
theorem SmOk.snoc {ns : LI} {ps : List Prt} {p : Prt} (h : SmOk ns ps) (l : ps.length < 8) (hp : (0 <= p.1 /\ p.1 < 10000000) /\ p.2.length <= 20) (hn : p.2 = ("" : Str) \/ p.2 ∈ nm4 ns) (ro : gL p) : SmOk ns (ps ++ [p]):=by
 refine ⟨⟨by rw [List.length_append,List.length_singleton]; omega,fun q hq => ?_⟩,by rw [List.length_append,List.length_singleton]; omega,fun x hx => ?_,fun q hq => (ma_.mp hq).elim (h.rd q) fun z => by rw [List.mem_singleton.mp z]; exact ro⟩
 ·rcases ma_.mp hq with z | z
  ·exact h.ok.2 q z
  ·rw [List.mem_singleton.mp z]; exact hp
 ·rw [uo] at hx
  rcases ma_.mp hx with z | z
  ·exact h.nm x z
  ·by_cases c : p.2 = ("" : Str)
   ·rw [if_pos c] at z; cases z
   ·rw [if_neg c] at z
    rw [List.mem_singleton.mp z]
    exact hn.resolve_left c
theorem SmOk.nil (ns : LI) : SmOk ns []:=⟨⟨Nat.zero_le _,fun p h => by cases h⟩,Nat.zero_le _,(fun x h => by cases h),fun p h => by cases h⟩
def D9 (K : PySem.W.Frag) : Sp:=fun vs H Q _ => ∃ (a : Addr) (i : Int) (ns : LI),vs = [.ref a,.int i] /\ SprAt K H a ns /\ True /\ (0 <= i /\ i < 915) /\
 ∀ (l nl : Addr) (v : V) (ps : List Prt) (H' : Hp),Same H H' -> H' l = some (.lst [v,.str (bx ps),.ref nl]) -> SumAt H' v ps -> SmOk ns ps -> ps ≠ [] -> H' nl = some (.lst ((fj ps).map V.str)) -> H nl = none -> Q (.ref l) H'
structure LsI (H0 : Hp) (ns : LI) (Lp Lt Ln : Addr) (ps : List Prt) (H : Hp) : Prop where
 s : Same H0 H
 p : ∃ as : List Addr,H Lp = some (.lst (as.map V.ref)) /\ Paired (jU H) as ps
 t : H Lt = some (.lst ((ps.map aR).map V.str))
 n : H Ln = some (.lst ((fj ps).map V.str))
 ok : SmOk ns ps
structure Three3 (H0 : Hp) (Lp Lt Ln : Addr) : Prop where
 pt : Lp ≠ Lt
 pn : Lp ≠ Ln
 tn : Lt ≠ Ln
 fp : H0 Lp = none
 ft : H0 Lt = none
 fn : H0 Ln = none
theorem LsI.same {H0 H H' : Hp} {ns : LI} {Lp Lt Ln : Addr} {ps : List Prt} (h : LsI H0 ns Lp Lt Ln ps H) (s : Same H H') : LsI H0 ns Lp Lt Ln ps H' := by
 obtain ⟨as,h1,h2⟩:=h.p
 exact ⟨h.s.trans s,⟨as,s _ _ h1,Paired.mapP h2 fun _ _ q => s _ _ q⟩,s _ _ h.t,s _ _ h.n,h.ok⟩
theorem LsI.add {H0 H : Hp} {ns : LI} {Lp Lt Ln T : Addr} {ps : List Prt} {p : Prt} {as : List Addr} (h : LsI H0 ns Lp Lt Ln ps H) (d : Three3 H0 Lp Lt Ln) (ha : H Lp = some (.lst (as.map V.ref))) (hT : H T = none) (ok : SmOk ns (ps ++ [p])) :
  (p.2 = ("" : Str) -> LsI H0 ns Lp Lt Ln (ps ++ [p]) (upd (upd (upd H T (.tup [.int p.1,.str p.2])) Lp (.lst (as.map V.ref ++ [.ref T]))) Lt (.lst ((ps.map aR).map V.str ++ [.str (aR p)])))) /\
  (p.2 ≠ ("" : Str) -> LsI H0 ns Lp Lt Ln (ps ++ [p]) (upd (upd (upd (upd H T (.tup [.int p.1,.str p.2])) Lp (.lst (as.map V.ref ++ [.ref T]))) Lt (.lst ((ps.map aR).map V.str ++ [.str (aR p)]))) Ln (.lst ((fj ps).map V.str ++ [.str p.2])))):=by
 obtain ⟨as',h1,h2⟩:=h.p
 rw [ha] at h1
 have ea : as' = as:=by
  have e:=HO.lst.inj (Option.some.inj h1)
  have e' := congrArg (List.map fun v : V => match v with | .ref a => a | _ => 0) e
  rw [List.map_map,List.map_map] at e'
  have id1 : ∀ l : List Addr,l.map ((fun v : V => match v with | .ref a => a | _ => 0) ∘ V.ref) = l:=fun l => List.map_id' l
  rw [id1,id1] at e'
  exact e'.symm
 subst ea
 have nTp : Lp ≠ T:=aA ha hT
 have nTt : Lt ≠ T:=aA h.t hT
 have nTn : Ln ≠ T:=aA h.n hT
 have fT : H0 T = none:=h.s.free hT
 have et : (ps.map aR).map V.str ++ [V.str (aR p)] = ((ps ++ [p]).map aR).map V.str:=by rw [List.map_append,List.map_append]; rfl
 obtain ⟨H3,e3⟩ : ∃ H3,upd (upd (upd H T (.tup [.int p.1,.str p.2])) Lp (.lst (as'.map V.ref ++ [.ref T]))) Lt (.lst ((ps.map aR).map V.str ++ [.str (aR p)])) = H3:=⟨_,rfl⟩
 have s3 : Same H0 H3:=by rw [<- e3]; exact bu (bu (bu h.s fT) d.fp) d.ft
 have k3 : ∀ b o,b ≠ Lp -> b ≠ Lt -> H b = some o -> H3 b = some o:=fun b o n1 n2 e => by
  rw [<- e3,az n2,az n1,az (aA e hT)]; exact e
 have tk : jH H H3:=fun b xs e => k3 b _ (xy e ha (by intro z; cases z)) (xy e h.t (by intro z; cases z)) e
 have hp3 : H3 Lp = some (.lst ((as' ++ [T]).map V.ref)):=by rw [<- e3,az d.pt,af,List.map_append]; rfl
 have hT3 : H3 T = some (.tup [.int p.1,.str p.2]):=by rw [<- e3,az (Ne.symm nTt),az (Ne.symm nTp),af]
 have ht3 : H3 Lt = some (.lst (((ps ++ [p]).map aR).map V.str)):=by rw [<- e3,af,et]
 have hn3:=k3 _ _ (Ne.symm d.pn) (Ne.symm d.tn) h.n
 have P3 : Paired (jU H3) (as' ++ [T]) (ps ++ [p]):=Paired.snocP (Paired.mapP h2 fun _ _ q => tk _ _ q) hT3
 rw [e3]
 refine ⟨fun c => ⟨s3,⟨_,hp3,P3⟩,ht3,?_,ok⟩,fun c => ?_⟩
 ·rw [uo,if_pos c,List.append_nil]
  exact hn3
 ·refine ⟨bu s3 d.fn,⟨_,by rw [az d.pn]; exact hp3,Paired.mapP P3 fun b q e => ?_⟩,by rw [az d.tn]; exact ht3,?_,ok⟩
  ·show (upd H3 Ln _) b = _
   rw [az (xy e hn3 (by intro z; cases z))]
   exact e
  ·rw [af,uo,if_neg c,List.map_append]
   rfl
theorem getD_in {xs : LI} {i : Int} {lo hi : Int} (h0 : 0 <= i) (h1 : i < (xs.length : Int)) (h : ∀ x ∈ xs,lo <= x /\ x < hi) : lo <= xs.getD i.toNat 0 /\ xs.getD i.toNat 0 < hi:=by
 have hi : i.toNat < xs.length:=by omega
 rw [getD_at hi]
 exact h _ (List.getElem_mem hi)
section
variable {P : Program} {w : World} {K : PySem.W.Frag} {mg : Str -> Option Value} {base : Heap} {f : Addr} {fd : FuncData} {dV : Value}
theorem sc__law_sum : FnScope ["_law_script","_law_at","_law_number","_law_many","_law_parts","_law_texts","_law_names","_law_k","_law_name_here","_law_one"] ["_law_script","_law_at"] (ai gm):=⟨rfl,rfl,rfl,by decide +kernel,rfl,by decide +kernel,by decide +kernel⟩
theorem Iq (F : FunD K "_law_sum" "_law_sum" gm dV f fd) (aC : DefOk P w K mg base "_law_draw" 1 ["_law_script","_law_k"] [] (fS K)) (cy : DefOk P w K mg base "_law_name" 2 ["_law_script","_law_number"] [] (yf K)) (bF : mg "range" = none) (ig : mg "str" = none) (uJ : mg "int" = none) (iz : mg "tuple" = none) : FnOk P w K mg base CX0 3 f fd ["_law_script","_law_at"] (D9 K):=by
 refine F.ok sc__law_sum (fun vs H Q E h => ?_) (fun cdv A outer s H vs Q E hr h => ?_)
 ·obtain ⟨a,i,ns,rfl,_⟩:=h
  rfl
 obtain ⟨a,i,ns,rfl,hS,h63,⟨i0,i1⟩,k⟩:=h
 refine gP (aw (PSW.mk (ay (i:=2) sc__law_sum.nd rfl (Or.inl rfl) (br aC hr (aa (pv 0) (aa (pv 1) ae)))))
   (aw (PSW.mk (ay (i:=3) sc__law_sum.nd rfl (Or.inl rfl) (ak bf ag (ak aX (pv 2) ag))))
   (aw (PSW.mk (bG (aM gI (ak aX (ak bh (pv 2) ag) ag) ag (aS _)) (ax (ay (i:=3) sc__law_sum.nd rfl (Or.inl rfl) ag)) aW))
   (aw (PSW.mk (ay (i:=4) sc__law_sum.nd rfl (Or.inl rfl) (bE ae)))
   (aw (PSW.mk (ay (i:=5) sc__law_sum.nd rfl (Or.inl rfl) (bE ae)))
   (aw (PSW.mk (ay (i:=6) sc__law_sum.nd rfl (Or.inl rfl) (bE ae)))
   (aw (E5 PassesOwn.never rfl (cZ rfl bF (aa (pv 3) ae)) (aG (i:=7) sc__law_sum.nd rfl (Or.inl rfl)) (aw (PSW.mk (ay (i:=2) sc__law_sum.nd rfl (Or.inl rfl) (br aC hr (aa (pv 0) (aa (ak bf (ak bf (pv 1) ag) (pv 7)) ae)))))
   (aw (PSW.mk (ay (i:=8) sc__law_sum.nd rfl (Or.inl rfl) (br cy hr (aa (pv 0) (aa (ak bh (pv 2) ag) ae)))))
   (bC (BO (PTW.mk (aM gI (ak aX (pv 2) ag) ag (aS _))) (aw (pY (i:=9) sc__law_sum.nd rfl (Or.inl rfl) (Hx bg (ie (ao (PEW.mk ag) (ao (PEW.mk ag) (ao (PEW.mk (ak aX (ak bh (pv 2) ag) ag)) (ao (PEW.mk (ak aX (ak bh (pv 2) ag) ag)) bM))))) (PEW.mk (ak aX (ak bh (pv 2) ag) ag)) (fun _ _ => rfl)))
   (aw (PSW.mk (cm (ia PySem.F.plainAttrs_list PySem.F.slot_list_append PySem.F.type_list_append bI (pv 4) (aa (aV (aa (pv 9) (aa ar ae))) ae))))
   (bC (PSW.mk (cm (ia PySem.F.plainAttrs_list PySem.F.slot_list_append PySem.F.type_list_append bI (pv 5) (aa (bD ik (by rfl) ig sO (aa (pv 9) ae)) ae))))))) (bC (BO (PTW.mk (aM gI (ak aX (pv 2) ag) ag (aS _))) (aw (PSW.mk (cm (ia PySem.F.plainAttrs_list PySem.F.slot_list_append PySem.F.type_list_append bI (pv 4) (aa (aV (aa ag (aa (pv 8) ae))) ae))))
   (aw (PSW.mk (cm (ia PySem.F.plainAttrs_list PySem.F.slot_list_append PySem.F.type_list_append bI (pv 5) (aa (pv 8) ae))))
   (bC (PSW.mk (cm (ia PySem.F.plainAttrs_list PySem.F.slot_list_append PySem.F.type_list_append bI (pv 6) (aa (pv 8) ae))))))) (aw (pY (i:=9) sc__law_sum.nd rfl (Or.inl rfl) (Hx bg (ie (ao (PEW.mk ag) (ao (PEW.mk ag) (ao (PEW.mk (ak bf ag (ak aX (ak bh (pv 2) ag) ag))) bM)))) (PEW.mk (ak aX (ak bh (pv 2) ag) ag)) (fun _ _ => rfl)))
   (aw (PSW.mk (cm (ia PySem.F.plainAttrs_list PySem.F.slot_list_append PySem.F.type_list_append bI (pv 4) (aa (aV (aa (pv 9) (aa (pv 8) ae))) ae))))
   (aw (Ke (PEW.mk (ia PySem.F.plainAttrs_list PySem.F.slot_list_append PySem.F.type_list_append bI (pv 5) (aa (ak av (cC bg (bE (aa (ak av (bD ik (by rfl) ig sO (aa (pv 9) ae)) ar) (aa ar ae))) (bD E8 (by rfl) uJ Af (aa (rX gI (pv 9) ag (aS _)) ae)) (fun _ _ => rfl)) (pv 8)) ae))))
   (bC (PSW.mk (cm (ia PySem.F.plainAttrs_list PySem.F.slot_list_append PySem.F.type_list_append bI (pv 6) (aa (pv 8) ae)))))))))))))))
   (bC (og (ie (ao (PEW.mk (bD kj (by rfl) iz wC (aa (pv 4) ae))) (ao (PEW.mk (ia PySem.F.plainAttrs_str PySem.F.slot_str_join PySem.F.type_str_join EK ar (aa (pv 5) ae))) (ao (PEW.mk (pv 6)) bM))))))))))))) ?_
 refine ⟨_,rfl,_,rfl,a,i,ns,rfl,hS,h63,i0,by omega,?_⟩
 try dsimp only [aF,aK,List.set]
 obtain ⟨d0,ed0⟩ : ∃ d0,hX ns i = d0:=⟨_,rfl⟩
 have d00:=cX ns i
 rw [ed0] at d00 ⊢
 refine ⟨_,rfl,_,_,rfl,rfl,(by show (0 : Int) < 3; decide),_,_,rfl,rfl,?_⟩
 try dsimp only [aF,aK,List.set]
 refine di (t:=Hs _ _ _) (fun σ' H' => ∃ (many : Nat) (v2 : OV),(1 <= many /\ many <= 8) /\ σ' = [some (.ref a),some (.int i),v2,some (.int many),none,none,none,none,none,none] /\ H' = H) ?_ (fun D' nxt => ?_)
 rotate_left
 ·have m3:=bH (a:=d0) (b:=3) (by decide)
  refine ⟨_,rfl,_,_,rfl,rfl,⟨by decide,by decide⟩,_,_,rfl,rfl,(by show (0 : Int) < 6; decide),rfl,_,rfl,AG (fun c => ?_) (fun c => ?_)⟩
  ·exact nxt _ _ ⟨8,_,by decide,rfl,rfl⟩
  ·obtain ⟨m,em⟩:=JA (x:=1 + d0 % 3) (by omega)
   refine nxt _ _ ⟨m,some (.int d0),⟨by omega,by omega⟩,?_,rfl⟩
   show [some (V.ref a),some (V.int i),some (V.int d0),some (V.int (1 + d0 % 3)),none,none,none,none,none,none] = _
   rw [em]
 rintro σ' H' ⟨many,v2,⟨m1,m8⟩,rfl,rfl⟩
 refine ⟨(by show 0 <= sizeLine; decide),fun Lp hLp => ?_⟩
 refine ⟨(by show 0 <= sizeLine; decide),fun Lt hLt => ?_⟩
 refine ⟨(by show 0 <= sizeLine; decide),fun Ln hLn => ?_⟩
 have u1:=ah hLp (HO.lst [])
 have u2:=ah hLt (HO.lst [])
 have u3:=ah hLn (HO.lst [])
 have d3 : Three3 H' Lp Lt Ln:=⟨aA af hLt,aA (u2 _ _ af) hLn,aA af hLn,hLp,u1.free hLt,(u1.trans u2).free hLn⟩
 have I0 : LsI H' ns Lp Lt Ln [] (upd (upd (upd H' Lp (.lst [])) Lt (.lst [])) Ln (.lst [])):=⟨u1.trans (u2.trans u3),⟨[],(u2.trans u3) _ _ af,.nil⟩,u3 _ _ af,af,SmOk.nil ns⟩
 try dsimp only [aF,aK,List.set]
 refine di (t:=BN _ _ _) (fun σ' H1 => ∃ (ps : List Prt) (v2 v7 v8 v9 : OV),σ' = [some (.ref a),some (.int i),v2,some (.int many),some (.ref Lp),some (.ref Lt),some (.ref Ln),v7,v8,v9] /\ LsI H' ns Lp Lt Ln ps H1 /\ ps ≠ []) ?_ (fun D' nxt => ?_)
 rotate_left
 ·refine ⟨_,rfl,(many : Int),rfl,by omega,by omega,?_⟩
  refine gd (fun j σ' H1 => ∃ (ps : List Prt) (v2 v7 v8 v9 : OV),σ' = [some (.ref a),some (.int i),v2,some (.int many),some (.ref Lp),some (.ref Lt),some (.ref Ln),v7,v8,v9] /\ LsI H' ns Lp Lt Ln ps H1 /\ ps.length = j) ⟨[],v2,none,none,none,rfl,I0,rfl⟩ ?_ ?_
  ·rintro j σ' H1 hj ⟨ps,v2,v7,v8,v9,rfl,I1,lp⟩
   rw [Int.toNat_natCast] at hj
   have hS1:=(hS.same I1.s)
   refine ⟨_,rfl,_,rfl,_,_,rfl,rfl,_,rfl,_,_,rfl,rfl,a,i + 1 + (0 + (j : Int)),ns,rfl,hS1,h63,by omega,by omega,?_⟩
   try dsimp only [aF,aK,List.set]
   obtain ⟨n,en⟩ : ∃ n,hX ns (i + 1 + (0 + (j : Int))) = n:=⟨_,rfl⟩
   have nb:=cX ns (i + 1 + (0 + (j : Int)))
   rw [en] at nb ⊢
   refine ⟨_,rfl,_,rfl,_,_,rfl,rfl,⟨by decide,by decide⟩,a,n / 3,ns,rfl,hS1,h63,fun H2 s2 => ?_⟩
   try dsimp only [aF,aK,List.set]
   obtain ⟨nm,enm⟩ : ∃ nm,nmF ns (n / 3) = nm:=⟨_,rfl⟩
   have nl:=EM ns (n / 3)
   have nin:=JB ns (n / 3)
   have nok:=DC ns (n / 3)
   rw [enm] at nl nin nok ⊢
   have nne:=GD nl.1
   have I2:=I1.same s2
   obtain ⟨as,ha,hA⟩:=I2.p
   have las : as.length = ps.length:=Paired.length hA
   have lsn:=I2.ok.nlen
   have z20 : ∀ m : Nat,m <= 100 -> m <= sizeLine:=fun m h => Nat.le_trans h (by decide)
   refine ⟨_,rfl,_,_,rfl,rfl,(by show (0 : Int) < 3; decide),rfl,_,rfl,AG (fun c => ?_) (fun c => ?_)⟩
   ·have q1:=bH (a:=n / 9) (b:=1000000) (by decide)
    have q2:=bH (a:=n / 9) (b:=30) (by decide)
    have q4:=bH (a:=n / 3) (b:=4) (by decide)
    refine ⟨_,rfl,_,_,rfl,rfl,⟨by decide,by decide⟩,_,_,rfl,rfl,(by show (0 : Int) < 1000000; decide),_,rfl,_,_,rfl,rfl,⟨by decide,by decide⟩,_,_,rfl,rfl,(by show (0 : Int) < 30; decide),(by show 4 <= sizeLine; decide),fun Lx hLx => ?_⟩
    have ux:=ah hLx (HO.lst ([0,999999,n / 9 % 1000000,n / 9 % 30].map V.int))
    obtain ⟨one,eo⟩ : ∃ one,([0,999999,n / 9 % 1000000,n / 9 % 30] : LI).getD (n / 3 % 4).toNat 0 = one:=⟨_,rfl⟩
    have ob2 : 0 <= one /\ one < 1000000:=by
     rw [<- eo]
     refine getD_in q4.1 q4.2 fun x hx => ?_
     simp only [List.mem_cons,List.not_mem_nil,or_false] at hx
     rcases hx with rfl | rfl | rfl | rfl <;> omega
    have ob : 0 <= one /\ one < 10000000:=⟨ob2.1,by omega⟩
    refine ⟨_,rfl,_,_,rfl,rfl,⟨by decide,by decide⟩,_,_,rfl,rfl,(by show (0 : Int) < 4; decide),Lx,_,_,_,rfl,rfl,qL_ af,rD (ns:=[0,999999,n / 9 % 1000000,n / 9 % 30]) q4.1 q4.2,?_⟩
    try dsimp only [aF,aK,List.set]
    rw [eo]
    obtain ⟨H3,e3⟩ : ∃ H3,upd H2 Lx (HO.lst [V.int 0,V.int 999999,V.int (n / 9 % 1000000),V.int (n / 9 % 30)]) = H3:=⟨_,rfl⟩
    have ux' : Same H2 H3:=by rw [<- e3]; exact ux
    rw [e3]
    have I3:=I2.same ux'
    have ha3:=ux' _ _ ha
    refine ⟨_,rfl,.inl ⟨rfl,_,qL_ ha3⟩,_,rfl,(by show 2 <= sizeLine; decide),fun T hT => ?_⟩
    have nTp : Lp ≠ T:=aA ha3 hT
    have add:=(I3.add (p:=(one,("" : Str))) d3 ha3 hT (I3.ok.snoc (by omega) ⟨ob,by show 0 <= 20; decide⟩ (.inl rfl) (.inl ⟨rfl,ob2.1,by show one <= 999999; omega⟩))).1 rfl
    refine ⟨Lp,_,_,rfl,rfl,by rw [az nTp]; exact ha3,z20 _ (by rw [lm_]; omega),?_⟩
    have nTt : Lt ≠ T:=aA I3.t hT
    have ht4 : (upd (upd H3 T (HO.tup [V.int one,V.str ("" : Str)])) Lp (HO.lst (as.map V.ref ++ [V.ref T]))) Lt = some (.lst ((ps.map aR).map V.str)):=by rw [az (Ne.symm d3.pt),az nTt]; exact I3.t
    refine ⟨_,rfl,.inl ⟨rfl,_,qL_ ht4⟩,_,rfl,_,rfl,(rQ ob.1 ob.2).2,Lt,_,_,rfl,rfl,ht4,z20 _ (by rw [lm_,lm_]; omega),?_⟩
    have ep : aR (one,("" : Str)) = cu one:=if_pos rfl
    rw [ep] at add
    exact ⟨ps ++ [(one,("" : Str))],_,_,_,_,rfl,add,by rw [List.length_append,List.length_singleton,lp]⟩
   ·refine ⟨_,rfl,_,_,rfl,rfl,(by show (0 : Int) < 3; decide),rfl,_,rfl,AG (fun c1 => ?_) (fun c1 => ?_)⟩
    ·have add:=fun T hT => (I2.add (T:=T) (p:=(1,nm)) d3 ha hT (I2.ok.snoc (by omega) ⟨(show (0 : Int) <= 1 /\ (1 : Int) < 10000000 by decide),(show nm.length <= 20 by omega)⟩ (.inr nin) (.inr ⟨nok,(show (1 : Int) <= 1 by decide),(show (1 : Int) <= 20 by decide)⟩))).2 nne
     refine ⟨_,rfl,.inl ⟨rfl,_,qL_ ha⟩,_,rfl,(by show 2 <= sizeLine; decide),fun T hT => ?_⟩
     have nTp : Lp ≠ T:=aA ha hT
     have nTt : Lt ≠ T:=aA I2.t hT
     have nTn : Ln ≠ T:=aA I2.n hT
     refine ⟨Lp,_,_,rfl,rfl,by rw [az nTp]; exact ha,z20 _ (by rw [lm_]; omega),?_⟩
     have ht4 : (upd (upd H2 T (HO.tup [V.int 1,V.str nm])) Lp (HO.lst (as.map V.ref ++ [V.ref T]))) Lt = some (.lst ((ps.map aR).map V.str)):=by rw [az (Ne.symm d3.pt),az nTt]; exact I2.t
     refine ⟨_,rfl,.inl ⟨rfl,_,qL_ ht4⟩,_,rfl,Lt,_,_,rfl,rfl,ht4,z20 _ (by rw [lm_,lm_]; omega),?_⟩
     have hn5 : (upd (upd (upd H2 T (HO.tup [V.int 1,V.str nm])) Lp (HO.lst (as.map V.ref ++ [V.ref T]))) Lt (HO.lst ((ps.map aR).map V.str ++ [V.str nm]))) Ln = some (.lst ((fj ps).map V.str)):=by rw [az (Ne.symm d3.tn),az (Ne.symm d3.pn),az nTn]; exact I2.n
     refine ⟨_,rfl,.inl ⟨rfl,_,qL_ hn5⟩,_,rfl,Ln,_,_,rfl,rfl,hn5,z20 _ (by rw [lm_]; omega),?_⟩
     have ep : aR (1,nm) = nm:=(if_neg nne).trans (if_pos rfl)
     have ad:=add T hT
     rw [ep] at ad
     exact ⟨ps ++ [(1,nm)],_,_,_,_,rfl,ad,by rw [List.length_append,List.length_singleton,lp]⟩
    ·have q1:=bH (a:=n / 12) (b:=20) (by decide)
     have q3:=bH (a:=n / 36) (b:=3) (by decide)
     refine ⟨_,rfl,_,_,rfl,rfl,⟨by decide,by decide⟩,_,_,rfl,rfl,(by show (0 : Int) < 20; decide),_,_,rfl,rfl,(by show 3 <= sizeLine; decide),fun Lx hLx => ?_⟩
     have ux:=ah hLx (HO.lst ([20,2,1 + n / 12 % 20].map V.int))
     obtain ⟨one,eo⟩ : ∃ one,([20,2,1 + n / 12 % 20] : LI).getD (n / 36 % 3).toNat 0 = one:=⟨_,rfl⟩
     have ob2 : 1 <= one /\ one < 21:=by
      rw [<- eo]
      refine getD_in q3.1 q3.2 fun x hx => ?_
      simp only [List.mem_cons,List.not_mem_nil,or_false] at hx
      rcases hx with rfl | rfl | rfl <;> omega
     have ob : 1 <= one /\ one < 10000000:=⟨ob2.1,by omega⟩
     refine ⟨_,rfl,_,_,rfl,rfl,⟨by decide,by decide⟩,_,_,rfl,rfl,(by show (0 : Int) < 3; decide),Lx,_,_,_,rfl,rfl,qL_ af,rD (ns:=[20,2,1 + n / 12 % 20]) q3.1 q3.2,?_⟩
     try dsimp only [aF,aK,List.set]
     rw [eo]
     obtain ⟨H3,e3⟩ : ∃ H3,upd H2 Lx (HO.lst [V.int 20,V.int 2,V.int (1 + n / 12 % 20)]) = H3:=⟨_,rfl⟩
     have ux' : Same H2 H3:=by rw [<- e3]; exact ux
     rw [e3]
     have I3:=I2.same ux'
     have ha3:=ux' _ _ ha
     have ob0 : (0 : Int) <= one:=by omega
     have nsl:=rQ ob0 ob.2
     have st1 : ((Str.ofString "*")).length = 1:=by decide
     refine ⟨_,rfl,.inl ⟨rfl,_,qL_ ha3⟩,_,rfl,_,rfl,(by show 2 <= sizeLine; decide),fun T hT => ?_⟩
     have nTp : Lp ≠ T:=aA ha3 hT
     have nTt : Lt ≠ T:=aA I3.t hT
     have nTn : Ln ≠ T:=aA I3.n hT
     have add:=(I3.add (T:=T) (p:=(one,nm)) d3 ha3 hT (I3.ok.snoc (by omega) ⟨(show 0 <= one /\ one < 10000000 from ⟨ob0,ob.2⟩),(show nm.length <= 20 by omega)⟩ (.inr nin) (.inr ⟨nok,ob2.1,(show one <= 20 by omega)⟩))).2 nne
     refine ⟨Lp,_,_,rfl,rfl,by rw [az nTp]; exact ha3,z20 _ (by rw [lm_]; omega),?_⟩
     obtain ⟨H4,e4⟩ : ∃ H4,upd (upd H3 T (HO.tup [V.int one,V.str nm])) Lp (HO.lst (as.map V.ref ++ [V.ref T])) = H4:=⟨_,rfl⟩
     have ht4 : H4 Lt = some (.lst ((ps.map aR).map V.str)):=by rw [<- e4,az (Ne.symm d3.pt),az nTt]; exact I3.t
     have hn4 : H4 Ln = some (.lst ((fj ps).map V.str)):=by rw [<- e4,az (Ne.symm d3.pn),az nTn]; exact I3.n
     rw [e4] at add ⊢
     refine ⟨_,rfl,.inl ⟨rfl,_,qL_ ht4⟩,_,rfl,_,rfl,nsl.2,_,_,rfl,rfl,z20 _ (show (cu one).length + _ <= 100 by omega),(by show 2 <= sizeLine; decide),fun Ly hLy => ?_⟩
     have uy:=ah hLy (HO.lst [V.str (cu one ++ Str.ofString "*"),V.str (Str.ofString "")])
     have nyt : Lt ≠ Ly:=aA ht4 hLy
     have nyn : Ln ≠ Ly:=aA hn4 hLy
     obtain ⟨x,ex1,ex2,ex3⟩ : ∃ x : Str,atI [V.str (cu one ++ Str.ofString "*"),V.str (Str.ofString "")] (if decide (V.int one = V.int 1) = true then 1 else 0) = some (.str x) /\ aR (one,nm) = x ++ nm /\ x.length <= 40:=by
      by_cases c2 : one = 1
      ·refine ⟨Str.ofString "",by rw [decide_eq_true (congrArg V.int c2)]; rfl,?_,by decide⟩
       have e1 : aR (one,nm) = nm:=(if_neg nne).trans (if_pos c2)
       rw [e1]
       exact (Az nm).symm
      ·refine ⟨cu one ++ Str.ofString "*",by rw [decide_eq_false fun z => c2 (V.int.inj z)]; rfl,(if_neg nne).trans (if_neg c2),by rw [len_app]; omega⟩
     refine ⟨_,rfl,rfl,.inr ⟨_,rfl,Ly,_,_,_,rfl,rfl,qL_ af,ex1,_,rfl,_,_,rfl,rfl,z20 _ (by omega),?_⟩⟩
     rw [<- ex2]
     refine ⟨Lt,_,_,rfl,rfl,by rw [az nyt]; exact ht4,z20 _ (by rw [lm_,lm_]; omega),?_⟩
     have hn6 : (upd (upd H4 Ly (HO.lst [V.str (cu one ++ Str.ofString "*"),V.str (Str.ofString "")])) Lt (HO.lst ((ps.map aR).map V.str ++ [V.str (aR (one,nm))]))) Ln = some (.lst ((fj ps).map V.str)):=by rw [az (Ne.symm d3.tn),az nyn]; exact hn4
     refine ⟨_,rfl,.inl ⟨rfl,_,qL_ hn6⟩,_,rfl,Ln,_,_,rfl,rfl,hn6,z20 _ (by rw [lm_]; omega),?_⟩
     refine ⟨ps ++ [(one,nm)],_,_,_,_,rfl,add.same fun b o e => ?_,by rw [List.length_append,List.length_singleton,lp]⟩
     have nb : b ≠ Ly:=fun z => by rw [z,az (Ne.symm nyn),az (Ne.symm nyt),hLy] at e; cases e
     by_cases c1 : b = Ln
     ·rw [c1,af] at e ⊢; exact e
     ·rw [az c1] at e ⊢
      by_cases c2 : b = Lt
      ·rw [c2,af] at e ⊢; exact e
      ·rw [az c2] at e ⊢
       rw [az nb]; exact e
  ·rintro σ' H1 ⟨ps,v2,v7,v8,v9,rfl,I1,lp⟩
   exact nxt _ _ ⟨ps,v2,v7,v8,v9,rfl,I1,fun z => by (rw [z,Int.toNat_natCast] at lp; simp at lp; omega)⟩
 rintro σ' H1 ⟨ps,v2,v7,v8,v9,rfl,I1,pne⟩
 obtain ⟨as,ha,hA⟩:=I1.p
 refine ⟨_,rfl,Lp,_,rfl,.inl ⟨qL_ ha,fun T hT => ?_⟩⟩
 have uT:=ah hT (HO.tup (as.map V.ref))
 refine ⟨rfl,_,rfl,_,Lt,ps.map aR,rfl,rfl,uT _ _ I1.t,FH I1.ok.ok,_,rfl,(by show 3 <= sizeLine; decide),fun l hl => ?_⟩
 have ul:=ah hl (HO.lst [V.ref T,V.str (Txt.join (" + " : Str) (ps.map aR)),V.ref Ln])
 exact k l Ln (.ref T) ps _ (I1.s.trans (uT.trans ul)) af ⟨T,as,rfl,ul _ _ af,Paired.mapP hA fun _ _ q => (uT.trans ul) _ _ q⟩ I1.ok pne ((uT.trans ul) _ _ I1.n) d3.fn
end
structure It where
 st : Stt
 v : V
 nl : Addr
 rl : Addr
 names : List Str
 rows : List Str
structure ItAt (ns : LI) (H : Hp) (a : Addr) (it : It) : Prop where
 li : H a = some (.lst [it.v,.str (aq it.st),.int (aN it.st : Int),.ref it.nl,.ref it.rl])
 sv : StAt H it.v it.st
 hn : H it.nl = some (.lst (it.names.map V.str))
 hr : H it.rl = some (.lst (it.rows.map V.str))
 wf : Wf it.st
 nm : IsNm it.names (jk it.st)
 rs : IsNm it.rows (jC it.st)
 ni : ∀ x ∈ it.names,x ∈ nm4 ns
 ri : ∀ x ∈ it.rows,x ∈ rw3 ns
 wr : Wr it.st
theorem ItAt.same {ns : LI} {H H' : Hp} {a : Addr} {it : It} (h : ItAt ns H a it) (s : Same H H') : ItAt ns H' a it:=
 ⟨s _ _ h.li,StAt.same (tkS s) h.sv,s _ _ h.hn,s _ _ h.hr,h.wf,h.nm,h.rs,h.ni,h.ri,h.wr⟩
def Off (L a : Addr) (it : It) : Prop:=a ≠ L /\ it.nl ≠ L /\ it.rl ≠ L
theorem ItAt.off {ns : LI} {H : Hp} {a L : Addr} {it : It} {xs ys : List V} (h : ItAt ns H a it) (o : Off L a it) (hL : H L = some (.lst xs)) : ItAt ns (upd H L (.lst ys)) a it:=
 ⟨by rw [az o.1]; exact h.li,StAt.same (fun b zs e => by rw [az (xy e hL (by intro z; cases z))]; exact e) h.sv,by rw [az o.2.1]; exact h.hn,by rw [az o.2.2]; exact h.hr,h.wf,h.nm,h.rs,h.ni,h.ri,h.wr⟩
theorem yi : ∀ {ps vs : List Str},ps.Nodup -> (∀ p ∈ ps,p ∈ vs) -> ps.length <= vs.length
 | [],_,_,_ => Nat.zero_le _
 | p :: ps,vs,nd,h => by
  have nd' := List.nodup_cons.mp nd
  have hp:=h p List.mem_cons_self
  have:=yi (vs:=vs.erase p) nd'.2 fun q hq => (List.mem_erase_of_ne (show q ≠ p from fun z => nd'.1 (by rw [<- z]; exact hq))).mpr (h q (List.mem_cons_of_mem _ hq))
  rw [List.length_erase_of_mem hp] at this
  have:=List.length_pos_of_mem hp
  rw [List.length_cons]
  omega
theorem ItAt.few {ns : LI} {H : Hp} {a : Addr} {it : It} (h : ItAt ns H a it) : it.names.length <= 4 /\ it.rows.length <= 3:=⟨yi h.nm.nd h.ni,yi h.rs.nd h.ri⟩
theorem HP (a b c : Str) : a ++ b ++ c = a ++ (b ++ c):=Str.append_assoc a b c
theorem EG (r f n : Str) : r ++ ("[" : Str) ++ f ++ ("] = " : Str) ++ n = r ++ ("[" : Str) ++ f ++ ("]" : Str) ++ (" = " : Str) ++ n:=by
 rw [show ("] = " : Str) = ("]" : Str) ++ (" = " : Str) from by decide +kernel]
 simp only [HP]
theorem EF (r f q g : Str) : r ++ ("[" : Str) ++ f ++ ("] = " : Str) ++ q ++ ("[" : Str) ++ g ++ ("]" : Str) = r ++ ("[" : Str) ++ f ++ ("]" : Str) ++ (" = " : Str) ++ (q ++ ("[" : Str) ++ g ++ ("]" : Str)):=by
 rw [show ("] = " : Str) = ("]" : Str) ++ (" = " : Str) from by decide +kernel]
 simp only [HP]
theorem Cp (f k g : Str) : f ++ (" " : Str) ++ k ++ (" " : Str) ++ g = f ++ ((" " : Str) ++ k ++ (" " : Str)) ++ g:=by simp only [HP]
def BH (K : PySem.W.Frag) : Sp:=fun vs H Q _ => ∃ (a : Addr) (i : Int) (ns : LI),vs = [.ref a,.int i] /\ SprAt K H a ns /\ True /\ (0 <= i /\ i < 900) /\
 ∀ (l : Addr) (it : It) (H' : Hp),Same H H' -> ItAt ns H' l it -> H l = none -> H it.nl = none -> H it.rl = none -> aN it.st = 0 -> (aq it.st).length <= 205 -> Q (.ref l) H'
theorem Fq {j : Int} (j0 : 0 <= j) (j1 : j < 5) : ∃ κ : Str,atI [V.str (Str.ofString "="),V.str (Str.ofString "<="),V.str (Str.ofString "<"),V.str (Str.ofString "is"),V.str (Str.ofString "like")] j = some (.str κ) /\ κ.length <= 4 /\ (κ = Str.ofString "is" \/ κ = Str.ofString "like" \/ ((κ = Str.ofString "=" \/ κ = Str.ofString "<=" \/ κ = Str.ofString "<") /\ κ ≠ Str.ofString "is" /\ κ ≠ Str.ofString "like")):=by
 have c : j = 0 \/ j = 1 \/ j = 2 \/ j = 3 \/ j = 4:=by omega
 rcases c with c | c | c | c | c <;> subst c
 ·exact ⟨_,rfl,by decide +kernel,.inr (.inr ⟨.inl rfl,by decide +kernel⟩)⟩
 ·exact ⟨_,rfl,by decide +kernel,.inr (.inr ⟨.inr (.inl rfl),by decide +kernel⟩)⟩
 ·exact ⟨_,rfl,by decide +kernel,.inr (.inr ⟨.inr (.inr rfl),by decide +kernel⟩)⟩
 ·exact ⟨_,rfl,by decide +kernel,.inl rfl⟩
 ·exact ⟨_,rfl,by decide +kernel,.inr (.inl rfl)⟩
section
variable {P : Program} {w : World} {K : PySem.W.Frag} {mg : Str -> Option Value} {base : Heap} {f : Addr} {fd : FuncData} {dV : Value}
theorem sc__law_plain : FnScope ["_law_script","_law_at","_law_number","_law_one","_law_first","_law_names","_law_other","_law_second","_law_more","_law_row_here","_law_last","_law_kind","_law_sign","_law_shown_one"] ["_law_script","_law_at"] (ai dJ):=⟨rfl,rfl,rfl,by decide +kernel,rfl,by decide +kernel,by decide +kernel⟩
theorem GP (F : FunD K "_law_plain" "_law_plain" dJ dV f fd) (aC : DefOk P w K mg base "_law_draw" 1 ["_law_script","_law_k"] [] (fS K)) (kZ : DefOk P w K mg base "_law_sum" 3 ["_law_script","_law_at"] [] (D9 K)) (kY : DefOk P w K mg base "_law_row" 2 ["_law_script","_law_number"] [] (Eb K)) (ig : mg "str" = none) (fW : mg "sorted" = none) (sD : mg "set" = none) : FnOk P w K mg base CX0 4 f fd ["_law_script","_law_at"] (BH K):=by
 refine F.ok sc__law_plain (fun vs H Q E h => ?_) (fun cdv A outer s H vs Q E hr h => ?_)
 ·obtain ⟨a,i,ns,rfl,_⟩:=h
  rfl
 obtain ⟨a,i,ns,rfl,hS,h63,⟨i0,i1⟩,k⟩:=h
 refine gP (aw (PSW.mk (ay (i:=2) sc__law_plain.nd rfl (Or.inl rfl) (br aC hr (aa (pv 0) (aa (pv 1) ae)))))
   (aw (PSW.mk (nW (br kZ hr (aa (pv 0) (aa (ak bf (pv 1) ag) ae))) (nU rfl (aP (aG (i:=3) sc__law_plain.nd rfl (Or.inl rfl)) (aP (aG (i:=4) sc__law_plain.nd rfl (Or.inl rfl)) (aP (aG (i:=5) sc__law_plain.nd rfl (Or.inl rfl)) jP))))))
   (aw (PSW.mk (nW (br kZ hr (aa (pv 0) (aa (ak bf (pv 1) ag) ae))) (nU rfl (aP (aG (i:=6) sc__law_plain.nd rfl (Or.inl rfl)) (aP (aG (i:=7) sc__law_plain.nd rfl (Or.inl rfl)) (aP (aG (i:=8) sc__law_plain.nd rfl (Or.inl rfl)) jP))))))
   (aw (PSW.mk (ay (i:=9) sc__law_plain.nd rfl (Or.inl rfl) (br kY hr (aa (pv 0) (aa (ak bh (pv 2) ag) ae)))))
   (aw (PSW.mk (ay (i:=10) sc__law_plain.nd rfl (Or.inl rfl) (br kY hr (aa (pv 0) (aa (ak bh (pv 2) ag) ae)))))
   (aw (pY (i:=11) sc__law_plain.nd rfl (Or.inl rfl) (Hx bg (ie (ao (PEW.mk ar) (ao (PEW.mk ar) (ao (PEW.mk ar) (ao (PEW.mk ar) (ao (PEW.mk ar) bM)))))) (PEW.mk (ak aX (pv 2) ag)) (fun _ _ => rfl)))
   (aw (BO (PTW.mk (aM gI (pv 11) ar (aS _))) (aw (pY (i:=12) sc__law_plain.nd rfl (Or.inl rfl) (Hx bg (ie (ao (PEW.mk ag) (ao (PEW.mk ag) (ao (PEW.mk ag) (ao (PEW.mk (ak aX (ak bh (pv 2) ag) ag)) bM))))) (PEW.mk (ak aX (ak bh (pv 2) ag) ag)) (fun _ _ => rfl)))
   (bC (og (ie (ao (PEW.mk (aV (aa ar (aa (pv 9) (aa (pv 3) (aa (pv 12) ae)))))) (ao (PEW.mk (ak av (ak av (ak av (ak av (pv 9) ar) (pv 4)) ar) (bD ik (by rfl) ig sO (aa (pv 12) ae)))) (ao (PEW.mk ag) (ao (PEW.mk (aD ((dU rfl)) (by rfl) fW kH (aa (bD ((iX rfl)) (by rfl) sD wB (aa (pv 5) ae)) ae))) (ao (PEW.mk (bE (aa (pv 9) ae))) bM))))))))) yo)
   (aw (PSW.mk (ay (i:=5) sc__law_plain.nd rfl (Or.inl rfl) (aD ((dU rfl)) (by rfl) fW kH (aa (bD ((iX rfl)) (by rfl) sD wB (aa (ak nP (pv 5) (pv 8)) ae)) ae))))
   (aw (BO (PTW.mk (aM gI (pv 11) ar (aS _))) (aw (PSW.mk (ay (i:=13) sc__law_plain.nd rfl (Or.inl rfl) (ak av (ak av (ak av (ak av (ak av (ak av (ak av (pv 9) ar) (pv 4)) ar) (pv 10)) ar) (pv 7)) ar)))
   (bC (og (ie (ao (pZ (ao (PEW.mk ar) (ao (PEW.mk (pv 9)) (ao (PEW.mk (pv 3)) (ao (PEW.mk (pv 10)) (ao (PEW.mk (pv 6)) bM)))))) (ao (PEW.mk (pv 13)) (ao (PEW.mk ag) (ao (PEW.mk (pv 5)) (ao (PEW.mk (aD ((dU rfl)) (by rfl) fW kH (aa (bD ((iX rfl)) (by rfl) sD wB (aa (bE (aa (pv 9) (aa (pv 10) ae))) ae)) ae))) bM))))))))) yo)
   (bC (og (ie (ao (PEW.mk (aV (aa (pv 11) (aa (pv 3) (aa (pv 6) ae))))) (ao (PEW.mk (ak av (ak av (ak av (ak av (pv 4) ar) (pv 11)) ar) (pv 7))) (ao (PEW.mk ag) (ao (PEW.mk (pv 5)) (ao (PEW.mk (bE ae)) bM))))))))))))))))) ?_
 refine ⟨_,rfl,_,rfl,a,i,ns,rfl,hS,h63,i0,by omega,?_⟩
 try dsimp only [aF,aK,List.set]
 obtain ⟨n,en⟩ : ∃ n,hX ns i = n:=⟨_,rfl⟩
 have n0:=cX ns i
 rw [en] at n0 ⊢
 refine ⟨_,rfl,_,rfl,_,_,rfl,rfl,a,i + 1,ns,rfl,hS,h63,⟨by omega,by omega⟩,fun l1 nl1 va pa H1 s1 hl1 ha oa nea hn1 f1 => ?_⟩
 refine ⟨l1,_,rfl,qL_ hl1,rfl,_,_,rfl,_,_,rfl,_,_,rfl,rfl,?_⟩
 try dsimp only [aF,aK,List.set]
 refine ⟨_,rfl,_,rfl,_,_,rfl,rfl,a,i + 10,ns,rfl,(hS.same s1),h63,⟨by omega,by omega⟩,fun l2 nl2 vb pb H2 s2 hl2 hb ob neb hn2 f2 => ?_⟩
 refine ⟨l2,_,rfl,qL_ hl2,rfl,_,_,rfl,_,_,rfl,_,_,rfl,rfl,?_⟩
 try dsimp only [aF,aK,List.set]
 have s02:=s1.trans s2
 have ha2:=ha.same (tkS s2)
 have hn1' := s2 _ _ hn1
 refine ⟨_,rfl,_,rfl,_,_,rfl,rfl,⟨by decide,by decide⟩,a,n / 5,ns,rfl,(hS.same s02),h63,fun H3 s3 => ?_⟩
 try dsimp only [aF,aK,List.set]
 have s03:=s02.trans s3
 refine ⟨_,rfl,_,rfl,_,_,rfl,rfl,⟨by decide,by decide⟩,a,n / 15,ns,rfl,(hS.same s03),h63,fun H4 s4 => ?_⟩
 try dsimp only [aF,aK,List.set]
 have s24:=s3.trans s4
 have s04:=s02.trans s24
 obtain ⟨r,er⟩ : ∃ r,rwF ns (n / 5) = r:=⟨_,rfl⟩
 obtain ⟨q,eq⟩ : ∃ q,rwF ns (n / 15) = q:=⟨_,rfl⟩
 have rl:=EX ns (n / 5)
 have ri:=Hh ns (n / 5)
 have rok:=Hi ns (n / 5)
 have ql:=EX ns (n / 15)
 have qi:=Hh ns (n / 15)
 have qok:=Hi ns (n / 15)
 rw [er] at rl ri rok ⊢
 rw [eq] at ql qi qok ⊢
 have rl6:=rok.2.1
 have ql6:=qok.2.1
 refine ⟨(by show 5 <= sizeLine; decide),fun lk hlk => ?_⟩
 have m5:=bH (a:=n) (b:=5) (by decide)
 obtain ⟨κ,ek,kl,kc⟩:=Fq m5.1 m5.2
 have s5:=ah hlk (HO.lst [V.str (Str.ofString "="),V.str (Str.ofString "<="),V.str (Str.ofString "<"),V.str (Str.ofString "is"),V.str (Str.ofString "like")])
 refine ⟨_,rfl,_,_,rfl,rfl,(by show (0 : Int) < 5; decide),lk,_,_,_,rfl,rfl,qL_ af,ek,?_⟩
 obtain ⟨H5,e5⟩ : ∃ H5,upd H4 lk (HO.lst [V.str (Str.ofString "="),V.str (Str.ofString "<="),V.str (Str.ofString "<"),V.str (Str.ofString "is"),V.str (Str.ofString "like")]) = H5:=⟨_,rfl⟩
 rw [e5] at s5 ⊢
 try dsimp only [aF,aK,List.set]
 have s25:=s24.trans s5
 have s05:=s02.trans s25
 have ha5:=ha2.same (tkS s25)
 have hb5:=hb.same (tkS s25)
 have hn1'' := s25 _ _ hn1'
 have hn2'' := s25 _ _ hn2
 have la:=oa.tlen
 have lb:=ob.tlen
 have na:=oa.nlen
 have nb:=ob.nlen
 have zz : ∀ m : Nat,m <= 10000 -> m <= sizeLine:=fun m h => Nat.le_trans h (by decide)
 have c1 : (Str.ofString "[").length = 1:=by decide
 have c2 : (Str.ofString "] = ").length = 4:=by decide
 have c3 : (Str.ofString "]").length = 1:=by decide
 have c4 : (Str.ofString " ").length = 1:=by decide
 refine ⟨_,rfl,rfl,_,rfl,Js (fun c => ?_) (fun c => ?_)⟩
 ·have c' : κ = Str.ofString "is" := V_str.mp c
  have q4:=bH (a:=n / 45) (b:=4) (by decide)
  have q1:=bH (a:=n / 45) (b:=1000000) (by decide)
  refine ⟨_,rfl,_,_,rfl,rfl,⟨by decide,by decide⟩,_,_,rfl,rfl,(by show (0 : Int) < 1000000; decide),(by show 4 <= sizeLine; decide),fun lx hlx => ?_⟩
  have s6:=ah hlx (HO.lst ([0,1,999999,n / 45 % 1000000].map V.int))
  obtain ⟨sg,es⟩ : ∃ sg,([0,1,999999,n / 45 % 1000000] : LI).getD (n / 45 % 4).toNat 0 = sg:=⟨_,rfl⟩
  have sb2 : 0 <= sg /\ sg < 1000000:=by
   rw [<- es]
   refine getD_in q4.1 q4.2 fun x hx => ?_
   simp only [List.mem_cons,List.not_mem_nil,or_false] at hx
   rcases hx with rfl | rfl | rfl | rfl <;> omega
  have sb : 0 <= sg /\ sg < 10000000:=⟨sb2.1,by omega⟩
  have sn6:=JC sb2.1 (show sg <= 999999 by omega)
  refine ⟨_,rfl,_,_,rfl,rfl,⟨by decide,by decide⟩,_,_,rfl,rfl,(by show (0 : Int) < 4; decide),lx,_,_,_,rfl,rfl,qL_ af,rD (ns:=[0,1,999999,n / 45 % 1000000]) q4.1 q4.2,?_⟩
  rw [es]
  obtain ⟨H6,e6⟩ : ∃ H6,upd H5 lx (HO.lst [V.int 0,V.int 1,V.int 999999,V.int (n / 45 % 1000000)]) = H6:=⟨_,rfl⟩
  have s6' : Same H5 H6:=by rw [<- e6]; exact s6
  rw [e6]
  try dsimp only [aF,aK,List.set]
  have nsl:=rQ sb.1 sb.2
  refine ⟨_,rfl,_,rfl,_,rfl,(by show 4 <= sizeLine; decide),fun T hT => ?_⟩
  have s7:=ah hT (HO.tup [V.str (Str.ofString "is"),V.str r,va,V.int sg])
  refine ⟨_,rfl,_,_,rfl,rfl,zz _ (by omega),_,rfl,_,_,rfl,rfl,zz _ (by rw [len_app]; omega),_,_,rfl,rfl,zz _ (by rw [len_app,len_app]; omega),_,rfl,_,rfl,nsl.2,_,_,rfl,rfl,zz _ (by rw [len_app,len_app,len_app]; show _ + (cu sg).length <= 10000; omega),?_⟩
  have s57:=s6'.trans s7
  refine ⟨_,rfl,nl1,fj pa,rfl,s57 _ _ hn1'',by omega,fun S hS' => ?_⟩
  have s8:=ah hS' (lg P w S (fR (fj pa)))
  have ol:=kO (fj pa)
  refine ⟨S,_,rfl,af,by omega,fun lz ms hlz pz so => ?_⟩
  have s9:=ah hlz (HO.lst (ms.map V.str))
  refine ⟨_,rfl,(by show 1 <= sizeLine; decide),fun lr hlr => ?_⟩
  have s10:=ah hlr (HO.lst [V.str r])
  refine ⟨(by show 5 <= sizeLine; decide),fun l hl => ?_⟩
  have s11:=ah hl (HO.lst [V.ref T,V.str (r ++ Str.ofString "[" ++ bx pa ++ Str.ofString "] = " ++ cu sg),V.int 0,V.ref lz,V.ref lr])
  have t7:=s8.trans (s9.trans (s10.trans s11))
  have g7:=s05.trans s57
  refine k l ⟨.sg r pa sg,.ref T,lz,lr,ms,[r]⟩ _ (g7.trans t7) ⟨?_,⟨T,va,rfl,t7 _ _ af,ha5.same (tkS (s57.trans t7))⟩,(s10.trans s11) _ _ af,s11 _ _ af,⟨by omega,oa.ok,sb.1,sb.2⟩,IsNm.of_sorted pz so,⟨List.pairwise_singleton ..,List.nodup_cons.mpr ⟨by simp,List.nodup_nil⟩,fun x => Iff.rfl⟩,fun x hx => ?_,(fun x hx => by rw [List.mem_singleton.mp hx]; exact ri),⟨rok,⟨nea,oa.le,oa.rd⟩,sb2.1,(show sg <= 999999 by omega)⟩⟩ ((g7.trans (s8.trans (s9.trans s10))).free hl) ((g7.trans s8).free hlz) ((g7.trans (s8.trans s9)).free hlr) rfl ?_
  ·rw [af]
   show some (HO.lst [V.ref T,V.str (r ++ Str.ofString "[" ++ bx pa ++ Str.ofString "] = " ++ cu sg),V.int 0,V.ref lz,V.ref lr]) = _
   rw [EG]
   rfl
  ·exact oa.nm x (once_memS.mp (pz.mem_iff.mp hx))
  ·show (kC r pa ++ (" = " : Str) ++ cu sg).length <= 205
   unfold kC
   rw [<- EG,len_app,len_app,len_app,len_app]
   have : (("] = " : Str)).length = 4:=by decide
   have : (("[" : Str)).length = 1:=by decide
   omega
 ·have nis : κ ≠ Str.ofString "is" := fun z => c (V_str.mpr z)
  try dsimp only [aF,aK,List.set]
  refine di (t:=sy _ _) (fun σ' H8 => ∃ (lz : Addr) (ms : List Str),σ' = [some (.ref a),some (.int i),some (.int n),some va,some (.str (bx pa)),some (.ref lz),some vb,some (.str (bx pb)),some (.ref nl2),some (.str r),some (.str q),some (.str κ),none,none] /\ Same H5 H8 /\ H8 lz = some (.lst (ms.map V.str)) /\ H lz = none /\ IsNm ms (fj pa ++ fj pb)) ?_ (fun D' nxt => ?_)
  rotate_left
  ·refine ⟨_,rfl,_,rfl,nl1,nl2,_,_,rfl,rfl,hn1'',hn2'',zz _ (by rw [lm_,lm_]; omega),fun lc hlc => ?_⟩
   have s6:=ah hlc (HO.lst ((fj pa).map V.str ++ (fj pb).map V.str))
   refine ⟨lc,fj pa ++ fj pb,rfl,by rw [af,List.map_append],by rw [List.length_append]; omega,fun S hS' => ?_⟩
   have s7:=ah hS' (lg P w S (fR (fj pa ++ fj pb)))
   have ol:=kO (fj pa ++ fj pb)
   rw [List.length_append] at ol
   refine ⟨S,_,rfl,af,by omega,fun lz ms hlz pz so => ?_⟩
   exact nxt _ _ ⟨lz,ms,rfl,s6.trans (s7.trans (ah hlz (HO.lst (ms.map V.str)))),af,(s05.trans (s6.trans s7)).free hlz,IsNm.of_sorted pz so⟩
  rintro σ' H8 ⟨lz,ms,rfl,s58,hz8,fz,isn⟩
  have isi : ∀ x ∈ ms,x ∈ nm4 ns:=fun x hx => by
   rcases ma_.mp ((isn.mem x).mp hx) with z | z
   ·exact oa.nm x z
   ·exact ob.nm x z
  have g8:=s05.trans s58
  have ha8:=ha5.same (tkS s58)
  have hb8:=hb5.same (tkS s58)
  refine ⟨_,rfl,rfl,_,rfl,Js (fun c => ?_) (fun c => ?_)⟩
  ·refine ⟨_,rfl,_,_,rfl,rfl,zz _ (by omega),_,rfl,_,_,rfl,rfl,zz _ (by rw [len_app]; omega),_,_,rfl,rfl,zz _ (by rw [len_app,len_app]; omega),_,rfl,_,_,rfl,rfl,zz _ (by rw [len_app,len_app,len_app]; omega),_,_,rfl,rfl,zz _ (by rw [len_app,len_app,len_app,len_app]; omega),_,rfl,_,_,rfl,rfl,zz _ (by rw [len_app,len_app,len_app,len_app,len_app]; omega),_,_,rfl,rfl,zz _ (by rw [len_app,len_app,len_app,len_app,len_app,len_app]; omega),?_⟩
   try dsimp only [aF,aK,List.set]
   refine ⟨_,rfl,_,rfl,_,rfl,_,rfl,(by show 5 <= sizeLine; decide),fun T hT => ?_⟩
   have s9:=ah hT (HO.tup [V.str (Str.ofString "like"),V.str r,va,V.str q,vb])
   refine ⟨_,rfl,_,rfl,_,rfl,_,rfl,(by show 2 <= sizeLine; decide),fun ly hly => ?_⟩
   have s10:=ah hly (HO.lst [V.str r,V.str q])
   refine ⟨ly,[r,q],rfl,af,(by show 2 < 4000; decide),fun S2 hS2 => ?_⟩
   have s11:=ah hS2 (lg P w S2 (fR [r,q]))
   have ol2:=kO [r,q]
   refine ⟨S2,_,rfl,af,Nat.lt_of_le_of_lt ol2 (by show 2 < 64; decide),fun lr mr hlr pr sor => ?_⟩
   have s12:=ah hlr (HO.lst (mr.map V.str))
   refine ⟨(by show 5 <= sizeLine; decide),fun l hl => ?_⟩
   have s13:=ah hl (HO.lst [V.ref T,V.str (r ++ Str.ofString "[" ++ bx pa ++ Str.ofString "] = " ++ q ++ Str.ofString "[" ++ bx pb ++ Str.ofString "]"),V.int 0,V.ref lz,V.ref lr])
   have t9:=s10.trans (s11.trans (s12.trans s13))
   have isr : IsNm mr [r,q]:=IsNm.of_sorted pr sor
   refine k l ⟨.lk r pa q pb,.ref T,lz,lr,ms,mr⟩ _ (g8.trans (s9.trans t9)) ⟨?_,⟨T,va,vb,rfl,t9 _ _ af,ha8.same (tkS (s9.trans t9)),hb8.same (tkS (s9.trans t9))⟩,(s9.trans t9) _ _ hz8,s13 _ _ af,⟨by omega,oa.ok,by omega,ob.ok⟩,isn,isr,isi,fun x hx => ?_,⟨rok,⟨nea,oa.le,oa.rd⟩,qok,⟨neb,ob.le,ob.rd⟩⟩⟩ ((g8.trans (s9.trans (s10.trans (s11.trans s12)))).free hl) fz ((g8.trans (s9.trans (s10.trans s11))).free hlr) rfl ?_
   ·rw [af]
    show some (HO.lst [V.ref T,V.str (r ++ Str.ofString "[" ++ bx pa ++ Str.ofString "] = " ++ q ++ Str.ofString "[" ++ bx pb ++ Str.ofString "]"),V.int 0,V.ref lz,V.ref lr]) = _
    rw [EF]
    rfl
   ·have:=(isr.mem x).mp hx
    simp only [List.mem_cons,List.not_mem_nil,or_false] at this
    rcases this with rfl | rfl
    ·exact ri
    ·exact qi
   ·show (kC r pa ++ (" = " : Str) ++ kC q pb).length <= 205
    unfold kC
    rw [<- EF,len_app,len_app,len_app,len_app,len_app,len_app,len_app]
    have : (("] = " : Str)).length = 4:=by decide
    have : (("[" : Str)).length = 1:=by decide
    have : (("]" : Str)).length = 1:=by decide
    omega
  ·have nlk : κ ≠ Str.ofString "like" := fun z => c (V_str.mpr z)
   have kc' : κ = Str.ofString "=" \/ κ = Str.ofString "<=" \/ κ = Str.ofString "<" := by
    rcases kc with z | z | z
    ·exact absurd z nis
    ·exact absurd z nlk
    ·exact z.1
   refine ⟨_,rfl,_,rfl,_,rfl,(by show 3 <= sizeLine; decide),fun T hT => ?_⟩
   have s9:=ah hT (HO.tup [V.str κ,va,vb])
   refine ⟨_,rfl,_,_,rfl,rfl,zz _ (by omega),_,rfl,_,_,rfl,rfl,zz _ (by rw [len_app]; omega),_,_,rfl,rfl,zz _ (by rw [len_app,len_app]; omega),_,rfl,_,_,rfl,rfl,zz _ (by rw [len_app,len_app,len_app]; omega),?_⟩
   refine ⟨_,rfl,(by show 0 <= sizeLine; decide),fun lr hlr => ?_⟩
   have s10:=ah hlr (HO.lst [])
   refine ⟨(by show 5 <= sizeLine; decide),fun l hl => ?_⟩
   have s11:=ah hl (HO.lst [V.ref T,V.str (bx pa ++ Str.ofString " " ++ κ ++ Str.ofString " " ++ bx pb),V.int 0,V.ref lz,V.ref lr])
   have t9:=s10.trans s11
   refine k l ⟨.cmp κ pa pb,.ref T,lz,lr,ms,[]⟩ _ (g8.trans (s9.trans t9)) ⟨?_,⟨T,va,vb,rfl,t9 _ _ af,ha8.same (tkS (s9.trans t9)),hb8.same (tkS (s9.trans t9))⟩,(s9.trans t9) _ _ hz8,s11 _ _ af,⟨kc',oa.ok,ob.ok⟩,isn,⟨List.Pairwise.nil,List.nodup_nil,fun x => Iff.rfl⟩,isi,(fun x hx => by cases hx),⟨kc',⟨nea,oa.le,oa.rd⟩,⟨neb,ob.le,ob.rd⟩⟩⟩ ((g8.trans (s9.trans s10)).free hl) fz ((g8.trans s9).free hlr) rfl ?_
   ·rw [af]
    show some (HO.lst [V.ref T,V.str (bx pa ++ Str.ofString " " ++ κ ++ Str.ofString " " ++ bx pb),V.int 0,V.ref lz,V.ref lr]) = _
    rw [Cp]
    rfl
   ·show (bx pa ++ ((" " : Str) ++ κ ++ (" " : Str)) ++ bx pb).length <= 205
    rw [<- Cp,len_app,len_app,len_app,len_app]
    have : ((" " : Str)).length = 1:=by decide
    omega
end
def Ec (K : PySem.W.Frag) : Sp:=fun vs H Q _ => ∃ (a b : Addr) (n : Int) (ns : LI) (it : It),vs = [.ref a,.ref b,.int n] /\ SprAt K H a ns /\ True /\ 0 <= n /\ ItAt ns H b it /\ (aq it.st).length <= 100000 /\
 ∀ (l : Addr) (it' : It) (H' : Hp),Same H H' -> ItAt ns H' l it' -> H l = none -> (it'.nl = it.nl \/ H it'.nl = none) -> it'.rl = it.rl -> aN it'.st = 1 + aN it.st -> (aq it'.st).length <= (aq it.st).length + 13 -> Q (.ref l) H'
def E2 : Sp:=fun vs H Q _ => ∃ (b c : Addr) (n : Int) (ns : LI) (it jt : It),vs = [.ref b,.ref c,.int n] /\ ItAt ns H b it /\ ItAt ns H c jt /\ (aq it.st).length <= 100000 /\ (aq jt.st).length <= 100000 /\
 ∀ (l : Addr) (it' : It) (H' : Hp),Same H H' -> ItAt ns H' l it' -> H l = none -> H it'.nl = none -> H it'.rl = none -> aN it'.st = 1 + max (aN it.st) (aN jt.st) -> (aq it'.st).length <= (aq it.st).length + (aq jt.st).length + 7 -> Q (.ref l) H'
theorem IsNm.filter {zs xs : List Str} (h : IsNm zs xs) (p : Str -> Bool) : IsNm (zs.filter p) (xs.filter p):=
 ⟨h.so.filter _,h.nd.filter _,fun x => by rw [List.mem_filter,List.mem_filter,h.mem]⟩
theorem IP {ns : List Str} {i : Nat} {y : V} (h : (ns.map V.str)[i]? = some y) : ∃ z,y = V.str z /\ ns[i]? = some z:=by
 rw [List.getElem?_map] at h
 cases e : ns[i]? with
 | none => rw [e] at h; cases h
 | some z => rw [e] at h; exact ⟨z,(Option.some.inj h).symm,rfl⟩
theorem IX {xs : List Str} {i : Nat} {x : Str} {p : Str -> Bool} (h : xs[i]? = some x) : (xs.take (i + 1)).filter p = (xs.take i).filter p ++ (if p x = true then [x] else []):=by
 rw [List.take_add_one,h,List.filter_append]
 congr 1
 by_cases c : p x = true
 ·rw [if_pos c]; exact List.filter_cons_of_pos c
 ·rw [if_neg c]; exact List.filter_cons_of_neg c
theorem Ie (a k b : Str) : ("(" : Str) ++ a ++ (" " : Str) ++ k ++ (" " : Str) ++ b ++ (")" : Str) = ("(" : Str) ++ a ++ ((" " : Str) ++ k ++ (" " : Str)) ++ b ++ (")" : Str):=by simp only [HP]
theorem Ii {a b : Nat} : (if (b : Int) > (a : Int) then (b : Int) else (a : Int)) = ((max a b : Nat) : Int):=by
 split <;> omega
section
variable {P : Program} {w : World} {K : PySem.W.Frag} {mg : Str -> Option Value} {base : Heap} {f : Addr} {fd : FuncData} {dV : Value}
theorem sc__law_wrapped : FnScope ["_law_script","_law_item","_law_number","_law_statement","_law_line","_law_deep_here","_law_names","_law_rows","_law_kind","_law_name_here","_law_left"] ["_law_script","_law_item","_law_number"] (ai bO):=⟨rfl,rfl,rfl,by decide +kernel,rfl,by decide +kernel,by decide +kernel⟩
theorem bk__law_wrapped_0 : BlkScope ["_law_script","_law_item","_law_number","_law_statement","_law_line","_law_deep_here","_law_names","_law_rows","_law_kind","_law_name_here","_law_left"] (ai bO) ["_law_one","_law_name_here"] [none,some 9] { kind:=ScopeKind.function,names:=[(".0",NameKind.local),("_law_one",NameKind.local),("_law_name_here",NameKind.free)],isGenerator:=false,isCoroutine:=false,more:=[] }:=⟨rfl,by decide +kernel,by decide +kernel,by decide +kernel,by decide +kernel,rfl,by decide +kernel⟩
theorem sc__law_two : FnScope ["_law_one","_law_other","_law_number","_law_kind","_law_line","_law_names"] ["_law_one","_law_other","_law_number"] (ai gn):=⟨rfl,rfl,rfl,by decide +kernel,rfl,by decide +kernel,by decide +kernel⟩
theorem Iw (F : FunD K "_law_wrapped" "_law_wrapped" bO dV f fd) (cy : DefOk P w K mg base "_law_name" 2 ["_law_script","_law_number"] [] (yf K)) : FnOk P w K mg base CX0 3 f fd ["_law_script","_law_item","_law_number"] (Ec K):=by
 refine F.ok sc__law_wrapped (fun vs H Q E h => ?_) (fun cdv A outer s H vs Q E hr h => ?_)
 ·obtain ⟨a,b,n,ns,it,rfl,_⟩:=h
  rfl
 obtain ⟨a,b,n,ns,it,rfl,hS,h63,n0,I,bd,k⟩:=h
 obtain ⟨st,v,nl,rl,names,rows⟩:=it
 have few : names.length <= 4:=I.few.1
 have zz : ∀ m : Nat,m <= 200000 -> m <= sizeLine:=fun m h => Nat.le_trans h (by decide)
 refine gP (aw (PSW.mk (nW (pv 1) (nU rfl (aP (aG (i:=3) sc__law_wrapped.nd rfl (Or.inl rfl)) (aP (aG (i:=4) sc__law_wrapped.nd rfl (Or.inl rfl)) (aP (aG (i:=5) sc__law_wrapped.nd rfl (Or.inl rfl)) (aP (aG (i:=6) sc__law_wrapped.nd rfl (Or.inl rfl)) (aP (aG (i:=7) sc__law_wrapped.nd rfl (Or.inl rfl)) jP))))))))
   (aw (BO (PTW.mk (aM gI (ak aX (pv 2) ag) ag (aS _))) (bC (og (ie (ao (PEW.mk (aV (aa ar (aa (pv 3) ae)))) (ao (PEW.mk (ak av ar (pv 4))) (ao (PEW.mk (ak bf (pv 5) ag)) (ao (PEW.mk (pv 6)) (ao (PEW.mk (pv 7)) bM)))))))) yo)
   (aw (PSW.mk (ay (i:=8) sc__law_wrapped.nd rfl (Or.inl rfl) (cC bg (bE (aa ar (aa ar ae))) (ak jy (ak aX (pv 2) ag) ag) (fun _ _ => rfl))))
   (aw (PSW.mk (ay (i:=9) sc__law_wrapped.nd rfl (Or.inr rfl) (br cy hr (aa (pv 0) (aa (ak bh (pv 2) ag) ae)))))
   (aw (PSW.mk (uG (i:=10) rfl sc__law_wrapped.nd rfl (Or.inl rfl) bk__law_wrapped_0 (vZ (pv 6)) (fun _ _ _ _ => (aG (i:=0) bk__law_wrapped_0.nd rfl (Or.inl rfl))) (fun _ _ _ _ => (aM GW (pv 0) (pv 1) (aS _))) (fun _ _ _ _ => (pv 0))))
   (bC (og (ie (ao (PEW.mk (aV (aa (pv 8) (aa (pv 9) (aa (pv 3) ae))))) (ao (PEW.mk (ak av (ak av (ak av (ak av (pv 8) ar) (pv 9)) ar) (pv 4))) (ao (PEW.mk (ak bf (pv 5) ag)) (ao (PEW.mk (pv 10)) (ao (PEW.mk (pv 7)) bM))))))))))))) ?_
 refine ⟨_,rfl,b,_,rfl,qL_ I.li,rfl,_,_,rfl,_,_,rfl,_,_,rfl,_,_,rfl,_,_,rfl,rfl,?_⟩
 try dsimp only [aF,aK,List.set]
 have dd : ((aN st : Nat) : Int) + 1 = ((1 + aN st : Nat) : Int):=by omega
 refine ⟨_,rfl,_,_,rfl,rfl,(by show (0 : Int) < 3; decide),rfl,_,rfl,AG (fun c => ?_) (fun c => ?_)⟩
 ·refine ⟨_,rfl,(by show 2 <= sizeLine; decide),fun T hT => ?_⟩
  have s1:=ah hT (HO.tup [V.str (Str.ofString "not"),v])
  have l4 : (Str.ofString "not ").length = 4:=by decide
  have l4' : (("not " : Str)).length = 4:=by decide
  refine ⟨_,rfl,_,_,rfl,rfl,zz _ (by show _ + (aq st).length <= _; have : (aq st).length <= 100000:=bd; omega),_,rfl,_,_,rfl,rfl,_,rfl,_,rfl,(by show 5 <= sizeLine; decide),fun l hl => ?_⟩
  have s2:=ah hl (HO.lst [V.ref T,V.str (Str.ofString "not " ++ aq st),V.int ((aN st : Int) + 1),V.ref nl,V.ref rl])
  have s12:=s1.trans s2
  refine k l ⟨.no st,.ref T,nl,rl,names,rows⟩ _ s12 ⟨?_,⟨T,v,rfl,s2 _ _ af,StAt.same (tkS s12) I.sv⟩,s12 _ _ I.hn,s12 _ _ I.hr,I.wf,I.nm,I.rs,I.ni,I.ri,I.wr⟩ (s1.free hl) (.inl rfl) rfl rfl ?_
  ·rw [af]
   show some (HO.lst [V.ref T,V.str (Str.ofString "not " ++ aq st),V.int ((aN st : Int) + 1),V.ref nl,V.ref rl]) = _
   rw [dd]
   rfl
  ·show (("not " : Str) ++ aq st).length <= _
   rw [len_app]
   show _ <= (aq st).length + 13
   omega
 ·have m3:=bH (a:=n) (b:=3) (by decide)
  refine ⟨(by show 2 <= sizeLine; decide),fun Lk hLk => ?_⟩
  have s1:=ah hLk (HO.lst [V.str (Str.ofString "some"),V.str (Str.ofString "all")])
  obtain ⟨κ,ek,kl,kc⟩ : ∃ κ : Str,atI [V.str (Str.ofString "some"),V.str (Str.ofString "all")] (n % 3 - 1) = some (.str κ) /\ κ.length <= 4 /\ (κ = ("some" : Str) \/ κ = ("all" : Str)):=by
   have e : n % 3 = 1 \/ n % 3 = 2:=by omega
   rcases e with e | e <;> rw [e]
   ·exact ⟨_,rfl,by decide +kernel,.inl rfl⟩
   ·exact ⟨_,rfl,by decide +kernel,.inr rfl⟩
  refine ⟨_,rfl,_,_,rfl,rfl,(by show (0 : Int) < 3; decide),_,_,rfl,rfl,Lk,_,_,_,rfl,rfl,qL_ af,ek,?_⟩
  try dsimp only [aF,aK,List.set]
  obtain ⟨H1,e1⟩ : ∃ H1,upd H Lk (HO.lst [V.str (Str.ofString "some"),V.str (Str.ofString "all")]) = H1:=⟨_,rfl⟩
  rw [e1] at s1 ⊢
  refine ⟨_,rfl,_,rfl,_,_,rfl,rfl,⟨by decide,by decide⟩,a,n / 3,ns,rfl,(hS.same s1),h63,fun H2 s2 => ?_⟩
  try dsimp only [aF,aK,List.set]
  obtain ⟨nm,enm⟩ : ∃ nm,nmF ns (n / 3) = nm:=⟨_,rfl⟩
  have nml:=EM ns (n / 3)
  have nok:=DC ns (n / 3)
  rw [enm] at nml nok ⊢
  have nml6:=nok.1.2.1
  have s02:=s1.trans s2
  have hn2 : H2 nl = some (.lst (names.map V.str)):=s02 _ _ I.hn
  refine di (t:=sy _ _) (fun σ' H3 => ∃ lf : Addr,σ' = [some (.ref a),some (.ref b),some (.int n),some v,some (.str (aq st)),some (.int (aN st : Int)),some (.ref nl),some (.ref rl),some (.str κ),some (.str nm),some (.ref lf)] /\ Same H2 H3 /\ H lf = none /\ H3 lf = some (.lst ((names.filter fun x => decide (x ≠ nm)).map V.str))) ?_ (fun D' nxt => ?_)
  rotate_left
  ·refine ⟨_,rfl,nl,rfl,⟨_,qL_ hn2⟩,?_⟩
   refine wK (K:=K) (xs:=names.map V.str) (fun D j ys H' => Same H2 H' /\ ys = ((names.take j).filter fun x => decide (x ≠ nm)).map V.str) (fun D hD => ⟨ah hD _,rfl⟩) (fun D j ys H' _ ⟨e,_⟩ => qL_ (e _ _ hn2)) ?_ ?_
   ·rintro D j y ys H' Qy Qn hD hj hy ⟨hs,rfl⟩ ky kn
    obtain ⟨x,rfl,hx⟩:=IP hj
    have fl:=List.length_filter_le (fun x => decide (x ≠ nm)) (names.take j)
    rw [List.length_take] at fl
    refine ⟨_,rfl,_,rfl,rfl,_,rfl,Ko (fun c => ?_) (fun c => ?_)⟩
    ·have c' : x ≠ nm:=fun z => c (V_str.mpr z)
     refine ⟨_,rfl,ky _ _ hy (fg (by rw [lm_]; omega)) ⟨bu hs hD,?_⟩⟩
     rw [IX hx,if_pos (decide_eq_true c'),List.map_append]
     rfl
    ·have c' : ¬ x ≠ nm:=fun z => z (V_str.mp c)
     refine kn _ hy ⟨hs,?_⟩
     rw [IX hx,if_neg (fun z => c' (of_decide_eq_true z)),List.append_nil]
   ·rintro lf ys H3 fl hy ⟨s3,rfl⟩
    rw [lm_,List.take_length] at hy
    exact nxt _ _ ⟨lf,rfl,s3,s02.free fl,hy⟩
  rintro σ' H3 ⟨lf,rfl,s3,ff,hlf⟩
  have s03:=s02.trans s3
  have l1 : (Str.ofString " ").length = 1:=by decide
  have l2 : (Str.ofString ": ").length = 2:=by decide
  have bd' : (aq st).length <= 100000:=bd
  refine ⟨_,rfl,_,rfl,_,rfl,(by show 3 <= sizeLine; decide),fun T hT => ?_⟩
  have s4:=ah hT (HO.tup [V.str κ,V.str nm,v])
  refine ⟨_,rfl,_,_,rfl,rfl,zz _ (by omega),_,rfl,_,_,rfl,rfl,zz _ (by rw [len_app]; omega),_,_,rfl,rfl,zz _ (by rw [len_app,len_app]; omega),_,rfl,_,_,rfl,rfl,zz _ (by rw [len_app,len_app,len_app]; omega),?_⟩
  refine ⟨_,rfl,_,_,rfl,rfl,_,rfl,_,rfl,(by show 5 <= sizeLine; decide),fun l hl => ?_⟩
  have s5:=ah hl (HO.lst [V.ref T,V.str (κ ++ Str.ofString " " ++ nm ++ Str.ofString ": " ++ aq st),V.int ((aN st : Int) + 1),V.ref lf,V.ref rl])
  have s05:=s03.trans (s4.trans s5)
  refine k l ⟨.ch κ nm st,.ref T,lf,rl,names.filter fun x => decide (x ≠ nm),rows⟩ _ s05 ⟨?_,⟨T,v,rfl,s5 _ _ af,StAt.same (tkS s05) I.sv⟩,(s4.trans s5) _ _ hlf,s05 _ _ I.hr,⟨kc,by omega,I.wf⟩,I.nm.filter _,I.rs,fun x hx => I.ni x (List.mem_filter.mp hx).1,I.ri,⟨kc,nok,I.wr⟩⟩ ((s03.trans s4).free hl) (.inr ff) rfl rfl ?_
  ·rw [af]
   show some (HO.lst [V.ref T,V.str (κ ++ Str.ofString " " ++ nm ++ Str.ofString ": " ++ aq st),V.int ((aN st : Int) + 1),V.ref lf,V.ref rl]) = _
   rw [dd]
   rfl
  ·show (κ ++ (" " : Str) ++ nm ++ (": " : Str) ++ aq st).length <= (aq st).length + 13
   rw [len_app,len_app,len_app,len_app]
   have : ((" " : Str)).length = 1:=by decide
   have : ((": " : Str)).length = 2:=by decide
   omega
theorem JH (F : FunD K "_law_two" "_law_two" gn dV f fd) (sC : mg "max" = none) (fW : mg "sorted" = none) (sD : mg "set" = none) : FnOk P w K mg base CX0 1 f fd ["_law_one","_law_other","_law_number"] E2:=by
 refine F.ok sc__law_two (fun vs H Q E h => ?_) (fun cdv A outer s H vs Q E hr h => ?_)
 ·obtain ⟨b,c,n,ns,it,jt,rfl,_⟩:=h
  rfl
 obtain ⟨b,c,n,ns,it,jt,rfl,I,J,bi,bj,k⟩:=h
 obtain ⟨st,v,nl,rl,names,rows⟩:=it
 obtain ⟨st2,v2,nl2,rl2,names2,rows2⟩:=jt
 have few : names.length <= 4 /\ rows.length <= 3:=I.few
 have few2 : names2.length <= 4 /\ rows2.length <= 3:=J.few
 have zz : ∀ m : Nat,m <= 300000 -> m <= sizeLine:=fun m h => Nat.le_trans h (by decide)
 have bi' : (aq st).length <= 100000:=bi
 have bj' : (aq st2).length <= 100000:=bj
 refine gP (aw (PSW.mk (ay (i:=3) sc__law_two.nd rfl (Or.inl rfl) (cC bg (bE (aa ar (aa ar ae))) (ak aX (pv 2) ag) (fun _ _ => rfl))))
   (aw (PSW.mk (ay (i:=4) sc__law_two.nd rfl (Or.inl rfl) (ak av (ak av (ak av (ak av (ak av (ak av ar (cC bg (pv 0) ag (fun _ _ => rfl))) ar) (pv 3)) ar) (cC bg (pv 1) ag (fun _ _ => rfl))) ar)))
   (aw (PSW.mk (ay (i:=5) sc__law_two.nd rfl (Or.inl rfl) (aD ((dU rfl)) (by rfl) fW kH (aa (bD ((iX rfl)) (by rfl) sD wB (aa (ak nP (cC bg (pv 0) ag (fun _ _ => rfl)) (cC bg (pv 1) ag (fun _ _ => rfl))) ae)) ae))))
   (bC (og (ie (ao (pZ (ao (PEW.mk (pv 3)) (ao (PEW.mk (cC bg (pv 0) ag (fun _ _ => rfl))) (ao (PEW.mk (cC bg (pv 1) ag (fun _ _ => rfl))) bM)))) (ao (PEW.mk (pv 4)) (ao (PEW.mk (ak bf ag (aD (zy rfl) (by rfl) sC C9 (aa (cC bg (pv 0) ag (fun _ _ => rfl)) (aa (cC bg (pv 1) ag (fun _ _ => rfl)) ae))))) (ao (PEW.mk (pv 5)) (ao (PEW.mk (aD ((dU rfl)) (by rfl) fW kH (aa (bD ((iX rfl)) (by rfl) sD wB (aa (ak nP (cC bg (pv 0) ag (fun _ _ => rfl)) (cC bg (pv 1) ag (fun _ _ => rfl))) ae)) ae))) bM))))))))))) ?_
 refine ⟨(by show 2 <= sizeLine; decide),fun Lk hLk => ?_⟩
 have s1:=ah hLk (HO.lst [V.str (Str.ofString "and"),V.str (Str.ofString "or")])
 have m2:=bH (a:=n) (b:=2) (by decide)
 obtain ⟨κ,ek,kl,kc⟩ : ∃ κ : Str,atI [V.str (Str.ofString "and"),V.str (Str.ofString "or")] (n % 2) = some (.str κ) /\ κ.length <= 3 /\ (κ = ("and" : Str) \/ κ = ("or" : Str)):=by
  have e : n % 2 = 0 \/ n % 2 = 1:=by omega
  rcases e with e | e <;> rw [e]
  ·exact ⟨_,rfl,by decide +kernel,.inl rfl⟩
  ·exact ⟨_,rfl,by decide +kernel,.inr rfl⟩
 refine ⟨_,rfl,_,_,rfl,rfl,(by show (0 : Int) < 2; decide),Lk,_,_,_,rfl,rfl,qL_ af,ek,?_⟩
 try dsimp only [aF,aK,List.set]
 obtain ⟨H1,e1⟩ : ∃ H1,upd H Lk (HO.lst [V.str (Str.ofString "and"),V.str (Str.ofString "or")]) = H1:=⟨_,rfl⟩
 rw [e1] at s1 ⊢
 have I1:=I.same s1
 have J1:=J.same s1
 have l1 : (Str.ofString "(").length = 1:=by decide
 have l2 : (Str.ofString " ").length = 1:=by decide
 have l3 : (Str.ofString ")").length = 1:=by decide
 refine ⟨_,rfl,b,_,_,_,rfl,rfl,qL_ I1.li,rfl,_,_,rfl,rfl,zz _ (by show _ + (aq st).length <= _; omega),_,_,rfl,rfl,zz _ (by rw [len_app]; show _ + (aq st).length + _ <= _; omega),_,rfl,_,_,rfl,rfl,zz _ (by rw [len_app,len_app]; show _ + (aq st).length + _ + _ <= _; omega),_,_,rfl,rfl,zz _ (by rw [len_app,len_app,len_app]; show _ + (aq st).length + _ + _ + _ <= _; omega),_,rfl,c,_,_,_,rfl,rfl,qL_ J1.li,rfl,_,_,rfl,rfl,zz _ (by rw [len_app,len_app,len_app,len_app]; show _ + (aq st).length + _ + _ + _ + (aq st2).length <= _; omega),_,_,rfl,rfl,zz _ (by rw [len_app,len_app,len_app,len_app,len_app]; show _ + (aq st).length + _ + _ + _ + (aq st2).length + _ <= _; omega),?_⟩
 try dsimp only [aF,aK,List.set]
 obtain ⟨ln,eln⟩ : ∃ ln,Str.ofString "(" ++ aq st ++ Str.ofString " " ++ κ ++ Str.ofString " " ++ aq st2 ++ Str.ofString ")" = ln:=⟨_,rfl⟩
 have eln2 : ln = aq (.jn κ st st2):=by rw [<- eln]; exact Ie _ _ _
 rw [eln]
 refine di (t:=sy _ _) (fun σ' H2 => ∃ (lz : Addr) (ms : List Str),σ' = [some (.ref b),some (.ref c),some (.int n),some (.str κ),some (.str ln),some (.ref lz)] /\ Same H1 H2 /\ H2 lz = some (.lst (ms.map V.str)) /\ H lz = none /\ IsNm ms (names ++ names2)) ?_ (fun D' nxt => ?_)
 rotate_left
 ·refine ⟨_,rfl,b,_,_,_,rfl,rfl,qL_ I1.li,rfl,_,rfl,c,_,_,_,rfl,rfl,qL_ J1.li,rfl,nl,nl2,_,_,rfl,rfl,I1.hn,J1.hn,zz _ (by rw [lm_,lm_]; show names.length + names2.length <= _; omega),fun lc hlc => ?_⟩
  have s6:=ah hlc (HO.lst (names.map V.str ++ names2.map V.str))
  refine ⟨lc,names ++ names2,rfl,by rw [af,List.map_append],by rw [List.length_append]; omega,fun S hS' => ?_⟩
  have s7:=ah hS' (lg P w S (fR (names ++ names2)))
  have ol:=kO (names ++ names2)
  rw [List.length_append] at ol
  refine ⟨S,_,rfl,af,by omega,fun lz ms hlz pz so => ?_⟩
  exact nxt _ _ ⟨lz,ms,rfl,s6.trans (s7.trans (ah hlz (HO.lst (ms.map V.str)))),af,(s1.trans (s6.trans s7)).free hlz,IsNm.of_sorted pz so⟩
 rintro σ' H2 ⟨lz,ms,rfl,s2,hz,fz,isn⟩
 have s02:=s1.trans s2
 have I2:=I.same s02
 have J2:=J.same s02
 refine ⟨_,rfl,_,rfl,b,_,_,_,rfl,rfl,qL_ I2.li,rfl,_,rfl,c,_,_,_,rfl,rfl,qL_ J2.li,rfl,(by show 3 <= sizeLine; decide),fun T hT => ?_⟩
 have s3:=ah hT (HO.tup [V.str κ,v,v2])
 have s03:=s02.trans s3
 have I3:=I.same s03
 have J3:=J.same s03
 refine ⟨_,rfl,_,rfl,b,_,_,_,rfl,rfl,qL_ I3.li,rfl,_,rfl,c,_,_,_,rfl,rfl,qL_ J3.li,rfl,_,_,rfl,_,_,rfl,rfl,_,rfl,?_⟩
 refine ⟨_,rfl,b,_,_,_,rfl,rfl,qL_ I3.li,rfl,_,rfl,c,_,_,_,rfl,rfl,qL_ J3.li,rfl,rl,rl2,_,_,rfl,rfl,I3.hr,J3.hr,zz _ (by rw [lm_,lm_]; show rows.length + rows2.length <= _; omega),fun lc hlc => ?_⟩
 have s4:=ah hlc (HO.lst (rows.map V.str ++ rows2.map V.str))
 refine ⟨lc,rows ++ rows2,rfl,by rw [af,List.map_append],by rw [List.length_append]; omega,fun S hS' => ?_⟩
 have s5:=ah hS' (lg P w S (fR (rows ++ rows2)))
 have ol:=kO (rows ++ rows2)
 rw [List.length_append] at ol
 refine ⟨S,_,rfl,af,by omega,fun lr mr hlr pr sor => ?_⟩
 have s6:=ah hlr (HO.lst (mr.map V.str))
 have isr : IsNm mr (rows ++ rows2):=IsNm.of_sorted pr sor
 refine ⟨(by show 5 <= sizeLine; decide),fun l hl => ?_⟩
 have s7:=ah hl (HO.lst [V.ref T,V.str ln,V.int (1 + (if (aN st2 : Int) > (aN st : Int) then (aN st2 : Int) else (aN st : Int))),V.ref lz,V.ref lr])
 have t4:=s4.trans (s5.trans (s6.trans s7))
 have s07:=s03.trans t4
 refine k l ⟨.jn κ st st2,.ref T,lz,lr,ms,mr⟩ _ s07 ⟨?_,⟨T,v,v2,rfl,t4 _ _ af,StAt.same (tkS s07) I.sv,StAt.same (tkS s07) J.sv⟩,(s3.trans t4) _ _ hz,s7 _ _ af,⟨kc,I.wf,J.wf⟩,isn.congr fun x => ?_,isr.congr fun x => ?_,fun x hx => ?_,fun x hx => ?_,⟨kc,I.wr,J.wr⟩⟩ ((s03.trans (s4.trans (s5.trans s6))).free hl) fz ((s03.trans (s4.trans s5)).free hlr) rfl ?_
 ·rw [af]
  show some (HO.lst [V.ref T,V.str ln,V.int (1 + (if (aN st2 : Int) > (aN st : Int) then (aN st2 : Int) else (aN st : Int))),V.ref lz,V.ref lr]) = _
  rw [Ii,eln2]
  have : (1 : Int) + ((max (aN st) (aN st2) : Nat) : Int) = ((1 + max (aN st) (aN st2) : Nat) : Int):=by omega
  rw [this]
  rfl
 ·show x ∈ names ++ names2 ↔ x ∈ jk st ++ jk st2
  rw [List.mem_append,List.mem_append,I.nm.mem,J.nm.mem]
 ·show x ∈ rows ++ rows2 ↔ x ∈ jC st ++ jC st2
  rw [List.mem_append,List.mem_append,I.rs.mem,J.rs.mem]
 ·rcases ma_.mp ((isn.mem x).mp hx) with z | z
  ·exact I.ni x z
  ·exact J.ni x z
 ·rcases ma_.mp ((isr.mem x).mp hx) with z | z
  ·exact I.ri x z
  ·exact J.ri x z
 ·show (aq (.jn κ st st2)).length <= (aq st).length + (aq st2).length + 7
  rw [<- eln2,<- eln,len_app,len_app,len_app,len_app,len_app,len_app]
  omega
end
def IR (ns : LI) (L : Addr) (H : Hp) (a : Addr) (it : It) : Prop:=ItAt ns H a it /\ Off L a it
def LIa (ns : LI) (L : Addr) (as : List Addr) (its : List It) (H : Hp) : Prop:=H L = some (.lst (as.map V.ref)) /\ Paired (IR ns L H) as its
def szI (it : It) : Nat:=(aq it.st).length + 7
def tot (its : List It) : Nat:=(its.map szI).sum
theorem LIa.same {ns : LI} {L : Addr} {as : List Addr} {its : List It} {H H' : Hp} (h : LIa ns L as its H) (s : Same H H') : LIa ns L as its H' := ⟨s _ _ h.1,Paired.mapP h.2 fun _ _ q => ⟨q.1.same s,q.2⟩⟩
theorem LIa.upd {ns : LI} {L : Addr} {as : List Addr} {its : List It} {H : Hp} {xs ys : List V} (h : Paired (IR ns L H) as its) (hL : H L = some (.lst xs)) : Paired (IR ns L (upd H L (.lst ys))) as its:=Paired.mapP h fun _ _ q => ⟨q.1.off q.2 hL,q.2⟩
theorem zO {α β : Type} {R : α -> β -> Prop} : ∀ {as : List α} {bs : List β} {a : α} {b : β},Paired R as bs -> R a b -> Paired R (as ++ [a]) (bs ++ [b])
 | _,_,_,_,.nil,h => .cons h .nil
 | _,_,_,_,.cons q t,h => .cons q (zO t h)
theorem uE {α β : Type} {R : α -> β -> Prop} : ∀ {bs : List β} {as : List α} {b : β},Paired R as (bs ++ [b]) -> ∃ as' a,as = as' ++ [a] /\ Paired R as' bs /\ R a b
 | [],_,_,.cons (a:=a) q .nil => ⟨[],a,rfl,.nil,q⟩
 | _ :: bs,_,_,.cons (a:=a) q t => by
  obtain ⟨as',a',e,h,r⟩:=uE (bs:=bs) t
  exact ⟨a :: as',a',by rw [e]; rfl,.cons q h,r⟩
theorem mh {α : Type} {xs : List α} (h : xs ≠ []) : ∃ ys y,xs = ys ++ [y]:=⟨xs.dropLast,xs.getLast h,(List.dropLast_concat_getLast h).symm⟩
theorem LIa.pop {ns : LI} {L : Addr} {as : List Addr} {its : List It} {it : It} {H : Hp} (h : LIa ns L as (its ++ [it]) H) : ∃ as' a,as = as' ++ [a] /\ LIa ns L as' its (L2.upd H L (.lst (as'.map V.ref))) /\ ItAt ns (L2.upd H L (.lst (as'.map V.ref))) a it /\ Off L a it:=by
 obtain ⟨as',a,e,h2,r⟩:=uE h.2
 exact ⟨as',a,e,⟨af,LIa.upd h2 h.1⟩,r.1.off r.2 h.1,r.2⟩
theorem LIa.push {ns : LI} {L a : Addr} {as : List Addr} {its : List It} {it : It} {H : Hp} (h : LIa ns L as its H) (i : ItAt ns H a it) (o : Off L a it) : LIa ns L (as ++ [a]) (its ++ [it]) (L2.upd H L (.lst (as.map V.ref ++ [V.ref a]))):=
 ⟨by rw [af,List.map_append]; rfl,zO (LIa.upd h.2 h.1) ⟨i.off o h.1,o⟩⟩
theorem pop_at {as : List Addr} {a : Addr} : ((as ++ [a]).map V.ref)[((as ++ [a]).map V.ref).length - 1]? = some (V.ref a) /\ ((as ++ [a]).map V.ref).dropLast = as.map V.ref:=by
 rw [List.map_append]
 constructor
 ·rw [List.length_append]
  show (as.map V.ref ++ [V.ref a])[(as.map V.ref).length + 1 - 1]? = _
  rw [Nat.add_sub_cancel,List.getElem?_append_right (Nat.le_refl _),Nat.sub_self]
  rfl
 ·exact List.dropLast_concat
theorem fU (its : List It) (it : It) : tot (its ++ [it]) = tot its + szI it:=by
 unfold tot
 rw [List.map_append,List.sum_append]
 show _ + (szI it + 0) = _
 rw [Nat.add_zero]
theorem E4 : ∀ {its : List It} {it : It},it ∈ its -> szI it <= tot its
 | x :: its,it,h => by
  have e : tot (x :: its) = szI x + tot its:=by unfold tot; rw [List.map_cons,List.sum_cons]
  rw [e]
  rcases List.mem_cons.mp h with z | z
  ·rw [z]; omega
  ·have:=E4 z
   omega
theorem Bj {ns : LI} {L : Addr} {H : Hp} : ∀ {as : List Addr} {its : List It} {i : Nat} {y : V},Paired (IR ns L H) as its -> (as.map V.ref)[i]? = some y -> ∃ (a : Addr) (it : It),y = .ref a /\ IR ns L H a it /\ its[i]? = some it
 | _,_,_,_,.nil,h => by simp at h
 | _,_,0,_,.cons (a:=a) (b:=p) r _,h => ⟨a,p,(Option.some.inj h).symm,r,rfl⟩
 | _,_,i + 1,_,.cons _ t,h => by
  obtain ⟨a,p,e,r,q⟩:=Bj (i:=i) t (by simpa using h)
  exact ⟨a,p,e,r,by simpa using q⟩
theorem Kh {t1 t2 t3 : TT} {σ : St} {H : Hp} {A B : Hp -> Prop} {b1 b2 b3 : Bool} (h1 : ∀ Q : Bool -> Hp -> Prop,Q b1 H -> t1 σ H Q) (h2 : ∀ Q : Bool -> Hp -> Prop,Q b2 H -> t2 σ H Q) (h3 : ∀ Q : Bool -> Hp -> Prop,Q b3 H -> t3 σ H Q) (h : if (b1 && (b2 && b3)) = true then A H else B H) : IU t1 (IU t2 t3) σ H fun b H1 => if b = true then A H1 else B H1:=by
 refine h1 _ ?_
 cases b1 with
 | false => exact cN h
 | true =>
  refine cY (h2 _ ?_)
  cases b2 with
  | false => exact cN h
  | true => exact cY (h3 _ h)
theorem Kg {t1 t2 : TT} {σ : St} {H : Hp} {A B : Hp -> Prop} {b1 b2 : Bool} (h1 : ∀ Q : Bool -> Hp -> Prop,Q b1 H -> t1 σ H Q) (h2 : ∀ Q : Bool -> Hp -> Prop,Q b2 H -> t2 σ H Q) (h : if (b1 && b2) = true then A H else B H) : IU t1 t2 σ H fun b H1 => if b = true then A H1 else B H1:=by
 refine h1 _ ?_
 cases b1 with
 | false => exact cN h
 | true => exact cY (h2 _ h)
theorem Hq : ∀ (its : List It) (z : Int),(its.map fun it => ((szI it : Nat) : Int)).foldl (· + ·) z = z + ((tot its : Nat) : Int)
 | [],z => (Int.add_zero z).symm
 | x :: its,z => by
  have e : tot (x :: its) = szI x + tot its:=by unfold tot; rw [List.map_cons,List.sum_cons]
  rw [List.map_cons,List.foldl_cons,Hq its,e]
  omega
theorem IT (its : List It) : IQ (its.map fun it => ((szI it : Nat) : Int)) = ((tot its : Nat) : Int):=by
 unfold IQ
 rw [Hq,Int.zero_add]
theorem Bf {H : Hp} {L l : Addr} {it : It} {o : HO} (hL : H L = some o) (f : H l = none) (fn : H it.nl = none) (fr : H it.rl = none) : Off L l it:=
 ⟨fun z => (by rw [z,hL] at f; cases f),fun z => (by rw [z,hL] at fn; cases fn),fun z => (by rw [z,hL] at fr; cases fr)⟩
structure Few (its : List It) : Prop where
 tt : tot its <= 992
 dd : ∀ it ∈ its,aN it.st + its.length <= 20
def BG (K : PySem.W.Frag) : Sp:=fun vs H Q _ => ∃ (a : Addr) (ns : LI),vs = [.ref a] /\ SprAt K H a ns /\ True /\
 ∀ (L : Addr) (as : List Addr) (its : List It) (H' : Hp),Same H H' -> H L = none -> LIa ns L as its H' -> its ≠ [] -> Few its -> Q (.ref L) H'
section
variable {P : Program} {w : World} {K : PySem.W.Frag} {mg : Str -> Option Value} {base : Heap} {f : Addr} {fd : FuncData} {dV : Value}
theorem sc__law_items : FnScope ["_law_script","_law_items_here","_law_k","_law_number","_law_size","_law_deep_here","_law_other"] ["_law_script"] (ai cD):=⟨rfl,rfl,rfl,by decide +kernel,rfl,by decide +kernel,by decide +kernel⟩
theorem bk__law_items_0 : BlkScope ["_law_script","_law_items_here","_law_k","_law_number","_law_size","_law_deep_here","_law_other"] (ai cD) ["_law_item"] [none] { kind:=ScopeKind.function,names:=[(".0",NameKind.local),("_law_item",NameKind.local),("len",NameKind.globalImplicit)],isGenerator:=false,isCoroutine:=false,more:=[] }:=⟨rfl,by decide +kernel,by decide +kernel,by decide +kernel,by decide +kernel,rfl,by decide +kernel⟩
theorem bk__law_items_1 : BlkScope ["_law_script","_law_items_here","_law_k","_law_number","_law_size","_law_deep_here","_law_other"] (ai cD) ["_law_item"] [none] { kind:=ScopeKind.function,names:=[(".0",NameKind.local),("_law_item",NameKind.local)],isGenerator:=false,isCoroutine:=false,more:=[] }:=⟨rfl,by decide +kernel,by decide +kernel,by decide +kernel,by decide +kernel,rfl,by decide +kernel⟩
theorem GI (F : FunD K "_law_items" "_law_items" cD dV f fd) (aC : DefOk P w K mg base "_law_draw" 1 ["_law_script","_law_k"] [] (fS K)) (ij : DefOk P w K mg base "_law_plain" 4 ["_law_script","_law_at"] [] (BH K)) (fY : DefOk P w K mg base "_law_two" 1 ["_law_one","_law_other","_law_number"] [] E2) (bZ : DefOk P w K mg base "_law_wrapped" 3 ["_law_script","_law_item","_law_number"] [] (Ec K)) (bo : mg "len" = none) (zX : mg "min" = none) (sC : mg "max" = none) (HI : mg "sum" = none) (bF : mg "range" = none) : FnOk P w K mg base CX0 5 f fd ["_law_script"] (BG K):=by
 refine F.ok sc__law_items (fun vs H Q E h => ?_) (fun cdv A outer s H vs Q E hr h => ?_)
 ·obtain ⟨a,ns,rfl,_⟩:=h
  rfl
 obtain ⟨a,ns,rfl,hS,h63,k⟩:=h
 refine ⟨_,(au (ay (i:=1) sc__law_items.nd rfl (Or.inl rfl) (bE (aa (br ij hr (aa (pv 0) (aa ag ae))) ae)))
   (au (qZ PassesOwn.never rfl (cZ rfl bF (aa (aD (zA rfl) (by rfl) zX FZ (aa (aD bz (by rfl) bo cq (aa (pv 0) ae)) (aa ag ae))) ae)) (aG (i:=2) sc__law_items.nd rfl (Or.inl rfl)) (au (ay (i:=3) sc__law_items.nd rfl (Or.inl rfl) (br aC hr (aa (pv 0) (aa (ak bf ag (pv 2)) ae))))
   (au (ay (i:=4) sc__law_items.nd rfl (Or.inl rfl) (aD ((Fb rfl)) (by rfl) HI Jj (aa (rY rfl bk__law_items_0 (vZ (pv 1)) (fun _ _ _ _ => (aG (i:=0) bk__law_items_0.nd rfl (Or.inl rfl))) (fun _ _ _ _ => (ak bf (aD bA (by rfl) bo cq (aa (cC (Cg K) (pv 0) ag (fun _ _ => rfl)) ae)) ag))) ae)))
   (au (ay (i:=5) sc__law_items.nd rfl (Or.inl rfl) (ak bf (aD ((E9 rfl)) (by rfl) sC C9 (aa (rY rfl bk__law_items_1 (vZ (pv 1)) (fun _ _ _ _ => (aG (i:=0) bk__law_items_1.nd rfl (Or.inl rfl))) (fun _ _ _ _ => (cC (Cg K) (pv 0) ag (fun _ _ => rfl)))) ae)) (aD bz (by rfl) bo cq (aa (pv 1) ae))))
   (ax (bG (PW.pt (rg (aM mF (pv 5) ag (aS _)) (rg (aM mF (pv 4) ag (aS _)) (sf (aM mF (ak aX (pv 3) ag) ag (aS _)))))) (ax (cm (ia PySem.F.plainAttrs_list PySem.F.slot_list_append PySem.F.type_list_append bI (pv 1) (aa (br ij hr (aa (pv 0) (aa (ak bf ag (ak nQ ag (pv 2))) ae))) ae)))) (ax (bG (PW.pt (rg (aM mF (pv 5) ag (aS _)) (rg (aM rT (aD bz (by rfl) bo cq (aa (pv 1) ae)) ag (aS _)) (sf (aM mF (ak aX (pv 3) ag) ag (aS _)))))) (au (ay (i:=6) sc__law_items.nd rfl (Or.inl rfl) (xN PySem.F.plainAttrs_list PySem.F.slot_list_pop PySem.F.type_list_pop xw (pv 1)))
   (ax (cm (ia PySem.F.plainAttrs_list PySem.F.slot_list_append PySem.F.type_list_append bI (pv 1) (aa (br fY hr (aa (xN PySem.F.plainAttrs_list PySem.F.slot_list_pop PySem.F.type_list_pop xw (pv 1)) (aa (pv 6) (aa (ak bh (pv 3) ag) ae)))) ae))))) (ax (bG (PW.pt (rg (aM mF (pv 5) ag (aS _)) (sf (aM mF (pv 4) ag (aS _))))) (ax (cm (ia PySem.F.plainAttrs_list PySem.F.slot_list_append PySem.F.type_list_append bI (pv 1) (aa (br bZ hr (aa (pv 0) (aa (xN PySem.F.plainAttrs_list PySem.F.slot_list_pop PySem.F.type_list_pop xw (pv 1)) (aa (ak bh (pv 3) ag) ae)))) ae)))) aW))))))))))
   (ax (aU (pv 1))))),?_⟩
 refine ⟨_,rfl,a,0,ns,rfl,hS,h63,⟨by decide,by decide⟩,fun l0 it0 H0 s0 I0 f0 fn0 fr0 d0 b0 => ?_⟩
 refine ⟨(by show 1 <= sizeLine; decide),fun L hL => ?_⟩
 have sL:=ah hL (HO.lst [V.ref l0])
 have oL : Off L l0 it0:=⟨aA I0.li hL,aA I0.hn hL,aA I0.hr hL⟩
 have fL : H L = none:=s0.free hL
 have LI0 : LIa ns L [l0] [it0] (upd H0 L (HO.lst [V.ref l0])):=⟨af,.cons ⟨I0.same sL,oL⟩ .nil⟩
 have few0 : Few [it0]:=⟨by show szI it0 + 0 <= 992; unfold szI; omega,fun it h => by rw [List.mem_singleton.mp h,d0]; show 0 + 1 <= 20; decide⟩
 obtain ⟨H1,e1⟩ : ∃ H1,upd H0 L (HO.lst [V.ref l0]) = H1:=⟨_,rfl⟩
 have s01 : Same H H1:=by rw [<- e1]; exact s0.trans sL
 rw [e1] at LI0 ⊢
 try dsimp only [aF,aK,List.set]
 refine di (t:=BN _ _ _) (fun σ' H' => ∃ (as : List Addr) (its : List It) (v2 v3 v4 v5 v6 : OV),σ' = [some (.ref a),some (.ref L),v2,v3,v4,v5,v6] /\ Same H H' /\ LIa ns L as its H' /\ its ≠ [] /\ Few its) ?_ (fun D' nxt => ?_)
 rotate_left
 ·have g5:=hS.2
  refine ⟨_,rfl,a,_,rfl,.inl (hS.same s01).1,_,_,rfl,_,rfl,?_,?_,?_⟩
  ·split <;> omega
  ·rw [lm_]
   split <;> omega
  refine gd (fun i σ' H' => ∃ (as : List Addr) (its : List It) (v2 v3 v4 v5 v6 : OV),σ' = [some (.ref a),some (.ref L),v2,v3,v4,v5,v6] /\ Same H H' /\ LIa ns L as its H' /\ its ≠ [] /\ Few its) ⟨[l0],[it0],none,none,none,none,none,rfl,s01,LI0,by simp,few0⟩ ?_ ?_
  ·rintro i σ' H2 hi ⟨as,its,v2,v3,v4,v5,v6,rfl,s2,LI,ne,few⟩
   have hi' : i < 40:=by
    rw [lm_] at hi
    split at hi <;> omega
   have hS2:=(hS.same s2)
   have la : as.length = its.length:=Paired.length LI.2
   have tt:=few.tt
   have li20 : its.length <= 20:=by
    obtain ⟨ys,y,e⟩:=mh ne
    have:=few.dd y (by rw [e]; simp)
    omega
   refine ⟨_,rfl,_,rfl,_,_,rfl,rfl,a,50 + (0 + (i : Int)),ns,rfl,hS2,h63,by omega,by omega,?_⟩
   try dsimp only [aF,aK,List.set]
   obtain ⟨n,en⟩ : ∃ n,hX ns (50 + (0 + (i : Int))) = n:=⟨_,rfl⟩
   have n0:=cX ns (50 + (0 + (i : Int)))
   rw [en] at n0 ⊢
   refine di (t:=sy _ _) (fun σ' H' => σ' = [some (.ref a),some (.ref L),some (.int (0 + (i : Int))),some (.int n),some (.int ((tot its : Nat) : Int)),v5,v6] /\ Same H2 H') ?_ (fun D1 nxt1 => ?_)
   rotate_left
   ·refine ⟨_,rfl,L,rfl,⟨_,qL_ LI.1⟩,?_⟩
    refine zC (K:=K) (xs:=as.map V.ref) (fun D j ys H' => Same H2 H' /\ ys = ((its.take j).map fun it => ((szI it : Nat) : Int)).map V.int) (fun D hD => ⟨ah hD _,rfl⟩) (fun D j ys H' _ ⟨e,_⟩ => qL_ (e _ _ LI.1)) ?_ ?_
    ·rintro D j y ys H3 Q' hD hj hy ⟨s3,rfl⟩ k'
     obtain ⟨b,it,rfl,hb,hit⟩:=Bj LI.2 hj
     have ib:=hb.1.same s3
     have sz:=E4 (mq_ hit)
     have jl:=(gi_ hit).1
     unfold szI at sz
     refine ⟨_,rfl,b,_,_,_,rfl,rfl,qL_ ib.li,rfl,_,rfl,Nat.le_trans (show (aq it.st).length <= 992 by omega) (by decide),_,_,rfl,rfl,k' _ _ hy (fg (by rw [lm_,lm_,List.length_take]; omega)) ⟨bu s3 hD,?_⟩⟩
     rw [List.take_add_one,hit,List.map_append,List.map_append]
     rfl
    ·rintro D ys H3 hD hy ⟨s3,rfl⟩
     rw [lm_,la,List.take_length] at hy
     refine ⟨D,_,rfl,qL_ hy,nxt1 _ _ ⟨?_,s3⟩⟩
     rw [IT]
     rfl
   rintro σ' H3 ⟨rfl,s3⟩
   have LI3:=LI.same s3
   refine di (t:=sy _ _) (fun σ' H' => ∃ M : Nat,σ' = [some (.ref a),some (.ref L),some (.int (0 + (i : Int))),some (.int n),some (.int ((tot its : Nat) : Int)),some (.int ((M : Int) + (its.length : Int))),v6] /\ Same H3 H' /\ ∀ it ∈ its,aN it.st <= M) ?_ (fun D1 nxt1 => ?_)
   rotate_left
   ·refine ⟨_,rfl,L,rfl,⟨_,qL_ LI3.1⟩,?_⟩
    refine zC (K:=K) (xs:=as.map V.ref) (fun D j ys H' => Same H3 H' /\ ys = ((its.take j).map fun it => ((aN it.st : Nat) : Int)).map V.int) (fun D hD => ⟨ah hD _,rfl⟩) (fun D j ys H' _ ⟨e,_⟩ => qL_ (e _ _ LI3.1)) ?_ ?_
    ·rintro D j y ys H4 Q' hD hj hy ⟨s4,rfl⟩ k'
     obtain ⟨b,it,rfl,hb,hit⟩:=Bj LI3.2 hj
     have ib:=hb.1.same s4
     have jl:=(gi_ hit).1
     refine ⟨_,rfl,b,_,_,_,rfl,rfl,qL_ ib.li,rfl,k' _ _ hy (fg (by rw [lm_,lm_,List.length_take]; omega)) ⟨bu s4 hD,?_⟩⟩
     rw [List.take_add_one,hit,List.map_append,List.map_append]
     rfl
    ·rintro D ys H4 hD hy ⟨s4,rfl⟩
     rw [lm_,la,List.take_length] at hy
     refine ⟨D,_,rfl,qL_ hy,?_,fun M hM hle => ?_⟩
     ·intro z
      exact ne (List.map_eq_nil_iff.mp z)
     obtain ⟨it,hit,eM⟩:=List.mem_map.mp hM
     refine ⟨_,rfl,L,_,rfl,.inl (qL_ (s4 _ _ LI3.1)),_,_,rfl,rfl,nxt1 _ _ ⟨aN it.st,?_,s4,fun jt hj => ?_⟩⟩
     ·rw [lm_,la,<- eM]
      rfl
     ·have:=hle _ (List.mem_map.mpr ⟨jt,hj,rfl⟩)
      omega
   rintro σ' H4 ⟨M,rfl,s4,hM⟩
   have LI4:=LI3.same s4
   have s04:=s2.trans (s3.trans s4)
   have hS4:=(hS.same s04)
   have sm : ∀ m : Nat,m <= 100 -> m <= sizeLine:=fun m h => Nat.le_trans h (by decide)
   refine Kh (b1:=decide ((M : Int) + (its.length : Int) < 20)) (b2:=decide (((tot its : Nat) : Int) < 780)) (b3:=decide (n % 8 < 2)) (fun Q q => ⟨_,rfl,_,_,rfl,rfl,_,rfl,q⟩) (fun Q q => ⟨_,rfl,_,_,rfl,rfl,_,rfl,q⟩) (fun Q q => ⟨_,rfl,_,_,rfl,rfl,(by show (0 : Int) < 8; decide),_,_,rfl,rfl,_,rfl,q⟩) (tI (fun c => ?_) (fun _ => ?_))
   ·simp only [Bool.and_eq_true,decide_eq_true_eq] at c
    obtain ⟨c1,c2,_⟩:=c
    refine ⟨_,rfl,.inl ⟨rfl,_,qL_ LI4.1⟩,_,rfl,_,rfl,_,_,rfl,rfl,.inl ⟨by decide,by decide⟩,_,_,rfl,rfl,a,100 + 19 * (0 + (i : Int)),ns,rfl,hS4,h63,⟨by omega,by omega⟩,fun l it H5 s5 I5 f5 fn5 fr5 d5 b5 => ?_⟩
    have LI5:=LI4.same s5
    have o5 : Off L l it:=Bf LI4.1 f5 fn5 fr5
    refine ⟨L,_,_,rfl,rfl,LI5.1,sm _ (by rw [lm_]; omega),?_⟩
    refine ⟨as ++ [l],its ++ [it],_,_,_,_,_,rfl,bu (s04.trans s5) fL,LI5.push I5 o5,by simp,⟨?_,fun jt hj => ?_⟩⟩
    ·rw [fU]
     unfold szI
     omega
    ·rw [List.length_append,List.length_singleton]
     rcases ma_.mp hj with z | z
     ·have:=hM jt z
      omega
     ·rw [List.mem_singleton.mp z,d5]
      omega
   refine Kh (b1:=decide ((M : Int) + (its.length : Int) < 20)) (b2:=decide ((1 : Int) < ((as.map V.ref).length : Int))) (b3:=decide (n % 8 < 5)) (fun Q q => ⟨_,rfl,_,_,rfl,rfl,_,rfl,q⟩) (fun Q q => ⟨_,rfl,L,_,rfl,.inl (qL_ LI4.1),_,_,rfl,rfl,_,rfl,q⟩) (fun Q q => ⟨_,rfl,_,_,rfl,rfl,(by show (0 : Int) < 8; decide),_,_,rfl,rfl,_,rfl,q⟩) (tI (fun c => ?_) (fun _ => ?_))
   ·simp only [Bool.and_eq_true,decide_eq_true_eq] at c
    obtain ⟨c1,c2,_⟩:=c
    rw [lm_] at c2
    obtain ⟨its1,jt,e1⟩:=mh ne
    subst e1
    have ne1 : its1 ≠ []:=fun z => by rw [z] at la; simp at la; omega
    obtain ⟨its2,it,e2⟩:=mh ne1
    subst e2
    obtain ⟨as1,c',ea1,LI5,J5,oJ⟩:=LI4.pop
    subst ea1
    refine ⟨_,rfl,.inl ⟨rfl,_,qL_ LI4.1⟩,L,_,_,rfl,rfl,LI4.1,pop_at.1,?_⟩
    rw [pop_at.2]
    try dsimp only [aF,aK,List.set]
    obtain ⟨H5,e5⟩ : ∃ H5,upd H4 L (HO.lst (as1.map V.ref)) = H5:=⟨_,rfl⟩
    have s05 : Same H H5:=by rw [<- e5]; exact bu s04 fL
    rw [e5] at LI5 J5 ⊢
    obtain ⟨as2,b',ea2,LI6,I6,oI⟩:=LI5.pop
    subst ea2
    have J6:=J5.off (ys:=as2.map V.ref) oJ LI5.1
    rw [fU,fU] at tt
    unfold szI at tt
    refine ⟨_,rfl,.inl ⟨rfl,_,qL_ LI5.1⟩,_,rfl,.inl ⟨rfl,_,qL_ LI5.1⟩,L,_,_,rfl,rfl,LI5.1,pop_at.1,?_⟩
    rw [pop_at.2]
    obtain ⟨H6,e6⟩ : ∃ H6,upd H5 L (HO.lst (as2.map V.ref)) = H6:=⟨_,rfl⟩
    have s06 : Same H H6:=by rw [<- e6]; exact bu s05 fL
    rw [e6] at LI6 I6 J6 ⊢
    refine ⟨_,rfl,_,rfl,_,_,rfl,rfl,⟨by decide,by decide⟩,b',c',n / 8,ns,it,jt,rfl,I6,J6,by omega,by omega,fun l it' H7 s7 I7 f7 fn7 fr7 d7 b7 => ?_⟩
    have LI7:=LI6.same s7
    have o7 : Off L l it' := Bf LI6.1 f7 fn7 fr7
    have ll : (its2 ++ [it] ++ [jt]).length = its2.length + 2:=by simp
    rw [ll] at c1 li20
    have la2 : as2.length = its2.length:=Paired.length LI6.2
    refine ⟨L,_,_,rfl,rfl,LI7.1,sm _ (by rw [lm_]; omega),?_⟩
    refine ⟨as2 ++ [l],its2 ++ [it'],_,_,_,_,_,rfl,bu (s06.trans s7) fL,LI7.push I7 o7,by simp,⟨?_,fun kt hk => ?_⟩⟩
    ·rw [fU]
     unfold szI
     omega
    ·rw [List.length_append,List.length_singleton]
     rcases ma_.mp hk with z | z
     ·have:=hM kt (by simp [z])
      omega
     ·rw [List.mem_singleton.mp z,d7]
      have h1:=hM it (by simp)
      have h2:=hM jt (by simp)
      omega
   refine Kg (b1:=decide ((M : Int) + (its.length : Int) < 20)) (b2:=decide (((tot its : Nat) : Int) < 980)) (fun Q q => ⟨_,rfl,_,_,rfl,rfl,_,rfl,q⟩) (fun Q q => ⟨_,rfl,_,_,rfl,rfl,_,rfl,q⟩) (tI (fun c => ?_) (fun _ => ?_))
   ·simp only [Bool.and_eq_true,decide_eq_true_eq] at c
    obtain ⟨c1,c2⟩:=c
    obtain ⟨its1,it,e1⟩:=mh ne
    subst e1
    obtain ⟨as1,b',ea1,LI5,I5,oI⟩:=LI4.pop
    subst ea1
    rw [fU] at tt c2
    unfold szI at tt c2
    refine ⟨_,rfl,.inl ⟨rfl,_,qL_ LI4.1⟩,_,rfl,_,rfl,.inl ⟨rfl,_,qL_ LI4.1⟩,L,_,_,rfl,rfl,LI4.1,pop_at.1,?_⟩
    rw [pop_at.2]
    obtain ⟨H5,e5⟩ : ∃ H5,upd H4 L (HO.lst (as1.map V.ref)) = H5:=⟨_,rfl⟩
    have s05 : Same H H5:=by rw [<- e5]; exact bu s04 fL
    rw [e5] at LI5 I5 ⊢
    refine ⟨_,rfl,_,_,rfl,rfl,⟨by decide,by decide⟩,a,b',n / 8,ns,it,rfl,(hS.same s05),h63,Int.ediv_nonneg n0.1 (by decide),I5,by omega,fun l it' H7 s7 I7 f7 fn7 fr7 d7 b7 => ?_⟩
    have LI7:=LI5.same s7
    have o7 : Off L l it' := by
     refine ⟨fun z => ?_,fun z => ?_,fun z => ?_⟩
     ·rw [z,LI5.1] at f7; cases f7
     ·rcases fn7 with q | q
      ·exact oI.2.1 (q ▸ z)
      ·rw [z,LI5.1] at q; cases q
     ·exact oI.2.2 (fr7 ▸ z)
    have ll : (its1 ++ [it]).length = its1.length + 1:=by simp
    rw [ll] at c1 li20
    have la1 : as1.length = its1.length:=Paired.length LI5.2
    refine ⟨L,_,_,rfl,rfl,LI7.1,sm _ (by rw [lm_]; omega),?_⟩
    refine ⟨as1 ++ [l],its1 ++ [it'],_,_,_,_,_,rfl,bu (s05.trans s7) fL,LI7.push I7 o7,by simp,⟨?_,fun kt hk => ?_⟩⟩
    ·rw [fU]
     unfold szI
     omega
    ·rw [List.length_append,List.length_singleton]
     rcases ma_.mp hk with z | z
     ·have:=hM kt (by simp [z])
      omega
     ·rw [List.mem_singleton.mp z,d7]
      have h1:=hM it (by simp)
      omega
   ·exact ⟨as,its,_,_,_,_,_,rfl,s04,LI4,ne,few⟩
  ·rintro σ' H2 ⟨as,its,v2,v3,v4,v5,v6,rfl,s2,LI,ne,few⟩
   exact nxt _ _ ⟨as,its,v2,v3,v4,v5,v6,rfl,s2,LI,ne,few⟩
 rintro σ' H2 ⟨as,its,v2,v3,v4,v5,v6,rfl,s2,LI,ne,few⟩
 exact ⟨_,rfl,k L as its H2 s2 fL LI ne few⟩
end
def BF (K : PySem.W.Frag) : Sp:=fun vs H Q _ => ∃ (a : Addr) (ns : LI),vs = [.ref a] /\ SprAt K H a ns /\ True /\
 ∀ (l : Addr) (it : It) (H' : Hp),Same H H' -> ItAt ns H' l it -> aN it.st <= 20 -> (aq it.st).length <= 1000 -> Q (.ref l) H'
section
variable {P : Program} {w : World} {K : PySem.W.Frag} {mg : Str -> Option Value} {base : Heap} {f : Addr} {fd : FuncData} {dV : Value}
theorem sc__law_built : FnScope ["_law_script","_law_items_here","_law_other","_law_statement","_law_line","_law_deep_here","_law_names","_law_rows"] ["_law_script"] (ai dI):=⟨rfl,rfl,rfl,by decide +kernel,rfl,by decide +kernel,by decide +kernel⟩
theorem GG (F : FunD K "_law_built" "_law_built" dI dV f fd) (aC : DefOk P w K mg base "_law_draw" 1 ["_law_script","_law_k"] [] (fS K)) (kX : DefOk P w K mg base "_law_items" 5 ["_law_script"] [] (BG K)) (fY : DefOk P w K mg base "_law_two" 1 ["_law_one","_law_other","_law_number"] [] E2) (bo : mg "len" = none) : FnOk P w K mg base CX0 6 f fd ["_law_script"] (BF K):=by
 refine F.ok sc__law_built (fun vs H Q E h => ?_) (fun cdv A outer s H vs Q E hr h => ?_)
 ·obtain ⟨a,ns,rfl,_⟩:=h
  rfl
 obtain ⟨a,ns,rfl,hS,h63,k⟩:=h
 refine gP (aw (PSW.mk (ay (i:=1) sc__law_built.nd rfl (Or.inl rfl) (br kX hr (aa (pv 0) ae))))
   (aw (PSW.mk (sd PassesOwn.never (aM rT (aD bz (by rfl) bo cq (aa (pv 1) ae)) ag (aS _)) (au (ay (i:=2) sc__law_built.nd rfl (Or.inl rfl) (xN PySem.F.plainAttrs_list PySem.F.slot_list_pop PySem.F.type_list_pop xw (pv 1)))
   (ax (cm (ia PySem.F.plainAttrs_list PySem.F.slot_list_append PySem.F.type_list_append bI (pv 1) (aa (br fY hr (aa (xN PySem.F.plainAttrs_list PySem.F.slot_list_pop PySem.F.type_list_pop xw (pv 1)) (aa (pv 2) (aa (aD bz (by rfl) bo cq (aa (pv 1) ae)) ae)))) ae)))))))
   (aw (PSW.mk (nW (cC bg (pv 1) ag (fun _ _ => rfl)) (nU rfl (aP (aG (i:=3) sc__law_built.nd rfl (Or.inl rfl)) (aP (aG (i:=4) sc__law_built.nd rfl (Or.inl rfl)) (aP (aG (i:=5) sc__law_built.nd rfl (Or.inl rfl)) (aP (aG (i:=6) sc__law_built.nd rfl (Or.inl rfl)) (aP (aG (i:=7) sc__law_built.nd rfl (Or.inl rfl)) jP))))))))
   (aw (PSW.mk (bG (aM gI (ak aX (br aC hr (aa (pv 0) (aa ag ae))) ag) ag (aS _)) (ax (sd PassesOwn.never (PW.pt (rg (aM mF (pv 5) ag (aS _)) (sf (aM mF (aD bA (by rfl) bo cq (aa (pv 4) ae)) ag (aS _))))) (au (ay (i:=3) sc__law_built.nd rfl (Or.inl rfl) (aV (aa ar (aa (pv 3) ae))))
   (au (ay (i:=4) sc__law_built.nd rfl (Or.inl rfl) (ak av ar (pv 4)))
   (ax (ay (i:=5) sc__law_built.nd rfl (Or.inl rfl) (ak bf (pv 5) ag))))))) aW))
   (bC (og (ie (ao (PEW.mk (pv 3)) (ao (PEW.mk (pv 4)) (ao (PEW.mk (pv 5)) (ao (PEW.mk (pv 6)) (ao (PEW.mk (pv 7)) bM)))))))))))) ?_
 refine ⟨_,rfl,a,ns,rfl,hS,h63,fun L as0 its0 H1 s1 fL LI0 ne0 few0 => ?_⟩
 try dsimp only [aF,aK,List.set]
 have sm : ∀ m : Nat,m <= 100 -> m <= sizeLine:=fun m h => Nat.le_trans h (by decide)
 refine di (t:=yk _ _) (fun σ' H' => ∃ (as : List Addr) (it : It) (v2 : OV),σ' = [some (.ref a),some (.ref L),v2,none,none,none,none,none] /\ Same H H' /\ LIa ns L as [it] H' /\ Few [it]) ?_ (fun D' nxt => ?_)
 rotate_left
 ·refine we (fun mm σ' H' => ∃ (as : List Addr) (its : List It) (v2 : OV),mm = its.length /\ σ' = [some (.ref a),some (.ref L),v2,none,none,none,none,none] /\ Same H H' /\ LIa ns L as its H' /\ its ≠ [] /\ Few its) ⟨_,as0,its0,none,rfl,rfl,s1,LI0,ne0,few0⟩ ?_
  rintro mm σ' H4 ⟨as,its,v2,rfl,rfl,s04,LI4,ne,few⟩
  have la : as.length = its.length:=Paired.length LI4.2
  have tt:=few.tt
  refine ⟨_,rfl,L,_,rfl,.inl (qL_ LI4.1),_,_,rfl,rfl,_,rfl,tI (fun c => ?_) (fun c => ?_)⟩
  ·have c2:=of_decide_eq_true c
   rw [lm_] at c2
   refine ⟨fun σ' H' => ∃ m',m' < its.length /\ ∃ (as : List Addr) (its : List It) (v2 : OV),m' = its.length /\ σ' = [some (.ref a),some (.ref L),v2,none,none,none,none,none] /\ Same H H' /\ LIa ns L as its H' /\ its ≠ [] /\ Few its,fun _ _ h => h,?_⟩
   obtain ⟨its1,jt,e1⟩:=mh ne
   subst e1
   have ne1 : its1 ≠ []:=fun z => by rw [z] at la; simp at la; omega
   obtain ⟨its2,it,e2⟩:=mh ne1
   subst e2
   obtain ⟨as1,c',ea1,LI5,J5,oJ⟩:=LI4.pop
   subst ea1
   refine ⟨_,rfl,.inl ⟨rfl,_,qL_ LI4.1⟩,L,_,_,rfl,rfl,LI4.1,pop_at.1,?_⟩
   rw [pop_at.2]
   try dsimp only [aF,aK,List.set]
   obtain ⟨H5,e5⟩ : ∃ H5,upd H4 L (HO.lst (as1.map V.ref)) = H5:=⟨_,rfl⟩
   have s05 : Same H H5:=by rw [<- e5]; exact bu s04 fL
   rw [e5] at LI5 J5 ⊢
   obtain ⟨as2,b',ea2,LI6,I6,oI⟩:=LI5.pop
   subst ea2
   have J6:=J5.off (ys:=as2.map V.ref) oJ LI5.1
   rw [fU,fU] at tt
   unfold szI at tt
   refine ⟨_,rfl,.inl ⟨rfl,_,qL_ LI5.1⟩,_,rfl,.inl ⟨rfl,_,qL_ LI5.1⟩,L,_,_,rfl,rfl,LI5.1,pop_at.1,?_⟩
   rw [pop_at.2]
   obtain ⟨H6,e6⟩ : ∃ H6,upd H5 L (HO.lst (as2.map V.ref)) = H6:=⟨_,rfl⟩
   have s06 : Same H H6:=by rw [<- e6]; exact bu s05 fL
   rw [e6] at LI6 I6 J6 ⊢
   refine ⟨_,rfl,_,rfl,L,_,rfl,.inl (qL_ LI6.1),b',c',_,ns,it,jt,rfl,I6,J6,by omega,by omega,fun l it' H7 s7 I7 f7 fn7 fr7 d7 b7 => ?_⟩
   have LI7:=LI6.same s7
   have o7 : Off L l it' := Bf LI6.1 f7 fn7 fr7
   have ll : (its2 ++ [it] ++ [jt]).length = its2.length + 2:=by simp
   have dd:=few.dd
   rw [ll] at dd
   have la2 : as2.length = its2.length:=Paired.length LI6.2
   have h1:=dd it (by simp)
   have h2:=dd jt (by simp)
   refine ⟨L,_,_,rfl,rfl,LI7.1,sm _ (by rw [lm_]; omega),?_⟩
   refine ⟨(its2 ++ [it']).length,by simp,as2 ++ [l],its2 ++ [it'],_,rfl,rfl,bu (s06.trans s7) fL,LI7.push I7 o7,by simp,⟨?_,fun kt hk => ?_⟩⟩
   ·rw [fU]
    unfold szI
    omega
   ·rw [List.length_append,List.length_singleton]
    rcases ma_.mp hk with z | z
    ·have:=dd kt (by simp [z])
     omega
    ·rw [List.mem_singleton.mp z,d7]
     omega
  ·have c2 : ¬ (1 : Int) < ((as.map V.ref).length : Int):=fun z => c (decide_eq_true z)
   rw [lm_] at c2
   obtain ⟨its1,it,e1⟩:=mh ne
   have e0 : its1 = []:=by
    cases its1 with
    | nil => rfl
    | cons x r => rw [e1] at la; simp at la; omega
   subst e0 e1
   exact nxt _ _ ⟨as,it,v2,rfl,s04,LI4,few⟩
 rintro σ' H2 ⟨as,it,v2,rfl,s2,LI,few⟩
 obtain ⟨b,I,ea⟩ : ∃ b,ItAt ns H2 b it /\ as = [b]:=by
  cases LI.2 with
  | cons q t =>
   cases t
   exact ⟨_,q.1,rfl⟩
 subst ea
 obtain ⟨st0,v0,nl,rl,names,rows⟩:=it
 have tt : (aq st0).length + 7 + 0 <= 992:=few.tt
 have dd : aN st0 + 1 <= 20:=few.dd _ List.mem_cons_self
 refine ⟨_,rfl,L,_,_,_,rfl,rfl,qL_ LI.1,rfl,b,_,rfl,qL_ I.li,rfl,_,_,rfl,_,_,rfl,_,_,rfl,_,_,rfl,_,_,rfl,rfl,?_⟩
 try dsimp only [aF,aK,List.set]
 have hS2:=(hS.same s2)
 refine di (t:=Hs _ _ _) (fun σ' H' => ∃ (v : V) (st : Stt),σ' = [some (.ref a),some (.ref L),v2,some v,some (.str (aq st)),some (.int (aN st : Int)),some (.ref nl),some (.ref rl)] /\ Same H2 H' /\ StAt H' v st /\ (Wf st /\ Wr st) /\ jk st = jk st0 /\ jC st = jC st0 /\ aN st <= 20 /\ (aq st).length <= 1000) ?_ (fun D' nxt => ?_)
 rotate_left
 ·refine ⟨_,rfl,a,99,ns,rfl,hS2,h63,by decide,by decide,_,_,rfl,rfl,(by show (0 : Int) < 4; decide),rfl,_,rfl,AG (fun c => ?_) (fun c => ?_)⟩
  ·refine we (fun mm σ' H' => ∃ (v : V) (st : Stt),mm = 20 - aN st /\ σ' = [some (.ref a),some (.ref L),v2,some v,some (.str (aq st)),some (.int (aN st : Int)),some (.ref nl),some (.ref rl)] /\ Same H2 H' /\ StAt H' v st /\ (Wf st /\ Wr st) /\ jk st = jk st0 /\ jC st = jC st0 /\ aN st <= 20 /\ (aq st).length <= 1000) ⟨_,v0,st0,rfl,rfl,Same.refl _,I.sv,⟨I.wf,I.wr⟩,rfl,rfl,by omega,by omega⟩ ?_
   rintro mm σ' H3 ⟨v,st,rfl,rfl,s3,hst,wf,ef,er,d20,l20⟩
   refine Kg (b1:=decide ((aN st : Int) < 20)) (b2:=decide (((aq st).length : Int) < 997)) (fun Q q => ⟨_,rfl,_,_,rfl,rfl,_,rfl,q⟩) (fun Q q => ⟨_,rfl,_,rfl,Nat.le_trans l20 (by decide),_,_,rfl,rfl,_,rfl,q⟩) (tI (fun c => ?_) (fun _ => ?_))
   ·simp only [Bool.and_eq_true,decide_eq_true_eq] at c
    refine ⟨fun σ' H' => ∃ m',m' < 20 - aN st /\ ∃ (v : V) (st : Stt),m' = 20 - aN st /\ σ' = [some (.ref a),some (.ref L),v2,some v,some (.str (aq st)),some (.int (aN st : Int)),some (.ref nl),some (.ref rl)] /\ Same H2 H' /\ StAt H' v st /\ (Wf st /\ Wr st) /\ jk st = jk st0 /\ jC st = jC st0 /\ aN st <= 20 /\ (aq st).length <= 1000,fun _ _ h => h,?_⟩
    refine ⟨_,rfl,(by show 2 <= sizeLine; decide),fun T hT => ?_⟩
    have s4:=ah hT (HO.tup [V.str (Str.ofString "not"),v])
    have l4 : (Str.ofString "not ").length = 4:=by decide
    try dsimp only [aF,aK,List.set]
    refine ⟨_,rfl,_,_,rfl,rfl,Nat.le_trans (show _ + (aq st).length <= 3000 by omega) (by decide),?_⟩
    try dsimp only [aF,aK,List.set]
    refine ⟨_,rfl,_,_,rfl,rfl,20 - aN (.no st),?_,.ref T,.no st,rfl,?_,s3.trans s4,⟨T,v,rfl,af,StAt.same (tkS s4) hst⟩,wf,ef,er,?_,?_⟩
    ·show 20 - (1 + aN st) < _
     omega
    ·show [some (V.ref a),some (V.ref L),v2,some (V.ref T),some (V.str (Str.ofString "not " ++ aq st)),some (V.int ((aN st : Int) + 1)),some (V.ref nl),some (V.ref rl)] = _
     have : (aN st : Int) + 1 = ((1 + aN st : Nat) : Int):=by omega
     rw [this]
     rfl
    ·show 1 + aN st <= 20
     omega
    ·show (("not " : Str) ++ aq st).length <= 1000
     rw [len_app]
     have : (("not " : Str)).length = 4:=by decide
     omega
   ·exact nxt _ _ ⟨v,st,rfl,s3,hst,wf,ef,er,d20,l20⟩
  ·exact nxt _ _ ⟨v0,st0,rfl,Same.refl _,I.sv,⟨I.wf,I.wr⟩,rfl,rfl,by omega,by omega⟩
 rintro σ' H3 ⟨v,st,rfl,s3,hst,wf,ef,er,d20,l20⟩
 refine ⟨_,rfl,_,rfl,_,rfl,_,rfl,_,rfl,(by show 5 <= sizeLine; decide),fun l hl => ?_⟩
 have s4:=ah hl (HO.lst [v,V.str (aq st),V.int (aN st : Int),V.ref nl,V.ref rl])
 have s34:=s3.trans s4
 exact k l ⟨st,v,nl,rl,names,rows⟩ _ (s2.trans s34) ⟨af,StAt.same (tkS s4) hst,s34 _ _ I.hn,s34 _ _ I.hr,wf.1,by rw [show jk (It.mk st v nl rl names rows).st = jk st0 from ef]; exact I.nm,by rw [show jC (It.mk st v nl rl names rows).st = jC st0 from er]; exact I.rs,I.ni,I.ri,wf.2⟩ d20 l20
end
def nY (C : Addr) : Sp:=fun vs H Q _ => ∃ ea : Addr,vs = [.ref ea] /\ H ea = some (.ext (ExAt ea C)) /\ ∀ H',Same H H' -> Q (.bl false) H'
theorem IW {K : PySem.W.Frag} {H H' : Hp} {v : V} {ty : Value} (h : TyOf K H v ty) (s : Same H H') : TyOf K H' v ty:=by
 cases h with
 | non => exact .non
 | bl x => exact .bl x
 | int i => exact .int i
 | str x => exact .str x
 | flt x => exact .flt x
 | lst e => exact .lst (s _ _ e)
 | frz e => exact .frz (s _ _ e)
 | tup e => exact .tup (s _ _ e)
 | dK e => exact .dK (s _ _ e)
 | dT e => exact .dT (s _ _ e)
 | ins e a b c d f => exact .ins (s _ _ e) a b c d f
theorem NoSt.sm {K : PySem.W.Frag} {H H' : Hp} {v : V} (h : NoSt K H v) (s : Same H H') : NoSt K H' v:=h.imp_left fun ⟨ty,tv,k⟩ => ⟨ty,IW tv s,k⟩
def oz (K : PySem.W.Frag) : Sp:=fun vs H Q _ => ∃ v : V,vs = [v] /\ NoSt K H v /\ ∀ H',Same H H' -> Q (.bl true) H'
theorem yy : bootBuiltins "ValueError" = some (.type "ValueError"):=by decide +kernel
theorem zx {X : Cx} (K : PySem.W.Frag) (h : X.K = K:=by rfl) : fX X (.builtin "isinstance") (KC K):=by subst h; exact fD
section
variable {P : Program} {w : World} {K : PySem.W.Frag} {mg : Str -> Option Value} {base : Heap} {f : Addr} {fd : FuncData} {dV : Value} {C F0 D1 D2 D3 D4 D5 D6 D7 D8 : Addr}
theorem sc__law_others : FnScope ["_law_e","_law_kinds"] ["_law_e"] (ai cE):=⟨rfl,rfl,rfl,by decide +kernel,rfl,by decide +kernel,by decide +kernel⟩
theorem sc__law_refused : FnScope ["_law_thing","_law_seen","_law_e"] ["_law_thing"] (ai cg):=⟨rfl,rfl,rfl,by decide +kernel,rfl,by decide +kernel,by decide +kernel⟩
theorem FE (F : FunD K "_law_others" "_law_others" cE dV f fd) (c : XCls K C) (nC : mg "NoFigures" = some (.ref D1)) (nD : mg "NoMachine" = some (.ref D2)) (xh : mg "NoName" = some (.ref D3)) (tG : mg "NoPower" = some (.ref D4))
  (AD : mg "NoRow" = some (.ref D5)) (xi : mg "NoSome" = some (.ref D6)) (qB : mg "TooGreat" = some (.ref D7)) (tH : mg "TooWide" = some (.ref D8))
  (n1 : PySem.W.kitOne K (.ref C) (.ref D1) = some false) (n2 : PySem.W.kitOne K (.ref C) (.ref D2) = some false) (n3 : PySem.W.kitOne K (.ref C) (.ref D3) = some false) (n4 : PySem.W.kitOne K (.ref C) (.ref D4) = some false)
  (n5 : PySem.W.kitOne K (.ref C) (.ref D5) = some false) (n6 : PySem.W.kitOne K (.ref C) (.ref D6) = some false) (n7 : PySem.W.kitOne K (.ref C) (.ref D7) = some false) (n8 : PySem.W.kitOne K (.ref C) (.ref D8) = some false)
  (aH : mg "isinstance" = none) : FnOkH P w K mg base CX0 1 f fd ["_law_e"] (nY C):=by
 refine F.okH sc__law_others (fun vs H Q E h => ?_) (fun cdv A outer s H vs Q E hr h => ?_)
 ·obtain ⟨ea,rfl,_⟩:=h
  rfl
 obtain ⟨ea,rfl,he,q⟩:=h
 refine ⟨_,(au (ay (i:=1) sc__law_others.nd rfl (Or.inl rfl) (bE (aa (aD fD (by rfl) aH ba (aa (pv 0) (aa (bw (v:=.ref _) rfl nC rfl) ae))) (aa (aD fD (by rfl) aH ba (aa (pv 0) (aa (bw (v:=.ref _) rfl nD rfl) ae))) (aa (aD fD (by rfl) aH ba (aa (pv 0) (aa (bw (v:=.ref _) rfl xh rfl) ae))) (aa (aD fD (by rfl) aH ba (aa (pv 0) (aa (bw (v:=.ref _) rfl tG rfl) ae))) ae))))))
   (au (ay (i:=1) sc__law_others.nd rfl (Or.inl rfl) (ak nP (pv 1) (bE (aa (aD fD (by rfl) aH ba (aa (pv 0) (aa (bw (v:=.ref _) rfl AD rfl) ae))) (aa (aD fD (by rfl) aH ba (aa (pv 0) (aa (bw (v:=.ref _) rfl xi rfl) ae))) (aa (aD fD (by rfl) aH ba (aa (pv 0) (aa (bw (v:=.ref _) rfl qB rfl) ae))) (aa (aD fD (by rfl) aH ba (aa (pv 0) (aa (bw (v:=.ref _) rfl tH rfl) ae))) ae)))))))
   (ax (aU (rX zN jO (pv 1) (by with_unfolding_all rfl)))))),?_⟩
 refine ⟨_,rfl,ea,C,_,_,_,rfl,he,c,rfl,n1,_,rfl,ea,C,_,_,_,rfl,he,c,rfl,n2,_,rfl,ea,C,_,_,_,rfl,he,c,rfl,n3,_,rfl,ea,C,_,_,_,rfl,he,c,rfl,n4,(by show 4 <= sizeLine; decide),fun l1 h1 => ?_⟩
 have s1:=ah h1 (HO.lst [.bl false,.bl false,.bl false,.bl false])
 have e1:=s1 _ _ he
 refine ⟨_,rfl,_,rfl,ea,C,_,_,_,rfl,e1,c,rfl,n5,_,rfl,ea,C,_,_,_,rfl,e1,c,rfl,n6,_,rfl,ea,C,_,_,_,rfl,e1,c,rfl,n7,_,rfl,ea,C,_,_,_,rfl,e1,c,rfl,n8,(by show 4 <= sizeLine; decide),fun l2 h2 => ?_⟩
 have s2:=ah h2 (HO.lst [.bl false,.bl false,.bl false,.bl false])
 refine ⟨l1,l2,_,_,rfl,rfl,s2 _ _ af,af,(by show 8 <= sizeLine; decide),fun l3 h3 => ?_⟩
 have s3:=ah h3 (HO.lst [.bl false,.bl false,.bl false,.bl false,.bl false,.bl false,.bl false,.bl false])
 have sA:=s1.trans (s2.trans s3)
 exact ⟨_,rfl,l3,_,rfl,.inl (qL_ af),rfl,rfl,q _ sA⟩
theorem DJ (F : FunD K "_law_refused" "_law_refused" cg dV f fd) (c : XCls K C) (dW : mg "FigureError" = some (.ref F0)) (aI : mg "NoText" = some (.ref C)) (xm : PySem.W.exmOne K (.ref C) (.ref C) = some true) (kf : PySem.W.kitOne K (.ref C) (.ref F0) = some true)
  (kv : PySem.W.kitOne K (.ref C) (.type "ValueError") = some true) (gq : DefX P w K mg base "read" 52 ["text"] [] (sr K C))
  (dw : DefH P w K mg base "_law_others" 1 ["_law_e"] [] (nY C)) (aH : mg "isinstance" = none) (fV : mg "ValueError" = none) : FnOk P w K mg base CX0 53 f fd ["_law_thing"] (oz K):=by
 refine F.ok sc__law_refused (fun vs H Q E h => ?_) (fun cdv A outer s H vs Q E hr h => ?_)
 ·obtain ⟨v,rfl,_⟩:=h
  rfl
 obtain ⟨v,rfl,no,k⟩:=h
 have hu:=hr.units0
 refine ⟨_,(au (ay (i:=1) sc__law_refused.nd rfl (Or.inl rfl) (bE (aa jO (aa jO ae))))
   (au (JQ (i:=2) sc__law_refused.nd rfl rfl aI xm (JR (IE (Hd gq hr (aa (pv 0) ae)))) (fun _ => (ax (ay (i:=1) sc__law_refused.nd rfl (Or.inl rfl) (bE (aa (GY (aD (zx K) (by rfl) aH ba (aa (pv 2) (aa (bw (v:=.ref _) rfl dW rfl) ae))) (G6 (aD (zx K) (by rfl) aH ba (aa (pv 2) (aa (Bk (v:=.ty "ValueError") rfl fV yy rfl) ae))))) (aa (Kx dw hr.held (aa (pv 2) ae)) ae)))))))
   (ax (aU (rX (JJ hu) (pv 1) (bE (aa jO (aa jO ae))) (aS _)))))),?_⟩
 refine ⟨(by show 2 <= sizeLine; decide),fun l0 h0 => ?_⟩
 have s0:=ah h0 (HO.lst [.bl false,.bl true])
 refine ⟨_,rfl,v,rfl,.inl (no.sm s0),fun _ H1 s1' => ⟨rfl,fun ea hea => ?_⟩⟩
 have s1:=s0.trans (s1'.trans (ah hea (HO.ext (ExAt ea C))))
 refine ⟨_,rfl,ea,C,_,_,_,rfl,af,c,rfl,kf,_,rfl,cY ⟨_,rfl,ea,C,_,_,_,rfl,af,c,rfl,kv,?_⟩⟩
 refine ⟨_,rfl,ea,rfl,af,fun H2 s2 => ?_⟩
 refine ⟨(by show 2 <= sizeLine; decide),fun l2 h2 => ?_⟩
 have s3:=s1.trans (s2.trans (ah h2 (HO.lst [.bl true,.bl false])))
 refine ⟨_,rfl,(by show 2 <= sizeLine; decide),fun l3 h3 => ?_⟩
 have s4:=ah h3 (HO.lst [.bl true,.bl false])
 exact ⟨l2,l3,_,_,rfl,rfl,qL_ (s4 _ _ af),qL_ af,rfl,rfl,k _ (s3.trans s4)⟩
end
def wordsOf : List Expr -> Option (List Str)
 | [] => some []
 | .Constant (.str w) _ _ :: es => match wordsOf es with
  | some ws => some (w :: ws)
  | none => none
 | _ :: _ => none
def tWs (ws : List Str) : TA:=fun _ H Q => Q (ws.map V.str) H
theorem rU {X : Cx} : ∀ {es : List Expr} {ws : List Str},wordsOf es = some ws -> PA X es (tWs ws)
 | [],ws,h => by
  cases h
  exact ae
 | .Constant (.str w) j p :: es,ws,h => by
  unfold wordsOf at h
  cases e : wordsOf es with
  | none => rw [e] at h; cases h
  | some vs =>
   rw [e] at h
   cases h
   exact aa ar (rU e)
def WI (H0 : Hp) (acc : List Str) (σ : St) (H : Hp) : Prop := ∃ L : Addr,σ = [some (.ref L)] /\ Same H0 H /\ H L = some (.lst (acc.map V.str))
def tW0 (ws : List Str) : TS:=fun D σ H => ∃ (v : OV),σ = [v] /\ ws.length <= 1000 /\ ∀ (σ' : St) (H' : Hp),WI H ws σ' H' -> D.nx σ' H'
def tW1 (ws : List Str) : TS:=fun D σ H => ∃ (H0 : Hp) (acc : List Str),acc.length <= 500 /\ ws.length <= 500 /\ WI H0 acc σ H /\ ∀ (σ' : St) (H' : Hp),WI H0 (acc ++ ws) σ' H' -> D.nx σ' H'
def tWR (ws : List Str) : TS:=fun D σ H => ∃ (H0 : Hp) (acc : List Str),acc.length <= 500 /\ ws.length <= 500 /\ WI H0 acc σ H /\ ∀ (L : Addr) (H' : Hp),Same H0 H' -> H' L = some (.lst ((acc ++ ws).map V.str)) -> D.rt (.ref L) H'
theorem xV {X : Cx} {st : Stmt} {t t' : TS} (h : PS X st t) (w : ∀ D σ H,t' D σ H -> t D σ H) : PSW X st t' := ⟨fun pins s σ H D I q => h pins s σ H D I (w _ _ _ q)⟩
section
variable {X : Cx}
theorem K1 {x : Str} {pos' p pos : Pos} {es : List Expr} {ws : List Str} (hN : X.N.Nodup) (hi : X.N[0]? = some x) (hx : Loc X.env.scope x) (he : wordsOf es = some ws:=by rfl) (hf : X.fn x = true \/ X.env.scope.names.lookup x = some .local:=by first | exact .inl rfl | exact .inr rfl | assumption) : PSW X (.Assign [.Name x pos'] (.List es p) pos) (tW0 ws):=
 xV (ay hN hi hx (bE (rU he)) rfl hf) fun D σ H q => by
  obtain ⟨v,rfl,l,q⟩:=q
  refine ⟨Nat.le_trans (show _ <= 1000 by rw [lm_]; exact l) (by decide),fun L hL => ?_⟩
  exact q _ _ ⟨L,rfl,ah hL _,af⟩
theorem F5 {K : PySem.W.Frag} {H0 H : Hp} {acc ws : List Str} {σ : St} {Q : VK} (la : acc.length <= 500) (lw : ws.length <= 500) (h : WI H0 acc σ H) (q : ∀ (L : Addr) (H' : Hp),Same H0 H' -> H' L = some (.lst ((acc ++ ws).map V.str)) -> Q (.ref L) H') : tOp Ky (yj 0) (J7 (tWs ws)) σ H Q:=by
 obtain ⟨L,rfl,s,hL⟩:=h
 refine ⟨_,rfl,Nat.le_trans (show _ <= 500 by rw [lm_]; exact lw) (by decide),fun L2 h2 => ?_⟩
 have s2:=ah h2 (HO.lst (ws.map V.str))
 refine ⟨L,L2,_,_,rfl,rfl,s2 _ _ hL,af,Nat.le_trans (show _ <= 1000 by rw [lm_,lm_]; omega) (by decide),fun L3 h3 => ?_⟩
 exact q L3 _ (s.trans (s2.trans (ah h3 _))) (by rw [af,List.map_append])
theorem pP {x : Str} {pos' p p1 p2 pos : Pos} {es : List Expr} {ws : List Str} (hv : PEW X (.Name x p1) (yj 0)) (hN : X.N.Nodup) (hi : X.N[0]? = some x) (hx : Loc X.env.scope x) (he : wordsOf es = some ws:=by rfl) (hf : X.fn x = true \/ X.env.scope.names.lookup x = some .local:=by first | exact .inl rfl | exact .inr rfl | assumption) : PSW X (.Assign [.Name x pos'] (.BinOp (.Name x p1) .Add (.List es p) p2) pos) (tW1 ws):=
 xV (ay hN hi hx (ak nP hv.out (bE (rU he))) rfl hf) fun D σ H q => by
  obtain ⟨H0,acc,la,lw,wi,q⟩:=q
  obtain ⟨L0,rfl,_⟩:=id wi
  exact F5 (K:=X.K) la lw wi fun L H' s hL => q _ _ ⟨L,rfl,s,hL⟩
theorem K2 {x : Str} {p p1 p2 pos : Pos} {es : List Expr} {ws : List Str} (hv : PEW X (.Name x p1) (yj 0)) (he : wordsOf es = some ws:=by rfl) : PSW X (.Return (some (.BinOp (.Name x p1) .Add (.List es p) p2)) pos) (tWR ws):=
 xV (aU (ak nP hv.out (bE (rU he)))) fun D σ H q => by
  obtain ⟨H0,acc,la,lw,wi,q⟩:=q
  exact F5 (K:=X.K) la lw wi fun L H' s hL => q L H' s hL
end
def oy (ls : List Str) : Sp:=fun vs H Q _ => vs = [] /\ ∀ (L : Addr) (H' : Hp),Same H H' -> H' L = some (.lst (ls.map V.str)) -> Q (.ref L) H'
def linesA : List Str:=[Str.ofString "",Str.ofString " ",Str.ofString "x",Str.ofString "x =",Str.ofString "x = ",Str.ofString "= x",Str.ofString "x=y",Str.ofString "x == y",Str.ofString "x > y",Str.ofString "x >= y",Str.ofString "x =< y",Str.ofString "x <=y",Str.ofString "1*x = y"] ++
 [Str.ofString "0*x = y",Str.ofString "21*x = y",Str.ofString "01*x = y",Str.ofString "100*x = y",Str.ofString "x*2 = y",Str.ofString "2*3 = y",Str.ofString "2* x = y",Str.ofString "2 *x = y"] ++
 [Str.ofString "2x = y",Str.ofString "x = 00",Str.ofString "x = 007",Str.ofString "x = 1000000",Str.ofString "x = 0000000",Str.ofString "x = -1",Str.ofString "x + = y",Str.ofString "+ x = y"] ++
 [Str.ofString "x +y = z",Str.ofString "x+ y = z",Str.ofString "x + y",Str.ofString "x y = z",Str.ofString "abcdefg = x",Str.ofString "x = abcdefg",Str.ofString "and = 3",Str.ofString "x = or"] ++
 [Str.ofString "not = 3",Str.ofString "some = 1",Str.ofString "all = x",Str.ofString "2*and = x",Str.ofString "x = some",Str.ofString "X = 3",Str.ofString "x = Y",Str.ofString "xY = 3",Str.ofString "x1 = 3"] ++
 [Str.ofString "x = y = z",Str.ofString "x = y,",Str.ofString "x = y + ",Str.ofString "x = 2 * y",Str.ofString "x - y = z",Str.ofString "true",Str.ofString "x = y z",Str.ofString "1",Str.ofString "x < y < z"] ++
 [Str.ofString "x + x + x + x + x + x + x + x + x = 1",Str.ofString "1 = x + x + x + x + x + x + x + x + x"]
theorem sc__law_plain_lines : FnScope ["_law_lines"] [] (ai bL):=⟨rfl,rfl,rfl,by decide +kernel,rfl,by decide +kernel,by decide +kernel⟩
theorem FA {P : Program} {w : World} {K : PySem.W.Frag} {mg : Str -> Option Value} {base : Heap} {f : Addr} {fd : FuncData} {dV : Value} (F : FunD K "_law_plain_lines" "_law_plain_lines" bL dV f fd) : FnOk P w K mg base CX0 1 f fd [] (oy linesA):=by
 refine F.ok sc__law_plain_lines (fun vs H Q E h => ?_) (fun cdv A outer s H vs Q E hr h => ?_)
 ·obtain ⟨rfl,_⟩:=h
  rfl
 obtain ⟨rfl,q⟩:=h
 refine gP (aw (K1 sc__law_plain_lines.nd rfl (Or.inl rfl)) (aw (pP (PEW.mk (pv 0)) sc__law_plain_lines.nd rfl (Or.inl rfl)) (aw (pP (PEW.mk (pv 0)) sc__law_plain_lines.nd rfl (Or.inl rfl)) (aw (pP (PEW.mk (pv 0)) sc__law_plain_lines.nd rfl (Or.inl rfl)) (aw (pP (PEW.mk (pv 0)) sc__law_plain_lines.nd rfl (Or.inl rfl)) (aw (pP (PEW.mk (pv 0)) sc__law_plain_lines.nd rfl (Or.inl rfl)) (bC (K2 (PEW.mk (pv 0)))))))))) ?_
 refine ⟨_,rfl,by decide,fun σ H1 w1 => ?_⟩
 refine ⟨H,_,by decide,by decide,w1,fun σ H1 w1 => ?_⟩
 refine ⟨H,_,by decide,by decide,w1,fun σ H1 w1 => ?_⟩
 refine ⟨H,_,by decide,by decide,w1,fun σ H1 w1 => ?_⟩
 refine ⟨H,_,by decide,by decide,w1,fun σ H1 w1 => ?_⟩
 refine ⟨H,_,by decide,by decide,w1,fun σ H1 w1 => ?_⟩
 exact ⟨H,_,by decide,by decide,w1,fun L H' s hL => q L H' s hL⟩
def linesB : List Str:=[Str.ofString "T[x]",Str.ofString "T[x] = y",Str.ofString "T[x] = t[y]",Str.ofString "t[x] = 1",Str.ofString "T[] = 1",Str.ofString "T[x = 1",Str.ofString "Tx] = 1",Str.ofString "T [x] = 1",Str.ofString "T[x]= 1"] ++
 [Str.ofString "T[x] =1",Str.ofString "T[x] < 1",Str.ofString "T[x] <= T[y]",Str.ofString "T[x] = 1000000",Str.ofString "T[x] = 01",Str.ofString "T[x] = 1 + 1",Str.ofString "3 = T[x]"] ++
 [Str.ofString "ABCDEFG[x] = 1",Str.ofString "T[x] + 1 = 2",Str.ofString "T[T[x]] = 1",Str.ofString "x = T[y]",Str.ofString "T[ x] = 1",Str.ofString "T[x ] = 1",Str.ofString "[x] = 1"] ++
 [Str.ofString "T(x) = 1",Str.ofString "T[x]] = 1",Str.ofString "T[x] = T[y",Str.ofString "T[x] = T",Str.ofString "T[x] = ",Str.ofString "T = 1",Str.ofString "T1[x] = 1",Str.ofString "Tt[x] = 1"] ++
 [Str.ofString "(x = x)",Str.ofString "not(x = x)",Str.ofString "not (x = x)",Str.ofString "not",Str.ofString "not ",Str.ofString "notx = y and y = z",Str.ofString "x = y and y = z"] ++
 [Str.ofString "(x = y and y = z",Str.ofString "x = y and y = z)",Str.ofString "(x = y and y = z))",Str.ofString "((x = y and y = z)",Str.ofString "(x = y and)"] ++
 [Str.ofString "(x = y and y = z and z = x)",Str.ofString "( x = y and y = z)",Str.ofString "(x = y and y = z )",Str.ofString "(and x = y)",Str.ofString "()"] ++
 [Str.ofString "(x = y xor y = z)",Str.ofString "(x = y And y = z)",Str.ofString "(x = y,y = z)",Str.ofString "(x = y andy = z)",Str.ofString "(x = yor y = z)"] ++
 [Str.ofString "some x x = y",Str.ofString "some x : x = y",Str.ofString "some x:x = y",Str.ofString "some : x = y",Str.ofString "some x: ",Str.ofString "some x:",Str.ofString "some"] ++
 [Str.ofString "some x, y: x = y",Str.ofString "some X: x = y",Str.ofString "some and: x = x",Str.ofString "all all: x = x",Str.ofString "all abcdefg: x = x"] ++
 [Str.ofString "some 1: x = x",Str.ofString "Some x: x = y",Str.ofString "some 2*x: x = y",Str.ofString "some x: x",Str.ofString "allx: x = y",Str.ofString "any x: x = y"] ++
 [Str.ofString "(x = y and y = z) or x = z",Str.ofString "x = y or (y = z and z = x)",Str.ofString "not x"] ++
 [Str.ofString "no x = y",Str.ofString "not not",Str.ofString "((x = y))"]
theorem sc__law_other_lines : FnScope ["_law_lines"] [] (ai bK):=⟨rfl,rfl,rfl,by decide +kernel,rfl,by decide +kernel,by decide +kernel⟩
theorem FC {P : Program} {w : World} {K : PySem.W.Frag} {mg : Str -> Option Value} {base : Heap} {f : Addr} {fd : FuncData} {dV : Value} (F : FunD K "_law_other_lines" "_law_other_lines" bK dV f fd) : FnOk P w K mg base CX0 1 f fd [] (oy linesB):=by
 refine F.ok sc__law_other_lines (fun vs H Q E h => ?_) (fun cdv A outer s H vs Q E hr h => ?_)
 ·obtain ⟨rfl,_⟩:=h
  rfl
 obtain ⟨rfl,q⟩:=h
 refine gP (aw (K1 sc__law_other_lines.nd rfl (Or.inl rfl)) (aw (pP (PEW.mk (pv 0)) sc__law_other_lines.nd rfl (Or.inl rfl)) (aw (pP (PEW.mk (pv 0)) sc__law_other_lines.nd rfl (Or.inl rfl)) (aw (pP (PEW.mk (pv 0)) sc__law_other_lines.nd rfl (Or.inl rfl)) (aw (pP (PEW.mk (pv 0)) sc__law_other_lines.nd rfl (Or.inl rfl)) (aw (pP (PEW.mk (pv 0)) sc__law_other_lines.nd rfl (Or.inl rfl)) (aw (pP (PEW.mk (pv 0)) sc__law_other_lines.nd rfl (Or.inl rfl)) (aw (pP (PEW.mk (pv 0)) sc__law_other_lines.nd rfl (Or.inl rfl)) (aw (pP (PEW.mk (pv 0)) sc__law_other_lines.nd rfl (Or.inl rfl)) (aw (pP (PEW.mk (pv 0)) sc__law_other_lines.nd rfl (Or.inl rfl)) (aw (pP (PEW.mk (pv 0)) sc__law_other_lines.nd rfl (Or.inl rfl)) (aw (pP (PEW.mk (pv 0)) sc__law_other_lines.nd rfl (Or.inl rfl)) (bC (K2 (PEW.mk (pv 0)))))))))))))))) ?_
 refine ⟨_,rfl,by decide,fun σ H1 w1 => ?_⟩
 refine ⟨H,_,by decide,by decide,w1,fun σ H1 w1 => ?_⟩
 refine ⟨H,_,by decide,by decide,w1,fun σ H1 w1 => ?_⟩
 refine ⟨H,_,by decide,by decide,w1,fun σ H1 w1 => ?_⟩
 refine ⟨H,_,by decide,by decide,w1,fun σ H1 w1 => ?_⟩
 refine ⟨H,_,by decide,by decide,w1,fun σ H1 w1 => ?_⟩
 refine ⟨H,_,by decide,by decide,w1,fun σ H1 w1 => ?_⟩
 refine ⟨H,_,by decide,by decide,w1,fun σ H1 w1 => ?_⟩
 refine ⟨H,_,by decide,by decide,w1,fun σ H1 w1 => ?_⟩
 refine ⟨H,_,by decide,by decide,w1,fun σ H1 w1 => ?_⟩
 refine ⟨H,_,by decide,by decide,w1,fun σ H1 w1 => ?_⟩
 refine ⟨H,_,by decide,by decide,w1,fun σ H1 w1 => ?_⟩
 exact ⟨H,_,by decide,by decide,w1,fun L H' s hL => q L H' s hL⟩
theorem GA : ∀ z ∈ linesA ++ linesB,z.length <= 100 /\ gK z = none:=by decide +kernel
def badC : List Nat:=[63,35,45,95,62,123,10]
def okC (c : Nat) : Bool := !badC.contains c
def chk : Bool -> List Nat -> Option Bool
 | s,[] => some s
 | s,c :: l => if c = 32 then (if s = true then none else chk true l) else if okC c = true then chk false l else none
theorem bb : ∀ (s : Bool) (a b : List Nat),chk s (a ++ b) = (chk s a).bind fun t => chk t b
 | s,[],b => rfl
 | s,c :: a,b => by
  rw [List.cons_append,chk,chk]
  by_cases e : c = 32
  ·rw [if_pos e,if_pos e]
   cases s with
   | true => rfl
   | false => exact bb true a b
  ·rw [if_neg e,if_neg e]
   by_cases e2 : okC c = true
   ·rw [if_pos e2,if_pos e2]
    exact bb false a b
   ·rw [if_neg e2,if_neg e2]
    rfl
theorem zB {p : Nat -> Bool} (hp : ∀ c,p c = true -> c ≠ 32 /\ okC c = true) : ∀ {l : List Nat} (s : Bool),l ≠ [] -> (∀ c ∈ l,p c = true) -> chk s l = some false
 | [],_,h,_ => absurd rfl h
 | [c],s,_,h => by
  have:=hp c (h c List.mem_cons_self)
  rw [chk,if_neg this.1,if_pos this.2]
  rfl
 | c :: d :: l,s,_,h => by
  have:=hp c (h c List.mem_cons_self)
  rw [chk,if_neg this.1,if_pos this.2]
  exact zB hp false (List.cons_ne_nil _ _) fun e he => h e (List.mem_cons_of_mem _ he)
theorem Jr {a b : Nat} (h : (a = 48 /\ b = 57) \/ (a = 65 /\ b = 90) \/ (a = 97 /\ b = 122)) (c : Nat) (hc : inR a b c = true) : c ≠ 32 /\ okC c = true:=by
 have hr:=of_decide_eq_true hc
 have l : c < 123:=by omega
 have g : ∀ c < 123,(48 <= c /\ c <= 57) \/ (65 <= c /\ c <= 90) \/ (97 <= c /\ c <= 122) -> c ≠ 32 /\ okC c = true:=by decide +kernel
 exact g c l (by omega)
theorem wG {a b : Nat} {n : Str} (h : (a = 48 /\ b = 57) \/ (a = 65 /\ b = 90) \/ (a = 97 /\ b = 122)) (ne : 1 <= n.length) (hn : ∀ c ∈ n.cps.toList,inR a b c = true) (s : Bool) : chk s n.cps.toList = some false:=
 zB (Jr h) s (fun z => by rw [du,z] at ne; exact absurd ne (by decide)) hn
theorem Ah {n : Int} (h : 0 <= n) (s : Bool) : chk s (cu n).cps.toList = some false:=wG (.inl ⟨rfl,rfl⟩) (dC h).1 (dC h).2 s
theorem Df {n : Str} (h : cn n) (s : Bool) : chk s n.cps.toList = some false:=wG (.inr (.inr ⟨rfl,rfl⟩)) h.1.1 h.1.2.2 s
theorem Ai {n : Str} (h : fm n) (s : Bool) : chk s n.cps.toList = some false:=wG (.inr (.inl ⟨rfl,rfl⟩)) h.1 h.2.2 s
theorem B1 {p : Prt} (h : gL p) (s : Bool) : chk s (aR p).cps.toList = some false:=by
 unfold aR
 rcases h with h | h
 ·rw [if_pos h.1]
  exact Ah h.2.1 s
 ·rw [if_neg (vW h.1)]
  split
  ·exact Df h.1 s
  ·rw [aj,aj,bb,bb,Ah (by omega),CW]
   exact Df h.1 false
theorem B2 : ∀ {qs : List Prt},(∀ p ∈ qs,gL p) -> chk false (cM qs).cps.toList = some false
 | [],_ => by rw [tail_nil]; rfl
 | q :: qs,h => by
  show chk false (Str.ofString " + " ++ (aR q ++ cM qs)).cps.toList = _
  rw [aj,aj,kR,bb]
  show chk true ((aR q).cps.toList ++ (cM qs).cps.toList) = _
  rw [bb]
  rw [B1 (h q List.mem_cons_self)]
  exact B2 fun p hp => h p (List.mem_cons_of_mem _ hp)
theorem Aj {a : List Prt} (h : dS a) (s : Bool) : chk s (bx a).cps.toList = some false:=by
 cases a with
 | nil => exact absurd rfl h.1
 | cons p qs =>
  rw [iB,aj,bb,B1 (h.2.2 p List.mem_cons_self)]
  exact B2 fun q hq => h.2.2 q (List.mem_cons_of_mem _ hq)
theorem Ag {a : List Prt} (h : dS a) (s : Bool) : chk s (brk a).cps.toList = some false:=by
 unfold brk
 rw [aj,aj,bb,bb,show (("[" : Str)).cps.toList = [91] from AQ,show (("]" : Str)).cps.toList = [93] from Bu]
 show ((chk false (bx a).cps.toList).bind _) = _
 rw [Aj h]
 rfl
theorem Er {k : Str} (h : yq k \/ k = ("and" : Str) \/ k = ("or" : Str)) : chk false (cw k).cps.toList = some true:=by
 rcases h with (e | e | e) | e | e <;> subst e <;> decide +kernel
theorem F6 : chk false (Str.ofString " = ").cps.toList = some true:=by decide +kernel
theorem kL : ∀ {st : Stt} (s : Bool),Wr st -> chk s (aq st).cps.toList = some false
 | .cmp k a b,s,wr => by
  rw [show aq (.cmp k a b) = (bx a ++ cw k) ++ bx b from rfl,aj,aj,bb,bb,Aj wr.2.1,Option.bind_some,Er (.inl wr.1),Option.bind_some]
  exact Aj wr.2.2 true
 | .sg r a n,s,wr => by
  rw [sq,aj,aj,aj,bb,Ai wr.1,Option.bind_some,bb,bb,Ag wr.2.1,Option.bind_some,show chk false ((" = " : Str)).cps.toList = some true from F6]
  exact Ah wr.2.2.1 true
 | .lk r a q b,s,wr => by
  rw [sk,aj,aj,aj,aj,bb,Ai wr.1,Option.bind_some,bb,bb,Ag wr.2.1,Option.bind_some,show chk false ((" = " : Str)).cps.toList = some true from F6,Option.bind_some,bb,Ai wr.2.2.1]
  exact Ag wr.2.2.2 false
 | .no t,s,wr => by
  rw [show aq (.no t) = Str.ofString "not " ++ aq t from rfl,aj,bb,rP]
  show (chk true (aq t).cps.toList) = _
  exact kL true wr
 | .jn k t u,s,wr => by
  rw [mf,aj]
  unfold jnT
  rw [aj,aj,aj,bb,show (("(" : Str)).cps.toList = [40] from rV]
  show chk false _ = _
  rw [bb,bb,bb,kL false wr.2.1,Option.bind_some,Er (.inr wr.1),Option.bind_some,kL true wr.2.2]
  decide +kernel
 | .ch k n t,s,wr => by
  rw [wb,aj (k ++ (" " : Str))]
  unfold chT
  rw [aj (n ++ (": " : Str)),aj n,bb]
  have e : chk s (k ++ (" " : Str)).cps.toList = some true:=by
   rcases wr.1 with e | e <;> subst e
   ·rw [gp]; cases s <;> rfl
   ·rw [iP]; cases s <;> rfl
  rw [e,Option.bind_some,bb,bb,Df wr.2.1,Option.bind_some,show chk false ((": " : Str)).cps.toList = some true from by decide +kernel]
  exact kL true wr.2.2
def isD (c : Nat) : Bool:=inR 48 57 c
def rb : Nat -> List Nat -> Bool
 | _,[] => true
 | k,c :: l => if isD c = true then (match k with | 0 => false | k + 1 => rb k l) else rb 20 l
theorem dG (k c : Nat) (l : List Nat) : rb k (c :: l) = if isD c = true then (match k with | 0 => false | k + 1 => rb k l) else rb 20 l:=by cases k <;> rfl
theorem EV : ∀ {l : List Nat} {k j : Nat},k <= j -> j <= 20 -> rb k l = true -> rb j l = true
 | [],_,_,_,_,_ => rfl
 | c :: l,k,j,h,hj,e => by
  rw [dG] at e ⊢
  by_cases d : isD c = true
  ·rw [if_pos d] at e ⊢
   cases k with
   | zero => cases e
   | succ k =>
    cases j with
    | zero => exact absurd h (by omega)
    | succ j => exact EV (by omega) (by omega) e
  ·rw [if_neg d] at e ⊢
   exact e
theorem Ja : ∀ {l : List Nat} {k : Nat},rb k l = true -> (l.takeWhile (inR 48 57)).length <= k
 | [],_,_ => Nat.zero_le _
 | c :: l,k,e => by
  rw [dG] at e
  rw [List.takeWhile_cons]
  by_cases d : isD c = true
  ·rw [if_pos d] at e
   rw [if_pos (show inR 48 57 c = true from d)]
   cases k with
   | zero => cases e
   | succ k =>
    have:=Ja (k:=k) e
    rw [List.length_cons]
    omega
  ·rw [if_neg (show ¬ inR 48 57 c = true from d)]
   exact Nat.zero_le _
theorem wa : ∀ {l : List Nat} {k : Nat} (i : Nat),k <= 20 -> rb k l = true -> rb 20 (l.drop i) = true
 | l,k,0,h,e => EV h (Nat.le_refl _) e
 | [],_,_ + 1,_,_ => rfl
 | c :: l,k,i + 1,h,e => by
  rw [dG] at e
  by_cases d : isD c = true
  ·rw [if_pos d] at e
   cases k with
   | zero => cases e
   | succ k => exact wa (k:=k) i (by omega) e
  ·rw [if_neg d] at e
   exact wa (k:=20) i (Nat.le_refl _) e
theorem tu {z : Str} (h : rb 20 z.cps.toList = true) : uv z:=fun i => Nat.le_trans (Ja (wa i (Nat.le_refl _) h)) (by decide)
theorem Bt : ∀ {l : List Nat} {k : Nat} (i : Nat),rb k l = true -> rb k (l.take i) = true
 | _,_,0,_ => by rw [List.take_zero]; rfl
 | [],_,_ + 1,_ => by rw [List.take_nil]; rfl
 | c :: l,k,i + 1,e => by
  rw [List.take_succ_cons]
  rw [dG] at e ⊢
  by_cases d : isD c = true
  ·rw [if_pos d] at e ⊢
   cases k with
   | zero => cases e
   | succ k => exact Bt i e
  ·rw [if_neg d] at e ⊢
   exact Bt i e
theorem DT : ∀ {a b : List Nat} {c k : Nat},isD c = false -> rb k a = true -> rb 20 b = true -> rb k (a ++ c :: b) = true
 | [],b,c,k,hc,_,hb => by
  rw [List.nil_append,dG,if_neg (by rw [hc]; decide)]
  exact hb
 | x :: a,b,c,k,hc,ha,hb => by
  rw [List.cons_append,dG]
  rw [dG] at ha
  by_cases d : isD x = true
  ·rw [if_pos d] at ha ⊢
   cases k with
   | zero => cases ha
   | succ k => exact DT hc ha hb
  ·rw [if_neg d] at ha ⊢
   exact DT hc ha hb
theorem nX : ∀ {l : List Nat} {k : Nat},l.length <= k -> k <= 20 -> rb k l = true
 | [],_,_,_ => rfl
 | c :: l,k,h,hk => by
  rw [dG]
  rw [List.length_cons] at h
  by_cases d : isD c = true
  ·rw [if_pos d]
   cases k with
   | zero => exact absurd h (by omega)
   | succ k => exact nX (by omega) (by omega)
  ·rw [if_neg d]
   exact nX (by omega) (Nat.le_refl _)
def Nd (l : List Nat) : Prop := ∀ c,l.head? = some c -> isD c = false
theorem ue : ∀ {a b : List Nat} {k : Nat},k <= 20 -> rb k a = true -> Nd b -> rb 20 b = true -> rb k (a ++ b) = true
 | [],[],_,_,_,_,_ => rfl
 | [],c :: b,k,hk,_,h,hb => by
  rw [List.nil_append,dG,if_neg (by rw [h c rfl]; decide)]
  rw [dG,if_neg (by rw [h c rfl]; decide)] at hb
  exact hb
 | x :: a,b,k,hk,ha,h,hb => by
  rw [List.cons_append,dG]
  rw [dG] at ha
  by_cases d : isD x = true
  ·rw [if_pos d] at ha ⊢
   cases k with
   | zero => cases ha
   | succ k => exact ue (by omega) ha h hb
  ·rw [if_neg d] at ha ⊢
   exact ue (Nat.le_refl _) ha h hb
theorem ic : ∀ {a b : List Nat},(∀ c ∈ a,isD c = false) -> rb 20 b = true -> rb 20 (a ++ b) = true
 | [],b,_,hb => hb
 | c :: a,b,h,hb => by
  rw [List.cons_append,dG,if_neg (by rw [h c List.mem_cons_self]; decide)]
  exact ic (fun d hd => h d (List.mem_cons_of_mem _ hd)) hb
theorem EW : ∀ {qs : List Prt},(∀ p ∈ qs,gL p) -> rb 20 (cM qs).cps.toList = true /\ Nd (cM qs).cps.toList
 | [],_ => by rw [tail_nil]; exact ⟨rfl,fun c h => nomatch h⟩
 | q :: qs,h => by
  have e : (cM (q :: qs)).cps.toList = [32,43,32] ++ ((aR q).cps.toList ++ (cM qs).cps.toList):=by
   show (Str.ofString " + " ++ (aR q ++ cM qs)).cps.toList = _
   rw [aj,aj,kR]
  rw [e]
  have ih:=EW fun p hp => h p (List.mem_cons_of_mem _ hp)
  have l9:=part9 (h q List.mem_cons_self)
  refine ⟨ic (by decide) (ue (Nat.le_refl _) (nX (by rw [<- du]; omega) (Nat.le_refl _)) ih.2 ih.1),fun c hc => by cases hc; decide⟩
theorem DU {a : List Prt} (h : dS a) {t : List Nat} (ht : rb 20 t = true) (nt : Nd t) : rb 20 ((bx a).cps.toList ++ t) = true:=by
 cases a with
 | nil => exact absurd rfl h.1
 | cons p qs =>
  have l9:=part9 (h.2.2 p List.mem_cons_self)
  have ih:=EW fun q hq => h.2.2 q (List.mem_cons_of_mem _ hq)
  rw [iB,aj,List.append_assoc]
  refine ue (Nat.le_refl _) (nX (by rw [<- du]; omega) (Nat.le_refl _)) ?_ (ue (Nat.le_refl _) ih.1 nt ht)
  intro c hc
  cases e : (cM qs).cps.toList with
  | nil =>
   rw [e] at hc
   exact nt c hc
  | cons d l =>
   rw [e] at hc
   cases hc
   exact ih.2 _ (by rw [e]; rfl)
theorem A2 {a b : Nat} (h : (a = 65 /\ b = 90) \/ (a = 97 /\ b = 122)) {l : List Nat} (hl : ∀ c ∈ l,inR a b c = true) : ∀ c ∈ l,isD c = false:=fun c hc => by
 have:=of_decide_eq_true (hl c hc)
 exact decide_eq_false (by omega)
theorem JT {n : Int} (h0 : 0 <= n) (h1 : n <= 999999) {t : List Nat} (ht : rb 20 t = true) (nt : Nd t) : rb 20 ((cu n).cps.toList ++ t) = true:=
 ue (Nat.le_refl _) (nX (by rw [<- du]; have:=JC h0 h1; omega) (Nat.le_refl _)) nt ht
theorem A1 {c : Nat} {l : List Nat} (h : isD c = false) : Nd (c :: l):=fun d hd => by cases hd; exact h
theorem DS {a : List Prt} (h : dS a) {t : List Nat} (ht : rb 20 t = true) : rb 20 ((brk a).cps.toList ++ t) = true:=by
 unfold brk
 rw [aj,aj,List.append_assoc,List.append_assoc,show (("[" : Str)).cps.toList = [91] from AQ,show (("]" : Str)).cps.toList = [93] from Bu]
 exact ic (by decide) (DU h (ic (a:=[93]) (by decide) ht) (A1 (by decide)))
theorem Hf {k : Str} (h : yq k \/ k = ("and" : Str) \/ k = ("or" : Str)) {t : List Nat} (ht : rb 20 t = true) : rb 20 ((cw k).cps.toList ++ t) = true /\ Nd ((cw k).cps.toList ++ t):=by
 refine ⟨ic ?_ ht,?_⟩
 ·rcases h with (e | e | e) | e | e <;> subst e <;> decide +kernel
 ·rw [me]
  exact A1 (by decide)
theorem sh : ∀ {st : Stt} {t : List Nat},Wr st -> rb 20 t = true -> Nd t -> rb 20 ((aq st).cps.toList ++ t) = true
 | .cmp k a b,t,wr,ht,nt => by
  rw [show aq (.cmp k a b) = (bx a ++ cw k) ++ bx b from rfl,aj,aj,List.append_assoc,List.append_assoc]
  have h:=Hf (.inl wr.1) (DU wr.2.2 ht nt)
  exact DU wr.2.1 h.1 h.2
 | .sg r a n,t,wr,ht,nt => by
  rw [sq,aj,aj,aj,List.append_assoc,List.append_assoc,List.append_assoc]
  exact ic (A2 (.inl ⟨rfl,rfl⟩) wr.1.2.2) (DS wr.2.1 (ic (by decide +kernel) (JT wr.2.2.1 wr.2.2.2 ht nt)))
 | .lk r a q b,t,wr,ht,nt => by
  rw [sk,aj,aj,aj,aj,List.append_assoc,List.append_assoc,List.append_assoc,List.append_assoc]
  exact ic (A2 (.inl ⟨rfl,rfl⟩) wr.1.2.2) (DS wr.2.1 (ic (by decide +kernel) (ic (A2 (.inl ⟨rfl,rfl⟩) wr.2.2.1.2.2) (DS wr.2.2.2 ht))))
 | .no s,t,wr,ht,nt => by
  rw [show aq (.no s) = Str.ofString "not " ++ aq s from rfl,aj,List.append_assoc]
  exact ic (by decide +kernel) (sh wr ht nt)
 | .jn k s u,t,wr,ht,nt => by
  rw [mf,aj]
  unfold jnT
  rw [aj,aj,aj]
  simp only [List.append_assoc]
  have hp : rb 20 (((")" : Str)).cps.toList ++ t) = true:=ic (by decide +kernel) ht
  have h:=Hf (.inr wr.1) (sh (st:=u) wr.2.2 hp (by rw [show ((")" : Str)).cps.toList = [41] from by decide +kernel]; exact A1 (by decide)))
  exact ic (by decide +kernel) (sh (st:=s) wr.2.1 h.1 h.2)
 | .ch k n s,t,wr,ht,nt => by
  rw [wb,aj (k ++ (" " : Str))]
  unfold chT
  rw [aj (n ++ (": " : Str)),aj n]
  simp only [List.append_assoc]
  refine ic ?_ (ic (A2 (.inr ⟨rfl,rfl⟩) wr.2.1.1.2.2) (ic (by decide +kernel) (sh (st:=s) wr.2.2 ht nt)))
  rcases wr.1 with e | e <;> subst e <;> decide +kernel
theorem zP {st : Stt} (wr : Wr st) : rb 20 (aq st).cps.toList = true:=by
 have:=sh (t:=[]) wr rfl (fun c h => nomatch h)
 rw [List.append_nil] at this
 exact this
def DQ (z : Str) (i c : Nat) : Str:=aO (z.cps.toList.take i ++ c :: z.cps.toList.drop i)
def FW (z : Str) (i c : Nat) : Prop:=c ∈ badC \/ (c = 32 /\ (i = 0 \/ z.length <= i \/ z.cps.toList[i]? = some 32))
theorem HR {c : Nat} (h : c ∈ badC) (s : Bool) (l : List Nat) : chk s (c :: l) = none:=by
 have g : ∀ c ∈ badC,c ≠ 32 /\ okC c = false:=by decide
 have:=g c h
 rw [chk,if_neg this.1,if_neg (by rw [this.2]; decide)]
theorem Hn {st : Stt} {i c : Nat} (wr : Wr st) (h : FW (aq st) i c) : gK (DQ (aq st) i c) = none:=by
 cases e : gK (DQ (aq st) i c) with
 | none => rfl
 | some s2 =>
  exfalso
  obtain ⟨ez,w2,_⟩:=rh e
  have c2:=kL true w2
  have c1:=kL true wr
  rw [<- ez] at c2
  have c2' : chk true ((aq st).cps.toList.take i ++ c :: (aq st).cps.toList.drop i) = some false:=c2
  rw [bb] at c2'
  cases et : chk true ((aq st).cps.toList.take i) with
  | none => rw [et] at c2'; cases c2'
  | some t =>
   rw [et,Option.bind_some] at c2'
   rcases h with h | ⟨rfl,h⟩
   ·rw [HR h] at c2'
    cases c2'
   ·rw [chk,if_pos rfl] at c2'
    cases t with
    | true => cases c2'
    | false =>
     have c3 : chk true ((aq st).cps.toList.drop i) = some false:=c2'
     rcases h with h | h | h
     ·rw [h,List.take_zero] at et
      cases et
     ·have el : (aq st).cps.toList.drop i = []:=List.drop_eq_nil_of_le h
      rw [el] at c3
      cases c3
     ·obtain ⟨hl,hg⟩:=gi_ h
      rw [List.drop_eq_getElem_cons hl,hg,chk,if_pos rfl,if_pos rfl] at c3
      cases c3
theorem FO {st : Stt} {i c : Nat} (wr : Wr st) (h : FW (aq st) i c) : uv (DQ (aq st) i c):=by
 have hc : isD c = false:=by
  rcases h with h | h
  ·have g : ∀ c ∈ badC,isD c = false:=by decide
   exact g c h
  ·rw [h.1]; decide
 have r:=zP wr
 exact tu (DT hc (Bt i r) (wa i (Nat.le_refl _) r))
theorem Hb (z : Str) (i c : Nat) : (DQ z i c).length = z.length + 1:=by
 show (z.cps.toList.take i ++ c :: z.cps.toList.drop i).length = z.cps.toList.length + 1
 rw [List.length_append,List.length_cons,List.length_take,List.length_drop]
 omega
def KJ : V -> Option Int -> Option Int -> Hp -> VK -> Prop:=fun x lo hi H Q => ∃ (z : Str) (j : Nat),x = .str z /\ lo = none /\ hi = some (j : Int) /\ j <= z.length /\ z.length <= sizeLine /\ Q (.str (aO (z.cps.toList.take j))) H
def KI : V -> Option Int -> Option Int -> Hp -> VK -> Prop:=fun x lo hi H Q => ∃ (z : Str) (i : Nat),x = .str z /\ lo = some (i : Int) /\ hi = none /\ i <= z.length /\ z.length <= sizeLine /\ Q (.str (aO (z.cps.toList.drop i))) H
theorem sl_strH {X : Cx} : SlR X KJ:=by
 intro pins s σ H x v vl vu lo hi sl Q I rx hs pl pu h
 obtain ⟨z,j,rfl,rfl,rfl,hj,hz,q⟩:=h
 obtain ⟨t,rfl⟩:=rx
 cases pl with
 | none =>
  cases pu with
  | int _ tj =>
   refine ⟨"str",_,F.slot_str_getitem.lookup,typeIs_str _ _ _,wpAny_getItem_str_slice (l:=none) (u:=some ((j : Int),tj)) (st:=none) hs rfl (post_val_or_str ⟨?_,fun t' k => ?_⟩)⟩
   ·exact Nat.le_trans (Txt.slice_le z _ _) hz
   ·refine ⟨.str _,H,I.tok _,⟨t',?_⟩,q⟩
    have:=StrLaws.sliceText_to (x:=z) (j:=(j : Int)) ⟨by omega,by exact_mod_cast hj⟩
    unfold StrLaws.sliceText at this
    show Value.str (Txt.slice z none (some (j : Int))) t' = _
    unfold Txt.slice
    rw [this,List.drop_zero,Int.sub_zero,Int.toNat_natCast]
    rfl
theorem IM {X : Cx} : SlR X KI:=by
 intro pins s σ H x v vl vu lo hi sl Q I rx hs pl pu h
 obtain ⟨z,j,rfl,rfl,rfl,hj,hz,q⟩:=h
 obtain ⟨t,rfl⟩:=rx
 cases pl with
 | int _ tj =>
  cases pu with
  | none =>
   refine ⟨"str",_,F.slot_str_getitem.lookup,typeIs_str _ _ _,wpAny_getItem_str_slice (l:=some ((j : Int),tj)) (u:=none) (st:=none) hs rfl (post_val_or_str ⟨?_,fun t' k => ?_⟩)⟩
   ·exact Nat.le_trans (Txt.slice_le z _ _) hz
   ·refine ⟨.str _,H,I.tok _,⟨t',?_⟩,q⟩
    have:=StrLaws.sliceText_from (x:=z) (i:=(j : Int)) ⟨by omega,by exact_mod_cast hj⟩
    unfold StrLaws.sliceText at this
    show Value.str (Txt.slice z (some (j : Int)) none) t' = _
    unfold Txt.slice
    have e1 : z.length = z.cps.toList.length:=rfl
    rw [this,Int.toNat_natCast,List.take_of_length_le (by rw [List.length_drop]; omega)]
    rfl
theorem ox {X : Cx} : SlR X (fun x lo hi H Q => KJ x lo hi H Q \/ KI x lo hi H Q):=sl_strH.or IM
def BJ : Sp:=fun vs H Q _ => ∃ (z : Str) (n : Int),vs = [.str z,.int n] /\ 0 <= n /\ z.length <= 1000 /\ ∀ (i c : Nat) (H' : Hp),Same H H' -> FW z i c -> Q (.str (DQ z i c)) H'
theorem Jg {m : Int} (h0 : 0 <= m) (h1 : m < 7) : ∃ c,atI (Str.ofString "?#-_>{\n").cps.toList m = some c /\ c ∈ badC:=by
 have h : m = 0 \/ m = 1 \/ m = 2 \/ m = 3 \/ m = 4 \/ m = 5 \/ m = 6:=by omega
 rcases h with e | e | e | e | e | e | e <;> subst e
 ·exact ⟨63,by decide +kernel,by decide⟩
 ·exact ⟨35,by decide +kernel,by decide⟩
 ·exact ⟨45,by decide +kernel,by decide⟩
 ·exact ⟨95,by decide +kernel,by decide⟩
 ·exact ⟨62,by decide +kernel,by decide⟩
 ·exact ⟨123,by decide +kernel,by decide⟩
 ·exact ⟨10,by decide +kernel,by decide⟩
theorem oj {α : Type} {xs : List α} {m : Int} (h0 : 0 <= m) (h1 : m < (xs.length : Int)) : ∃ y,atI xs m = some y /\ y ∈ xs:=by
 have hl : m.toNat < xs.length:=by omega
 refine ⟨xs[m.toNat],?_,List.getElem_mem hl⟩
 unfold atI ixN
 rw [if_pos (by omega),if_pos (by omega)]
 exact List.getElem?_eq_getElem hl
theorem EU (z : Str) (i c : Nat) : aO (z.cps.toList.take i) ++ aO [c] ++ aO (z.cps.toList.drop i) = DQ z i c:=str_inj (by
 rw [aj,aj,kT,kT,kT]
 unfold DQ
 rw [kT,List.append_assoc]
 rfl)
section
variable {P : Program} {w : World} {K : PySem.W.Frag} {mg : Str -> Option Value} {base : Heap} {f : Addr} {fd : FuncData} {dV : Value}
theorem sc__law_spoiled : FnScope ["_law_line","_law_number","_law_at","_law_blanks"] ["_law_line","_law_number"] (ai ck):=⟨rfl,rfl,rfl,by decide +kernel,rfl,by decide +kernel,by decide +kernel⟩
theorem bk__law_spoiled_0 : BlkScope ["_law_line","_law_number","_law_at","_law_blanks"] (ai ck) ["_law_k","_law_line"] [none,some 0] { kind:=ScopeKind.function,names:=[(".0",NameKind.local),("_law_k",NameKind.local),("_law_line",NameKind.free)],isGenerator:=false,isCoroutine:=false,more:=[] }:=⟨rfl,by decide +kernel,by decide +kernel,by decide +kernel,by decide +kernel,rfl,by decide +kernel⟩
theorem DK (F : FunD K "_law_spoiled" "_law_spoiled" ck dV f fd) (bo : mg "len" = none) (bF : mg "range" = none) : FnOk P w K mg base CX0 1 f fd ["_law_line","_law_number"] BJ:=by
 refine F.ok sc__law_spoiled (fun vs H Q E h => ?_) (fun cdv A outer s H vs Q E hr h => ?_)
 ·obtain ⟨z,n,rfl,_⟩:=h
  rfl
 obtain ⟨z,n,rfl,n0,lz,q⟩:=h
 refine ⟨_,(au (ay (i:=2) sc__law_spoiled.nd rfl (Or.inl rfl) (ak aX (ak bh (pv 1) ag) (ak bf (aD bA (by rfl) bo cq (aa (pv 0) ae)) ag)))
   (au (bG (aM rT (ak aX (pv 1) ag) ag (aS _)) (ax (aU (ak av (ak av (jB ox (pv 0) ow (jQ (pv 2))) (cC tJ ar (ak aX (pv 1) ag) (fun _ _ => rfl))) (jB ox (pv 0) (jQ (pv 2)) ow)))) aW)
   (au (ay (i:=3) sc__law_spoiled.nd rfl (Or.inl rfl) (ak nP (G2 rfl bk__law_spoiled_0 (cZ rfl bF (aa (aD bA (by rfl) bo cq (aa (pv 0) ae)) ae)) (fun _ _ _ _ => (aG (i:=0) bk__law_spoiled_0.nd rfl (Or.inl rfl))) (fun _ _ _ _ => (aM gI (cC tJ (pv 1) (pv 0) (fun _ _ => rfl)) ar (aS _))) (fun _ _ _ _ => (pv 0))) (bE (aa ag (aa (aD bA (by rfl) bo cq (aa (pv 0) ae)) ae)))))
   (au (ay (i:=2) sc__law_spoiled.nd rfl (Or.inl rfl) (cC bg (pv 3) (ak aX (ak bh (pv 1) ag) (aD bz (by rfl) bo cq (aa (pv 3) ae))) (fun _ _ => rfl)))
   (ax (aU (ak av (ak av (jB ox (pv 0) ow (jQ (pv 2))) ar) (jB ox (pv 0) (jQ (pv 2)) ow)))))))),?_⟩
 have lz' : z.length <= sizeLine:=Nat.le_trans lz (by decide)
 have bl : ∀ (i c : Nat),i <= z.length -> (aO (z.cps.toList.take i)).length <= 1000 /\ (aO [c]).length = 1 /\ (aO (z.cps.toList.drop i)).length <= 1000:=fun i c hi => by
  refine ⟨?_,rfl,?_⟩
  ·show (z.cps.toList.take i).length <= 1000
   rw [List.length_take]
   omega
  ·show (z.cps.toList.drop i).length <= 1000
   have e1 : z.length = z.cps.toList.length:=rfl
   rw [List.length_drop]
   omega
 have m1 : (0 : Int) < (z.length : Int) + 1:=by omega
 refine ⟨_,rfl,_,_,rfl,rfl,⟨by decide,by decide⟩,_,rfl,z,rfl,lz',_,_,rfl,rfl,_,_,rfl,rfl,m1,?_⟩
 have a0:=Int.emod_nonneg (n / 7) (show (z.length : Int) + 1 ≠ 0 by omega)
 have a1:=Int.emod_lt_of_pos (n / 7) m1
 obtain ⟨i,ei⟩:=Int.eq_ofNat_of_zero_le a0
 rw [ei] at a1
 dsimp only [aF,aK,List.set,L2.start]
 rw [ei]
 have n7:=bH (a:=n) (b:=7) (by decide)
 refine ⟨_,rfl,_,_,rfl,rfl,(by show (0 : Int) < 4; decide),_,_,rfl,rfl,_,rfl,?_⟩
 refine tI (fun c => ?_) (fun c => ?_)
 ·obtain ⟨c,hc,cb⟩:=Jg n7.1 n7.2
  have b:=bl i c (by omega)
  refine ⟨_,rfl,_,rfl,_,rfl,.inl ⟨z,i,rfl,rfl,rfl,by omega,lz',?_⟩⟩
  refine ⟨_,rfl,_,_,rfl,rfl,(by show (0 : Int) < 7; decide),_,_,c,rfl,rfl,by decide,hc,_,_,rfl,rfl,Nat.le_trans (show (aO (z.cps.toList.take i)).length + (aO [c]).length <= 2000 by omega) (by decide),?_⟩
  refine ⟨_,rfl,_,rfl,_,rfl,.inr ⟨z,i,rfl,rfl,rfl,by omega,lz',?_⟩⟩
  refine ⟨_,_,rfl,rfl,Nat.le_trans (show (aO (z.cps.toList.take i) ++ aO [c]).length + (aO (z.cps.toList.drop i)).length <= 3000 by rw [len_app]; omega) (by decide),?_⟩
  show Q (.str (aO (z.cps.toList.take i) ++ aO [c] ++ aO (z.cps.toList.drop i))) H
  rw [EU]
  exact q i c H (Same.refl _) (.inl cb)
 ·refine ⟨_,rfl,z,rfl,lz',_,rfl,by omega,by omega,?_⟩
  refine B4 (fun D k ys H' => Same H H' /\ ys.length <= k /\ ∀ y ∈ ys,∃ i : Nat,y = .int i /\ z.cps.toList[i]? = some 32) (fun D hD => ⟨ah hD _,Nat.le_refl _,fun y h => nomatch h⟩) ?_ ?_
  ·rintro L k ys H2 Qy Qn hL hk hy ⟨s2,l2,g2⟩ ky kn
   rw [Int.toNat_natCast] at hk
   have hk' : k < z.cps.toList.length:=hk
   have hz : z.cps.toList[k]? = some z.cps.toList[k]:=List.getElem?_eq_getElem hk'
   have hat : atI z.cps.toList (0 + (k : Int)) = some z.cps.toList[k]:=by
    unfold atI ixN
    rw [if_pos (by omega),if_pos (by omega),show (0 + (k : Int)).toNat = k by omega]
    exact hz
   refine ⟨_,rfl,_,rfl,z,_,_,rfl,rfl,lz',hat,rfl,_,rfl,?_⟩
   refine tI (fun c => ?_) (fun c => ?_)
   ·have ec:=V_str.mp (of_decide_eq_true c)
    have e32 : z.cps.toList[k] = 32:=by
     have:=congrArg (fun s : Str => s.cps.toList) ec
     rw [show (Str.ofString " ").cps.toList = [32] from by decide +kernel] at this
     exact List.cons.inj this |>.1
    refine ⟨_,rfl,ky _ _ hy (fg (by omega)) ⟨bu s2 hL,by rw [List.length_append,List.length_singleton]; omega,fun y hm => ?_⟩⟩
    rcases ma_.mp hm with h | h
    ·exact g2 y h
    ·rw [List.mem_singleton.mp h,Int.zero_add]
     exact ⟨k,rfl,by rw [hz,e32]⟩
   ·exact kn _ hy ⟨s2,by omega,g2⟩
  ·rintro L ys H2 hL hy ⟨s2,l2,g2⟩
   rw [Int.toNat_natCast] at l2
   refine ⟨_,rfl,z,rfl,lz',(by show 2 <= sizeLine; decide),fun L2 h2 => ?_⟩
   have s3:=ah h2 (HO.lst [V.int 0,V.int (z.length : Int)])
   refine ⟨L,L2,_,_,rfl,rfl,s3 _ _ hy,af,Nat.le_trans (show _ <= 2000 by show ys.length + 2 <= 2000; omega) (by decide),fun L3 h3 => ?_⟩
   have s4:=ah h3 (HO.lst (ys ++ [V.int 0,V.int (z.length : Int)]))
   obtain ⟨H4,e4⟩ : ∃ H4,upd (upd H2 L2 (HO.lst [V.int 0,V.int (z.length : Int)])) L3 (HO.lst (ys ++ [V.int 0,V.int (z.length : Int)])) = H4:=⟨_,rfl⟩
   have hL4 : H4 L3 = some (.lst (ys ++ [V.int 0,V.int (z.length : Int)])):=by rw [<- e4]; exact af
   have s04 : Same H H4:=by rw [<- e4]; exact s2.trans (s3.trans s4)
   rw [e4]
   try dsimp only [aF,aK,List.set]
   have ll : (ys ++ [V.int 0,V.int (z.length : Int)]).length = ys.length + 2:=by rw [List.length_append]; rfl
   have mp : (0 : Int) < (((ys ++ [V.int 0,V.int (z.length : Int)]).length : Nat) : Int):=by omega
   have b0:=Int.emod_nonneg (n / 7) (show (((ys ++ [V.int 0,V.int (z.length : Int)]).length : Nat) : Int) ≠ 0 by omega)
   have b1:=Int.emod_lt_of_pos (n / 7) mp
   obtain ⟨y,ey,my⟩:=oj b0 b1
   have gy : ∃ i : Nat,y = .int i /\ i <= z.length /\ (i = 0 \/ z.length <= i \/ z.cps.toList[i]? = some 32):=by
    rcases ma_.mp my with h | h
    ·obtain ⟨i,e,hi⟩:=g2 y h
     exact ⟨i,e,Nat.le_of_lt (gi_ hi).1,.inr (.inr hi)⟩
    ·rcases List.mem_cons.mp h with h | h
     ·exact ⟨0,h,Nat.zero_le _,.inl rfl⟩
     ·exact ⟨z.length,List.mem_singleton.mp h,Nat.le_refl _,.inr (.inl (Nat.le_refl _))⟩
   obtain ⟨j,rfl,jl,js⟩:=gy
   refine ⟨_,rfl,_,rfl,_,_,rfl,rfl,⟨by decide,by decide⟩,_,rfl,L3,_,rfl,.inl (qL_ hL4),_,_,rfl,rfl,mp,L3,_,_,_,rfl,rfl,qL_ hL4,ey,?_⟩
   try dsimp only [aF,aK,List.set]
   have b:=bl j 32 jl
   have e32 : Str.ofString " " = aO [32]:=by decide +kernel
   refine ⟨_,rfl,_,rfl,_,rfl,.inl ⟨z,j,rfl,rfl,rfl,jl,lz',?_⟩⟩
   refine ⟨_,_,rfl,rfl,Nat.le_trans (show _ <= 2000 by rw [e32]; omega) (by decide),?_⟩
   refine ⟨_,rfl,_,rfl,_,rfl,.inr ⟨z,j,rfl,rfl,rfl,jl,lz',?_⟩⟩
   refine ⟨_,_,rfl,rfl,Nat.le_trans (show _ <= 3000 by rw [len_app,e32]; omega) (by decide),?_⟩
   show Q (.str (aO (z.cps.toList.take j) ++ Str.ofString " " ++ aO (z.cps.toList.drop j))) H4
   rw [e32,EU]
   exact q j 32 H4 s04 (.inr ⟨rfl,js⟩)
end
def HJ (H0 : Hp) (t : TE) (σ : St) (ps : List Prt) : Prop := ∀ (H : Hp) (Q : VK),Same H0 H -> (∀ (v : V) (H' : Hp),Same H H' -> SumAt H' v ps -> Q v H') -> t σ H Q
def GSt (H0 : Hp) (t : TE) (σ : St) (st : Stt) : Prop := ∀ (H : Hp) (Q : VK),Same H0 H -> (∀ (v : V) (H' : Hp),Same H H' -> StAt H' v st -> Q v H') -> t σ H Q
section
variable {H0 : Hp} {σ : St} {K : PySem.W.Frag}
theorem gs1 {n : Int} {s : Str} : HJ H0 (FR (nZ (FR (nZ (tC (V.int n)) (nZ (tC (V.str s)) zo))) zo)) σ [(n,s)]:=fun H Q s0 q =>
 ⟨(by show 2 <= sizeLine; decide),fun T hT => ⟨(by show 1 <= sizeLine; decide),fun U hU => q (.ref U) _ ((ah hT _).trans (ah hU _)) ⟨U,[T],rfl,af,.cons ((ah hU _) _ _ af) .nil⟩⟩⟩
theorem gsV {i : Nat} {v : V} {ps : List Prt} (hi : σ[i]? = some (some v)) (h : SumAt H0 v ps) : HJ H0 (yj i) σ ps:=fun H Q s0 q => ⟨v,hi,q v H (Same.refl _) (h.same (tkS s0))⟩
theorem zI {k : Str} {t u : TE} {a b : List Prt} (ht : HJ H0 t σ a) (hu : HJ H0 u σ b) : GSt H0 (FR (nZ (tC (V.str k)) (nZ t (nZ u zo)))) σ (.cmp k a b):=fun H Q s0 q => by
 refine ht H _ s0 fun v H1 s1 h1 => hu H1 _ (s0.trans s1) fun v' H2 s2 h2 => ⟨(by show 3 <= sizeLine; decide),fun T hT => ?_⟩
 have s3:=ah hT (HO.tup [V.str k,v,v'])
 exact q (.ref T) _ (s1.trans (s2.trans s3)) ⟨T,v,v',rfl,af,h1.same (tkS (s2.trans s3)),h2.same (tkS s3)⟩
theorem Jp {k : Str} {t u : TE} {a b : Stt} (ht : GSt H0 t σ a) (hu : GSt H0 u σ b) : GSt H0 (FR (nZ (tC (V.str k)) (nZ t (nZ u zo)))) σ (.jn k a b):=fun H Q s0 q => by
 refine ht H _ s0 fun v H1 s1 h1 => hu H1 _ (s0.trans s1) fun v' H2 s2 h2 => ⟨(by show 3 <= sizeLine; decide),fun T hT => ?_⟩
 have s3:=ah hT (HO.tup [V.str k,v,v'])
 exact q (.ref T) _ (s1.trans (s2.trans s3)) ⟨T,v,v',rfl,af,StAt.same (tkS (s2.trans s3)) h1,StAt.same (tkS s3) h2⟩
end
def BL (K : PySem.W.Frag) : Sp:=fun vs H Q _ => ∃ (a b nl rl : Addr) (n d : Int) (ns : LI) (v : V) (st : Stt),vs = [.ref a,.ref b,.int n] /\ SprAt K H a ns /\ 0 <= n /\ H b = some (.lst [v,.str (aq st),.int d,.ref nl,.ref rl]) /\ H nl = some (.lst []) /\ StAt H v st /\ Wr st /\ (aq st).length <= 100000 /\
 ∀ (l : Addr) (v' x y z : V) (st' : Stt) (H' : Hp),Same H H' -> H' l = some (.lst [v',.str (aq st'),x,y,z]) -> StAt H' v' st' -> Wr st' -> aN st' = 1 + aN st -> (aq st').length <= (aq st).length + 13 -> Q (.ref l) H'
section
variable {P : Program} {w : World} {K : PySem.W.Frag} {mg : Str -> Option Value} {base : Heap} {f : Addr} {fd : FuncData} {dV : Value}
theorem GV (F : FunD K "_law_wrapped" "_law_wrapped" bO dV f fd) (cy : DefOk P w K mg base "_law_name" 2 ["_law_script","_law_number"] [] (yf K)) : FnOk P w K mg base CX0 3 f fd ["_law_script","_law_item","_law_number"] (BL K):=by
 refine F.ok sc__law_wrapped (fun vs H Q E h => ?_) (fun cdv A outer s H vs Q E hr h => ?_)
 ·obtain ⟨a,b,nl,rl,n,d,ns,v,st,rfl,_⟩:=h
  rfl
 obtain ⟨a,b,nl,rl,n,d,ns,v,st,rfl,hS,n0,hb,hnl,hst,wr,bd,k⟩:=h
 have zz : ∀ m : Nat,m <= 200000 -> m <= sizeLine:=fun m h => Nat.le_trans h (by decide)
 refine gP (aw (PSW.mk (nW (pv 1) (nU rfl (aP (aG (i:=3) sc__law_wrapped.nd rfl (Or.inl rfl)) (aP (aG (i:=4) sc__law_wrapped.nd rfl (Or.inl rfl)) (aP (aG (i:=5) sc__law_wrapped.nd rfl (Or.inl rfl)) (aP (aG (i:=6) sc__law_wrapped.nd rfl (Or.inl rfl)) (aP (aG (i:=7) sc__law_wrapped.nd rfl (Or.inl rfl)) jP))))))))
   (aw (BO (PTW.mk (aM gI (ak aX (pv 2) ag) ag (aS _))) (bC (og (ie (ao (PEW.mk (aV (aa ar (aa (pv 3) ae)))) (ao (PEW.mk (ak av ar (pv 4))) (ao (PEW.mk (ak bf (pv 5) ag)) (ao (PEW.mk (pv 6)) (ao (PEW.mk (pv 7)) bM)))))))) yo)
   (aw (PSW.mk (ay (i:=8) sc__law_wrapped.nd rfl (Or.inl rfl) (cC bg (bE (aa ar (aa ar ae))) (ak jy (ak aX (pv 2) ag) ag) (fun _ _ => rfl))))
   (aw (PSW.mk (ay (i:=9) sc__law_wrapped.nd rfl (Or.inr rfl) (br cy hr (aa (pv 0) (aa (ak bh (pv 2) ag) ae)))))
   (aw (PSW.mk (uG (i:=10) rfl sc__law_wrapped.nd rfl (Or.inl rfl) bk__law_wrapped_0 (vZ (pv 6)) (fun _ _ _ _ => (aG (i:=0) bk__law_wrapped_0.nd rfl (Or.inl rfl))) (fun _ _ _ _ => (aM GW (pv 0) (pv 1) (aS _))) (fun _ _ _ _ => (pv 0))))
   (bC (og (ie (ao (PEW.mk (aV (aa (pv 8) (aa (pv 9) (aa (pv 3) ae))))) (ao (PEW.mk (ak av (ak av (ak av (ak av (pv 8) ar) (pv 9)) ar) (pv 4))) (ao (PEW.mk (ak bf (pv 5) ag)) (ao (PEW.mk (pv 10)) (ao (PEW.mk (pv 7)) bM))))))))))))) ?_
 refine ⟨_,rfl,b,_,rfl,qL_ hb,rfl,_,_,rfl,_,_,rfl,_,_,rfl,_,_,rfl,_,_,rfl,rfl,?_⟩
 try dsimp only [aF,aK,List.set]
 refine ⟨_,rfl,_,_,rfl,rfl,(by show (0 : Int) < 3; decide),rfl,_,rfl,AG (fun c => ?_) (fun c => ?_)⟩
 ·refine ⟨_,rfl,(by show 2 <= sizeLine; decide),fun T hT => ?_⟩
  have s1:=ah hT (HO.tup [V.str (Str.ofString "not"),v])
  have l4 : (Str.ofString "not ").length = 4:=by decide
  refine ⟨_,rfl,_,_,rfl,rfl,zz _ (by show _ + (aq st).length <= _; omega),_,rfl,_,_,rfl,rfl,_,rfl,_,rfl,(by show 5 <= sizeLine; decide),fun l hl => ?_⟩
  have s2:=ah hl (HO.lst [V.ref T,V.str (Str.ofString "not " ++ aq st),V.int (d + 1),V.ref nl,V.ref rl])
  have s12:=s1.trans s2
  refine k l (.ref T) _ _ _ (.no st) _ s12 (by rw [af]; rfl) ⟨T,v,rfl,s2 _ _ af,StAt.same (tkS s12) hst⟩ wr rfl ?_
  show (("not " : Str) ++ aq st).length <= _
  rw [len_app]
  show (Str.ofString "not ").length + _ <= _
  omega
 ·have m3:=bH (a:=n) (b:=3) (by decide)
  refine ⟨(by show 2 <= sizeLine; decide),fun Lk hLk => ?_⟩
  have s1:=ah hLk (HO.lst [V.str (Str.ofString "some"),V.str (Str.ofString "all")])
  obtain ⟨κ,ek,kl,kc⟩ : ∃ κ : Str,atI [V.str (Str.ofString "some"),V.str (Str.ofString "all")] (n % 3 - 1) = some (.str κ) /\ κ.length <= 4 /\ (κ = ("some" : Str) \/ κ = ("all" : Str)):=by
   have e : n % 3 = 1 \/ n % 3 = 2:=by omega
   rcases e with e | e <;> rw [e]
   ·exact ⟨_,rfl,by decide +kernel,.inl rfl⟩
   ·exact ⟨_,rfl,by decide +kernel,.inr rfl⟩
  refine ⟨_,rfl,_,_,rfl,rfl,(by show (0 : Int) < 3; decide),_,_,rfl,rfl,Lk,_,_,_,rfl,rfl,qL_ af,ek,?_⟩
  try dsimp only [aF,aK,List.set]
  obtain ⟨H1,e1⟩ : ∃ H1,upd H Lk (HO.lst [V.str (Str.ofString "some"),V.str (Str.ofString "all")]) = H1:=⟨_,rfl⟩
  rw [e1] at s1 ⊢
  refine ⟨_,rfl,_,rfl,_,_,rfl,rfl,⟨by decide,by decide⟩,a,n / 3,ns,rfl,(hS.same s1),trivial,fun H2 s2 => ?_⟩
  try dsimp only [aF,aK,List.set]
  obtain ⟨nm,enm⟩ : ∃ nm,nmF ns (n / 3) = nm:=⟨_,rfl⟩
  have nok:=DC ns (n / 3)
  rw [enm] at nok ⊢
  have nml6:=nok.1.2.1
  have s02:=s1.trans s2
  have hn2 : H2 nl = some (.lst []):=s02 _ _ hnl
  refine di (t:=sy _ _) (fun σ' H3 => ∃ lf : Addr,σ' = [some (.ref a),some (.ref b),some (.int n),some v,some (.str (aq st)),some (.int d),some (.ref nl),some (.ref rl),some (.str κ),some (.str nm),some (.ref lf)] /\ Same H2 H3) ?_ (fun D' nxt => ?_)
  rotate_left
  ·refine ⟨_,rfl,nl,rfl,⟨_,qL_ hn2⟩,?_⟩
   refine wK (K:=K) (xs:=[]) (fun D j ys H' => Same H2 H') (fun D hD => ah hD _) (fun D j ys H' _ e => qL_ (e _ _ hn2)) ?_ ?_
   ·rintro D j y ys H' Qy Qn hD hj
    cases hj
   ·rintro lf ys H3 fl hy s3
    exact nxt _ _ ⟨lf,rfl,s3⟩
  rintro σ' H3 ⟨lf,rfl,s3⟩
  have s03:=s02.trans s3
  have l1 : (Str.ofString " ").length = 1:=by decide
  have l2 : (Str.ofString ": ").length = 2:=by decide
  refine ⟨_,rfl,_,rfl,_,rfl,(by show 3 <= sizeLine; decide),fun T hT => ?_⟩
  have s4:=ah hT (HO.tup [V.str κ,V.str nm,v])
  refine ⟨_,rfl,_,_,rfl,rfl,zz _ (by omega),_,rfl,_,_,rfl,rfl,zz _ (by rw [len_app]; omega),_,_,rfl,rfl,zz _ (by rw [len_app,len_app]; omega),_,rfl,_,_,rfl,rfl,zz _ (by rw [len_app,len_app,len_app]; omega),?_⟩
  refine ⟨_,rfl,_,_,rfl,rfl,_,rfl,_,rfl,(by show 5 <= sizeLine; decide),fun l hl => ?_⟩
  have s5:=ah hl (HO.lst [V.ref T,V.str (κ ++ Str.ofString " " ++ nm ++ Str.ofString ": " ++ aq st),V.int (d + 1),V.ref lf,V.ref rl])
  have s05:=s03.trans (s4.trans s5)
  refine k l (.ref T) _ _ _ (.ch κ nm st) _ s05 (by rw [af]; rfl) ⟨T,v,rfl,s5 _ _ af,StAt.same (tkS s05) hst⟩ ⟨kc,nok,wr⟩ rfl ?_
  show (κ ++ (" " : Str) ++ nm ++ (": " : Str) ++ aq st).length <= (aq st).length + 13
  rw [len_app,len_app,len_app,len_app]
  show κ.length + (Str.ofString " ").length + nm.length + (Str.ofString ": ").length + _ <= _
  omega
end
def cy0 : Stt:=.cmp "=" [(1,("y" : Str))] [(0,("" : Str))]
def cxy : Stt:=.cmp "<" [(1,("x" : Str))] [(1,("y" : Str))]
theorem Gb : Wr cy0 /\ (aq cy0).length = 5:=by decide +kernel
theorem Dh : Wr cxy /\ aq cxy = Str.ofString "x < y" /\ (aq cxy).length = 5:=by decide +kernel
theorem Gz (s : Stt) : Str.ofString "(" ++ aq s ++ Str.ofString " and y = 0)" = aq (.jn "and" s cy0):=by
 rw [mf]
 unfold jnT
 rw [show Str.ofString " and y = 0)" = cw "and" ++ aq cy0 ++ (")" : Str) from by decide +kernel]
 simp only [Str.append_assoc]
theorem Ig (s : Stt) : Str.ofString "(y = 0 or " ++ aq s ++ Str.ofString ")" = aq (.jn "or" cy0 s):=by
 rw [mf]
 unfold jnT
 rw [show Str.ofString "(y = 0 or " = ("(" : Str) ++ aq cy0 ++ cw "or" from by decide +kernel]
 simp only [Str.append_assoc]
theorem Jq {H0 : Hp} {σ : St} {i : Nat} {v : V} {st : Stt} (hi : σ[i]? = some (some v)) (h : StAt H0 v st) : GSt H0 (yj i) σ st:=fun H Q s0 q => ⟨v,hi,q v H (Same.refl _) (StAt.same (tkS s0) h)⟩
theorem CV {t : TE} {st : Stt} {i : Nat} {u : TS} {D : Ends} {σ : St} {H : Hp} (g : GSt H t σ st) (h : ∀ (v : V) (H1 : Hp),Same H H1 -> StAt H1 v st -> u D (σ.set i (some v)) H1) : Eg (sy t (aF i)) u D σ H:=g H _ (Same.refl _) h
theorem K9 {v : V} {i : Nat} {u : TS} {D : Ends} {σ : St} {H : Hp} (h : u D (σ.set i (some v)) H) : Eg (sy (tC v) (aF i)) u D σ H:=h
def D0 (K : PySem.W.Frag) : Sp:=fun vs H Q _ => ∃ (a : Addr) (ns : LI),vs = [.ref a] /\ SprAt K H a ns /\ ∀ (l : Addr) (v : V) (st : Stt) (m : Nat) (H' : Hp),Same H H' -> H' l = some (.lst [v,.str (aq st),.int (m : Int)]) -> StAt H' v st -> Wr st -> aN st = m -> (aq st).length <= 500 -> Q (.ref l) H'
section
variable {P : Program} {w : World} {K : PySem.W.Frag} {mg : Str -> Option Value} {base : Heap} {f : Addr} {fd : FuncData} {dV : Value}
theorem sc__law_deep : FnScope ["_law_script","_law_deep_here","_law_statement","_law_line","_law_k","_law_number","_law_item"] ["_law_script"] (ai eY):=⟨rfl,rfl,rfl,by decide +kernel,rfl,by decide +kernel,by decide +kernel⟩
theorem Io (F : FunD K "_law_deep" "_law_deep" eY dV f fd) (aC : DefOk P w K mg base "_law_draw" 1 ["_law_script","_law_k"] [] (fS K)) (bZ : DefOk P w K mg base "_law_wrapped" 3 ["_law_script","_law_item","_law_number"] [] (BL K)) (bF : mg "range" = none) : FnOk P w K mg base CX0 4 f fd ["_law_script"] (D0 K):=by
 refine F.ok sc__law_deep (fun vs H Q E h => ?_) (fun cdv A outer s H vs Q E hr h => ?_)
 ·obtain ⟨a,ns,rfl,_⟩:=h
  rfl
 obtain ⟨a,ns,rfl,hS,k⟩:=h
 refine gP (aw (PSW.mk (ay (i:=1) sc__law_deep.nd rfl (Or.inl rfl) (ak bf ag (ak aX (br aC hr (aa (pv 0) (aa ag ae))) ag))))
   (aw (pY (i:=2) sc__law_deep.nd rfl (Or.inl rfl) (pZ (ao (PEW.mk ar) (ao (PEW.mk (aV (aa (aV (aa ag (aa ar ae))) ae))) (ao (PEW.mk (aV (aa (aV (aa ag (aa ar ae))) ae))) bM)))))
   (aw (PSW.mk (ay (i:=3) sc__law_deep.nd rfl (Or.inl rfl) ar))
   (aw (E5 PassesOwn.never rfl (cZ rfl bF (aa (pv 1) ae)) (aG (i:=4) sc__law_deep.nd rfl (Or.inl rfl)) (aw (PSW.mk (ay (i:=5) sc__law_deep.nd rfl (Or.inl rfl) (br aC hr (aa (pv 0) (aa (ak bf ag (pv 4)) ae)))))
   (bC (BO (PTW.mk (aM gI (ak aX (pv 5) ag) ag (aS _))) (aw (pY (i:=6) sc__law_deep.nd rfl (Or.inl rfl) (Lw bZ hr (ao (PEW.mk (pv 0)) (ao (ie (ao (PEW.mk (pv 2)) (ao (PEW.mk (pv 3)) (ao (PEW.mk ag) (ao (PEW.mk (bE ae)) (ao (PEW.mk (bE ae)) bM)))))) (ao (PEW.mk (ak bh (pv 5) ag)) bM)))))
   (aw (PSW.mk (ay (i:=2) sc__law_deep.nd rfl (Or.inl rfl) (cC bg (pv 6) ag (fun _ _ => rfl))))
   (bC (PSW.mk (ay (i:=3) sc__law_deep.nd rfl (Or.inl rfl) (cC bg (pv 6) ag (fun _ _ => rfl))))))) (bC (BO (PTW.mk (aM gI (ak aX (ak bh (pv 5) ag) ag) ag (aS _))) (aw (pY (i:=2) sc__law_deep.nd rfl (Or.inl rfl) (pZ (ao (PEW.mk ar) (ao (PEW.mk (pv 2)) (ao (pZ (ao (PEW.mk ar) (ao (PEW.mk (aV (aa (aV (aa ag (aa ar ae))) ae))) (ao (PEW.mk (aV (aa (aV (aa ag (aa ar ae))) ae))) bM)))) bM)))))
   (bC (PSW.mk (ay (i:=3) sc__law_deep.nd rfl (Or.inl rfl) (ak av (ak av ar (pv 3)) ar))))) (aw (pY (i:=2) sc__law_deep.nd rfl (Or.inl rfl) (pZ (ao (PEW.mk ar) (ao (pZ (ao (PEW.mk ar) (ao (PEW.mk (aV (aa (aV (aa ag (aa ar ae))) ae))) (ao (PEW.mk (aV (aa (aV (aa ag (aa ar ae))) ae))) bM)))) (ao (PEW.mk (pv 2)) bM)))))
   (bC (PSW.mk (ay (i:=3) sc__law_deep.nd rfl (Or.inl rfl) (ak av (ak av ar (pv 3)) ar)))))))))))
   (bC (PSW.mk (aU (bE (aa (pv 2) (aa (pv 3) (aa (pv 1) ae))))))))))) ?_
 have d10:=bH (a:=hX ns 41) (b:=10) (by decide)
 refine ⟨_,rfl,a,41,ns,rfl,hS,trivial,by decide,by decide,_,_,rfl,rfl,(by show (0 : Int) < 10; decide),_,_,rfl,rfl,?_⟩
 obtain ⟨m,em⟩:=Int.eq_ofNat_of_zero_le (show 0 <= 16 + hX ns 41 % 10 by omega)
 dsimp only [aF,aK,List.set,L2.start]
 rw [em]
 have m1 : 16 <= m /\ m <= 25:=by omega
 refine CV (zI gs1 gs1) fun v0 H1 s1 h0 => K9 ?_
 try dsimp only [aF,aK,List.set]
 refine di (t:=BN _ _ _) (fun σ' H' => ∃ (v : V) (st : Stt) (v4 v5 v6 : OV),σ' = [some (.ref a),some (.int (m : Int)),some v,some (.str (aq st)),v4,v5,v6] /\ Same H H' /\ StAt H' v st /\ Wr st /\ aN st = m /\ (aq st).length <= 500) ?_ (fun D' nxt => ?_)
 rotate_left
 ·refine ⟨_,rfl,_,rfl,by omega,by omega,?_⟩
  refine gd (fun i σ' H' => ∃ (v : V) (st : Stt) (v4 v5 v6 : OV),σ' = [some (.ref a),some (.int (m : Int)),some v,some (.str (aq st)),v4,v5,v6] /\ Same H H' /\ StAt H' v st /\ Wr st /\ aN st = i /\ (aq st).length <= 5 + 13 * i) ⟨v0,cxy,none,none,none,by rw [Dh.2.1]; rfl,s1,h0,Dh.1,rfl,by rw [Dh.2.2]; decide⟩ ?_ ?_
  ·rintro i σ' H2 hi ⟨v,st,v4,v5,v6,rfl,s2,hst,wr,dp,ln⟩
   rw [Int.toNat_natCast] at hi
   have n0:=cX ns (700 + (0 + (i : Int)))
   refine ⟨_,rfl,_,rfl,_,_,rfl,rfl,a,_,ns,rfl,hS.same s2,trivial,by omega,by omega,?_⟩
   obtain ⟨n,en⟩ : ∃ n,hX ns (700 + (0 + (i : Int))) = n:=⟨_,rfl⟩
   rw [en] at n0
   dsimp only [aF,aK,List.set]
   rw [en]
   refine ⟨_,rfl,_,_,rfl,rfl,(by show (0 : Int) < 2; decide),rfl,_,rfl,AG (fun c => ?_) (fun c => ?_)⟩
   ·refine ⟨_,rfl,_,rfl,_,rfl,(by show 0 <= sizeLine; decide),fun e1 h1 => ⟨(by show 0 <= sizeLine; decide),fun e2 h2 => ⟨(by show 5 <= sizeLine; decide),fun L hL => ?_⟩⟩⟩
    have t1:=ah h1 (HO.lst [])
    have t2:=ah h2 (HO.lst [])
    have t3:=ah hL (HO.lst [v,V.str (aq st),V.int 0,V.ref e1,V.ref e2])
    have t03:=t1.trans (t2.trans t3)
    refine ⟨_,rfl,_,_,rfl,rfl,⟨by decide,by decide⟩,a,L,e1,e2,n / 2,0,ns,v,st,rfl,hS.same (s2.trans t03),by omega,af,(t2.trans t3) _ _ af,StAt.same (tkS t03) hst,wr,by omega,fun l v' x y z st' H5 s5 hl hv' wr' dp' ln' => ?_⟩
    try dsimp only [aF,aK,List.set]
    refine ⟨_,rfl,l,_,_,_,rfl,rfl,qL_ hl,rfl,?_⟩
    try dsimp only [aF,aK,List.set]
    refine ⟨_,rfl,l,_,_,_,rfl,rfl,qL_ hl,rfl,?_⟩
    exact ⟨v',st',_,_,_,rfl,s2.trans (t03.trans s5),hv',wr',by omega,by omega⟩
   ·refine ⟨_,rfl,_,_,rfl,rfl,⟨by decide,by decide⟩,_,_,rfl,rfl,(by show (0 : Int) < 2; decide),rfl,_,rfl,AG (fun c => ?_) (fun c => ?_)⟩
    ·refine CV (Jp (Jq rfl hst) (zI gs1 gs1)) fun v1 H3 s3 h3 => ?_
     have l1 : (Str.ofString "(").length = 1:=by decide
     have l2 : (Str.ofString " and y = 0)").length = 11:=by decide
     refine ⟨_,rfl,_,_,rfl,rfl,Nat.le_trans (show _ <= 1000 by omega) (by decide),_,_,rfl,rfl,Nat.le_trans (show _ <= 1000 by rw [len_app]; omega) (by decide),?_⟩
     have el:=Gz st
     have ll:=congrArg Str.length el
     rw [len_app,len_app] at ll
     refine ⟨v1,.jn "and" st cy0,some (.int (0 + (i : Int))),some (.int n),v6,?_,s2.trans s3,h3,⟨.inl rfl,wr,Gb.1⟩,?_,by omega⟩
     ·rw [<- el]
      rfl
     ·show 1 + max (aN st) 0 = i + 1
      omega
    ·refine CV (Jp (zI gs1 gs1) (Jq rfl hst)) fun v1 H3 s3 h3 => ?_
     have l1 : (Str.ofString ")").length = 1:=by decide
     have l2 : (Str.ofString "(y = 0 or ").length = 10:=by decide
     refine ⟨_,rfl,_,_,rfl,rfl,Nat.le_trans (show _ <= 1000 by omega) (by decide),_,_,rfl,rfl,Nat.le_trans (show _ <= 1000 by rw [len_app]; omega) (by decide),?_⟩
     have el:=Ig st
     have ll:=congrArg Str.length el
     rw [len_app,len_app] at ll
     refine ⟨v1,.jn "or" cy0 st,some (.int (0 + (i : Int))),some (.int n),v6,?_,s2.trans s3,h3,⟨.inr rfl,Gb.1,wr⟩,?_,by omega⟩
     ·rw [<- el]
      rfl
     ·show 1 + max 0 (aN st) = i + 1
      omega
  ·rintro σ' H2 ⟨v,st,v4,v5,v6,rfl,s2,hst,wr,dp,ln⟩
   rw [Int.toNat_natCast] at dp ln
   exact nxt _ _ ⟨v,st,v4,v5,v6,rfl,s2,hst,wr,dp,by omega⟩
 rintro σ' H2 ⟨v,st,v4,v5,v6,rfl,s2,hst,wr,dp,ln⟩
 refine ⟨_,rfl,_,rfl,_,rfl,(by show 3 <= sizeLine; decide),fun l hl => ?_⟩
 have s3:=ah hl (HO.lst [v,V.str (aq st),V.int (m : Int)])
 exact k l v st m _ (s2.trans s3) af (StAt.same (tkS s3) hst) wr dp ln
end
def full8 : List Prt:=List.replicate 8 (20,("abcdef" : Str))
def ceq : Stt:=.cmp "=" full8 full8
theorem rK : dS full8 /\ full8.map aR = List.replicate 8 ("20*abcdef" : Str) /\ (bx full8).length = 93 /\ Wr ceq:=by decide +kernel
theorem AU : bx full8 ++ Str.ofString " = " ++ bx full8 = aq ceq:=by decide +kernel
theorem Fs (s : Stt) : Str.ofString "(" ++ aq s ++ Str.ofString " and " ++ bx full8 ++ Str.ofString " = " ++ bx full8 ++ Str.ofString ")" = aq (.jn "and" s ceq):=by
 rw [mf]
 unfold jnT
 rw [show cw "and" = Str.ofString " and " from by decide +kernel,<- AU]
 simp only [Str.append_assoc]
theorem Ft (n : Str) (s : Stt) : Str.ofString "some " ++ n ++ Str.ofString ": " ++ aq s = aq (.ch "some" n s):=by
 rw [show Str.ofString "some " = ("some" : Str) ++ (" " : Str) from by decide +kernel]
 rfl
theorem K4 : ∀ j < 7,1 <= j -> cn (aO ((Str.ofString "yzyzyz").cps.toList.take j)):=by decide +kernel
theorem IK (q : Int) : ∃ j : Nat,(if (if q < 6 then q else 6) > 1 then (if q < 6 then q else 6) else 1) = (j : Int) /\ 1 <= j /\ j <= 6:=by
 by_cases c : q < 6
 ·rw [if_pos c]
  by_cases c2 : q > 1
  ·rw [if_pos c2]
   exact ⟨q.toNat,by omega,by omega,by omega⟩
  ·rw [if_neg c2]
   exact ⟨1,rfl,by decide,by decide⟩
 ·rw [if_neg c]
  exact ⟨6,by decide,by decide,by decide⟩
def Ea (K : PySem.W.Frag) : Sp:=fun vs H Q _ => ∃ (a : Addr) (ns : LI),vs = [.ref a] /\ SprAt K H a ns /\ ∀ (l : Addr) (v : V) (st : Stt) (H' : Hp),Same H H' -> H' l = some (.lst [v,.str (aq st)]) -> StAt H' v st -> Wr st -> aN st <= 20 -> (aq st).length <= 5000 -> Q (.ref l) H'
section
variable {P : Program} {w : World} {K : PySem.W.Frag} {mg : Str -> Option Value} {base : Heap} {f : Addr} {fd : FuncData} {dV : Value}
theorem sc__law_long : FnScope ["_law_script","_law_row_here","_law_full","_law_statement","_law_line","_law_k","_law_left","_law_size"] ["_law_script"] (ai cP):=⟨rfl,rfl,rfl,by decide +kernel,rfl,by decide +kernel,by decide +kernel⟩
theorem bk__law_long_0 : BlkScope ["_law_script","_law_row_here","_law_full","_law_statement","_law_line","_law_k","_law_left","_law_size"] (ai cP) ["_law_k"] [none] { kind:=ScopeKind.function,names:=[(".0",NameKind.local),("_law_k",NameKind.local)],isGenerator:=false,isCoroutine:=false,more:=[] }:=⟨rfl,by decide +kernel,by decide +kernel,by decide +kernel,by decide +kernel,rfl,by decide +kernel⟩
theorem bk__law_long_1 : BlkScope ["_law_script","_law_row_here","_law_full","_law_statement","_law_line","_law_k","_law_left","_law_size"] (ai cP) ["_law_k"] [none] { kind:=ScopeKind.function,names:=[(".0",NameKind.local),("_law_k",NameKind.local)],isGenerator:=false,isCoroutine:=false,more:=[] }:=⟨rfl,by decide +kernel,by decide +kernel,by decide +kernel,by decide +kernel,rfl,by decide +kernel⟩
theorem Ip (F : FunD K "_law_long" "_law_long" cP dV f fd) (aC : DefOk P w K mg base "_law_draw" 1 ["_law_script","_law_k"] [] (fS K)) (bF : mg "range" = none) (iz : mg "tuple" = none) (sC : mg "max" = none) (zX : mg "min" = none) : FnOk P w K mg base CX0 2 f fd ["_law_script"] (Ea K):=by
 refine F.ok sc__law_long (fun vs H Q E h => ?_) (fun cdv A outer s H vs Q E hr h => ?_)
 ·obtain ⟨a,ns,rfl,_⟩:=h
  rfl
 obtain ⟨a,ns,rfl,hS,k⟩:=h
 refine gP (aw (PSW.mk (ay (i:=1) sc__law_long.nd rfl (Or.inl rfl) (bD kj (by rfl) iz wC (aa (rY rfl bk__law_long_0 (cZ rfl bF (aa ag ae)) (fun _ _ _ _ => (aG (i:=0) bk__law_long_0.nd rfl (Or.inl rfl))) (fun _ _ _ _ => (aV (aa ag (aa ar ae))))) ae))))
   (aw (PSW.mk (ay (i:=2) sc__law_long.nd rfl (Or.inl rfl) (ia PySem.F.plainAttrs_str PySem.F.slot_str_join PySem.F.type_str_join EK ar (aa (rY rfl bk__law_long_1 (cZ rfl bF (aa ag ae)) (fun _ _ _ _ => (aG (i:=0) bk__law_long_1.nd rfl (Or.inl rfl))) (fun _ _ _ _ => ar)) ae))))
   (aw (PSW.mk (ay (i:=3) sc__law_long.nd rfl (Or.inl rfl) (aV (aa ar (aa (pv 1) (aa (pv 1) ae))))))
   (aw (PSW.mk (ay (i:=4) sc__law_long.nd rfl (Or.inl rfl) (ak av (ak av (pv 2) ar) (pv 2))))
   (aw (E5 PassesOwn.never rfl (cZ rfl bF (aa ag ae)) (aG (i:=5) sc__law_long.nd rfl (Or.inl rfl)) (aw (pY (i:=3) sc__law_long.nd rfl (Or.inl rfl) (pZ (ao (PEW.mk ar) (ao (PEW.mk (pv 3)) (ao (PEW.mk (aV (aa ar (aa (pv 1) (aa (pv 1) ae))))) bM)))))
   (bC (PSW.mk (ay (i:=4) sc__law_long.nd rfl (Or.inl rfl) (ak av (ak av (ak av (ak av (ak av (ak av ar (pv 4)) ar) (pv 2)) ar) (pv 2)) ar))))))
   (aw (PSW.mk (ay (i:=6) sc__law_long.nd rfl (Or.inl rfl) (ak jy (ak bf ag (ak aX (br aC hr (aa (pv 0) (aa ag ae))) ag)) ag)))
   (aw (E5 PassesOwn.never rfl (cZ rfl bF (aa ag ae)) (aG (i:=5) sc__law_long.nd rfl (Or.inl rfl)) (aw (PSW.mk (ay (i:=7) sc__law_long.nd rfl (Or.inl rfl) (aD (zy rfl) (by rfl) sC C9 (aa ag (aa (aD (zA rfl) (by rfl) zX FZ (aa ag (aa (ak bf (ak jy (pv 6) ag) (pv 5)) ae))) ae)))))
   (aw (PSW.mk (ay (i:=6) sc__law_long.nd rfl (Or.inl rfl) (ak jy (pv 6) (pv 7))))
   (aw (pY (i:=3) sc__law_long.nd rfl (Or.inl rfl) (pZ (ao (PEW.mk ar) (ao (PEW.mk (jB ox ar ow (jQ (pv 7)))) (ao (PEW.mk (pv 3)) bM)))))
   (bC (PSW.mk (ay (i:=4) sc__law_long.nd rfl (Or.inl rfl) (ak av (ak av (ak av ar (jB ox ar ow (jQ (pv 7)))) ar) (pv 4)))))))))
   (bC (PSW.mk (aU (bE (aa (pv 3) (aa (pv 4) ae))))))))))))) ?_
 have z5 : ∀ m : Nat,m <= 10000 -> m <= sizeLine:=fun m h => Nat.le_trans h (by decide)
 have l93:=rK.2.2.1
 refine di (t:=sy _ _) (fun σ' H' => ∃ T : Addr,σ' = [some (.ref a),some (.ref T),none,none,none,none,none,none] /\ Same H H' /\ SumAt H' (.ref T) full8) ?_ (fun D' nxt => ?_)
 rotate_left
 ·refine ⟨(8 : Int),rfl,by decide,by decide,?_⟩
  refine wL (fun D j ys H' => Same H H' /\ ys.length = j /\ ∃ as : List Addr,ys = as.map V.ref /\ Paired (jU H') as (List.replicate j (20,("abcdef" : Str)))) (fun D hD => ⟨ah hD _,rfl,[],rfl,.nil⟩) ?_ ?_
  ·rintro D j ys H2 Q' hD hj hy ⟨s2,l2,as,rfl,pa⟩ k'
   have hj' : j < 8:=hj
   refine ⟨(by show 2 <= sizeLine; decide),fun T hT => ?_⟩
   have sT:=ah hT (HO.tup [V.int 20,V.str (Str.ofString "abcdef")])
   have hy4:=sT _ _ hy
   have tk : jH (upd H2 T (HO.tup [V.int 20,V.str (Str.ofString "abcdef")])) (upd (upd H2 T (HO.tup [V.int 20,V.str (Str.ofString "abcdef")])) D (.lst (as.map V.ref ++ [V.ref T]))):=fun b xs e => by rw [az (xy e hy4 (by intro h; cases h))]; exact e
   refine k' _ _ hy4 (fg (by omega)) ⟨bu (s2.trans sT) hD,by rw [List.length_append,l2]; rfl,as ++ [T],by rw [List.map_append]; rfl,?_⟩
   rw [List.replicate_succ']
   exact qT (Paired.mapP pa fun _ _ e => tk _ _ (sT _ _ e)) (tk _ _ af)
  ·rintro D ys H2 hD hy ⟨s2,l2,as,rfl,pa⟩
   refine ⟨D,_,rfl,.inl ⟨qL_ hy,fun T hT => ?_⟩⟩
   have sT:=ah hT (HO.tup (as.map V.ref))
   exact nxt _ _ ⟨T,rfl,s2.trans sT,T,as,rfl,af,Paired.mapP pa fun _ _ e => sT _ _ e⟩
 rintro σ' H1 ⟨T,rfl,s1,hR1⟩
 refine di (t:=sy _ _) (fun σ' H' => σ' = [some (.ref a),some (.ref T),some (.str (bx full8)),none,none,none,none,none] /\ Same H1 H') ?_ (fun D' nxt => ?_)
 rotate_left
 ·refine ⟨rfl,(8 : Int),rfl,by decide,by decide,?_⟩
  refine wL (fun D j ys H' => Same H1 H' /\ ys = (List.replicate j ("20*abcdef" : Str)).map V.str) (fun D hD => ⟨ah hD _,rfl⟩) ?_ ?_
  ·rintro D j ys H2 Q' hD hj hy ⟨s2,rfl⟩ k'
   have hj' : j < 8:=hj
   refine k' _ _ hy (fg (by rw [lm_,List.length_replicate]; omega)) ⟨bu s2 hD,?_⟩
   rw [List.replicate_succ',List.map_append]
   rfl
  ·rintro D ys H2 hD hy ⟨s2,rfl⟩
   refine ⟨_,D,List.replicate 8 ("20*abcdef" : Str),rfl,rfl,hy,by decide +kernel,?_⟩
   refine nxt _ _ ⟨?_,s2⟩
   unfold bx
   rw [rK.2.1]
   rfl
 rintro σ' H2 ⟨rfl,s2⟩
 have hR2:=hR1.same (tkS s2)
 have s02:=s1.trans s2
 refine CV (zI (gsV rfl hR2) (gsV rfl hR2)) fun v3 H3 s3 h3 => ?_
 try dsimp only [aF,aK,List.set]
 have e3 : (Str.ofString " = ").length = 3:=by decide
 refine ⟨_,rfl,_,_,rfl,rfl,z5 _ (by omega),_,rfl,_,_,rfl,rfl,z5 _ (by rw [len_app]; omega),?_⟩
 dsimp only [aF,aK,List.set]
 rw [AU]
 have le : (aq ceq).length = 189:=by rw [<- AU,len_app,len_app]; omega
 have s03:=s02.trans s3
 refine di (t:=BN _ _ _) (fun σ' H' => ∃ (v : V) (st : Stt) (v5 : OV),σ' = [some (.ref a),some (.ref T),some (.str (bx full8)),some v,some (.str (aq st)),v5,none,none] /\ Same H H' /\ StAt H' v st /\ Wr st /\ aN st = 4 /\ (aq st).length <= 2000) ?_ (fun D' nxt => ?_)
 rotate_left
 ·refine ⟨(4 : Int),rfl,by decide,by decide,?_⟩
  refine gd (fun i σ' H' => ∃ (v : V) (st : Stt) (v5 : OV),σ' = [some (.ref a),some (.ref T),some (.str (bx full8)),some v,some (.str (aq st)),v5,none,none] /\ Same H H' /\ SumAt H' (.ref T) full8 /\ StAt H' v st /\ Wr st /\ aN st = i /\ (aq st).length <= 200 + 200 * i) ⟨v3,ceq,none,rfl,s03,hR2.same (tkS s3),h3,rK.2.2.2,rfl,by omega⟩ ?_ ?_
  ·rintro i σ' H4 hi ⟨v,st,v5,rfl,s4,hR4,hst,wr,dp,ln⟩
   have hi' : i < 4:=hi
   refine CV (Jp (Jq rfl hst) (zI (gsV rfl hR4) (gsV rfl hR4))) fun v1 H5 s5 h5 => ?_
   have l1 : (Str.ofString "(").length = 1:=by decide
   have l2 : (Str.ofString " and ").length = 5:=by decide
   have l3 : (Str.ofString ")").length = 1:=by decide
   refine ⟨_,rfl,_,_,rfl,rfl,z5 _ (by omega),_,_,rfl,rfl,z5 _ (by rw [len_app]; omega),_,rfl,_,_,rfl,rfl,z5 _ (by rw [len_app,len_app]; omega),_,_,rfl,rfl,z5 _ (by rw [len_app,len_app,len_app]; omega),_,rfl,_,_,rfl,rfl,z5 _ (by rw [len_app,len_app,len_app,len_app]; omega),_,_,rfl,rfl,z5 _ (by rw [len_app,len_app,len_app,len_app,len_app]; omega),?_⟩
   have el:=Fs st
   have ll:=congrArg Str.length el
   rw [len_app,len_app,len_app,len_app,len_app,len_app] at ll
   refine ⟨v1,.jn "and" st ceq,some (.int (0 + (i : Int))),?_,s4.trans s5,hR4.same (tkS s5),h5,⟨.inl rfl,wr,rK.2.2.2⟩,?_,by omega⟩
   ·rw [<- el]
    rfl
   ·show 1 + max (aN st) 0 = i + 1
    omega
  ·rintro σ' H4 ⟨v,st,v5,rfl,s4,hR4,hst,wr,dp,ln⟩
   have e4 : (4 : Int).toNat = 4:=rfl
   rw [e4] at dp ln
   exact nxt _ _ ⟨v,st,v5,rfl,s4,hst,wr,dp,by omega⟩
 rintro σ' H4 ⟨v,st,v5,rfl,s4,hst,wr,dp,ln⟩
 refine ⟨_,rfl,a,42,ns,rfl,hS.same s4,trivial,by decide,by decide,_,_,rfl,rfl,(by show (0 : Int) < 8; decide),_,_,rfl,rfl,_,_,rfl,rfl,?_⟩
 obtain ⟨lf,elf⟩ : ∃ lf,24 + hX ns 42 % 8 - 21 = lf:=⟨_,rfl⟩
 dsimp only [aF,aK,List.set]
 rw [elf]
 refine di (t:=BN _ _ _) (fun σ' H' => ∃ (v : V) (st : Stt) (v5 v6 v7 : OV),σ' = [some (.ref a),some (.ref T),some (.str (bx full8)),some v,some (.str (aq st)),v5,v6,v7] /\ Same H H' /\ StAt H' v st /\ Wr st /\ aN st <= 20 /\ (aq st).length <= 5000) ?_ (fun D' nxt => ?_)
 rotate_left
 ·refine ⟨(3 : Int),rfl,by decide,by decide,?_⟩
  refine gd (fun i σ' H' => ∃ (v : V) (st : Stt) (lf : Int) (v5 v7 : OV),σ' = [some (.ref a),some (.ref T),some (.str (bx full8)),some v,some (.str (aq st)),v5,some (.int lf),v7] /\ Same H H' /\ StAt H' v st /\ Wr st /\ aN st = 4 + i /\ (aq st).length <= 2000 + 20 * i) ⟨v,st,lf,v5,none,rfl,s4,hst,wr,dp,by omega⟩ ?_ ?_
  ·rintro i σ' H5 hi ⟨v,st,lf,v5,v7,rfl,s5,hst,wr,dp,ln⟩
   have hi' : i < 3:=hi
   refine ⟨_,rfl,_,_,rfl,rfl,_,rfl,_,_,rfl,rfl,_,_,rfl,_,_,rfl,?_⟩
   obtain ⟨j,ej,j1,j6⟩ : ∃ j : Nat,(if (if lf - 2 + (0 + (i : Int)) < 6 then lf - 2 + (0 + (i : Int)) else 6) > 1 then (if lf - 2 + (0 + (i : Int)) < 6 then lf - 2 + (0 + (i : Int)) else 6) else 1) = (j : Int) /\ 1 <= j /\ j <= 6:=IK _
   dsimp only [aF,aK,List.set]
   rw [ej]
   refine ⟨_,rfl,_,rfl,_,_,rfl,rfl,?_⟩
   try dsimp only [aF,aK,List.set]
   have l6 : (Str.ofString "yzyzyz").length = 6:=by decide
   have nok:=K4 j (by omega) j1
   obtain ⟨nm,en⟩ : ∃ nm,aO ((Str.ofString "yzyzyz").cps.toList.take j) = nm:=⟨_,rfl⟩
   refine ⟨_,rfl,_,rfl,.inl ⟨_,j,rfl,rfl,rfl,by omega,by decide,?_⟩⟩
   refine ⟨_,rfl,(by show 3 <= sizeLine; decide),fun T2 hT2 => ?_⟩
   rw [en] at nok
   have n6:=nok.1.2.1
   rw [en]
   have s6:=ah hT2 (HO.tup [V.str (Str.ofString "some"),V.str nm,v])
   try dsimp only [aF,aK,List.set]
   have k1 : (Str.ofString "some ").length = 5:=by decide
   have k2 : (Str.ofString ": ").length = 2:=by decide
   refine ⟨_,rfl,_,rfl,.inl ⟨_,j,rfl,rfl,rfl,by omega,by decide,?_⟩⟩
   rw [en]
   refine ⟨_,_,rfl,rfl,z5 _ (by omega),_,_,rfl,rfl,z5 _ (by rw [len_app]; omega),_,rfl,_,_,rfl,rfl,z5 _ (by rw [len_app,len_app]; omega),?_⟩
   have el:=Ft nm st
   have ll:=congrArg Str.length el
   rw [len_app,len_app,len_app] at ll
   refine ⟨.ref T2,.ch "some" nm st,lf - (j : Int),some (.int (0 + (i : Int))),some (.int (j : Int)),?_,s5.trans s6,⟨T2,v,rfl,af,StAt.same (tkS s6) hst⟩,⟨.inl rfl,nok,wr⟩,?_,by omega⟩
   ·rw [<- el]
    rfl
   ·show 1 + aN st = 4 + (i + 1)
    omega
  ·rintro σ' H5 ⟨v,st,lf,v5,v7,rfl,s5,hst,wr,dp,ln⟩
   have e3 : (3 : Int).toNat = 3:=rfl
   rw [e3] at dp ln
   exact nxt _ _ ⟨v,st,v5,_,v7,rfl,s5,hst,wr,by omega,by omega⟩
 rintro σ' H5 ⟨v,st,v5,v6,v7,rfl,s5,hst,wr,dp,ln⟩
 refine ⟨_,rfl,_,rfl,(by show 2 <= sizeLine; decide),fun l hl => ?_⟩
 have s6:=ah hl (HO.lst [v,V.str (aq st)])
 exact k l v st _ (s5.trans s6) af (StAt.same (tkS s6) hst) wr dp ln
end
theorem Cn (K : PySem.W.Frag) : PySem.W.kitOne K (.type "NoneType") (.type "str") = some false:=by with_unfolding_all rfl
theorem Cm (K : PySem.W.Frag) : PySem.W.kitOne K (.type "int") (.type "str") = some false:=by with_unfolding_all rfl
theorem AN (K : PySem.W.Frag) : PySem.W.kitOne K (.type "bool") (.type "str") = some false:=by with_unfolding_all rfl
theorem rM (K : PySem.W.Frag) : PySem.W.kitOne K (.type "list") (.type "str") = some false:=by with_unfolding_all rfl
theorem pW (K : PySem.W.Frag) : PySem.W.kitOne K (.type "tuple") (.type "str") = some false:=by with_unfolding_all rfl
theorem rL (K : PySem.W.Frag) : PySem.W.kitOne K (.type "dict") (.type "str") = some false:=by with_unfolding_all rfl
def yg (K : PySem.W.Frag) : Sp:=fun vs H Q _ => ∃ n : Int,vs = [.int n] /\ ∀ (v : V) (H' : Hp),Same H H' -> NoSt K H' v -> Q v H'
theorem FK {H : Hp} {p : Addr} (h : H p = none) (o o' : HO) : Same H (upd (upd H p o) p o'):=fun b u e => by
 have n:=aA e h
 rw [az n,az n]
 exact e
section
variable {P : Program} {w : World} {K : PySem.W.Frag} {mg : Str -> Option Value} {base : Heap} {f : Addr} {fd : FuncData} {dV : Value} {C : Addr}
theorem vM : FnScope ["_law_number"] ["_law_number"] (ai cL):=⟨rfl,rfl,rfl,by decide +kernel,rfl,by decide +kernel,by decide +kernel⟩
theorem sc_law : FnScope ["_law_script","_law_statement","_law_line","_law_deep_here","_law_names","_law_rows","_law_lines","_law_first","_law_k"] ["_law_script"] (ai sj):=⟨rfl,rfl,rfl,by decide +kernel,rfl,by decide +kernel,by decide +kernel⟩
theorem FD (F : FunD K "_law_no_text" "_law_no_text" cL dV f fd) : FnOk P w K mg base CX0 1 f fd ["_law_number"] (yg K):=by
 refine F.ok vM (fun vs H Q E h => ?_) (fun cdv A outer s H vs Q E hr h => ?_)
 ·obtain ⟨n,rfl,_⟩:=h
  rfl
 obtain ⟨n,rfl,q⟩:=h
 refine gP (bC (og (Hx bg (ie (ao (PEW.mk JM) (ao (PEW.mk ag) (ao (PEW.mk jO) (ao (PEW.mk (bE (aa ar ae))) (ao (PEW.mk (aV (aa ar ae))) (ao (PEW.mk G3) (ao (pZ (ao (PEW.mk ar) (ao (PEW.mk (aV (aa (aV (aa ag (aa ar ae))) ae))) (ao (PEW.mk (aV (aa (aV (aa ag (aa ar ae))) ae))) bM)))) (ao (PEW.mk (bE ae)) (ao (PEW.mk (Iz (Ha ar ag IC) rfl rfl (by intro z; cases z) (by decide))) bM)))))))))) (PEW.mk (ak aX (pv 0) ag)) (fun _ _ => rfl)))) ?_
 refine ⟨(by show 1 <= sizeLine; decide),fun l1 h1 => ?_⟩
 have s1:=ah h1 (HO.lst [V.str (Str.ofString "x = y")])
 refine ⟨(by show 1 <= sizeLine; decide),fun l2 h2 => ?_⟩
 have s2:=ah h2 (HO.tup [V.str (Str.ofString "x = y")])
 refine fun l3 h3 => ?_
 have s3:=ah h3 (HO.dK [])
 refine zI (H0:=upd (upd (upd H l1 (HO.lst [V.str (Str.ofString "x = y")])) l2 (HO.tup [V.str (Str.ofString "x = y")])) l3 (HO.dK [])) gs1 gs1 _ _ (Same.refl _) fun v4 H4 s4 h4 => ?_
 refine ⟨(by show 0 <= sizeLine; decide),fun l5 h5 => ?_⟩
 have s5:=ah h5 (HO.lst [])
 refine fun l6 h6 => ?_
 refine ⟨af,[(.inr (Str.ofString "x = y"),.int 1)],rfl,by show 1 <= 15; decide,?_⟩
 have s6:=FK h6 (HO.dK []) (HO.dK (tS [] [(.inr (Str.ofString "x = y"),.int 1)]))
 refine ⟨(by show 9 <= sizeLine; decide),fun L hL => ?_⟩
 obtain ⟨x4,w1,w2,rfl,hx4,_⟩:=h4
 have s7:=ah hL (HO.lst [V.non,V.int 3,V.bl true,V.ref l1,V.ref l2,V.ref l3,V.ref x4,V.ref l5,V.ref l6])
 have sa : Same H _:=s1.trans (s2.trans (s3.trans (s4.trans (s5.trans (s6.trans s7)))))
 have m9:=bH (a:=n) (b:=9) (by decide)
 obtain ⟨y,ey,my⟩:=oj (xs:=[V.non,V.int 3,V.bl true,V.ref l1,V.ref l2,V.ref l3,V.ref x4,V.ref l5,V.ref l6]) m9.1 (by show n % 9 < 9; exact m9.2)
 refine ⟨_,rfl,_,_,rfl,rfl,(by show (0 : Int) < 9; decide),L,_,_,_,rfl,rfl,qL_ af,ey,q y _ sa (.inl ?_)⟩
 simp only [List.mem_cons,List.not_mem_nil,or_false] at my
 rcases my with e | e | e | e | e | e | e | e | e <;> subst e
 ·exact ⟨_,.non,Cn K⟩
 ·exact ⟨_,.int 3,Cm K⟩
 ·exact ⟨_,.bl true,AN K⟩
 ·exact ⟨_,.lst ((s2.trans (s3.trans (s4.trans (s5.trans (s6.trans s7))))) _ _ af),rM K⟩
 ·exact ⟨_,.tup ((s3.trans (s4.trans (s5.trans (s6.trans s7)))) _ _ af),pW K⟩
 ·exact ⟨_,.dK ((s4.trans (s5.trans (s6.trans s7))) _ _ af),rL K⟩
 ·exact ⟨_,.tup ((s5.trans (s6.trans s7)) _ _ hx4),pW K⟩
 ·exact ⟨_,.lst ((s6.trans s7) _ _ af),rM K⟩
 ·exact ⟨_,.dK (s7 _ _ af),rL K⟩
end
theorem G0 {X : Cx} {x : Str} {j k : Nat} {ps : List Str} {dvs : List V} {sp : Sp} {p pos : Pos} (G : DefOk X.prog X.w X.K X.mg X.base x k ps dvs sp) (hr : Room j X.A) (hkj : k <= j:=by decide) (hg : Gl X x:=by rfl) (hdb : (x == ("__debug__" : Str)) = false:=by decide) :
  PE X (.Call (.Name x p) [] [] pos) (uI sp dvs E0 zo):=by
 obtain ⟨f,fd,ds,hm,hk,hd,hb,F⟩:=G.ex
 exact GZ F (hr.mono hkj) hg hm hk hb hd (fun _ _ _ _ _ _ _ h => h.elim) hdb
theorem iO {K : PySem.W.Frag} {d : Nat} {H : Hp} {u v : V} (h : (∃ x,u = .str x /\ v = .str x) \/ ∃ n,u = .int n /\ v = .int n) : fk K d H u v:=by
 cases d with
 | zero => exact h
 | succ d => exact .inl h
theorem FX {K : PySem.W.Frag} : ∀ {d : Nat} {H : Hp} {u v : V},fk K d H u v -> fk K (d + 1) H u v
 | 0,_,_,_,h => .inl h
 | d + 1,_,_,_,.inl h => .inl h
 | d + 1,_,_,_,.inr ⟨a,b,us,vs,e1,e2,h1,h2,p⟩ => .inr ⟨a,b,us,vs,e1,e2,h1,h2,Paired.mapP p fun _ _ q => FX q⟩
theorem qd {K : PySem.W.Frag} {d e : Nat} {H : Hp} {u v : V} (h : fk K d H u v) (l : d <= e) : fk K e H u v:=by
 obtain ⟨k,rfl⟩:=Nat.exists_eq_add_of_le l
 induction k with
 | zero => exact h
 | succ k ih => exact FX (ih (by omega))
theorem rW {K : PySem.W.Frag} {H : Hp} : ∀ {ps : List Prt} {as bs : List Addr},Paired (jU H) as ps -> Paired (jU H) bs ps -> Paired (fk K 1 H) (as.map V.ref) (bs.map V.ref)
 | [],_,_,.nil,.nil => .nil
 | p :: ps,_,_,.cons (a:=a) h1 t1,.cons (a:=b) h2 t2 => .cons (.inr ⟨a,b,_,_,rfl,rfl,qT_ h1,qT_ h2,.cons (.inr ⟨_,rfl,rfl⟩) (.cons (.inl ⟨_,rfl,rfl⟩) .nil)⟩) (rW t1 t2)
theorem jF {K : PySem.W.Frag} {H : Hp} {u v : V} {ps : List Prt} (h : SumAt H u ps) (h' : SumAt H v ps) : fk K 2 H u v:=by
 obtain ⟨a,as,e,h1,h2⟩:=h
 obtain ⟨b,bs,e',h1',h2'⟩:=h'
 exact .inr ⟨a,b,_,_,e,e',qT_ h1,qT_ h1',rW h2 h2'⟩
def Tw (K : PySem.W.Frag) (d : Nat) (H : Hp) (u v : V) : Prop := ∃ (a b : Addr) (us vs : List V),u = .ref a /\ v = .ref b /\ SqT K H a us /\ SqT K H b vs /\ Paired (fk K d H) us vs
theorem Tw.al {K : PySem.W.Frag} {d e : Nat} {H : Hp} {u v : V} (h : Tw K d H u v) (l : d + 1 <= e) : fk K e H u v:=qd (d:=d + 1) (.inr h) l
theorem kS {K : PySem.W.Frag} {H : Hp} : ∀ {st : Stt} {u v : V},StAt H u st -> StAt H v st -> Tw K (aN st + 2) H u v
 | .cmp k a b,_,_,⟨x,va,vb,e,h,h1,h2⟩,⟨x',va',vb',e',h',h1',h2'⟩ => ⟨x,x',_,_,e,e',qT_ h,qT_ h',.cons (iO (.inl ⟨_,rfl,rfl⟩)) (.cons (qd (jF h1 h1') (by omega)) (.cons (qd (jF h2 h2') (by omega)) .nil))⟩
 | .sg r a n,_,_,⟨x,va,e,h,h1⟩,⟨x',va',e',h',h1'⟩ => ⟨x,x',_,_,e,e',qT_ h,qT_ h',.cons (iO (.inl ⟨_,rfl,rfl⟩)) (.cons (iO (.inl ⟨_,rfl,rfl⟩)) (.cons (qd (jF h1 h1') (by omega)) (.cons (iO (.inr ⟨_,rfl,rfl⟩)) .nil)))⟩
 | .lk r a q b,_,_,⟨x,va,vb,e,h,h1,h2⟩,⟨x',va',vb',e',h',h1',h2'⟩ => ⟨x,x',_,_,e,e',qT_ h,qT_ h',.cons (iO (.inl ⟨_,rfl,rfl⟩)) (.cons (iO (.inl ⟨_,rfl,rfl⟩)) (.cons (qd (jF h1 h1') (by omega)) (.cons (iO (.inl ⟨_,rfl,rfl⟩)) (.cons (qd (jF h2 h2') (by omega)) .nil))))⟩
 | .no t,_,_,⟨x,vs,e,h,h1⟩,⟨x',vs',e',h',h1'⟩ => ⟨x,x',_,_,e,e',qT_ h,qT_ h',.cons (iO (.inl ⟨_,rfl,rfl⟩)) (.cons ((kS h1 h1').al (show aN t + 2 + 1 <= 1 + aN t + 2 by omega)) .nil)⟩
 | .jn k t u,_,_,⟨x,vs,vt,e,h,h1,h2⟩,⟨x',vs',vt',e',h',h1',h2'⟩ => ⟨x,x',_,_,e,e',qT_ h,qT_ h',.cons (iO (.inl ⟨_,rfl,rfl⟩)) (.cons ((kS h1 h1').al (show aN t + 2 + 1 <= 1 + max (aN t) (aN u) + 2 by omega)) (.cons ((kS h2 h2').al (show aN u + 2 + 1 <= 1 + max (aN t) (aN u) + 2 by omega)) .nil))⟩
 | .ch k n t,_,_,⟨x,vs,e,h,h1⟩,⟨x',vs',e',h',h1'⟩ => ⟨x,x',_,_,e,e',qT_ h,qT_ h',.cons (iO (.inl ⟨_,rfl,rfl⟩)) (.cons (iO (.inl ⟨_,rfl,rfl⟩)) (.cons ((kS h1 h1').al (show aN t + 2 + 1 <= 1 + aN t + 2 by omega)) .nil))⟩
theorem Bs {K : PySem.W.Frag} {H : Hp} {u v : V} {st : Stt} {b : Bool} {Q : VK} (hu : StAt H u st) (hv : StAt H v st) (d : aN st <= 20) (q : Q (.bl b) H) : JS K 22 b u v H Q:=by
 obtain ⟨a,c,us,vs,e,e',h,h',p⟩:=kS (K:=K) hu hv
 exact ⟨a,c,us,vs,e,e',h,h',Paired.mapP p fun _ _ z => qd z (by omega),q⟩
theorem Lc {A : Around} {k : Nat} (hr : Room k A) : A.units + (22 + 1) < cLine:=by
 have:=hr.un
 omega
theorem xB {K : PySem.W.Frag} {H : Hp} {z : Str} {st : Stt} (h : gK z = some st) : ¬ NoSt K H (.str z):=by
 rintro (⟨ty,tv,k⟩ | ⟨z',e,_,_,no⟩)
 ·cases tv
  rw [nF] at k
  cases k
 ·cases e
  rw [h] at no
  cases no
theorem Ff {z : Str} (h : z.length <= 100) : uv z:=fun i => by
 have h1:=(List.takeWhile_sublist (inR 48 57) (l:=atT z i)).length_le
 rw [om] at h1
 omega
theorem HY {st : Stt} (wr : Wr st) (h : 20 < aN st) : gK (aq st) = none:=by
 cases e : gK (aq st) with
 | none => rfl
 | some s2 =>
  obtain ⟨ez,w2,d2,_⟩:=rh e
  have:=Hj wr w2 ez
  rw [this] at h
  omega
theorem NoSt.txt {K : PySem.W.Frag} {H : Hp} {z : Str} (l : z.length <= 1000000) (d : uv z) (h : gK z = none) : NoSt K H (.str z):=.inr ⟨z,rfl,l,fun _ => d,h⟩
def E1 (K : PySem.W.Frag) : Sp:=fun vs H Q _ => ∃ (a : Addr) (ns : LI),vs = [.ref a] /\ SqL K H a (ns.map V.int) /\ ns.length <= 63 /\ ∀ H',Q (.bl true) H'
section
variable {P : Program} {w : World} {K : PySem.W.Frag} {mg : Str -> Option Value} {base : Heap} {f : Addr} {fd : FuncData} {dV : Value} {C : Addr}
theorem JF (F : FunD K "law" "law" sj dV f fd) (kW : DefOk P w K mg base "_law_built" 6 ["_law_script"] [] (BF K)) (eB : DefOk P w K mg base "_law_plain_lines" 1 [] [] (oy linesA)) (eA : DefOk P w K mg base "_law_other_lines" 1 [] [] (oy linesB)) (aC : DefOk P w K mg base "_law_draw" 1 ["_law_script","_law_k"] [] (fS K))
  (bX : DefOk P w K mg base "_law_refused" 53 ["_law_thing"] [] (oz K)) (iG : DefOk P w K mg base "_law_spoiled" 1 ["_law_line","_law_number"] [] BJ) (gq : DefX P w K mg base "read" 52 ["text"] [] (sr K C)) (iE : DefOk P w K mg base "_law_no_text" 1 ["_law_number"] [] (yg K)) (mK : DefOk P w K mg base "_law_deep" 4 ["_law_script"] [] (D0 K)) (mL : DefOk P w K mg base "_law_long" 2 ["_law_script"] [] (Ea K))
  (bo : mg "len" = none) (bF : mg "range" = none) : FnOk P w K mg base CX0 54 f fd ["_law_script"] (E1 K):=by
 refine F.ok sc_law (fun vs H Q E h => ?_) (fun cdv A outer s H vs Q E hr h => ?_)
 ·obtain ⟨a,ns,rfl,_⟩:=h
  rfl
 obtain ⟨a,ns,rfl,hS0,h63,k⟩:=h
 have hu:=Lc hr
 have hS : SprAt K H a ns:=⟨hS0,h63⟩
 refine ⟨_,(au (nW (br kW hr (aa (pv 0) ae)) (nU rfl (aP (aG (i:=1) sc_law.nd rfl (Or.inl rfl)) (aP (aG (i:=2) sc_law.nd rfl (Or.inl rfl)) (aP (aG (i:=3) sc_law.nd rfl (Or.inl rfl)) (aP (aG (i:=4) sc_law.nd rfl (Or.inl rfl)) (aP (aG (i:=5) sc_law.nd rfl (Or.inl rfl)) jP)))))))
   (au (ay (i:=6) sc_law.nd rfl (Or.inl rfl) (ak nP (G0 eB hr) (G0 eA hr)))
   (au (ay (i:=7) sc_law.nd rfl (Or.inl rfl) (br aC hr (aa (pv 0) (aa ag ae))))
   (au (qZ PassesOwn.never rfl (cZ rfl bF (aa ag ae)) (aG (i:=8) sc_law.nd rfl (Or.inl rfl)) (ax (bG (gj (dD (br bX hr (aa (cC bg (pv 6) (ak aX (ak bf (pv 7) (ak nQ ag (pv 8))) (aD bz (by rfl) bo cq (aa (pv 6) ae))) (fun _ _ => rfl)) ae)))) (ax (aU jO)) aW)))
   (au (qZ PassesOwn.never rfl (cZ rfl bF (aa ag ae)) (aG (i:=8) sc_law.nd rfl (Or.inl rfl)) (ax (bG (gj (dD (br bX hr (aa (br iG hr (aa (pv 2) (aa (br aC hr (aa (pv 0) (aa (ak bf ag (pv 8)) ae))) ae))) ae)))) (ax (aU jO)) aW)))
   (au (bG (PW.pt (Hc (aM ((GX 22 hu)) (DM gq hr (aa (pv 2) ae)) (pv 1) (aS _)) (DR (gj (dD (br bX hr (aa (br iE hr (aa (br aC hr (aa (pv 0) (aa ag ae))) ae)) ae))))))) (ax (aU jO)) aW)
   (au (nW (br mK hr (aa (pv 0) ae)) (nU rfl (aP (aG (i:=1) sc_law.nd rfl (Or.inl rfl)) (aP (aG (i:=2) sc_law.nd rfl (Or.inl rfl)) (aP (aG (i:=3) sc_law.nd rfl (Or.inl rfl)) jP)))))
   (au (bG (aM rT (pv 3) ag (aS _)) (ax (bG (gj (dD (br bX hr (aa (pv 2) ae)))) (ax (aU jO)) aW)) (ax (bG (aM ((GX 22 hu)) (DM gq hr (aa (pv 2) ae)) (pv 1) (aS _)) (ax (aU jO)) aW)))
   (au (nW (br mL hr (aa (pv 0) ae)) (nU rfl (aP (aG (i:=1) sc_law.nd rfl (Or.inl rfl)) (aP (aG (i:=2) sc_law.nd rfl (Or.inl rfl)) jP))))
   (au (bG (aM rT (aD bA (by rfl) bo cq (aa (pv 2) ae)) ag (aS _)) (ax (aU (br bX hr (aa (pv 2) ae)))) aW)
   (ax (aU (rX ((JK 22 hu)) (DM gq hr (aa (pv 2) ae)) (pv 1) (aS _)))))))))))))),?_⟩
 refine ⟨_,rfl,a,ns,rfl,hS,trivial,fun l it H1 s1 I d20 l1000 => ?_⟩
 obtain ⟨st,v,nl,rl,names,rows⟩:=it
 replace l1000 : (aq st).length <= 1000:=l1000
 replace d20 : aN st <= 20:=d20
 refine ⟨l,_,rfl,qL_ I.li,rfl,_,_,rfl,_,_,rfl,_,_,rfl,_,_,rfl,_,_,rfl,rfl,?_⟩
 try dsimp only [aF,aK,List.set]
 refine ⟨rfl,fun L1 H2 s2 hL1 => ⟨rfl,fun L2 H3 s3 hL2 => ⟨L1,L2,_,_,rfl,rfl,s3 _ _ hL1,hL2,(by rw [lm_,lm_]; decide),fun L hL => ?_⟩⟩⟩
 have s4:=ah hL (HO.lst (linesA.map V.str ++ linesB.map V.str))
 obtain ⟨H4,e4⟩ : ∃ H4,upd H3 L (HO.lst (linesA.map V.str ++ linesB.map V.str)) = H4:=⟨_,rfl⟩
 have s04 : Same H H4:=by rw [<- e4]; exact s1.trans (s2.trans (s3.trans s4))
 have s14 : Same H1 H4:=by rw [<- e4]; exact s2.trans (s3.trans s4)
 have hL4 : H4 L = some (.lst ((linesA ++ linesB).map V.str)):=by rw [<- e4,af,List.map_append]
 rw [e4]
 try dsimp only [aF,aK,List.set]
 refine ⟨_,rfl,a,43,ns,rfl,hS.same s04,trivial,by decide,by decide,?_⟩
 obtain ⟨fi,efi⟩ : ∃ fi,hX ns 43 = fi:=⟨_,rfl⟩
 dsimp only [aF,aK,List.set]
 rw [efi]
 refine di (t:=BN _ _ _) (fun σ' H' => ∃ v8 : OV,σ' = [some (.ref a),some v,some (.str (aq st)),some (.int (aN st : Int)),some (.ref nl),some (.ref rl),some (.ref L),some (.int fi),v8] /\ Same H4 H') ?_ (fun D' nxt => ?_)
 rotate_left
 ·refine ⟨(20 : Int),rfl,by decide,by decide,?_⟩
  refine gd (fun i σ' H' => ∃ v8 : OV,σ' = [some (.ref a),some v,some (.str (aq st)),some (.int (aN st : Int)),some (.ref nl),some (.ref rl),some (.ref L),some (.int fi),v8] /\ Same H4 H') ⟨none,rfl,Same.refl _⟩ ?_ ?_
  ·rintro i σ' H5 hi ⟨v8,rfl,s5⟩
   have hL5:=s5 _ _ hL4
   have mp : (0 : Int) < ((((linesA ++ linesB).map V.str).length : Nat) : Int):=by rw [lm_]; decide
   have b0:=Int.emod_nonneg (fi + 6 * (0 + (i : Int))) (show ((((linesA ++ linesB).map V.str).length : Nat) : Int) ≠ 0 by omega)
   have b1:=Int.emod_lt_of_pos (fi + 6 * (0 + (i : Int))) mp
   obtain ⟨y,ey,my⟩:=oj b0 b1
   obtain ⟨z,mz,rfl⟩:=List.mem_map.mp my
   have no:=GA z mz
   refine ⟨_,rfl,_,rfl,_,rfl,_,_,rfl,rfl,.inl ⟨by decide,by decide⟩,_,_,rfl,rfl,_,rfl,L,_,rfl,.inl (qL_ hL5),_,_,rfl,rfl,mp,L,_,_,_,rfl,rfl,qL_ hL5,ey,_,rfl,NoSt.txt (Nat.le_trans no.1 (by decide)) (Ff no.1) no.2,fun H6 s6 => ⟨_,rfl,cN ?_⟩⟩
   exact ⟨_,rfl,s5.trans s6⟩
  ·rintro σ' H5 ⟨v8,rfl,s5⟩
   exact nxt _ _ ⟨v8,rfl,s5⟩
 rintro σ' H5 ⟨v8,rfl,s5⟩
 have s05:=s04.trans s5
 refine di (t:=BN _ _ _) (fun σ' H' => ∃ v8 : OV,σ' = [some (.ref a),some v,some (.str (aq st)),some (.int (aN st : Int)),some (.ref nl),some (.ref rl),some (.ref L),some (.int fi),v8] /\ Same H5 H') ?_ (fun D' nxt => ?_)
 rotate_left
 ·refine ⟨(6 : Int),rfl,by decide,by decide,?_⟩
  refine gd (fun i σ' H' => ∃ v8 : OV,σ' = [some (.ref a),some v,some (.str (aq st)),some (.int (aN st : Int)),some (.ref nl),some (.ref rl),some (.ref L),some (.int fi),v8] /\ Same H5 H') ⟨v8,rfl,Same.refl _⟩ ?_ ?_
  ·rintro i σ' H6 hi ⟨v8,rfl,s6⟩
   have hi' : i < 6:=hi
   refine ⟨_,rfl,_,rfl,_,rfl,_,_,rfl,rfl,a,_,ns,rfl,hS.same (s05.trans s6),trivial,by omega,by omega,_,_,rfl,(cX _ _).1,l1000,fun j c H7 s7 sp => ?_⟩
   refine ⟨_,rfl,NoSt.txt (by rw [Hb]; omega) (FO I.wr sp) (Hn I.wr sp),fun H8 s8 => ⟨_,rfl,cN ?_⟩⟩
   exact ⟨_,rfl,s6.trans (s7.trans s8)⟩
  ·rintro σ' H6 ⟨v8,rfl,s6⟩
   exact nxt _ _ ⟨v8,rfl,s6⟩
 rintro σ' H6 ⟨v8',rfl,s6⟩
 have s06:=s05.trans s6
 have s16:=s14.trans (s5.trans s6)
 have ra:=xX I.wr d20 l1000
 refine ⟨_,rfl,.str (aq st),rfl,.inr ⟨_,st,rfl,tu (zP I.wr),ra,fun u H7 s7 hu7 => ?_⟩,fun no => absurd no (xB ra)⟩
 refine ⟨_,rfl,Bs hu7 (StAt.same (tkS (s16.trans s7)) I.sv) d20 ⟨_,rfl,cN ?_⟩⟩
 refine ⟨_,rfl,a,40,ns,rfl,hS.same (s06.trans s7),trivial,by decide,by decide,_,rfl,fun v9 H8 s8 no => ⟨v9,rfl,no,fun H9 s9 => ⟨_,rfl,cN ?_⟩⟩⟩
 have s09:=s06.trans (s7.trans (s8.trans s9))
 try dsimp only [aF,aK,List.set]
 refine ⟨_,rfl,a,ns,rfl,hS.same s09,fun l2 v2 st2 m H10 s10 hl2 hv2 wr2 dp2 ln2 => ?_⟩
 refine ⟨l2,_,rfl,qL_ hl2,rfl,_,_,rfl,_,_,rfl,_,_,rfl,rfl,?_⟩
 try dsimp only [aF,aK,List.set]
 have s010:=s09.trans s10
 refine di (t:=Hs _ _ _) (fun σ' H' => (∃ v1 v2' v3 v4 v5 v6 v7 v8 : OV,σ' = [some (.ref a),v1,v2',v3,v4,v5,v6,v7,v8]) /\ Same H H') ?_ (fun D' nxt => ?_)
 rotate_left
 ·refine ⟨_,rfl,_,_,rfl,rfl,_,rfl,tI (fun c => ?_) (fun c => ?_)⟩
  ·have c' : (20 : Int) < (m : Int):=of_decide_eq_true c
   refine ⟨_,rfl,_,rfl,NoSt.txt (Nat.le_trans ln2 (by decide)) (tu (zP wr2)) (HY wr2 (by omega)),fun H11 s11 => ⟨_,rfl,cN ?_⟩⟩
   exact nxt _ _ ⟨⟨_,_,_,_,_,_,_,_,rfl⟩,s010.trans s11⟩
  ·have c' : ¬ (20 : Int) < (m : Int):=fun z => c (decide_eq_true z)
   have d2 : aN st2 <= 20:=by omega
   have ra2:=xX wr2 d2 (by omega)
   refine ⟨_,rfl,.str (aq st2),rfl,.inr ⟨_,st2,rfl,tu (zP wr2),ra2,fun u H11 s11 hu11 => ?_⟩,fun no => absurd no (xB ra2)⟩
   refine ⟨_,rfl,Bs hu11 (StAt.same (tkS s11) hv2) d2 ⟨_,rfl,cN ?_⟩⟩
   exact nxt _ _ ⟨⟨_,_,_,_,_,_,_,_,rfl⟩,s010.trans s11⟩
 rintro σ' H11 ⟨⟨v1,v2',v3,v4,v5,v6,v7,v8,rfl⟩,s11⟩
 refine ⟨_,rfl,a,ns,rfl,hS.same s11,fun l3 v9 st3 H12 s12 hl3 hv3 wr3 dp3 ln3 => ?_⟩
 refine ⟨l3,_,rfl,qL_ hl3,rfl,_,_,rfl,_,_,rfl,rfl,?_⟩
 try dsimp only [aF,aK,List.set]
 refine ⟨_,rfl,_,rfl,Nat.le_trans ln3 (by decide),_,_,rfl,rfl,_,rfl,tI (fun c => ?_) (fun c => ?_)⟩
 ·have c' : (1000 : Int) < ((aq st3).length : Int):=of_decide_eq_true c
  refine ⟨_,rfl,_,rfl,NoSt.txt (Nat.le_trans ln3 (by decide)) (tu (zP wr3)) (if_pos (by omega)),fun H13 s13 => k H13⟩
 ·have c' : ¬ (1000 : Int) < ((aq st3).length : Int):=fun z => c (decide_eq_true z)
  have ra3:=xX wr3 dp3 (by omega)
  refine ⟨_,rfl,.str (aq st3),rfl,.inr ⟨_,st3,rfl,tu (zP wr3),ra3,fun u H13 s13 hu13 => ?_⟩,fun no => absurd no (xB ra3)⟩
  exact ⟨_,rfl,Bs hu13 (StAt.same (tkS s13) hv3) dp3 (k H13)⟩
end
theorem wJ {K : PySem.W.Frag} {C : Addr} {v : Value} {b : Bool} (h : PySem.W.mroIn K C v = some b) : (PySem.W.clsIn K C).isSome = true:=by
 unfold PySem.W.mroIn at h
 obtain ⟨cd,e,_⟩:=Option.bind_eq_some_iff.mp h
 rw [e]
 rfl
theorem Kr {K : PySem.W.Frag} {t : Value} {D : Addr} {b : Bool} (h1 : PySem.W.mroIn K D (.type "object") = some true) (h2 : PySem.W.typeIn K (.ref D) = some (.type "type")) (h3 : PySem.W.subIn K t (.ref D) = some b) : PySem.W.kitCls K t (.ref D) = some b:=by
 unfold PySem.W.kitCls
 dsimp only
 rw [if_pos (by rw [wJ h1,h2]; decide)]
 exact h3
theorem AO {K : PySem.W.Frag} {C D : Addr} {b : Bool} (h1 : PySem.W.mroIn K D (.type "object") = some true) (h2 : PySem.W.typeIn K (.ref D) = some (.type "type")) (h3 : PySem.W.subIn K (.ref C) (.ref D) = some b) (ne : (Value.ref C == Value.ref D) = false) :
  PySem.W.kitOne K (.ref C) (.ref D) = some b:=by
 unfold PySem.W.kitOne
 rw [if_neg (by rw [ne]; decide)]
 exact Kr h1 h2 h3
theorem Jx {K : PySem.W.Frag} {C : Addr} (h : PySem.W.subIn K (.ref C) (.type "ValueError") = some true) : PySem.W.kitOne K (.ref C) (.type "ValueError") = some true:=by
 unfold PySem.W.kitOne
 rw [if_neg (by intro z; cases beq_iff_eq.mp z)]
 unfold PySem.W.kitCls
 dsimp only
 rw [if_pos (by decide +kernel)]
 exact h
theorem Jn {K : PySem.W.Frag} {C F : Addr} (h0 : PySem.W.subIn K (.ref F) (.type "BaseException") = some true) (h1 : PySem.W.mroIn K F (.type "object") = some true) (h2 : PySem.W.typeIn K (.ref F) = some (.type "type")) (h3 : PySem.W.subIn K (.ref C) (.ref F) = some true) :
  PySem.W.exmOne K (.ref C) (.ref F) = some true:=by
 unfold PySem.W.exmOne
 rw [if_pos (by rw [h0]; decide)]
 exact Kr h1 h2 h3
section
variable {P : Program} {w : World} {K : PySem.W.Frag} {mg : Str -> Option Value} {base : Heap} {f : Addr} {fd : FuncData} {dV : Value} {C F0 D1 D2 D3 D4 D5 D6 D7 D8 : Addr}
theorem E6 (ga : PySem.W.findIn K (.ref C) "__getattribute__" = some (some (.builtin "BaseException.__getattribute__"))) (gt : PySem.W.findIn K (.ref C) "__getattr__" = some none) (cl : PySem.W.findIn K (.ref C) "__class__" = some (some (.builtin "object.__class__")))
  (gg : PySem.W.specialIn K (.builtin "object.__class__") "__get__" = some (some (.builtin "getset_descriptor.__get__"))) (tk : PySem.W.takesIn K (.builtin "object.__class__") = some true) (ob : PySem.W.mroIn K C (.type "object") = some true) (be : PySem.W.mroIn K C (.type "BaseException") = some true) : XCls K C:=
 ⟨ga,gt,cl,gg,tk,ob,be,wJ ob⟩
theorem DI (F : FunD K "_law_others" "_law_others" cE dV f fd) (ga : PySem.W.findIn K (.ref C) "__getattribute__" = some (some (.builtin "BaseException.__getattribute__"))) (gt : PySem.W.findIn K (.ref C) "__getattr__" = some none) (cl : PySem.W.findIn K (.ref C) "__class__" = some (some (.builtin "object.__class__")))
  (gg : PySem.W.specialIn K (.builtin "object.__class__") "__get__" = some (some (.builtin "getset_descriptor.__get__"))) (tk : PySem.W.takesIn K (.builtin "object.__class__") = some true) (ob : PySem.W.mroIn K C (.type "object") = some true) (be : PySem.W.mroIn K C (.type "BaseException") = some true)
  (g1 : mg "NoFigures" = some (.ref D1)) (o1 : PySem.W.mroIn K D1 (.type "object") = some true) (t1 : PySem.W.typeIn K (.ref D1) = some (.type "type")) (u1 : PySem.W.subIn K (.ref C) (.ref D1) = some false) (e1 : (Value.ref C == Value.ref D1) = false)
  (g2 : mg "NoMachine" = some (.ref D2)) (o2 : PySem.W.mroIn K D2 (.type "object") = some true) (t2 : PySem.W.typeIn K (.ref D2) = some (.type "type")) (u2 : PySem.W.subIn K (.ref C) (.ref D2) = some false) (e2 : (Value.ref C == Value.ref D2) = false)
  (g3 : mg "NoName" = some (.ref D3)) (o3 : PySem.W.mroIn K D3 (.type "object") = some true) (t3 : PySem.W.typeIn K (.ref D3) = some (.type "type")) (u3 : PySem.W.subIn K (.ref C) (.ref D3) = some false) (e3 : (Value.ref C == Value.ref D3) = false)
  (g4 : mg "NoPower" = some (.ref D4)) (o4 : PySem.W.mroIn K D4 (.type "object") = some true) (t4 : PySem.W.typeIn K (.ref D4) = some (.type "type")) (u4 : PySem.W.subIn K (.ref C) (.ref D4) = some false) (e4 : (Value.ref C == Value.ref D4) = false)
  (g5 : mg "NoRow" = some (.ref D5)) (o5 : PySem.W.mroIn K D5 (.type "object") = some true) (t5 : PySem.W.typeIn K (.ref D5) = some (.type "type")) (u5 : PySem.W.subIn K (.ref C) (.ref D5) = some false) (e5 : (Value.ref C == Value.ref D5) = false)
  (g6 : mg "NoSome" = some (.ref D6)) (o6 : PySem.W.mroIn K D6 (.type "object") = some true) (t6 : PySem.W.typeIn K (.ref D6) = some (.type "type")) (u6 : PySem.W.subIn K (.ref C) (.ref D6) = some false) (e6 : (Value.ref C == Value.ref D6) = false)
  (g7 : mg "TooGreat" = some (.ref D7)) (o7 : PySem.W.mroIn K D7 (.type "object") = some true) (t7 : PySem.W.typeIn K (.ref D7) = some (.type "type")) (u7 : PySem.W.subIn K (.ref C) (.ref D7) = some false) (e7 : (Value.ref C == Value.ref D7) = false)
  (g8 : mg "TooWide" = some (.ref D8)) (o8 : PySem.W.mroIn K D8 (.type "object") = some true) (t8 : PySem.W.typeIn K (.ref D8) = some (.type "type")) (u8 : PySem.W.subIn K (.ref C) (.ref D8) = some false) (e8 : (Value.ref C == Value.ref D8) = false)
  (aH : mg "isinstance" = none) : FnOkH P w K mg base CX0 1 f fd ["_law_e"] (nY C):=
 FE F (E6 ga gt cl gg tk ob be) g1 g2 g3 g4 g5 g6 g7 g8 (AO o1 t1 u1 e1) (AO o2 t2 u2 e2) (AO o3 t3 u3 e3) (AO o4 t4 u4 e4) (AO o5 t5 u5 e5) (AO o6 t6 u6 e6) (AO o7 t7 u7 e7) (AO o8 t8 u8 e8) aH
theorem CH (F : FunD K "_law_refused" "_law_refused" cg dV f fd) (ga : PySem.W.findIn K (.ref C) "__getattribute__" = some (some (.builtin "BaseException.__getattribute__"))) (gt : PySem.W.findIn K (.ref C) "__getattr__" = some none) (cl : PySem.W.findIn K (.ref C) "__class__" = some (some (.builtin "object.__class__")))
  (gg : PySem.W.specialIn K (.builtin "object.__class__") "__get__" = some (some (.builtin "getset_descriptor.__get__"))) (tk : PySem.W.takesIn K (.builtin "object.__class__") = some true) (ob : PySem.W.mroIn K C (.type "object") = some true) (be : PySem.W.mroIn K C (.type "BaseException") = some true)
  (dW : mg "FigureError" = some (.ref F0)) (aI : mg "NoText" = some (.ref C)) (h0 : PySem.W.subIn K (.ref C) (.type "BaseException") = some true) (h2 : PySem.W.typeIn K (.ref C) = some (.type "type")) (h3 : PySem.W.subIn K (.ref C) (.ref C) = some true)
  (f1 : PySem.W.mroIn K F0 (.type "object") = some true) (f2 : PySem.W.typeIn K (.ref F0) = some (.type "type")) (f3 : PySem.W.subIn K (.ref C) (.ref F0) = some true) (f4 : (Value.ref C == Value.ref F0) = false)
  (kv : PySem.W.subIn K (.ref C) (.type "ValueError") = some true) (gq : DefX P w K mg base "read" 52 ["text"] [] (sr K C))
  (dw : DefH P w K mg base "_law_others" 1 ["_law_e"] [] (nY C)) (aH : mg "isinstance" = none) (fV : mg "ValueError" = none) : FnOk P w K mg base CX0 53 f fd ["_law_thing"] (oz K):=
 DJ F (E6 ga gt cl gg tk ob be) dW aI (Jn h0 ob h2 h3) (AO f1 f2 f3 f4) (Jx kv) gq dw aH fV
end
theorem JW {K : PySem.W.Frag} {a : Addr} {x y z : Str} {td : Option Addr} {tn : Nat} {tsl : Array (Option Value)} {t0 t1 t2 : Tok} (h : K.lookup a = some ⟨.type "tuple",td,.seq #[.str x t0,.str y t1,.str z t2] tn,tsl⟩) (H : Hp) : SqT K H a [.str x,.str y,.str z]:=
 .inr ⟨_,_,_,h,rfl,rfl,(by show 3 <= sizeLine; decide),.cons ⟨_,rfl⟩ (.cons ⟨_,rfl⟩ (.cons ⟨_,rfl⟩ .nil))⟩
theorem Ho {K : PySem.W.Frag} {a : Addr} {x y : Str} {td : Option Addr} {tn : Nat} {tsl : Array (Option Value)} {t0 t1 : Tok} (h : K.lookup a = some ⟨.type "tuple",td,.seq #[.str x t0,.str y t1] tn,tsl⟩) (H : Hp) : SqT K H a [.str x,.str y]:=
 .inr ⟨_,_,_,h,rfl,rfl,(by show 2 <= sizeLine; decide),.cons ⟨_,rfl⟩ (.cons ⟨_,rfl⟩ .nil)⟩
theorem JX {K : PySem.W.Frag} {a : Addr} {x y z p q : Str} {td : Option Addr} {tn : Nat} {tsl : Array (Option Value)} {t0 t1 t2 t3 t4 : Tok} (h : K.lookup a = some ⟨.type "tuple",td,.seq #[.str x t0,.str y t1,.str z t2,.str p t3,.str q t4] tn,tsl⟩) (H : Hp) : SqT K H a [.str x,.str y,.str z,.str p,.str q]:=
 .inr ⟨_,_,_,h,rfl,rfl,(by show 5 <= sizeLine; decide),.cons ⟨_,rfl⟩ (.cons ⟨_,rfl⟩ (.cons ⟨_,rfl⟩ (.cons ⟨_,rfl⟩ (.cons ⟨_,rfl⟩ .nil))))⟩
section
variable {P : Program} {w : World} {K : PySem.W.Frag} {mg : Str -> Option Value} {base : Heap} {f f2 f3 C N TJ TH : Addr} {fd fd2 fd3 : FuncData} {dV dV2 dV3 : Value} {tk : Tok}
theorem FQ (cl : Cls K C) (F : FunD K "statement" "Reader.statement" bq dV f fd) (F2 : FunD K "joined" "Reader.joined" bU dV2 f2 fd2) (F3 : FunD K "chosen" "Reader.chosen" bT dV3 f3 fd3) (m : Meth K C "statement" f) (m2 : Meth K C "joined" f2) (m3 : Meth K C "chosen" f3) (b : Binds K fd ["self","deep"] []) (b2 : Binds K fd2 ["self","deep"] []) (b3 : Binds K fd3 ["self","kind","deep"] [])
  (bc : DefMe P w K mg base C "takes" 1 ["self","word"] (iy C)) (GEX_need : DefMeX P w K mg base C "need" 2 ["self","word"] (mi C N)) (dv : DefMe P w K mg base C "run" 1 ["self","first","last"] (uH C)) (GEX_name : DefMeX P w K mg base C "name" 3 ["self"] (spM C N jx BR)) (GEX_compared : DefMeX P w K mg base C "compared" 6 ["self"] (spM C N yz StAt)) (GEX_looked_up : DefMeX P w K mg base C "looked_up" 7 ["self","row"] (wc C N)) (kN : mg "JOINING" = some (.ref TJ)) (jm : mg "CHOOSING" = some (.ref TH)) (sqJ : ∀ H,SqT K H TJ Dt) (sqH : ∀ H,SqT K H TH Ds) (cO : mg "MOST_DEEP" = some (.int 20 tk)) (q_NoText : PySem.W.excIn K N VEm "ValueError.__new__" = true) (aI : mg "NoText" = some (.ref N)) :
  ∀ d : Nat,FnOk P w K mg base (CX1 P w) (2 * d + 9) f fd ["self","deep"] (su C N d):=by
 have step : ∀ d : Nat,DefMeX P w K mg base C "statement" (2 * d + 7) ["self","deep"] (oA C N d) -> FnOk P w K mg base (CX1 P w) (2 * d + 9) f fd ["self","deep"] (su C N d):=fun d G =>
  GS F bc dv G ⟨cl,f2,fd2,m2,b2,GJ F2 bc GEX_need G kN sqJ q_NoText aI⟩ ⟨cl,f3,fd3,m3,b3,Im F3 GEX_name GEX_need G⟩ GEX_compared GEX_looked_up jm sqH cO q_NoText aI
 intro d
 induction d with
 | zero => exact step 0 ⟨cl,f,fd,m,b,⟨(fun vs H Q E ⟨x,z,k,i,_,h,_⟩ => absurd h (Nat.not_lt_zero _)),(fun A outer s H args us vs Q E hr he hb hv ⟨x,z,k,i,_,h,_⟩ => absurd h (Nat.not_lt_zero _))⟩⟩
 | succ d ih => exact step (d + 1) ⟨cl,f,fd,m,b,ih.imp fun vs H Q E ⟨x,z,k,i,h1,h2,h3⟩ => ⟨x,z,k,i,h1,Nat.lt_succ_iff.mp h2,h3⟩⟩
end
@[elab_as_elim] theorem len0 {motive : List Value -> Prop} {us : List Value} (hl : us.length = 0) (h : motive []) : motive us:=match us,hl with | [],_ => h
@[elab_as_elim] theorem pk {motive : List Value -> Prop} {us : List Value} (hl : us.length = 1) (h : ∀ a0,motive [a0]) : motive us:=match us,hl with | [a0],_ => h _
@[elab_as_elim] theorem rN {motive : List Value -> Prop} {us : List Value} (hl : us.length = 2) (h : ∀ a0 a1,motive [a0,a1]) : motive us:=match us,hl with | [a0,a1],_ => h _ _
@[elab_as_elim] theorem Gy {motive : List Value -> Prop} {us : List Value} (hl : us.length = 3) (h : ∀ a0 a1 a2,motive [a0,a1,a2]) : motive us:=match us,hl with | [a0,a1,a2],_ => h _ _ _
@[elab_as_elim] theorem LG {motive : List Value -> Prop} {us : List Value} (hl : us.length = 4) (h : ∀ a0 a1 a2 a3,motive [a0,a1,a2,a3]) : motive us:=match us,hl with | [a0,a1,a2,a3],_ => h _ _ _ _
@[elab_as_elim] theorem LH {motive : List Value -> Prop} {us : List Value} (hl : us.length = 5) (h : ∀ a0 a1 a2 a3 a4,motive [a0,a1,a2,a3,a4]) : motive us:=match us,hl with | [a0,a1,a2,a3,a4],_ => h _ _ _ _ _
@[elab_as_elim] theorem LJ {motive : List Value -> Prop} {us : List Value} (hl : us.length = 6) (h : ∀ a0 a1 a2 a3 a4 a5,motive [a0,a1,a2,a3,a4,a5]) : motive us:=match us,hl with | [a0,a1,a2,a3,a4,a5],_ => h _ _ _ _ _ _
@[elab_as_elim] theorem LK {motive : List Value -> Prop} {us : List Value} (hl : us.length = 7) (h : ∀ a0 a1 a2 a3 a4 a5 a6,motive [a0,a1,a2,a3,a4,a5,a6]) : motive us:=match us,hl with | [a0,a1,a2,a3,a4,a5,a6],_ => h _ _ _ _ _ _ _
theorem all_mk {l : PySem.W.OpenLaw} {w : World} {K : PySem.W.Frag} {h : Heap} {mg : Str -> Option Value} {fa : Addr} (X : K.In h) (G : h.Ns mainGlobals mg) (hfa : mg "law" = some (.ref fa))
  {cS dY dX lR tE kq cz fF il gu gr dZ gv fE dj dk cR Dn nr ny nv qy qz lQ jg qA lP lO ko jd eN eK jf nq nu jc Gj : Addr} {pD oG tX sM tW sJ za yx DE C6 xM wy qQ qe vA uL yW yr xI wq xH wo tY sN xJ wu vz uK qR qf qS qg pC oE Ik HN Bb Aa Be Ad Bd Ac CD BV CF BW yZ yw vE uP CG BX yY yu yX yt xK wx vC uN pF oK pE oH vD uO Ba zZ Bc Ab vB uM JE FY : Option Addr} {pM ui uh zm DZ ye rm vO zh yb ya uj yc vN rn rq pK IL BB BE BD CS CT zl vS CU zj zi yd vQ pO pN vR BA BC vP JU : Array (Option Value)} {pw pd oV pH hG oO tU tL tm uc kJ sX tT tK sZ ub kI sW yV yO yJ zf pU yE DD Dr Di DP wF Dg xG xp wZ xS nh wR qN qC qu qW iY qq vq vh uY vG mw uR yR yK yF zb pQ yA xD xl wW xP mZ wN xC xk wV xO mY wM tV tM tq ud kK sY xE xn wX xQ nc wO vp vg uX vF mv uQ qO qD qv qX iZ qr qP qF qw qY ja qt pq oZ oU pG gZ oM Ij Ic HW IB Ep HU A6 AI As Bo rF An A9 AL Aw Br rJ Aq A8 AK Av Bq rH Ap CA Ci B9 CM uw B5 CB Cj Ca CN uz B6 yU yN yI ze pT yD vy vm ve vK mD uW CC Ck Cb CO uA B7 yT yM yH zd pS yC yS yL yG zc pR yB xF xo wY xR ng wQ vw vj vc vI mB uU pB ph oX pJ hV oQ pA pf oW pI hJ oP vx vk vd vJ mC uV A5 AH Ar Bn rE Am A7 AJ Au Bp rG Ao vv vi uZ vH mx uS JD Gr Gd G9 De Ga : Value}
  (lB : PySem.W.nsIn K mainGlobals "is_text_of" = some (some (.ref lR))) (ma : K.lookup lR = some ⟨yV,za,.func (PySem.W.fnOf "is_text_of" "is_text_of" (aL cW) (aJ cW) (ai cW) .none yO yJ zf yx pU yE),zm⟩) (lI : PySem.W.codeIn K pU "is_text_of" = true) (iw : PySem.W.keepIn K (.ref lR) = true)
  (sH : PySem.W.nsIn K mainGlobals "is_name" = some (some (.ref tE))) (tP : K.lookup tE = some ⟨DD,DE,.func (PySem.W.fnOf "is_name" "is_name" (aL iA) (aJ iA) (ai iA) .none Dr Di DP C6 wF Dg),DZ⟩) (sP : PySem.W.codeIn K wF "is_name" = true) (oo : PySem.W.keepIn K (.ref tE) = true)
  (ka : PySem.W.nsIn K mainGlobals "is_row_name" = some (some (.ref kq))) (kB : K.lookup kq = some ⟨xG,xM,.func (PySem.W.fnOf "is_row_name" "is_row_name" (aL df) (aJ df) (ai df) .none xp wZ xS wy nh wR),ye⟩) (ki : PySem.W.codeIn K nh "is_row_name" = true) (gE : PySem.W.keepIn K (.ref kq) = true)
  (C4 : PySem.W.nsIn K mainGlobals "read" = some (some (.ref Dn))) (Du : K.lookup Dn = some ⟨Ij,Ik,.func (PySem.W.fnOf "read" "read" (aL ug) (aJ ug) (ai ug) .none Ic HW IB HN Ep HU),IL⟩) (Dc : PySem.W.codeIn K Ep "read" = true) (AM : PySem.W.keepIn K (.ref Dn) = true)
  (mO : PySem.W.nsIn K mainGlobals "_law_draw" = some (some (.ref nr))) (nH : K.lookup nr = some ⟨A6,Bb,.func (PySem.W.fnOf "_law_draw" "_law_draw" (aL eZ) (aJ eZ) (ai eZ) .none AI As Bo Aa rF An),BB⟩) (mT : PySem.W.codeIn K rF "_law_draw" = true) (jJ : PySem.W.keepIn K (.ref nr) = true)
  (mR : PySem.W.nsIn K mainGlobals "_law_word" = some (some (.ref ny))) (nL : K.lookup ny = some ⟨A9,Be,.func (PySem.W.fnOf "_law_word" "_law_word" (aL fe) (aJ fe) (ai fe) .none AL Aw Br Ad rJ Aq),BE⟩) (mW : PySem.W.codeIn K rJ "_law_word" = true) (jM : PySem.W.keepIn K (.ref ny) = true)
  (mQ : PySem.W.nsIn K mainGlobals "_law_name" = some (some (.ref nv))) (nK : K.lookup nv = some ⟨A8,Bd,.func (PySem.W.fnOf "_law_name" "_law_name" (aL fc) (aJ fc) (ai fc) .none AK Av Bq Ac rH Ap),BD⟩) (mV : PySem.W.codeIn K rH "_law_name" = true) (jL : PySem.W.keepIn K (.ref nv) = true)
  (qa : PySem.W.nsIn K mainGlobals "_law_row" = some (some (.ref qy))) (qG : K.lookup qy = some ⟨CA,CD,.func (PySem.W.fnOf "_law_row" "_law_row" (aL gk) (aJ gk) (ai gk) .none Ci B9 CM BV uw B5),CS⟩) (qh : PySem.W.codeIn K uw "_law_row" = true) (lS : PySem.W.keepIn K (.ref qy) = true)
  (qb : PySem.W.nsIn K mainGlobals "_law_sum" = some (some (.ref qz))) (qH : K.lookup qz = some ⟨CB,CF,.func (PySem.W.fnOf "_law_sum" "_law_sum" (aL gm) (aJ gm) (ai gm) .none Cj Ca CN BW uz B6),CT⟩) (qj : PySem.W.codeIn K uz "_law_sum" = true) (lU : PySem.W.keepIn K (.ref qz) = true)
  (lA : PySem.W.nsIn K mainGlobals "_law_plain" = some (some (.ref lQ))) (lZ : K.lookup lQ = some ⟨yU,yZ,.func (PySem.W.fnOf "_law_plain" "_law_plain" (aL dJ) (aJ dJ) (ai dJ) .none yN yI ze yw pT yD),zl⟩) (lH : PySem.W.codeIn K pT "_law_plain" = true) (iv : PySem.W.keepIn K (.ref lQ) = true)
  (iM : PySem.W.nsIn K mainGlobals "_law_wrapped" = some (some (.ref jg))) (jw : K.lookup jg = some ⟨vy,vE,.func (PySem.W.fnOf "_law_wrapped" "_law_wrapped" (aL bO) (aJ bO) (ai bO) .none vm ve vK uP mD uW),vS⟩) (iW : PySem.W.codeIn K mD "_law_wrapped" = true) (dA : PySem.W.keepIn K (.ref jg) = true)
  (qc : PySem.W.nsIn K mainGlobals "_law_two" = some (some (.ref qA))) (qI : K.lookup qA = some ⟨CC,CG,.func (PySem.W.fnOf "_law_two" "_law_two" (aL gn) (aJ gn) (ai gn) .none Ck Cb CO BX uA B7),CU⟩) (qk : PySem.W.codeIn K uA "_law_two" = true) (lV : PySem.W.keepIn K (.ref qA) = true)
  (lu : PySem.W.nsIn K mainGlobals "_law_items" = some (some (.ref lP))) (lY : K.lookup lP = some ⟨yT,yY,.func (PySem.W.fnOf "_law_items" "_law_items" (aL cD) (aJ cD) (ai cD) .none yM yH zd yu pS yC),zj⟩) (lG : PySem.W.codeIn K pS "_law_items" = true) (iu : PySem.W.keepIn K (.ref lP) = true)
  (lj : PySem.W.nsIn K mainGlobals "_law_built" = some (some (.ref lO))) (lX : K.lookup lO = some ⟨yS,yX,.func (PySem.W.fnOf "_law_built" "_law_built" (aL dI) (aJ dI) (ai dI) .none yL yG zc yt pR yB),zi⟩) (lF : PySem.W.codeIn K pR "_law_built" = true) (ir : PySem.W.keepIn K (.ref lO) = true)
  (jZ : PySem.W.nsIn K mainGlobals "_law_others" = some (some (.ref ko))) (kA : K.lookup ko = some ⟨xF,xK,.func (PySem.W.fnOf "_law_others" "_law_others" (aL cE) (aJ cE) (ai cE) .none xo wY xR wx ng wQ),yd⟩) (kh : PySem.W.codeIn K ng "_law_others" = true) (gD : PySem.W.keepIn K (.ref ko) = true)
  (iK : PySem.W.nsIn K mainGlobals "_law_refused" = some (some (.ref jd))) (ju : K.lookup jd = some ⟨vw,vC,.func (PySem.W.fnOf "_law_refused" "_law_refused" (aL cg) (aJ cg) (ai cg) .none vj vc vI uN mB uU),vQ⟩) (iU : PySem.W.codeIn K mB "_law_refused" = true) (fM : PySem.W.keepIn K (.ref jd) = true)
  (eE : PySem.W.nsIn K mainGlobals "_law_plain_lines" = some (some (.ref eN))) (eW : K.lookup eN = some ⟨pB,pF,.func (PySem.W.fnOf "_law_plain_lines" "_law_plain_lines" (aL bL) (aJ bL) (ai bL) .none ph oX pJ oK hV oQ),pO⟩) (eJ : PySem.W.codeIn K hV "_law_plain_lines" = true) (cV : PySem.W.keepIn K (.ref eN) = true)
  (eD : PySem.W.nsIn K mainGlobals "_law_other_lines" = some (some (.ref eK))) (eV : K.lookup eK = some ⟨pA,pE,.func (PySem.W.fnOf "_law_other_lines" "_law_other_lines" (aL bK) (aJ bK) (ai bK) .none pf oW pI oH hJ oP),pN⟩) (eI : PySem.W.codeIn K hJ "_law_other_lines" = true) (cU : PySem.W.keepIn K (.ref eK) = true)
  (iL : PySem.W.nsIn K mainGlobals "_law_spoiled" = some (some (.ref jf))) (jv : K.lookup jf = some ⟨vx,vD,.func (PySem.W.fnOf "_law_spoiled" "_law_spoiled" (aL ck) (aJ ck) (ai ck) .none vk vd vJ uO mC uV),vR⟩) (iV : PySem.W.codeIn K mC "_law_spoiled" = true) (fN : PySem.W.keepIn K (.ref jf) = true)
  (mM : PySem.W.nsIn K mainGlobals "_law_deep" = some (some (.ref nq))) (nG : K.lookup nq = some ⟨A5,Ba,.func (PySem.W.fnOf "_law_deep" "_law_deep" (aL eY) (aJ eY) (ai eY) .none AH Ar Bn zZ rE Am),BA⟩) (mS : PySem.W.codeIn K rE "_law_deep" = true) (jI : PySem.W.keepIn K (.ref nq) = true)
  (mP : PySem.W.nsIn K mainGlobals "_law_long" = some (some (.ref nu))) (nJ : K.lookup nu = some ⟨A7,Bc,.func (PySem.W.fnOf "_law_long" "_law_long" (aL cP) (aJ cP) (ai cP) .none AJ Au Bp Ab rG Ao),BC⟩) (mU : PySem.W.codeIn K rG "_law_long" = true) (jK : PySem.W.keepIn K (.ref nu) = true)
  (iJ : PySem.W.nsIn K mainGlobals "_law_no_text" = some (some (.ref jc))) (jr : K.lookup jc = some ⟨vv,vB,.func (PySem.W.fnOf "_law_no_text" "_law_no_text" (aL cL) (aJ cL) (ai cL) .none vi uZ vH uM mx uS),vP⟩) (iT : PySem.W.codeIn K mx "_law_no_text" = true) (fK : PySem.W.keepIn K (.ref jc) = true)
  (En : PySem.W.nsIn K mainGlobals "law" = some (some (.ref Gj))) (Gw : K.lookup Gj = some ⟨JD,JE,.func (PySem.W.fnOf "law" "law" (aL sj) (aJ sj) (ai sj) .none Gr Gd G9 FY De Ga),JU⟩) (F1 : PySem.W.codeIn K De "law" = true) (Gs : PySem.W.keepIn K (.ref Gj) = true)
  (HB : PySem.W.nsIn K mainGlobals "len" = some none)
  (BP : PySem.W.nsIn K mainGlobals "range" = some none)
  (BQ : PySem.W.nsIn K mainGlobals "tuple" = some none)
  (Ej : PySem.W.nsIn K mainGlobals "list" = some none)
  (mq : PySem.W.nsIn K mainGlobals "isinstance" = some none)
  (HA : PySem.W.nsIn K mainGlobals "int" = some none)
  (y_bool : PySem.W.nsIn K mainGlobals "bool" = some none)
  (HF : PySem.W.nsIn K mainGlobals "str" = some none)
  (yp : PySem.W.nsIn K mainGlobals "sorted" = some none)
  (HE : PySem.W.nsIn K mainGlobals "set" = some none)
  (HC : PySem.W.nsIn K mainGlobals "max" = some none)
  (HD : PySem.W.nsIn K mainGlobals "min" = some none)
  (HG : PySem.W.nsIn K mainGlobals "sum" = some none)
  (Hz : PySem.W.nsIn K mainGlobals "all" = some none)
  (mn : PySem.W.nsIn K mainGlobals "ValueError" = some none)
  {tkc_MOST_LONG : Tok} (oi : PySem.W.nsIn K mainGlobals "MOST_LONG" = some (some (.int 6 tkc_MOST_LONG)))
  {tkc_MOST_LETTERS : Tok} (jG : PySem.W.nsIn K mainGlobals "MOST_LETTERS" = some (some (.int 1000 tkc_MOST_LETTERS)))
  {tkc_MOST_DEEP : Tok} (oh : PySem.W.nsIn K mainGlobals "MOST_DEEP" = some (some (.int 20 tkc_MOST_DEEP)))
  {tkc_MOST_PARTS : Tok} (ml : PySem.W.nsIn K mainGlobals "MOST_PARTS" = some (some (.int 8 tkc_MOST_PARTS)))
  {tkc_MOST_FACTOR : Tok} (kD : PySem.W.nsIn K mainGlobals "MOST_FACTOR" = some (some (.int 20 tkc_MOST_FACTOR)))
  {tkc_MOST_NUMBER : Tok} (kE : PySem.W.nsIn K mainGlobals "MOST_NUMBER" = some (some (.int 999999 tkc_MOST_NUMBER)))
  {uu : Addr} (lJ : PySem.W.nsIn K mainGlobals "COMPARING" = some (some (.ref uu)))
  {zr : Addr} (qm : PySem.W.nsIn K mainGlobals "JOINING" = some (some (.ref zr)))
  {wg : Addr} (nj : PySem.W.nsIn K mainGlobals "CHOOSING" = some (some (.ref wg)))
  {El : Addr} (wI : PySem.W.nsIn K mainGlobals "WORDS" = some (some (.ref El)))
  {aB : Addr} (sV : PySem.W.nsIn K mainGlobals "Reader" = some (some (.ref aB)))
  {aE : Addr} (sU : PySem.W.nsIn K mainGlobals "NoText" = some (some (.ref aE)))
  {dR : Addr} (jb : PySem.W.nsIn K mainGlobals "FigureError" = some (some (.ref dR)))
  {gG : Addr} (lK : PySem.W.nsIn K mainGlobals "NoFigures" = some (some (.ref gG)))
  {gH : Addr} (lM : PySem.W.nsIn K mainGlobals "NoMachine" = some (some (.ref gH)))
  {mI : Addr} (sR : PySem.W.nsIn K mainGlobals "NoName" = some (some (.ref mI)))
  {kF : Addr} (qo : PySem.W.nsIn K mainGlobals "NoPower" = some (some (.ref kF)))
  {rA : Addr} (wH : PySem.W.nsIn K mainGlobals "NoRow" = some (some (.ref rA)))
  {mJ : Addr} (sS : PySem.W.nsIn K mainGlobals "NoSome" = some (some (.ref mJ)))
  {iC : Addr} (nk : PySem.W.nsIn K mainGlobals "TooGreat" = some (some (.ref iC)))
  {kG : Addr} (qp : PySem.W.nsIn K mainGlobals "TooWide" = some (some (.ref kG)))
  (cQ : PySem.W.findIn K (.ref aB) "statement" = some (some (.ref cS))) (eU : K.lookup cS = some ⟨pw,pD,.func (PySem.W.fnOf "statement" "Reader.statement" (aL bq) (aJ bq) (ai bq) .none pd oV pH oG hG oO),pM⟩) (eG : PySem.W.codeIn K hG "Reader.statement" = true) (cc : PySem.W.keepIn K (.ref cS) = true)
  (gN : PySem.W.findIn K (.ref aB) "joined" = some (some (.ref dY))) (gX : K.lookup dY = some ⟨tU,tX,.func (PySem.W.fnOf "joined" "Reader.joined" (aL bU) (aJ bU) (ai bU) .none tL tm uc sM kJ sX),ui⟩) (gR : PySem.W.codeIn K kJ "Reader.joined" = true) (eh : PySem.W.keepIn K (.ref dY) = true)
  (gM : PySem.W.findIn K (.ref aB) "chosen" = some (some (.ref dX))) (gW : K.lookup dX = some ⟨tT,tW,.func (PySem.W.fnOf "chosen" "Reader.chosen" (aL bT) (aJ bT) (ai bT) .none tK sZ ub sJ kI sW),uh⟩) (gQ : PySem.W.codeIn K kI "Reader.chosen" = true) (ee : PySem.W.keepIn K (.ref dX) = true)
  (fq : PySem.W.findIn K (.ref aB) "__init__" = some (some (.ref cz))) (fO : K.lookup cz = some ⟨qN,qQ,.func (PySem.W.fnOf "__init__" "Reader.__init__" (aL bP) (aJ bP) (ai bP) .none qC qu qW qe iY qq),rm⟩) (fw : PySem.W.codeIn K iY "Reader.__init__" = true) (fH : PySem.W.keepIn K (.ref cz) = true)
  (iI : PySem.W.findIn K (.ref aB) "takes" = some (some (.ref fF))) (jq : K.lookup fF = some ⟨vq,vA,.func (PySem.W.fnOf "takes" "Reader.takes" (aL cK) (aJ cK) (ai cK) .none vh uY vG uL mw uR),vO⟩) (iR : PySem.W.codeIn K mw "Reader.takes" = true) (fJ : PySem.W.keepIn K (.ref fF) = true)
  (lh : PySem.W.findIn K (.ref aB) "run" = some (some (.ref il))) (lW : K.lookup il = some ⟨yR,yW,.func (PySem.W.fnOf "run" "Reader.run" (aL dH) (aJ dH) (ai dH) .none yK yF zb yr pQ yA),zh⟩) (lD : PySem.W.codeIn K pQ "Reader.run" = true) (iq : PySem.W.keepIn K (.ref il) = true)
  (jX : PySem.W.findIn K (.ref aB) "need" = some (some (.ref gu))) (kx : K.lookup gu = some ⟨xD,xI,.func (PySem.W.fnOf "need" "Reader.need" (aL dc) (aJ dc) (ai dc) .none xl wW xP wq mZ wN),yb⟩) (ke : PySem.W.codeIn K mZ "Reader.need" = true) (gB : PySem.W.keepIn K (.ref gu) = true)
  (jW : PySem.W.findIn K (.ref aB) "name" = some (some (.ref gr))) (ku : K.lookup gr = some ⟨xC,xH,.func (PySem.W.fnOf "name" "Reader.name" (aL da) (aJ da) (ai da) .none xk wV xO wo mY wM),ya⟩) (kb : PySem.W.codeIn K mY "Reader.name" = true) (gA : PySem.W.keepIn K (.ref gr) = true)
  (gO : PySem.W.findIn K (.ref aB) "number" = some (some (.ref dZ))) (gY : K.lookup dZ = some ⟨tV,tY,.func (PySem.W.fnOf "number" "Reader.number" (aL cx) (aJ cx) (ai cx) .none tM tq ud sN kK sY),uj⟩) (gS : PySem.W.codeIn K kK "Reader.number" = true) (eu : PySem.W.keepIn K (.ref dZ) = true)
  (jY : PySem.W.findIn K (.ref aB) "part" = some (some (.ref gv))) (kz : K.lookup gv = some ⟨xE,xJ,.func (PySem.W.fnOf "part" "Reader.part" (aL de) (aJ de) (ai de) .none xn wX xQ wu nc wO),yc⟩) (kg : PySem.W.codeIn K nc "Reader.part" = true) (gC : PySem.W.keepIn K (.ref gv) = true)
  (iH : PySem.W.findIn K (.ref aB) "added" = some (some (.ref fE))) (jo : K.lookup fE = some ⟨vp,vz,.func (PySem.W.fnOf "added" "Reader.added" (aL cJ) (aJ cJ) (ai cJ) .none vg uX vF uK mv uQ),vN⟩) (iQ : PySem.W.codeIn K mv "Reader.added" = true) (fI : PySem.W.keepIn K (.ref fE) = true)
  (fu : PySem.W.findIn K (.ref aB) "compared" = some (some (.ref dj))) (fP : K.lookup dj = some ⟨qO,qR,.func (PySem.W.fnOf "compared" "Reader.compared" (aL bQ) (aJ bQ) (ai bQ) .none qD qv qX qf iZ qr),rn⟩) (fA : PySem.W.codeIn K iZ "Reader.compared" = true) (dn : PySem.W.keepIn K (.ref dj) = true)
  (fv : PySem.W.findIn K (.ref aB) "place_of" = some (some (.ref dk))) (fQ : K.lookup dk = some ⟨qP,qS,.func (PySem.W.fnOf "place_of" "Reader.place_of" (aL bR) (aJ bR) (ai bR) .none qF qw qY qg ja qt),rq⟩) (fB : PySem.W.codeIn K ja "Reader.place_of" = true) (dq : PySem.W.keepIn K (.ref dk) = true)
  (eC : PySem.W.findIn K (.ref aB) "looked_up" = some (some (.ref cR))) (eS : K.lookup cR = some ⟨pq,pC,.func (PySem.W.fnOf "looked_up" "Reader.looked_up" (aL bJ) (aJ bJ) (ai bJ) .none oZ oU pG oE gZ oM),pK⟩) (eF : PySem.W.codeIn K gZ "Reader.looked_up" = true) (cT : PySem.W.keepIn K (.ref cR) = true)
  {td_COMPARING : Option Addr} {tn_COMPARING : Nat} {tsl_COMPARING : Array (Option Value)} {tk0_COMPARING tk1_COMPARING tk2_COMPARING : Tok} (tp_COMPARING : K.lookup uu = some ⟨.type "tuple",td_COMPARING,.seq #[.str "=" tk0_COMPARING,.str "<=" tk1_COMPARING,.str "<" tk2_COMPARING] tn_COMPARING,tsl_COMPARING⟩)
  {td_JOINING : Option Addr} {tn_JOINING : Nat} {tsl_JOINING : Array (Option Value)} {tk0_JOINING tk1_JOINING : Tok} (tp_JOINING : K.lookup zr = some ⟨.type "tuple",td_JOINING,.seq #[.str "and" tk0_JOINING,.str "or" tk1_JOINING] tn_JOINING,tsl_JOINING⟩)
  {td_CHOOSING : Option Addr} {tn_CHOOSING : Nat} {tsl_CHOOSING : Array (Option Value)} {tk0_CHOOSING tk1_CHOOSING : Tok} (tp_CHOOSING : K.lookup wg = some ⟨.type "tuple",td_CHOOSING,.seq #[.str "some" tk0_CHOOSING,.str "all" tk1_CHOOSING] tn_CHOOSING,tsl_CHOOSING⟩)
  {td_WORDS : Option Addr} {tn_WORDS : Nat} {tsl_WORDS : Array (Option Value)} {tk0_WORDS tk1_WORDS tk2_WORDS tk3_WORDS tk4_WORDS : Tok} (tp_WORDS : K.lookup El = some ⟨.type "tuple",td_WORDS,.seq #[.str "and" tk0_WORDS,.str "or" tk1_WORDS,.str "not" tk2_WORDS,.str "some" tk3_WORDS,.str "all" tk4_WORDS] tn_WORDS,tsl_WORDS⟩)
  (q_NoText : PySem.W.excIn K aE [.type "ValueError",.type "Exception",.type "BaseException",.type "object"] "ValueError.__new__" = true)
  (xga : PySem.W.findIn K (.ref aE) "__getattribute__" = some (some (.builtin "BaseException.__getattribute__")))
  (xgt : PySem.W.findIn K (.ref aE) "__getattr__" = some none)
  (xcl : PySem.W.findIn K (.ref aE) "__class__" = some (some (.builtin "object.__class__")))
  (xgg : PySem.W.specialIn K (.builtin "object.__class__") "__get__" = some (some (.builtin "getset_descriptor.__get__")))
  (xtk : PySem.W.takesIn K (.builtin "object.__class__") = some true)
  (xob : PySem.W.mroIn K aE (.type "object") = some true)
  (xbe : PySem.W.mroIn K aE (.type "BaseException") = some true)
  (tw0 : PySem.W.subIn K (.ref aE) (.type "BaseException") = some true)
  (tw2 : PySem.W.typeIn K (.ref aE) = some (.type "type"))
  (tw3 : PySem.W.subIn K (.ref aE) (.ref aE) = some true)
  (fe1 : PySem.W.mroIn K dR (.type "object") = some true)
  (fe2 : PySem.W.typeIn K (.ref dR) = some (.type "type"))
  (fe3 : PySem.W.subIn K (.ref aE) (.ref dR) = some true)
  (fe4 : (Value.ref aE == Value.ref dR) = false)
  (kve : PySem.W.subIn K (.ref aE) (.type "ValueError") = some true)
  (ob_NoFigures : PySem.W.mroIn K gG (.type "object") = some true)
  (ty_NoFigures : PySem.W.typeIn K (.ref gG) = some (.type "type"))
  (su_NoFigures : PySem.W.subIn K (.ref aE) (.ref gG) = some false)
  (ne_NoFigures : (Value.ref aE == Value.ref gG) = false)
  (ob_NoMachine : PySem.W.mroIn K gH (.type "object") = some true)
  (ty_NoMachine : PySem.W.typeIn K (.ref gH) = some (.type "type"))
  (su_NoMachine : PySem.W.subIn K (.ref aE) (.ref gH) = some false)
  (ne_NoMachine : (Value.ref aE == Value.ref gH) = false)
  (ob_NoName : PySem.W.mroIn K mI (.type "object") = some true)
  (ty_NoName : PySem.W.typeIn K (.ref mI) = some (.type "type"))
  (su_NoName : PySem.W.subIn K (.ref aE) (.ref mI) = some false)
  (ne_NoName : (Value.ref aE == Value.ref mI) = false)
  (ob_NoPower : PySem.W.mroIn K kF (.type "object") = some true)
  (ty_NoPower : PySem.W.typeIn K (.ref kF) = some (.type "type"))
  (su_NoPower : PySem.W.subIn K (.ref aE) (.ref kF) = some false)
  (ne_NoPower : (Value.ref aE == Value.ref kF) = false)
  (ob_NoRow : PySem.W.mroIn K rA (.type "object") = some true)
  (ty_NoRow : PySem.W.typeIn K (.ref rA) = some (.type "type"))
  (su_NoRow : PySem.W.subIn K (.ref aE) (.ref rA) = some false)
  (ne_NoRow : (Value.ref aE == Value.ref rA) = false)
  (ob_NoSome : PySem.W.mroIn K mJ (.type "object") = some true)
  (ty_NoSome : PySem.W.typeIn K (.ref mJ) = some (.type "type"))
  (su_NoSome : PySem.W.subIn K (.ref aE) (.ref mJ) = some false)
  (ne_NoSome : (Value.ref aE == Value.ref mJ) = false)
  (ob_TooGreat : PySem.W.mroIn K iC (.type "object") = some true)
  (ty_TooGreat : PySem.W.typeIn K (.ref iC) = some (.type "type"))
  (su_TooGreat : PySem.W.subIn K (.ref aE) (.ref iC) = some false)
  (ne_TooGreat : (Value.ref aE == Value.ref iC) = false)
  (ob_TooWide : PySem.W.mroIn K kG (.type "object") = some true)
  (ty_TooWide : PySem.W.typeIn K (.ref kG) = some (.type "type"))
  (su_TooWide : PySem.W.subIn K (.ref aE) (.ref kG) = some false)
  (ne_TooWide : (Value.ref aE == Value.ref kG) = false)
  (d_pg : PySem.W.plainGet K aB Str.empty = true)
  (d_hd : PySem.W.hasDictIn K aB = true)
  (d_po : PySem.W.plainOver K aB = true)
  (d_sa : PySem.W.findIn K (.ref aB) "__setattr__" = some (some (.builtin "object.__setattr__")))
  (d_n1 : PySem.W.findIn K (.ref aB) "text" = some none)
  (d_n2 : PySem.W.findIn K (.ref aB) "at" = some none)
  (d_mk : PySem.W.makesIn K aB = true)
  (d_fi : PySem.W.isFn K (.ref cz) = true)
  (d_kp : PySem.W.keepIn K (.ref aB) = true)
  (gU : PySem.W.isFn K (.ref fF) = true)
  (ji : PySem.W.isFn K (.ref gu) = true)
  (kr : PySem.W.isFn K (.ref il) = true)
  (cG : PySem.W.isFn K (.ref cS) = true)
  (gb : PySem.W.isFn K (.ref dY) = true)
  (fZ : PySem.W.isFn K (.ref dX) = true)
  (eP : PySem.W.isFn K (.ref dj) = true)
  (dP : PySem.W.isFn K (.ref cR) = true)
  (eR : PySem.W.isFn K (.ref dk) = true)
  (gT : PySem.W.isFn K (.ref fE) = true)
  (jj : PySem.W.isFn K (.ref gv) = true)
  (gc : PySem.W.isFn K (.ref dZ) = true)
  (jh : PySem.W.isFn K (.ref gr) = true) :
  ∃ fd : FuncData,(∀ (s : Shared) (v : Value),BindsTo s fd ⟨[v],[]⟩ [("_law_script",v)]) /\ ∀ base : Heap,K.In base -> base.Ns mainGlobals mg -> FnOk l.prog w K mg base CX0 54 fa fd ["_law_script"] (E1 K):=by
 have e:=hfa.symm.trans (PySem.W.mg_of X G En)
 cases e
 have F_Reader_statement:=aQ (st:=bq) eU eG cc
 have b_Reader_statement:=F_Reader_statement.binds (ps:=["self","deep"]) fun _ _ _ _ _ _ us hl => rN hl fun _ _ => rfl
 have F_Reader_joined:=aQ (st:=bU) gX gR eh
 have b_Reader_joined:=F_Reader_joined.binds (ps:=["self","deep"]) fun _ _ _ _ _ _ us hl => rN hl fun _ _ => rfl
 have F_Reader_chosen:=aQ (st:=bT) gW gQ ee
 have b_Reader_chosen:=F_Reader_chosen.binds (ps:=["self","kind","deep"]) fun _ _ _ _ _ _ us hl => Gy hl fun _ _ _ => rfl
 have F_is_text_of:=aQ (st:=cW) ma lI iw
 have b_is_text_of:=F_is_text_of.binds (ps:=["thing","first","last"]) fun _ _ _ _ _ _ us hl => Gy hl fun _ _ _ => rfl
 have A0:=PySem.W.mg_of X G lB
 have F_is_name:=aQ (st:=iA) tP sP oo
 have b_is_name:=F_is_name.binds (ps:=["thing"]) fun _ _ _ _ _ _ us hl => pk hl fun _ => rfl
 have Fv:=PySem.W.mg_of X G sH
 have F_is_row_name:=aQ (st:=df) kB ki gE
 have b_is_row_name:=F_is_row_name.binds (ps:=["thing"]) fun _ _ _ _ _ _ us hl => pk hl fun _ => rfl
 have yQ:=PySem.W.mg_of X G ka
 have F_Reader___init__:=aQ (st:=bP) fO fw fH
 have b_Reader___init__:=F_Reader___init__.binds (ps:=["self","text"]) fun _ _ _ _ _ _ us hl => rN hl fun _ _ => rfl
 have F_Reader_takes:=aQ (st:=cK) jq iR fJ
 have b_Reader_takes:=F_Reader_takes.binds (ps:=["self","word"]) fun _ _ _ _ _ _ us hl => rN hl fun _ _ => rfl
 have F_Reader_run:=aQ (st:=dH) lW lD iq
 have b_Reader_run:=F_Reader_run.binds (ps:=["self","first","last"]) fun _ _ _ _ _ _ us hl => Gy hl fun _ _ _ => rfl
 have F_Reader_need:=aQ (st:=dc) kx ke gB
 have b_Reader_need:=F_Reader_need.binds (ps:=["self","word"]) fun _ _ _ _ _ _ us hl => rN hl fun _ _ => rfl
 have F_Reader_name:=aQ (st:=da) ku kb gA
 have b_Reader_name:=F_Reader_name.binds (ps:=["self"]) fun _ _ _ _ _ _ us hl => pk hl fun _ => rfl
 have F_Reader_number:=aQ (st:=cx) gY gS eu
 have b_Reader_number:=F_Reader_number.binds (ps:=["self"]) fun _ _ _ _ _ _ us hl => pk hl fun _ => rfl
 have F_Reader_part:=aQ (st:=de) kz kg gC
 have b_Reader_part:=F_Reader_part.binds (ps:=["self"]) fun _ _ _ _ _ _ us hl => pk hl fun _ => rfl
 have F_Reader_added:=aQ (st:=cJ) jo iQ fI
 have b_Reader_added:=F_Reader_added.binds (ps:=["self"]) fun _ _ _ _ _ _ us hl => pk hl fun _ => rfl
 have F_Reader_compared:=aQ (st:=bQ) fP fA dn
 have b_Reader_compared:=F_Reader_compared.binds (ps:=["self"]) fun _ _ _ _ _ _ us hl => pk hl fun _ => rfl
 have F_Reader_place_of:=aQ (st:=bR) fQ fB dq
 have b_Reader_place_of:=F_Reader_place_of.binds (ps:=["self","row"]) fun _ _ _ _ _ _ us hl => rN hl fun _ _ => rfl
 have F_Reader_looked_up:=aQ (st:=bJ) eS eF cT
 have b_Reader_looked_up:=F_Reader_looked_up.binds (ps:=["self","row"]) fun _ _ _ _ _ _ us hl => rN hl fun _ _ => rfl
 have F_read:=aQ (st:=ug) Du Dc AM
 have b_read:=F_read.binds (ps:=["text"]) fun _ _ _ _ _ _ us hl => pk hl fun _ => rfl
 have Jz:=PySem.W.mg_of X G C4
 have F__law_draw:=aQ (st:=eZ) nH mT jJ
 have b__law_draw:=F__law_draw.binds (ps:=["_law_script","_law_k"]) fun _ _ _ _ _ _ us hl => rN hl fun _ _ => rfl
 have Cr:=PySem.W.mg_of X G mO
 have F__law_word:=aQ (st:=fe) nL mW jM
 have b__law_word:=F__law_word.binds (ps:=["_law_number","_law_letters"]) fun _ _ _ _ _ _ us hl => rN hl fun _ _ => rfl
 have Cu:=PySem.W.mg_of X G mR
 have F__law_name:=aQ (st:=fc) nK mV jL
 have b__law_name:=F__law_name.binds (ps:=["_law_script","_law_number"]) fun _ _ _ _ _ _ us hl => rN hl fun _ _ => rfl
 have Ct:=PySem.W.mg_of X G mQ
 have F__law_row:=aQ (st:=gk) qG qh lS
 have b__law_row:=F__law_row.binds (ps:=["_law_script","_law_number"]) fun _ _ _ _ _ _ us hl => rN hl fun _ _ => rfl
 have Dx:=PySem.W.mg_of X G qa
 have F__law_sum:=aQ (st:=gm) qH qj lU
 have b__law_sum:=F__law_sum.binds (ps:=["_law_script","_law_at"]) fun _ _ _ _ _ _ us hl => rN hl fun _ _ => rfl
 have Dy:=PySem.W.mg_of X G qb
 have F__law_plain:=aQ (st:=dJ) lZ lH iv
 have b__law_plain:=F__law_plain.binds (ps:=["_law_script","_law_at"]) fun _ _ _ _ _ _ us hl => rN hl fun _ _ => rfl
 have AZ:=PySem.W.mg_of X G lA
 have F__law_wrapped:=aQ (st:=bO) jw iW dA
 have b__law_wrapped:=F__law_wrapped.binds (ps:=["_law_script","_law_item","_law_number"]) fun _ _ _ _ _ _ us hl => Gy hl fun _ _ _ => rfl
 have nM:=PySem.W.mg_of X G iM
 have F__law_two:=aQ (st:=gn) qI qk lV
 have b__law_two:=F__law_two.binds (ps:=["_law_one","_law_other","_law_number"]) fun _ _ _ _ _ _ us hl => Gy hl fun _ _ _ => rfl
 have Dz:=PySem.W.mg_of X G qc
 have F__law_items:=aQ (st:=cD) lY lG iu
 have b__law_items:=F__law_items.binds (ps:=["_law_script"]) fun _ _ _ _ _ _ us hl => pk hl fun _ => rfl
 have AY:=PySem.W.mg_of X G lu
 have F__law_built:=aQ (st:=dI) lX lF ir
 have b__law_built:=F__law_built.binds (ps:=["_law_script"]) fun _ _ _ _ _ _ us hl => pk hl fun _ => rfl
 have AX:=PySem.W.mg_of X G lj
 have F__law_others:=aQ (st:=cE) kA kh gD
 have b__law_others:=F__law_others.binds (ps:=["_law_e"]) fun _ _ _ _ _ _ us hl => pk hl fun _ => rfl
 have yP:=PySem.W.mg_of X G jZ
 have F__law_refused:=aQ (st:=cg) ju iU fM
 have b__law_refused:=F__law_refused.binds (ps:=["_law_thing"]) fun _ _ _ _ _ _ us hl => pk hl fun _ => rfl
 have xt:=PySem.W.mg_of X G iK
 have F__law_plain_lines:=aQ (st:=bL) eW eJ cV
 have b__law_plain_lines:=F__law_plain_lines.binds (ps:=[]) fun _ _ _ _ _ _ us hl => len0 hl rfl
 have qK:=PySem.W.mg_of X G eE
 have F__law_other_lines:=aQ (st:=bK) eV eI cU
 have b__law_other_lines:=F__law_other_lines.binds (ps:=[]) fun _ _ _ _ _ _ us hl => len0 hl rfl
 have qJ:=PySem.W.mg_of X G eD
 have F__law_spoiled:=aQ (st:=ck) jv iV fN
 have b__law_spoiled:=F__law_spoiled.binds (ps:=["_law_line","_law_number"]) fun _ _ _ _ _ _ us hl => rN hl fun _ _ => rfl
 have xu:=PySem.W.mg_of X G iL
 have F__law_deep:=aQ (st:=eY) nG mS jI
 have b__law_deep:=F__law_deep.binds (ps:=["_law_script"]) fun _ _ _ _ _ _ us hl => pk hl fun _ => rfl
 have Cq:=PySem.W.mg_of X G mM
 have F__law_long:=aQ (st:=cP) nJ mU jK
 have b__law_long:=F__law_long.binds (ps:=["_law_script"]) fun _ _ _ _ _ _ us hl => pk hl fun _ => rfl
 have Cs:=PySem.W.mg_of X G mP
 have F__law_no_text:=aQ (st:=cL) jr iT fK
 have b__law_no_text:=F__law_no_text.binds (ps:=["_law_number"]) fun _ _ _ _ _ _ us hl => pk hl fun _ => rfl
 have xr:=PySem.W.mg_of X G iJ
 have F_law:=aQ (st:=sj) Gw F1 Gs
 have b_law:=F_law.binds (ps:=["_law_script"]) fun _ _ _ _ _ _ us hl => pk hl fun _ => rfl
 have LD:=PySem.W.mg_of X G En
 have bo:=PySem.W.mg_none_of X G HB
 have bF:=PySem.W.mg_none_of X G BP
 have iz:=PySem.W.mg_none_of X G BQ
 have LA:=PySem.W.mg_none_of X G Ej
 have aH:=PySem.W.mg_none_of X G mq
 have uJ:=PySem.W.mg_none_of X G HA
 have Lz:=PySem.W.mg_none_of X G y_bool
 have ig:=PySem.W.mg_none_of X G HF
 have fW:=PySem.W.mg_none_of X G yp
 have sD:=PySem.W.mg_none_of X G HE
 have sC:=PySem.W.mg_none_of X G HC
 have zX:=PySem.W.mg_none_of X G HD
 have HI:=PySem.W.mg_none_of X G HG
 have HH:=PySem.W.mg_none_of X G Hz
 have fV:=PySem.W.mg_none_of X G mn
 have nB:=PySem.W.mg_of X G oi
 have fG:=PySem.W.mg_of X G jG
 have cO:=PySem.W.mg_of X G oh
 have ip:=PySem.W.mg_of X G ml
 have gx:=PySem.W.mg_of X G kD
 have gz:=PySem.W.mg_of X G kE
 have nA:=PySem.W.mg_of X G lJ
 have kN:=PySem.W.mg_of X G qm
 have jm:=PySem.W.mg_of X G nj
 have AE:=PySem.W.mg_of X G wI
 have Gm:=PySem.W.mg_of X G sV
 have aI:=PySem.W.mg_of X G sU
 have dW:=PySem.W.mg_of X G jb
 have nC:=PySem.W.mg_of X G lK
 have nD:=PySem.W.mg_of X G lM
 have xh:=PySem.W.mg_of X G sR
 have tG:=PySem.W.mg_of X G qo
 have AD:=PySem.W.mg_of X G wH
 have xi:=PySem.W.mg_of X G sS
 have qB:=PySem.W.mg_of X G nk
 have tH:=PySem.W.mg_of X G qp
 refine ⟨PySem.W.fnOf "law" "law" (aL sj) (aJ sj) (ai sj) .none Gr Gd G9 FY De Ga,fun s v => .of_eq rfl,fun base _ _ => ?_⟩
 have bB:=(show Cls K aB from ⟨d_pg,d_hd,d_po,d_sa⟩)
 have Fw:=(show Mk K aB cz from ⟨d_mk,fq,d_fi,d_kp⟩)
 have rc:=(show RCls K aB from ⟨bB,d_n1,d_n2⟩)
 have SQC:=(JW tp_COMPARING)
 have SQJ:=(Ho tp_JOINING)
 have SQH:=(Ho tp_CHOOSING)
 have SQW:=(JX tp_WORDS)
 have dF : DefOk l.prog w K mg base "is_text_of" 1 ["thing","first","last"] [] (oB):=⟨_,_,[],A0,iw,.nil,b_is_text_of,DL F_is_text_of aH ig bo HH nB⟩
 have sG : DefOk l.prog w K mg base "is_name" 2 ["thing"] [] (uk):=⟨_,_,[],Fv,oo,.nil,b_is_name,DF F_is_name dF AE SQW⟩
 have jT : DefOk l.prog w K mg base "is_row_name" 2 ["thing"] [] (um):=⟨_,_,[],yQ,gE,.nil,b_is_row_name,DG F_is_row_name dF⟩
 have sF : DefMk l.prog w K mg base "Reader" aB 1 ["self","text"] (BI aB):=⟨Gm,bB,_,_,Fw,b_Reader___init__,GR F_Reader___init__ rc⟩
 have bc : DefMe l.prog w K mg base aB "takes" 1 ["self","word"] (iy aB):=⟨bB,_,_,⟨iI,gU,fJ⟩,b_Reader_takes,GU F_Reader_takes rc bo⟩
 have dv : DefMe l.prog w K mg base aB "run" 1 ["self","first","last"] (uH aB):=⟨bB,_,_,⟨lh,kr,iq⟩,b_Reader_run,JG F_Reader_run rc bo⟩
 have GEX_need : DefMeX l.prog w K mg base aB "need" 2 ["self","word"] (mi aB aE):=⟨bB,_,_,⟨jX,ji,gB⟩,b_Reader_need,GN F_Reader_need bc q_NoText aI⟩
 have GEX_name : DefMeX l.prog w K mg base aB "name" 3 ["self"] (spM aB aE jx BR):=⟨bB,_,_,⟨jW,jh,gA⟩,b_Reader_name,GL F_Reader_name dv sG q_NoText aI⟩
 have GEX_number : DefMeX l.prog w K mg base aB "number" 2 ["self"] (spM aB aE qM Ek):=⟨bB,_,_,⟨gO,gc,eu⟩,b_Reader_number,DH F_Reader_number dv gz ig uJ q_NoText aI⟩
 have GEX_part : DefMeX l.prog w K mg base aB "part" 4 ["self"] (spM aB aE gJ C1):=⟨bB,_,_,⟨jY,jj,gC⟩,b_Reader_part,GO F_Reader_part rc dv bc GEX_name GEX_number gx q_NoText aI⟩
 have GEX_added : DefMeX l.prog w K mg base aB "added" 5 ["self"] (spM aB aE sumF SumAt):=⟨bB,_,_,⟨iH,gT,fI⟩,b_Reader_added,Fz F_Reader_added bc GEX_part ip bo iz q_NoText aI⟩
 have GEX_compared : DefMeX l.prog w K mg base aB "compared" 6 ["self"] (spM aB aE yz StAt):=⟨bB,_,_,⟨fu,eP,dn⟩,b_Reader_compared,Bg F_Reader_compared bc GEX_added nA SQC q_NoText aI⟩
 have GEX_place_of : DefMeX l.prog w K mg base aB "place_of" 6 ["self","row"] (yh aB aE):=⟨bB,_,_,⟨fv,eR,dq⟩,b_Reader_place_of,FF F_Reader_place_of GEX_need GEX_added jT q_NoText aI⟩
 have GEX_looked_up : DefMeX l.prog w K mg base aB "looked_up" 7 ["self","row"] (wc aB aE):=⟨bB,_,_,⟨eC,dP,cT⟩,b_Reader_looked_up,GK F_Reader_looked_up GEX_place_of GEX_need dv GEX_number⟩
 have GST:=(FQ bB F_Reader_statement F_Reader_joined F_Reader_chosen ⟨cQ,cG,cc⟩ ⟨gN,gb,eh⟩ ⟨gM,fZ,ee⟩ b_Reader_statement b_Reader_joined b_Reader_chosen bc GEX_need dv GEX_name GEX_compared GEX_looked_up kN jm SQJ SQH cO q_NoText aI 21)
 have GEX_statement:=(show DefMeX l.prog w K mg base aB "statement" 51 ["self","deep"] (su aB aE 21) from ⟨bB,_,_,⟨cQ,cG,cc⟩,b_Reader_statement,GST⟩)
 have gq : DefX l.prog w K mg base "read" 52 ["text"] [] (sr K aE):=⟨_,_,[],Jz,AM,.nil,b_read,GQ F_read rc sF GEX_statement fG cO aH ig bo q_NoText aI⟩
 have aC : DefOk l.prog w K mg base "_law_draw" 1 ["_law_script","_law_k"] [] (fS K):=⟨_,_,[],Cr,jJ,.nil,b__law_draw,GH F__law_draw bo⟩
 have eX : DefOk l.prog w K mg base "_law_word" 1 ["_law_number","_law_letters"] [] (BK):=⟨_,_,[],Cu,jM,.nil,b__law_word,Iv F__law_word ⟩
 have cy : DefOk l.prog w K mg base "_law_name" 2 ["_law_script","_law_number"] [] (yf K):=⟨_,_,[],Ct,jL,.nil,b__law_name,Ir F__law_name aC eX⟩
 have kY : DefOk l.prog w K mg base "_law_row" 2 ["_law_script","_law_number"] [] (Eb K):=⟨_,_,[],Dx,lS,.nil,b__law_row,Iu F__law_row aC eX⟩
 have kZ : DefOk l.prog w K mg base "_law_sum" 3 ["_law_script","_law_at"] [] (D9 K):=⟨_,_,[],Dy,lU,.nil,b__law_sum,Iq F__law_sum aC cy bF ig uJ iz⟩
 have ij : DefOk l.prog w K mg base "_law_plain" 4 ["_law_script","_law_at"] [] (BH K):=⟨_,_,[],AZ,iv,.nil,b__law_plain,GP F__law_plain aC kZ kY ig fW sD⟩
 have bZ : DefOk l.prog w K mg base "_law_wrapped" 3 ["_law_script","_law_item","_law_number"] [] (BL K):=⟨_,_,[],nM,dA,.nil,b__law_wrapped,GV F__law_wrapped cy⟩
 have GW2:=bZ
 have bZ : DefOk l.prog w K mg base "_law_wrapped" 3 ["_law_script","_law_item","_law_number"] [] (Ec K):=⟨_,_,[],nM,dA,.nil,b__law_wrapped,Iw F__law_wrapped cy⟩
 have fY : DefOk l.prog w K mg base "_law_two" 1 ["_law_one","_law_other","_law_number"] [] (E2):=⟨_,_,[],Dz,lV,.nil,b__law_two,JH F__law_two sC fW sD⟩
 have kX : DefOk l.prog w K mg base "_law_items" 5 ["_law_script"] [] (BG K):=⟨_,_,[],AY,iu,.nil,b__law_items,GI F__law_items aC ij fY bZ bo zX sC HI bF⟩
 have kW : DefOk l.prog w K mg base "_law_built" 6 ["_law_script"] [] (BF K):=⟨_,_,[],AX,ir,.nil,b__law_built,GG F__law_built aC kX fY bo⟩
 have dw : DefH l.prog w K mg base "_law_others" 1 ["_law_e"] [] (nY aE):=⟨_,_,[],yP,gD,.nil,b__law_others,DI F__law_others xga xgt xcl xgg xtk xob xbe nC ob_NoFigures ty_NoFigures su_NoFigures ne_NoFigures nD ob_NoMachine ty_NoMachine su_NoMachine ne_NoMachine xh ob_NoName ty_NoName su_NoName ne_NoName tG ob_NoPower ty_NoPower su_NoPower ne_NoPower AD ob_NoRow ty_NoRow su_NoRow ne_NoRow xi ob_NoSome ty_NoSome su_NoSome ne_NoSome qB ob_TooGreat ty_TooGreat su_TooGreat ne_TooGreat tH ob_TooWide ty_TooWide su_TooWide ne_TooWide aH⟩
 have bX : DefOk l.prog w K mg base "_law_refused" 53 ["_law_thing"] [] (oz K):=⟨_,_,[],xt,fM,.nil,b__law_refused,CH F__law_refused xga xgt xcl xgg xtk xob xbe dW aI tw0 tw2 tw3 fe1 fe2 fe3 fe4 kve gq dw aH fV⟩
 have eB : DefOk l.prog w K mg base "_law_plain_lines" 1 [] [] (oy linesA):=⟨_,_,[],qK,cV,.nil,b__law_plain_lines,FA F__law_plain_lines ⟩
 have eA : DefOk l.prog w K mg base "_law_other_lines" 1 [] [] (oy linesB):=⟨_,_,[],qJ,cU,.nil,b__law_other_lines,FC F__law_other_lines ⟩
 have iG : DefOk l.prog w K mg base "_law_spoiled" 1 ["_law_line","_law_number"] [] (BJ):=⟨_,_,[],xu,fN,.nil,b__law_spoiled,DK F__law_spoiled bo bF⟩
 have mK : DefOk l.prog w K mg base "_law_deep" 4 ["_law_script"] [] (D0 K):=⟨_,_,[],Cq,jI,.nil,b__law_deep,Io F__law_deep aC GW2 bF⟩
 have mL : DefOk l.prog w K mg base "_law_long" 2 ["_law_script"] [] (Ea K):=⟨_,_,[],Cs,jK,.nil,b__law_long,Ip F__law_long aC bF iz sC zX⟩
 have iE : DefOk l.prog w K mg base "_law_no_text" 1 ["_law_number"] [] (yg K):=⟨_,_,[],xr,fK,.nil,b__law_no_text,FD F__law_no_text ⟩
 exact JF F_law kW eB eA aC bX iG gq iE mK mL bo bF
theorem walk {l : PySem.W.OpenLaw} {q : Program} {loose : List Str} {XP : (Str -> Option Value) -> Heap -> Prop} {YP : World -> Heap -> Prop} {d : DefRec} {K : Params -> PySem.W.Frag} (hn : l.most = some 63) (hdf : d.params.defaults = [])
  (hY : ∀ (w : World) (h : Heap),YP w h -> (K w.params).In h)
  (F : ∀ (w : World) (mg : Str -> Option Value) (fa : Addr) (h : Heap),(K w.params).In h -> h.Ns mainGlobals mg -> mg d.name = some (.ref fa) ->
   ∃ fd : FuncData,(∀ (s : Shared) (u : Value),BindsTo s fd ⟨[u],[]⟩ [("_law_script",u)]) /\ ∀ base : Heap,(K w.params).In base -> base.Ns mainGlobals mg -> FnOk l.prog w (K w.params) mg base CX0 54 fa fd ["_law_script"] (E1 (K w.params))) :
  PySem.W.WalkO q loose XP YP l.row.toRowW d [] (fun f vs => PySem.call f vs):=
 L2.walk_of (n:=63) (k:=54) (x := "_law_script") (CX:=fun _ => CX0) (sp:=fun w => E1 (K w.params)) hn (by decide) hdf ⟨rfl,by decide,by decide⟩ hY F (fun _ _ a ns hl _ hS => ⟨a,ns,rfl,hS,hl,fun _ => rfl⟩) fun _ _ _ _ _ z => z
end My
def PySem.W.Fast.tw7556731527074379058:=0
def PySem.W.Fast.tw14376848898796754087:=0
def PySem.W.Fast.tw1788516851445764727:=0
def PySem.W.Fast.tw3699899794209501649:=0
def PySem.W.Fast.tw2007322577750666438:=0
def PySem.W.Fast.tw3911105703317960520:=0
def PySem.W.Fast.tw6618338818803822975:=0
def PySem.W.Fast.tw13444415794845742486:=0
def PySem.W.Fast.tw5541968538200599213:=0
def PySem.W.Fast.tw12320733287601797000:=0
def PySem.W.Fast.tw14980117121135294538:=0
def PySem.W.Fast.tw2245311478343113345:=0
def PySem.W.Fast.tw15043769981400487072:=0
def PySem.W.Fast.tw471107030563590159:=0
def PySem.W.Fast.tw6955760975934960942:=0
def PySem.W.Fast.tw889410002579635770:=0
def PySem.W.Fast.tw11746521186898887508:=0
def PySem.W.Fast.tw16305645064889640555:=0
def PySem.W.Fast.tw11843593297190161168:=0
def PySem.W.Fast.tw3188599332176873955:=0
def PySem.W.Fast.tw12850883285679732076:=0
def PySem.W.Fast.tw3686548332201863047:=0
def PySem.W.Fast.tw14736261687900561752:=0
def PySem.W.Fast.tw3710931012682591303:=0
def PySem.W.Fast.tw6773036210079874835:=0
def PySem.W.Fast.tw13923235147522064644:=0
def PySem.W.Fast.tw3259345103284972174:=0
def PySem.W.Fast.tw2904487260105847398:=0
def PySem.W.Fast.tw3215650703719225594:=0
def PySem.W.Fast.tw15294725983263700802:=0
def PySem.W.Fast.tw14514060495538052605:=0
def PySem.W.Fast.tw7085024795248230814:=0
def PySem.W.Fast.tw1353895597069583687:=0
def PySem.W.Fast.tw1791625509372836622:=0
def PySem.W.Fast.tw6664470590197187598:=0
def PySem.W.Fast.tw3759587037084591935:=0
def PySem.W.Fast.tw6865746112817220645:=0
def PySem.W.Fast.tw14154782702896781383:=0
def PySem.W.Fast.tw18266912243988690540:=0
def PySem.W.Fast.tw16145882930811138882:=0
def PySem.W.Fast.tw4657509574045687079:=0
def PySem.W.Fast.tw15033795087551396134:=0
def PySem.W.Fast.tw2574627559408914434:=0
def PySem.W.Fast.tw17938394254283556179:=0
def PySem.W.Fast.tw17500725532290041953:=0
def PySem.W.Fast.tw15631206155099345436:=0
def PySem.W.Fast.tw17483228432089341274:=0
def PySem.W.Fast.tw16683919475206624050:=0
def PySem.W.Fast.tw12399022917501131148:=0
def PySem.W.Fast.tw14694269511994837762:=0
def PySem.W.Fast.tw11220820501378890609:=0
def PySem.W.Fast.tw7577980597347373163:=0
def PySem.W.Fast.tw5334180738028043887:=0
def PySem.W.Fast.tw3404922298487024246:=0
def PySem.W.Fast.tw13016908781823439938:=0
def PySem.W.Fast.tw16495746308802859516:=0
def PySem.W.Fast.tw14531458560412837265:=0
def PySem.W.Fast.tw11767925497105818509:=0
def PySem.W.Fast.tw9190062782460889807:=0
def PySem.W.Fast.tw12579884603405355504:=0
def PySem.W.Fast.tw16301687434923464582:=0
def PySem.W.Fast.tw9576001279753323041:=0
def PySem.W.Fast.tw17192827835496436812:=0
def PySem.W.Fast.tw3371271146505446066:=0
def PySem.W.Fast.tw4862514770568907719:=0
def PySem.W.Fast.tw13544366225403660655:=0
def PySem.W.Fast.tw17200675586497141283:=0
def PySem.W.Fast.tw973540571463176310:=0
def PySem.W.Fast.tw1400524700365204981:=0
def PySem.W.Fast.tw11977952035307399094:=0
def PySem.W.Fast.tw16364075665749481742:=0
def PySem.W.Fast.tw14829730030292168394:=0
def PySem.W.Fast.tw10021786545320398700:=0
def PySem.W.Fast.tw2641418506886904539:=0
def PySem.W.Fast.tw10739886957199803286:=0
def PySem.W.Fast.tw10878817349782354437:=0
def PySem.W.Fast.tw7043263091208995371:=0
def PySem.W.Fast.tw14032270824082475270:=0
def PySem.W.Fast.tw10108707319522403872:=0
def PySem.W.Fast.tw17163624307083137375:=0
def PySem.W.Fast.tw15703266199874970757:=0
def PySem.W.Fast.tw9054827365183585822:=0
def PySem.W.Fast.tw2988978080361125083:=0
def PySem.W.Fast.tw17602880936504633834:=0
def PySem.W.Fast.tw8915371529662816441:=0
def PySem.W.Fast.tw12656453867667313442:=0
def PySem.W.Fast.tw6078358670344695173:=0
def PySem.W.Fast.tw11636121929271920035:=0
def PySem.W.Fast.tw8513784871011493167:=0
def PySem.W.Fast.tw7719862009945733045:=0
def PySem.W.Fast.tw14292161510669905001:=0
def PySem.W.Fast.tw7952015949338611823:=0
def PySem.W.Fast.tw12984490115285102464:=0
def PySem.W.Fast.tw13166688295314059256:=0
def PySem.W.Fast.tw13287001993385685718:=0
def PySem.W.Fast.tw15285566066946237765:=0
def PySem.W.Fast.tw14255071116158847495:=0
def PySem.W.Fast.tw4580212974656963815:=0
def PySem.W.Fast.tw13519594807915118536:=0
def PySem.W.Fast.tw9920253328091783031:=0
def PySem.W.Fast.tw15133588569371761115:=0
def PySem.W.Fast.tw15439526305673119391:=0
def PySem.W.Fast.tw7591011094830171165:=0
def PySem.W.Fast.tw7662059506078364719:=0
def PySem.W.Fast.tw13771502836827823681:=0
def PySem.W.Fast.tw9346760713721103647:=0
def PySem.W.Fast.tw12115890922807829505:=0
def PySem.W.Fast.tw11552373876671648880:=0
def PySem.W.Fast.tw2035712754189032150:=0
def PySem.W.Fast.tw9915048200453175615:=0
def PySem.W.Fast.tw13301041295092672796:=0
def PySem.W.Fast.tw16667263844840261947:=0
def PySem.W.Fast.tw11990663741013743838:=0
def PySem.W.Fast.tw5184679321313590913:=0
def PySem.W.Fast.tw17900655441092725989:=0
def PySem.W.Fast.tw11412113771758340573:=0
def PySem.W.Fast.tw14028262863683527167:=0
def PySem.W.Fast.tw4432824080201353177:=0
def PySem.W.Fast.tw10239883130183455062:=0
def PySem.W.Fast.tw13225766106599620515:=0
def PySem.W.Fast.tw10860273699083214949:=0
def PySem.W.Fast.tw17510816774323903687:=0
def PySem.W.Fast.tw12437502975291514574:=0
def PySem.W.Fast.tw9118472638308538542:=0
def PySem.W.Fast.tw16285860361682562495:=0
def PySem.W.Fast.tw15355662105558380052:=0
def PySem.W.Fast.tw260116775893228616:=0
def PySem.W.Fast.tw17808978798925369662:=0
def PySem.W.Fast.tw16794755685919600904:=0
def PySem.W.Fast.tw1193065993701694264:=0
def PySem.W.Fast.tw8511414491215014983:=0
def PySem.W.Fast.tw14640916487463111312:=0
def PySem.W.Fast.tw67440402019157090:=0
def PySem.W.Fast.tw10124591698768292881:=0
def PySem.W.Fast.tw5363830662675869016:=0
def PySem.W.Fast.tw15629600753317776028:=0
def PySem.W.Fast.tw10541512461770370545:=0
def PySem.W.Fast.tw774152431385451485:=0
def PySem.W.Fast.tw8833921515968988489:=0
def PySem.W.Fast.tw8123660210091643036:=0
def PySem.W.Fast.tw1336983507871974910:=0
def PySem.W.Fast.tw15215570710724614442:=0
def PySem.W.Fast.tw1398471941399875342:=0
def PySem.W.Fast.tw12791986429272337208:=0
def PySem.W.Fast.tw17599472512279041887:=0
def PySem.W.Fast.tw5884810836202662858:=0
def PySem.W.Fast.tw8882588582367254022:=0
def PySem.W.Fast.tw14049731544729528738:=0
def PySem.W.Fast.tw613691393495348855:=0
def PySem.W.Fast.tw15333525478974748356:=0
def PySem.W.Fast.tw703644880943539908:=0
def PySem.W.Fast.tw7170797938399472010:=0
def PySem.W.Fast.tw13332546974874516534:=0
def PySem.W.Fast.tw12275487016357129655:=0
def PySem.W.Fast.tw16025259436955769169:=0
def PySem.W.Fast.tw13221544969487874420:=0
def PySem.W.Fast.tw10343517820795281929:=0
open PySem PySem.W PyProof.Rows
set_option maxRecDepth 100000 in
set_option maxHeartbeats 0 in
theorem PySem.Challenge.cw_figuretell_k54_no_statement_holds : PySem.Challenge.rw_figuretell_k54_no_statement.Holds := by
 w_on; o_law; k_head; (case hw => w_witness2)
 k_fill
 refine My.walk (l:=PySem.Challenge.rw_figuretell_k54_no_statement) rfl rfl (fun w h Y => PySem.W.kIn_of Y) ?F
 case F =>
  intro w mg fa h KX G hmg
  refine' My.all_mk KX G hmg ?lB ?ma ?lI ?iw ?sH ?tP ?sP ?oo ?ka ?kB ?ki ?gE ?C4 ?Du ?Dc ?AM ?mO ?nH ?mT ?jJ ?mR ?nL ?mW ?jM ?mQ ?nK ?mV ?jL ?qa ?qG ?qh ?lS ?qb ?qH ?qj ?lU ?lA ?lZ ?lH ?iv ?iM ?jw ?iW ?dA ?qc ?qI ?qk ?lV ?lu ?lY ?lG ?iu ?lj ?lX ?lF ?ir ?jZ ?kA ?kh ?gD ?iK ?ju ?iU ?fM ?eE ?eW ?eJ ?cV ?eD ?eV ?eI ?cU ?iL ?jv ?iV ?fN ?mM ?nG ?mS ?jI ?mP ?nJ ?mU ?jK ?iJ ?jr ?iT ?fK ?En ?Gw ?F1 ?Gs ?HB ?BP ?BQ ?Ej ?mq ?HA ?y_bool ?HF ?yp ?HE ?HC ?HD ?HG ?Hz ?mn ?oi ?jG ?oh ?ml ?kD ?kE ?lJ ?qm ?nj ?wI ?sV ?sU ?jb ?lK ?lM ?sR ?qo ?wH ?sS ?nk ?qp ?cQ ?eU ?eG ?cc ?gN ?gX ?gR ?eh ?gM ?gW ?gQ ?ee ?fq ?fO ?fw ?fH ?iI ?jq ?iR ?fJ ?lh ?lW ?lD ?iq ?jX ?kx ?ke ?gB ?jW ?ku ?kb ?gA ?gO ?gY ?gS ?eu ?jY ?kz ?kg ?gC ?iH ?jo ?iQ ?fI ?fu ?fP ?fA ?dn ?fv ?fQ ?fB ?dq ?eC ?eS ?eF ?cT ?tp_COMPARING ?tp_JOINING ?tp_CHOOSING ?tp_WORDS ?q_NoText ?xga ?xgt ?xcl ?xgg ?xtk ?xob ?xbe ?tw0 ?tw2 ?tw3 ?fe1 ?fe2 ?fe3 ?fe4 ?kve ?ob_NoFigures ?ty_NoFigures ?su_NoFigures ?ne_NoFigures ?ob_NoMachine ?ty_NoMachine ?su_NoMachine ?ne_NoMachine ?ob_NoName ?ty_NoName ?su_NoName ?ne_NoName ?ob_NoPower ?ty_NoPower ?su_NoPower ?ne_NoPower ?ob_NoRow ?ty_NoRow ?su_NoRow ?ne_NoRow ?ob_NoSome ?ty_NoSome ?su_NoSome ?ne_NoSome ?ob_TooGreat ?ty_TooGreat ?su_TooGreat ?ne_TooGreat ?ob_TooWide ?ty_TooWide ?su_TooWide ?ne_TooWide ?d_pg ?d_hd ?d_po ?d_sa ?d_n1 ?d_n2 ?d_mk ?d_fi ?d_kp ?gU ?ji ?kr ?cG ?gb ?fZ ?eP ?dP ?eR ?gT ?jj ?gc ?jh
  (case lB => k_is); (case ma => k_is); (case lI => k_is); (case iw => k_is)
  (case sH => k_is); (case tP => k_is); (case sP => k_is); (case oo => k_is)
  (case ka => k_is); (case kB => k_is); (case ki => k_is); (case gE => k_is)
  (case C4 => k_is); (case Du => k_is); (case Dc => k_is); (case AM => k_is)
  (case mO => k_is); (case nH => k_is); (case mT => k_is); (case jJ => k_is)
  (case mR => k_is); (case nL => k_is); (case mW => k_is); (case jM => k_is)
  (case mQ => k_is); (case nK => k_is); (case mV => k_is); (case jL => k_is)
  (case qa => k_is); (case qG => k_is); (case qh => k_is); (case lS => k_is)
  (case qb => k_is); (case qH => k_is); (case qj => k_is); (case lU => k_is)
  (case lA => k_is); (case lZ => k_is); (case lH => k_is); (case iv => k_is)
  (case iM => k_is); (case jw => k_is); (case iW => k_is); (case dA => k_is)
  (case qc => k_is); (case qI => k_is); (case qk => k_is); (case lV => k_is)
  (case lu => k_is); (case lY => k_is); (case lG => k_is); (case iu => k_is)
  (case lj => k_is); (case lX => k_is); (case lF => k_is); (case ir => k_is)
  (case jZ => k_is); (case kA => k_is); (case kh => k_is); (case gD => k_is)
  (case iK => k_is); (case ju => k_is); (case iU => k_is); (case fM => k_is)
  (case eE => k_is); (case eW => k_is); (case eJ => k_is); (case cV => k_is)
  (case eD => k_is); (case eV => k_is); (case eI => k_is); (case cU => k_is)
  (case iL => k_is); (case jv => k_is); (case iV => k_is); (case fN => k_is)
  (case mM => k_is); (case nG => k_is); (case mS => k_is); (case jI => k_is)
  (case mP => k_is); (case nJ => k_is); (case mU => k_is); (case jK => k_is)
  (case iJ => k_is); (case jr => k_is); (case iT => k_is); (case fK => k_is)
  (case En => k_is); (case Gw => k_is); (case F1 => k_is); (case Gs => k_is)
  (case HB => k_is); (case BP => k_is); (case BQ => k_is); (case Ej => k_is); (case mq => k_is); (case HA => k_is); (case y_bool => k_is); (case HF => k_is); (case yp => k_is); (case HE => k_is); (case HC => k_is); (case HD => k_is); (case HG => k_is); (case Hz => k_is); (case mn => k_is); (case oi => k_is); (case jG => k_is); (case oh => k_is); (case ml => k_is); (case kD => k_is); (case kE => k_is)
  (case lJ => k_is)
  (case qm => k_is)
  (case nj => k_is)
  (case wI => k_is)
  (case sV => k_is)
  (case sU => k_is)
  (case jb => k_is)
  (case lK => k_is)
  (case lM => k_is)
  (case sR => k_is)
  (case qo => k_is)
  (case wH => k_is)
  (case sS => k_is)
  (case nk => k_is)
  (case qp => k_is)
  (case cQ => k_is); (case eU => k_is); (case eG => k_is); (case cc => k_is)
  (case gN => k_is); (case gX => k_is); (case gR => k_is); (case eh => k_is)
  (case gM => k_is); (case gW => k_is); (case gQ => k_is); (case ee => k_is)
  (case fq => k_is); (case fO => k_is); (case fw => k_is); (case fH => k_is)
  (case iI => k_is); (case jq => k_is); (case iR => k_is); (case fJ => k_is)
  (case lh => k_is); (case lW => k_is); (case lD => k_is); (case iq => k_is)
  (case jX => k_is); (case kx => k_is); (case ke => k_is); (case gB => k_is)
  (case jW => k_is); (case ku => k_is); (case kb => k_is); (case gA => k_is)
  (case gO => k_is); (case gY => k_is); (case gS => k_is); (case eu => k_is)
  (case jY => k_is); (case kz => k_is); (case kg => k_is); (case gC => k_is)
  (case iH => k_is); (case jo => k_is); (case iQ => k_is); (case fI => k_is)
  (case fu => k_is); (case fP => k_is); (case fA => k_is); (case dn => k_is)
  (case fv => k_is); (case fQ => k_is); (case fB => k_is); (case dq => k_is)
  (case eC => k_is); (case eS => k_is); (case eF => k_is); (case cT => k_is)
  (case tp_COMPARING => k_is)
  (case tp_JOINING => k_is)
  (case tp_CHOOSING => k_is)
  (case tp_WORDS => k_is)
  (case q_NoText => first | k_is | k_exc | decide | kernel_rfl)
  (case xga => first | k_is | k_exc | decide | kernel_rfl)
  (case xgt => first | k_is | k_exc | decide | kernel_rfl)
  (case xcl => first | k_is | k_exc | decide | kernel_rfl)
  (case xgg => first | k_is | k_exc | decide | kernel_rfl)
  (case xtk => first | k_is | k_exc | decide | kernel_rfl)
  (case xob => first | k_is | k_exc | decide | kernel_rfl)
  (case xbe => first | k_is | k_exc | decide | kernel_rfl)
  (case tw0 => first | k_is | k_exc | decide | kernel_rfl)
  (case tw2 => first | k_is | k_exc | decide | kernel_rfl)
  (case tw3 => first | k_is | k_exc | decide | kernel_rfl)
  (case fe1 => first | k_is | k_exc | decide | kernel_rfl)
  (case fe2 => first | k_is | k_exc | decide | kernel_rfl)
  (case fe3 => first | k_is | k_exc | decide | kernel_rfl)
  (case fe4 => first | k_is | k_exc | decide | kernel_rfl)
  (case kve => first | k_is | k_exc | decide | kernel_rfl)
  (case ob_NoFigures => first | k_is | k_exc | decide | kernel_rfl)
  (case ty_NoFigures => first | k_is | k_exc | decide | kernel_rfl)
  (case su_NoFigures => first | k_is | k_exc | decide | kernel_rfl)
  (case ne_NoFigures => first | k_is | k_exc | decide | kernel_rfl)
  (case ob_NoMachine => first | k_is | k_exc | decide | kernel_rfl)
  (case ty_NoMachine => first | k_is | k_exc | decide | kernel_rfl)
  (case su_NoMachine => first | k_is | k_exc | decide | kernel_rfl)
  (case ne_NoMachine => first | k_is | k_exc | decide | kernel_rfl)
  (case ob_NoName => first | k_is | k_exc | decide | kernel_rfl)
  (case ty_NoName => first | k_is | k_exc | decide | kernel_rfl)
  (case su_NoName => first | k_is | k_exc | decide | kernel_rfl)
  (case ne_NoName => first | k_is | k_exc | decide | kernel_rfl)
  (case ob_NoPower => first | k_is | k_exc | decide | kernel_rfl)
  (case ty_NoPower => first | k_is | k_exc | decide | kernel_rfl)
  (case su_NoPower => first | k_is | k_exc | decide | kernel_rfl)
  (case ne_NoPower => first | k_is | k_exc | decide | kernel_rfl)
  (case ob_NoRow => first | k_is | k_exc | decide | kernel_rfl)
  (case ty_NoRow => first | k_is | k_exc | decide | kernel_rfl)
  (case su_NoRow => first | k_is | k_exc | decide | kernel_rfl)
  (case ne_NoRow => first | k_is | k_exc | decide | kernel_rfl)
  (case ob_NoSome => first | k_is | k_exc | decide | kernel_rfl)
  (case ty_NoSome => first | k_is | k_exc | decide | kernel_rfl)
  (case su_NoSome => first | k_is | k_exc | decide | kernel_rfl)
  (case ne_NoSome => first | k_is | k_exc | decide | kernel_rfl)
  (case ob_TooGreat => first | k_is | k_exc | decide | kernel_rfl)
  (case ty_TooGreat => first | k_is | k_exc | decide | kernel_rfl)
  (case su_TooGreat => first | k_is | k_exc | decide | kernel_rfl)
  (case ne_TooGreat => first | k_is | k_exc | decide | kernel_rfl)
  (case ob_TooWide => first | k_is | k_exc | decide | kernel_rfl)
  (case ty_TooWide => first | k_is | k_exc | decide | kernel_rfl)
  (case su_TooWide => first | k_is | k_exc | decide | kernel_rfl)
  (case ne_TooWide => first | k_is | k_exc | decide | kernel_rfl)
  (case d_pg => first | k_is | k_exc | decide | kernel_rfl)
  (case d_hd => first | k_is | k_exc | decide | kernel_rfl)
  (case d_po => first | k_is | k_exc | decide | kernel_rfl)
  (case d_sa => first | k_is | k_exc | decide | kernel_rfl)
  (case d_n1 => first | k_is | k_exc | decide | kernel_rfl)
  (case d_n2 => first | k_is | k_exc | decide | kernel_rfl)
  (case d_mk => first | k_is | k_exc | decide | kernel_rfl)
  (case d_fi => first | k_is | k_exc | decide | kernel_rfl)
  (case d_kp => first | k_is | k_exc | decide | kernel_rfl)
  (case gU => first | k_is | k_exc | decide | kernel_rfl)
  (case ji => first | k_is | k_exc | decide | kernel_rfl)
  (case kr => first | k_is | k_exc | decide | kernel_rfl)
  (case cG => first | k_is | k_exc | decide | kernel_rfl)
  (case gb => first | k_is | k_exc | decide | kernel_rfl)
  (case fZ => first | k_is | k_exc | decide | kernel_rfl)
  (case eP => first | k_is | k_exc | decide | kernel_rfl)
  (case dP => first | k_is | k_exc | decide | kernel_rfl)
  (case eR => first | k_is | k_exc | decide | kernel_rfl)
  (case gT => first | k_is | k_exc | decide | kernel_rfl)
  (case jj => first | k_is | k_exc | decide | kernel_rfl)
  (case gc => first | k_is | k_exc | decide | kernel_rfl)
  (case jh => first | k_is | k_exc | decide | kernel_rfl)
