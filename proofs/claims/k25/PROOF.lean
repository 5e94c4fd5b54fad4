import PyProof.Rows.All
import Wide.All
import OpenK.AllK
import Wide.FinOn
import Lean
import PyProof.EqAt
import PyProof.EqKinds
import PyProof.TupleCall
import PyProof.NeKinds
import PyProof.ExcBaseAll.ValueError
import PyProof.ExcClass3
import OpenK.KOwn
import PyProof.Rows.FStr
import KE.KTryMore
import PyProof.ExcAttrAll.ValueError
import KE.KDictList
import PyProof.CompMap
import PyProof.Draws
import PyProof.ListRange
import PyProof.ZipIter
import PyProof.EnumMake
import PyProof.CollectIter
import PyProof.SetRoads
import PyProof.Rows.SortShell
import PyProof.Rows.SortWalk
import PySem.Challenge.RW_figuretell_k25_widened
set_option Elab.async false
set_option linter.all false
set_option maxRecDepth 100000
namespace L2
open PySem PySem.Spec PyProof.Rows
abbrev Key:=Sum Int Str
def pZ:Key->Value->Bool
 | .inl k,v=>Value.isInt k v
 | .inr x,v=>Value.isStrOf x v
def FA (w:World):Key->Int
 | .inl k=>hashInt k
 | .inr x=>hashStr w x
theorem bN:∀ {k:Key} {v:Value},pZ k v=true->(∃ i t,k=Sum.inl i/\v=Value.int i t)\/(∃ x t,k=Sum.inr x/\v=Value.str x t)
 | .inl i,v,h=>by
  obtain ⟨t,e⟩:=Value.isInt_shape (k:=i) (v:=v) h
  exact .inl ⟨i,t,rfl,e⟩
 | .inr x,v,h=>by
  obtain ⟨t,e⟩:=Value.isStrOf_shape (x:=x) (v:=v) h
  exact .inr ⟨x,t,rfl,e⟩
theorem Ar (i:Int) (t:Tok):pZ (.inl i) (.int i t)=true:=by simp [pZ,Value.isInt]
theorem As (x:Str) (t:Tok):pZ (.inr x) (.str x t)=true:=by simp [pZ,Value.isStrOf]
theorem DY (a b:Int):decide ((Sum.inl a:Key)=Sum.inl b)=(a==b):=by
 by_cases e:a=b
 ·subst e; simp
 ·have h:¬ (Sum.inl a:Key)=Sum.inl b:=fun q=>e (Sum.inl.inj q)
  rw [decide_eq_false h]
  exact (beq_eq_false_iff_ne.mpr e).symm
theorem D9 (a b:Str):decide ((Sum.inr a:Key)=Sum.inr b)=decide (a=b):=by
 by_cases e:a=b
 ·subst e; simp
 ·have h:¬ (Sum.inr a:Key)=Sum.inr b:=fun q=>e (Sum.inr.inj q)
  rw [decide_eq_false h,decide_eq_false e]
theorem DZ (a:Int) (b:Str):decide ((Sum.inl a:Key)=Sum.inr b)=false:=decide_eq_false (fun q=>nomatch q)
theorem D0 (a:Str) (b:Int):decide ((Sum.inr a:Key)=Sum.inl b)=false:=decide_eq_false (fun q=>nomatch q)
def aV (prog:Program) (w:World):PySem.KeyKind prog w Key where
 is:=pZ
 hash:=FA w
 inj:=fun v a b ha hb=>by
  rcases bN ha with ⟨i,t,rfl,rfl⟩ | ⟨x,t,rfl,rfl⟩
  ·rcases bN hb with ⟨j,u,rfl,e⟩ | ⟨y,u,rfl,e⟩
   ·injection e with e1 _; rw [e1]
   ·exact nomatch e
  ·rcases bN hb with ⟨j,u,rfl,e⟩ | ⟨y,u,rfl,e⟩
   ·exact nomatch e
   ·injection e with e1 _; rw [e1]
 byValue:=fun k v h=>by
  rcases bN h with ⟨i,t,rfl,rfl⟩ | ⟨x,t,rfl,rfl⟩ <;> rfl
 pyHash:=fun hv h=>by
  rcases bN hv with ⟨i,t,rfl,rfl⟩ | ⟨x,t,rfl,rfl⟩
  ·exact wpAny_pyHash_int h
  ·exact wpAny_pyHash_str h
 eqBool:=fun hu hv h=>by
  rcases bN hu with ⟨i,t,rfl,rfl⟩ | ⟨x,t,rfl,rfl⟩
  ·rcases bN hv with ⟨j,u,rfl,rfl⟩ | ⟨y,u,rfl,rfl⟩
   ·rw [DY] at h; exact wpAny_eqBool_int h
   ·rw [DZ] at h; exact SeqAt.EqAt.int_str i t y u _ _ _ _ h
  ·rcases bN hv with ⟨j,u,rfl,rfl⟩ | ⟨y,u,rfl,rfl⟩
   ·rw [D0] at h; exact SeqAt.EqAt.str_int x t j u _ _ _ _ h
   ·rw [D9] at h; exact wpAny_eqBool_str h
 «strs» := fun k x t v h=>by
  rcases bN h with ⟨i,u,rfl,e⟩ | ⟨y,u,rfl,e⟩
  ·exact nomatch e
  ·injection e with e1 _
   subst e1
   cases v <;> rfl
theorem xu (prog:Program) (w:World) (i:Int) (t:Tok):(aV prog w).is (.inl i) (.int i t)=true:=Ar i t
theorem xv (prog:Program) (w:World) (x:Str) (t:Tok):(aV prog w).is (.inr x) (.str x t)=true:=As x t
end L2
namespace L2
open PySem PySem.Spec PyProof.Rows
inductive V where
 | non | bl (b:Bool) | int (i:Int) | str (x:Str) | byt (b:Array UInt8) | flt (b:UInt64) | ref (a:Addr) | ty (n:String)
 deriving DecidableEq
def RelV:V->Value->Prop
 | .non,u=>u=Value.none
 | .bl b,u=>u=Value.bool b
 | .int i,u=>∃ t,u=Value.int i t
 | .str x,u=>∃ t,u=Value.str x t
 | .byt b,u=>∃ t,u=Value.bytes b t
 | .flt b,u=>∃ t,u=Value.float b t
 | .ref a,u=>u=Value.ref a
 | .ty n,u=>u=Value.type n
abbrev Vals:List V->List Value->Prop:=Paired RelV
theorem Vals.length {xs:List V} {us:List Value} (r:Vals xs us):xs.length=us.length:=Paired.length r
theorem Vals.get:∀ {xs:List V} {us:List Value} {i:Nat} {x:V},Vals xs us->xs[i]?=some x->∃ u,us[i]?=some u/\RelV x u
 | _,_,_,_,.nil,e=>by simp at e
 | _,_,0,_,.cons r _,e=>by simp at e; subst e; exact ⟨_,rfl,r⟩
 | _,_,i+1,x,.cons _ t,e=>by
  obtain ⟨u,h1,h2⟩:=Vals.get (i:=i) (x:=x) t (by simpa using e)
  exact ⟨u,by simpa using h1,h2⟩
theorem Vals.set {x:V} {u:Value} (r:RelV x u):∀ {xs:List V} {us:List Value} (i:Nat),Vals xs us->Vals (xs.set i x) (us.set i u)
 | _,_,_,.nil=>.nil
 | _,_,0,.cons _ t=>.cons r t
 | _,_,i+1,.cons q t=>.cons q (Vals.set r i t)
theorem Vals.append:∀ {xs ys:List V} {us ws:List Value},Vals xs us->Vals ys ws->Vals (xs++ys) (us++ws)
 | _,_,_,_,.nil,s=>s
 | _,_,_,_,.cons r t,s=>.cons r (Vals.append t s)
def RelO:Option V->Option Value->Prop
 | some v,some u=>RelV v u
 | none,none=>True
 | _,_=>False
def KV {κ:Type}:List (κ×V)->List (κ×Value)->Prop:=Paired fun (p:κ×V) (q:κ×Value)=>p.1=q.1/\RelV p.2 q.2
def kV:Key->V
 | .inl i=>.int i
 | .inr x=>.str x
inductive HO where
  | lst (xs:List V)
  | tup (xs:List V)
  | dK (kvs:List (Key×V)) | dT (kvs:List (List Key×V))
  | set (S:Int->Bool) (n:Nat)
  | ins (C dx:Addr) (fs:List (Str×V))
  | own (x:Addr)
  | xd (fs:List (Str×V))
  | met (f x:Addr)
  | rng (lo hi:Int)
  | frz (o:Obj) (u:HO)
  | tbl (ps:Array Value)
  | ext (φ:Heap->Prop)
abbrev Hp:=Addr->Option HO
def upd (H:Hp) (a:Addr) (o:HO):Hp:=fun b=>if b=a then some o else H b
theorem ae {H:Hp} {a:Addr} {o:HO}:upd H a o a=some o:=by unfold upd; rw [if_pos rfl]
theorem ah {H:Hp} {a b:Addr} {o:HO} (h:b≠a):upd H a o b=H b:=by unfold upd; rw [if_neg h]
theorem zY {H:Hp} {a:Addr} {o u:HO}:upd (upd H a o) a u=upd H a u:=by
 funext b; unfold upd; split <;> rfl
theorem aE {H:Hp} {a b:Addr} {o u:HO} (h:H a=some o) (h':H b=some u) (d:o≠u):a≠b:=by
 intro e; subst e; rw [h] at h'; exact d (Option.some.inj h')
theorem au {H:Hp} {a b:Addr} {o:HO} (h:H a=some o) (h':H b=none):a≠b:=by
 intro e; subst e; rw [h] at h'; cases h'
section
variable (P:Program) (w:World)
def ObjOk (H:Hp) (h:Heap) (a:Addr):HO->Prop
 | .lst xs=>xs.length<=sizeLine/\∃ (its:List Value) (n:Nat),Vals xs its/\h.get? a=some { cls:=.type "list",data:=.seq its.toArray n }
 | .tup xs=>xs.length<=sizeLine/\∃ its:List Value,Vals xs its/\IsTup h a its.toArray
 | .dK kvs=>kvs.length<=sizeLine/\(a==sysModules)=false/\∃ vs,KV kvs vs/\h.DictOf (aV P w) a vs
 | .dT kvs=>kvs.length<=sizeLine/\(a==sysModules)=false/\∃ xs:List (List Key×Addr×Value),
   Paired (fun (p:List Key×V) (q:List Key×Addr×Value)=>p.1=q.1/\H q.2.1=some (.tup (p.1.map kV))/\RelV p.2 q.2.2) kvs xs /\
   ∃ o es ep,h.get? a=some o/\o.ExactDict/\o.data=.dict es ep/\es.toList=xs.map (entryOfKey (tupleKind (aV P w)))/\(xs.map (·.1)).Nodup
 | .set S n=>h.SetOf (intKind P w) a S n
 | .ins C dx fs=>H dx=some (.own a)/\fs.length<=1000/\dx≠a/\h.get? a=some (PySem.W.instObj C dx) /\
   ∃ mA,h.Ns1 dx mA/\(∀ f,RelO (fs.lookup f) (mA f))/\PySem.Within mA (fs.map (·.1))
 | .own _=>∃ o,h.get? a=some o
 | .xd fs=>∃ mA,h.Ns1 a mA/\∀ f,RelO (fs.lookup f) (mA f)
 | .rng lo hi=>∃ t u v,h.get? a=some { cls:=.type "range",data:=.fields #[.int lo t,.int hi u,.int 1 v] }
 | .frz o u=>h.get? a=some o/\ObjOk H h a u
 | .tbl ps=>h.get? a=some { cls:=.none,data:=.fields ps }
 | .met f x=>h.get? a=some (PySem.W.methodObj (.ref f) (.ref x))
 | .ext φ=>φ h/\(∃ o,h.get? a=some o)/\∀ h1 h2:Heap,φ h1->(∀ o,h1.get? a=some o->h2.get? a=some o)->φ h2
def HOk (H:Hp) (h:Heap):Prop := ∀ a o,H a=some o->ObjOk P w H h a o
end
section
variable {P:Program} {w:World} {H H':Hp} {h h':Heap} {a:Addr} {o:HO}
theorem ObjOk.lt (x:ObjOk P w H h a o):a<h.objs.size:=by
 cases o with
 | lst xs=>obtain ⟨_,_,_,_,e⟩:=x; exact Heap.lt_size e
 | tup xs=>obtain ⟨_,_,_,p⟩:=x; exact p.lt
 | dK kvs=>obtain ⟨_,_,_,_,o,_,_,e,_⟩:=x; exact Heap.lt_size e
 | dT kvs=>obtain ⟨_,_,_,_,o,_,_,e,_⟩:=x; exact Heap.lt_size e
 | set S n=>obtain ⟨o,_,_,_,e,_⟩:=x; exact Heap.lt_size e
 | ins C dx fs=>obtain ⟨_,_,_,e,_⟩:=x; exact Heap.lt_size e
 | own y=>obtain ⟨_,e⟩:=x; exact Heap.lt_size e
 | xd fs=>obtain ⟨_,⟨_,_,_,e,_⟩,_⟩:=x; exact Heap.lt_size e
 | rng lo hi=>obtain ⟨_,_,_,e⟩:=x; exact Heap.lt_size e
 | frz ob u=>obtain ⟨e,_⟩:=x; exact Heap.lt_size e
 | tbl ps=>exact Heap.lt_size (show h.get? a=some _ from x)
 | met f y=>exact Heap.lt_size (show h.get? a=some _ from x)
 | ext φ=>obtain ⟨_,⟨_,e⟩,_⟩:=x; exact Heap.lt_size e
theorem Paired.mapP {α β:Type} {F G:α->β->Prop}:∀ {l₁:List α} {l₂:List β},Paired F l₁ l₂->(∀ a b,F a b->G a b)->Paired G l₁ l₂
 | _,_,.nil,_=>.nil
 | _,_,.cons r t,f=>.cons (f _ _ r) (Paired.mapP t f)
theorem ObjOk.stay (x:ObjOk P w H h a o) (k:∀ b u,(b=a\/H b=some (.own a))->h.get? b=some u->h'.get? b=some u)
  (ho:∀ b,H b=some (.own a)->H' b=some (.own a)) (ht:∀ b xs,H b=some (.tup xs)->H' b=some (.tup xs)):ObjOk P w H' h' a o:=by
 induction o with
 | lst xs=>obtain ⟨z,its,n,r,e⟩:=x; exact ⟨z,its,n,r,k _ _ (.inl rfl) e⟩
 | tup xs=>obtain ⟨z,its,r,ob,e,c⟩:=x; exact ⟨z,its,r,ob,k _ _ (.inl rfl) e,c⟩
 | dK kvs=>obtain ⟨z,y,vs,r,ob,es,ep,e,c⟩:=x; exact ⟨z,y,vs,r,ob,es,ep,k _ _ (.inl rfl) e,c⟩
 | dT kvs =>
  obtain ⟨z,y,xs,r,ob,es,ep,e,c⟩:=x
  exact ⟨z,y,xs,Paired.mapP r fun p q z=>⟨z.1,ht _ _ z.2.1,z.2.2⟩,ob,es,ep,k _ _ (.inl rfl) e,c⟩
 | set S n=>obtain ⟨ob,es,ep,t,e,c⟩:=x; exact ⟨ob,es,ep,t,k _ _ (.inl rfl) e,c⟩
 | ins C dx fs =>
  obtain ⟨d,z,ne,e,mA,⟨od,es,ep,e2,c⟩,r⟩:=x
  exact ⟨ho _ d,z,ne,k _ _ (.inl rfl) e,mA,⟨od,es,ep,k _ _ (.inr d) e2,c⟩,r⟩
 | own y=>obtain ⟨ob,e⟩:=x; exact ⟨ob,k _ _ (.inl rfl) e⟩
 | xd fs=>obtain ⟨mA,⟨od,es,ep,e,c⟩,r⟩:=x; exact ⟨mA,⟨od,es,ep,k _ _ (.inl rfl) e,c⟩,r⟩
 | rng lo hi=>obtain ⟨t,u,v,e⟩:=x; exact ⟨t,u,v,k _ _ (.inl rfl) e⟩
 | frz ob u ih=>obtain ⟨e,q⟩:=x; exact ⟨k _ _ (.inl rfl) e,ih q⟩
 | tbl ps =>
  have e:h.get? a=some { cls:=.none,data:=.fields ps }:=x
  show h'.get? a=some { cls:=.none,data:=.fields ps }
  exact k a _ (.inl rfl) e
 | met f y =>
  have e:h.get? a=some (PySem.W.methodObj (.ref f) (.ref y)):=x
  show h'.get? a=some (PySem.W.methodObj (.ref f) (.ref y))
  exact k a _ (.inl rfl) e
 | ext φ=>obtain ⟨p,⟨o,e⟩,st⟩:=x; exact ⟨st _ _ p fun o q=>k _ _ (.inl rfl) q,⟨o,k _ _ (.inl rfl) e⟩,st⟩
theorem HOk.lt (x:HOk P w H h) (e:H a=some o):a<h.objs.size:=(x a o e).lt
theorem HOk.fresh (x:HOk P w H h) (e:h.objs.size<=a):H a=none:=by
 cases q:H a with
 | none=>rfl
 | some u=>exact absurd (Nat.lt_of_lt_of_le (x.lt q) e) (Nat.lt_irrefl _)
theorem HOk.kept (x:HOk P w H h) (k:∀ b u,h.get? b=some u->h'.get? b=some u):HOk P w H h' := fun a o e =>
 (x a o e).stay (fun b u _ q=>k b u q) (fun _ q=>q) fun _ _ q=>q
theorem HOk.laid (x:HOk P w H h) (k:∀ b u,h.get? b=some u->h'.get? b=some u) (hp:h.objs.size<=a) (new:ObjOk P w (upd H a o) h' a o):HOk P w (upd H a o) h' := fun b u e=>by
 have hn:=x.fresh hp
 by_cases hb:b=a
 ·subst hb; rw [ae] at e; cases e; exact new
 ·rw [ah hb] at e
  exact (x b u e).stay (fun c v _ q=>k c v q) (fun c q=>by rw [ah (au q hn)]; exact q) fun c xs q=>by rw [ah (au q hn)]; exact q
end
def Rd (H:Hp) (a:Addr) (u:HO):Prop:=H a=some u\/∃ o,H a=some (.frz o u)
theorem Rd.ok {P:Program} {w:World} {H:Hp} {h:Heap} {a:Addr} {u:HO} (r:Rd H a u) (x:HOk P w H h):ObjOk P w H h a u:=by
 rcases r with r | ⟨o,r⟩
 ·exact x a u r
 ·obtain ⟨_,q⟩:=x a _ r
  exact q
def Mut:Option HO->Prop
 | some (.lst _)=>True
 | some (.dK _)=>True
 | some (.dT _)=>True
 | some (.set _ _)=>True
 | some (.ins _ _ _)=>True
 | some (.ext _)=>True
 | _=>False
section
variable {P:Program} {w:World} {H:Hp} {h h':Heap} {x e:Addr} {o':HO}
theorem HOk.write (ok:HOk P w H h) (mu:Mut (H x)) (he:e=x\/H e=some (.own x)) (k:∀ b u,b≠e->h.get? b=some u->h'.get? b=some u) (heo:∃ u,h'.get? e=some u)
  (new:ObjOk P w (upd H x o') h' x o'):HOk P w (upd H x o') h' := fun b u q=>by
 have nown:∀ c y,H c=some (.own y)->c≠x:=fun c y r z=>by subst z; rw [r] at mu; exact mu
 have ntup:∀ c xs,H c=some (.tup xs)->c≠x:=fun c xs r z=>by subst z; rw [r] at mu; exact mu
 by_cases hb:b=x
 ·subst hb; rw [ae] at q; cases q; exact new
 ·rw [ah hb] at q
  by_cases hbe:b=e
  ·have q':H b=some (.own x):=by
    rcases he with z | z
    ·exact absurd (hbe.trans z) hb
    ·rw [hbe]; exact z
   rw [q] at q'; cases q'
   obtain ⟨v,hv⟩:=heo
   exact ⟨v,by rw [hbe]; exact hv⟩
  ·refine (ok b u q).stay (fun c v hc r=>k c v ?_ r) (fun c r=>by rw [ah (nown c b r)]; exact r) fun c xs r=>by rw [ah (ntup c xs r)]; exact r
   rcases hc with rfl | hc
   ·exact hbe
   ·rintro rfl
    rcases he with z | z
    ·exact nown c b hc z
    ·rw [hc] at z; cases z; exact hb rfl
end
structure Un (fs ex:List Addr) (H H':Hp) (h h':Heap):Prop where
 keep:∀ b o,h.get? b=some o->H b=none->b∉fs->b∉ex->h'.get? b=some o
 slot:∀ b o,h.get? b=some o->H b=none->b∈fs->b∉ex->∃ sl,h'.get? b=some { o with slots:=sl }
 free:∀ b o,h.get? b=some o->H b=none->b∉ex->H' b=none
 there:∀ b o,h.get? b=some o->b∉ex->∃ o',h'.get? b=some o'
 tups:∀ b xs,H b=some (.tup xs)->H' b=some (.tup xs)
 frzs:∀ b o u,H b=some (.frz o u)->H' b=some (.frz o u)
 tbls:∀ b ps,H b=some (.tbl ps)->∃ more,H' b=some (.tbl (ps++more))
section
variable {fs fs' ex ex':List Addr} {H H1 H2:Hp} {h h1 h2 h':Heap} {a x e:Addr} {o:HO}
theorem Un.any (u:Un fs ex H H1 h h1) {b:Addr} {ob:Obj} (q:h.get? b=some ob) (n:H b=none) (hx:b∉ex):∃ sl,h1.get? b=some { ob with slots:=sl }:=by
 by_cases hb:b∈fs
 ·exact u.slot b ob q n hb hx
 ·exact ⟨ob.slots,u.keep b ob q n hb hx⟩
theorem Un.kept (k:∀ b u,h.get? b=some u->h'.get? b=some u):Un fs ex H H h h' :=
 ⟨fun b ob q _ _ _=>k b ob q,fun b ob q _ _ _=>⟨ob.slots,k b ob q⟩,fun _ _ _ n _=>n,fun b ob q _=>⟨ob,k b ob q⟩,fun _ _ q=>q,fun _ _ _ q=>q,fun _ ps q=>⟨#[],by rw [q]; simp⟩⟩
theorem Un.refl:Un fs ex H H h h:=Un.kept fun _ _ q=>q
theorem Un.laid (k:∀ b u,h.get? b=some u->h'.get? b=some u) (hp:h.objs.size<=a) (hn:H a=none):Un fs ex H (upd H a o) h h' where
 keep:=fun b u q _ _ _=>k b u q
 slot:=fun b u q _ _ _=>⟨u.slots,k b u q⟩
 free:=fun b u q n _=>by rw [ah (Nat.ne_of_lt (Nat.lt_of_lt_of_le (Heap.lt_size q) hp))]; exact n
 there:=fun b u q _=>⟨u,k b u q⟩
 tups:=fun b xs q=>by rw [ah (au q hn)]; exact q
 frzs:=fun b u xs q=>by rw [ah (au q hn)]; exact q
 tbls:=fun b ps q=>⟨#[],by rw [ah (au q hn),q]; simp⟩
theorem Un.write (mu:Mut (H x)) (he:e=x\/H e=some (.own x)) (k:∀ b u,b≠e->h.get? b=some u->h'.get? b=some u) (heo:∃ u,h'.get? e=some u):Un fs ex H (upd H x o) h h' := by
 have hx:∀ b,H b=none->b≠x:=fun b n z=>by subst z; rw [n] at mu; exact mu
 have hb:∀ b,H b=none->b≠e:=fun b n z=>by
  subst z
  rcases he with r | r
  ·exact hx b n r
  ·rw [n] at r; cases r
 have hm:∀ b u,H b=some u->¬ Mut (some u)->b≠x:=fun b u q nm z=>by subst z; rw [q] at mu; exact nm mu
 refine ⟨fun b u q n _ _=>k b u (hb b n) q,fun b u q n _ _=>⟨u.slots,k b u (hb b n) q⟩,fun b u q n _=>by rw [ah (hx b n)]; exact n,fun b u q _=>?_,
  fun b xs q=>by rw [ah (hm b _ q fun z=>z)]; exact q,fun b u xs q=>by rw [ah (hm b _ q fun z=>z)]; exact q,fun b ps q=>⟨#[],by rw [ah (hm b _ q fun z=>z),q]; simp⟩⟩
 by_cases hbe:b=e
 ·subst hbe; exact heo
 ·exact ⟨u,k b u hbe q⟩
end
def trk (h:Heap) (H:Hp):List Addr:=(List.range h.objs.size).filter fun a=>(H a).isSome
def vR (h:Heap) (H:Hp):Heap:=PySem.W.hideAll h (trk h H)
theorem An (h:Heap) (H:Hp):(vR h H).objs.size=h.objs.size:=PySem.W.hideAll_size _ _
theorem Bo {h:Heap} {H:Hp} {b:Addr} {o:Obj} (e:h.get? b=some o) (n:H b=none):(vR h H).get? b=some o:=
 PySem.W.hideAll_get _ e fun hm=>by
  have q:(H b).isSome=true:=(List.mem_filter.mp hm).2
  rw [n] at q; simp at q
theorem C9 {h:Heap} {H:Hp} {b:Addr} {o:Obj} (e:(vR h H).get? b=some o):h.get? b=some o/\H b=none:=by
 have e':h.get? b=some o:=PySem.W.of_hideAll (trk h H) e
 refine ⟨e',?_⟩
 cases q:H b with
 | none=>rfl
 | some x =>
  have hm:b∈trk h H:=List.mem_filter.mpr ⟨List.mem_range.mpr (Heap.lt_size e'),by simp [q]⟩
  have z:(vR h H).get? b=none:=PySem.W.hideAll_none (trk h H) hm
  rw [z] at e; cases e
end L2
namespace L2
open PySem PySem.Spec PyProof.Rows
structure Mod (K:PySem.W.Frag) (mg:Str->Option Value) (base:Heap):Prop where
 kin:K.In base
 glob:base.Ns mainGlobals mg
 blt:∃ mb,base.Ns builtinsNs mb/\∀ x:Str,x ≠ "__name__" -> mb x=bootBuiltins x
 nolimit:base.NoLimit
structure Cx where
 prog:Program
 w:World
 K:PySem.W.Frag
 mg:Str->Option Value
 base:Heap
 A:Around
 N:List Str
 s₀:Shared
 H₀:Hp
 env:Env
 outer:List Env
 stack:List Env
 ex:List Addr
 fn:Str->Bool
 calm:Bool
 pn:List (Addr×Obj)
 xe:Value->Shared->Prop
def frs (l:List Env):List Addr:=l.filterMap (·.frame)
abbrev Cx.fs (X:Cx):List Addr:=frs X.outer
def Vis (sc:Scope) (x:Str):Prop:=sc.names.lookup x=some .local\/sc.names.lookup x=some .cell\/sc.names.lookup x=some .free
def Loc (sc:Scope) (x:Str):Prop:=sc.names.lookup x=some .local\/sc.names.lookup x=some .cell
def Look (env:Env) (h:Heap) (m:Str->Option Value) (x:Str) (u:Value):Prop:=
 (env.kindOf x=some .local/\m x=some u)\/((env.kindOf x=some .cell\/env.kindOf x=some .free)/\∃ c,env.cells.lookup x=some c/\h.IsCell c (some u))
structure Cx.Ok (X:Cx):Prop where
 mod:Mod X.K X.mg X.base
 kind:X.env.scope.kind=.function
 glob:X.env.globals=mainGlobals
 blt:X.env.builtins=builtinsNs
 above:X.s₀.heap.objs.size<=X.env.locals
 inj:∀ x y c,X.env.cells.lookup x=some c->X.env.cells.lookup y=some c->x=y
 has:∀ x,(X.env.kindOf x=some .cell\/X.env.kindOf x=some .free)->∃ c,X.env.cells.lookup x=some c
 cab:∀ x c,X.fn x=true->X.env.cells.lookup x=some c->X.s₀.heap.objs.size<=c
 hd:X.calm=true->X.A.handled=none
 frames:X.A.frames=some X.stack
 stk:X.stack=X.outer\/(X.stack=X.env :: X.outer/\X.env.frame=some X.env.locals)
 exf:∀ b∈X.ex,b≠X.env.locals/\∀ x c,X.env.cells.lookup x=some c->c≠b
 bs:∀ b o,X.base.get? b=some o->X.s₀.heap.get? b=some o/\X.H₀ b=none
 bsz:X.base.objs.size<=X.s₀.heap.objs.size
 noex:∀ b o,X.base.get? b=some o->b∉X.ex
 exfs:∀ b∈X.ex,b∉X.fs
 funs:X.s₀.heap.FunFrames X.base X.outer
 frf:∀ b∈X.fs,X.H₀ b=none
structure Inv (X:Cx) (pins:List (Addr×Obj)) (σ:List (Option V)) (H:Hp) (s:Shared):Prop where
 ok:X.Ok
 os:s.os=X.s₀.os
 bare:AllBare s.gens
 base:Un X.fs X.ex X.H₀ H X.s₀.heap s.heap
 loc:∃ m,s.heap.Ns X.env.locals m/\∀ (i:Nat) (x:Str) (v:V),X.N[i]?=some x->σ[i]?=some (some v)->Vis X.env.scope x->∃ u,RelV v u/\Look X.env s.heap m x u
 cell:∀ x c,X.env.cells.lookup x=some c->∃ v,s.heap.IsCell c v
 free:H X.env.locals=none
 freeC:∀ x c,X.env.cells.lookup x=some c->H c=none
 pin:∀ p∈X.pn++pins,s.heap.get? p.1=some p.2/\H p.1=none/\p.1≠X.env.locals/\p.1∉X.fs/\∀ v,p.2.data≠.cell v
 hok:HOk X.prog X.w H s.heap
 len:σ.length=X.N.length
section
variable {X:Cx} {pins:List (Addr×Obj)} {σ:List (Option V)} {H H':Hp} {s:Shared} {h':Heap}
theorem Cx.Ok.nofr (ok:X.Ok) {b:Addr} {o:Obj} (e:X.base.get? b=some o):b∉X.fs:=fun hb=>by
 have:=(ok.funs.mem hb).1
 rw [e] at this; cases this
theorem Inv.bs (I:Inv X pins σ H s):∀ b o,X.base.get? b=some o->s.heap.get? b=some o/\H b=none:=fun b o e =>
 ⟨I.base.keep b o (I.ok.bs b o e).1 (I.ok.bs b o e).2 (I.ok.nofr e) (I.ok.noex b o e),I.base.free b o (I.ok.bs b o e).1 (I.ok.bs b o e).2 (I.ok.noex b o e)⟩
theorem Inv.bk (I:Inv X pins σ H s):∀ b o,X.base.get? b=some o->s.heap.get? b=some o:=fun b o e=>(I.bs b o e).1
theorem Inv.mod (I:Inv X pins σ H s):Mod X.K X.mg X.base:=I.ok.mod
theorem Inv.kIn (I:Inv X pins σ H s):X.K.In s.heap:=I.ok.mod.kin.keeps I.bk
theorem Inv.lt (I:Inv X pins σ H s):X.env.locals<s.heap.objs.size:=let ⟨_,hn,_⟩:=I.loc; hn.lt
theorem Inv.sz (I:Inv X pins σ H s):X.s₀.heap.objs.size<=s.heap.objs.size:=Nat.le_trans I.ok.above (Nat.le_of_lt I.lt)
theorem Inv.nofs (I:Inv X pins σ H s) {a:Addr} (h:s.heap.objs.size<=a):a∉X.fs:=fun hb=>by
 obtain ⟨_,o,ho,_⟩:=I.ok.funs.mem hb
 exact absurd (Nat.lt_of_lt_of_le (Heap.lt_size ho) (Nat.le_trans I.sz h)) (Nat.lt_irrefl _)
theorem Inv.cne (I:Inv X pins σ H s):∀ x c,X.env.cells.lookup x=some c->c≠X.env.locals:=fun x c e z=>by
 obtain ⟨v,o,ho,hd⟩:=I.cell x c e
 obtain ⟨m,⟨o',es,ep,ho',hd',_⟩,_⟩:=I.loc
 rw [z,ho'] at ho; cases ho; rw [hd'] at hd; cases hd
theorem Inv.funs (I:Inv X pins σ H s):s.heap.FunFrames X.base X.outer:=by
 have all:∀ (l:List Env),(∀ b∈frs l,b∈X.fs)->X.s₀.heap.FunFrames X.base l->s.heap.FunFrames X.base l:=by
  intro l
  induction l with
  | nil=>intro _ _; trivial
  | cons env r ih =>
   intro hs hl
   obtain ⟨hk,⟨L,o,hf,hn,ho,hd⟩,hr⟩:=hl
   have hL:L∈X.fs:=hs L (by unfold frs; rw [List.filterMap_cons,hf]; exact List.mem_cons_self)
   obtain ⟨sl,e⟩:=I.base.slot L o ho (I.ok.frf L hL) hL fun z=>I.ok.exfs L z hL
   exact ⟨hk,⟨L,_,hf,hn,e,hd⟩,ih (fun b hb=>hs b (by unfold frs; rw [List.filterMap_cons,hf]; exact List.mem_cons_of_mem _ hb)) hr⟩
 exact all X.outer (fun _ hb=>hb) I.ok.funs
theorem Inv.stack (I:Inv X pins σ H s):s.heap.FunFrames X.base X.stack:=by
 rcases I.ok.stk with e | ⟨e,hf⟩
 ·rw [e]; exact I.funs
 ·rw [e]
  obtain ⟨m,hn,_⟩:=I.loc
  refine .cons (by rw [I.ok.kind]; decide) hf hn ?_ I.funs
  exact Heap.get?_none_of_le (Nat.le_trans I.ok.bsz I.ok.above)
theorem Inv.stkSub (I:Inv X pins σ H s):∀ b∈frs X.stack,b∈X.env.locals :: X.fs:=fun b hb=>by
 rcases I.ok.stk with e | ⟨e,hf⟩
 ·rw [e] at hb; exact List.mem_cons_of_mem _ hb
 ·rw [e] at hb
  unfold frs at hb
  rw [List.filterMap_cons,hf] at hb
  exact hb
theorem Inv.stkFree (I:Inv X pins σ H s):∀ b∈frs X.stack,H b=none:=fun b hb=>by
 rcases List.mem_cons.mp (I.stkSub b hb) with e | hb
 ·rw [e]; exact I.free
 ·obtain ⟨_,o,ho,_⟩:=I.ok.funs.mem hb
  exact I.base.free b o ho (I.ok.frf b hb) fun z=>I.ok.exfs b z hb
theorem Inv.step {g':Array GenState} {t':Nat} {d':Drawn} {ch:List Addr} (I:Inv X pins σ H s)
  (hch:∀ b∈ch,(b∈X.ex\/X.s₀.heap.objs.size<=b)/\b≠X.env.locals/\(∀ x c,X.env.cells.lookup x=some c->c≠b)/\∀ p∈X.pn++pins,p.1≠b)
  (keep:∀ b o,b≠X.env.locals->b∉X.fs->b∉ch->s.heap.get? b=some o->H b=none->h'.get? b=some o)
  (slot:∀ b o,b≠X.env.locals->b∈X.fs->b∉ch->s.heap.get? b=some o->H b=none->∃ sl,h'.get? b=some { o with slots:=sl }) (free:∀ b o,b∉ch->s.heap.get? b=some o->H b=none->H' b=none)
  (there:∀ b o,b∉ch->s.heap.get? b=some o->∃ o',h'.get? b=some o')
  (tups:∀ b xs,H b=some (.tup xs)->H' b=some (.tup xs)) (frzs:∀ b o u,H b=some (.frz o u)->H' b=some (.frz o u)) (tbls:∀ b ps,H b=some (.tbl ps)->∃ more,H' b=some (.tbl (ps++more)))
  (ns:∀ m,s.heap.Ns X.env.locals m->h'.Ns X.env.locals m) (hok:HOk X.prog X.w H' h') (hg:AllBare g') :
  Inv X pins σ H' { s with heap:=h',gens:=g',drawn:=d',toks:=t' }:=by
 have neL:∀ b o,X.s₀.heap.get? b=some o->b≠X.env.locals:=fun b o e=>Nat.ne_of_lt (Nat.lt_of_lt_of_le (Heap.lt_size e) I.ok.above)
 have neC:∀ b o,X.s₀.heap.get? b=some o->b∉X.ex->b∉ch:=fun b o e hx hb=>by
  rcases (hch b hb).1 with z | z
  ·exact hx z
  ·exact absurd (Nat.lt_of_lt_of_le (Heap.lt_size e) z) (Nat.lt_irrefl _)
 have cellK:∀ x c,X.env.cells.lookup x=some c->∀ v,s.heap.IsCell c v->h'.IsCell c v:=fun x c e v ⟨o,ho,hd⟩=>by
  have nch:c∉ch:=fun z=>(hch c z).2.2.1 x c e rfl
  by_cases hc:c∈X.fs
  ·obtain ⟨sl,q⟩:=slot c o (I.cne x c e) hc nch ho (I.freeC x c e)
   exact ⟨_,q,hd⟩
  ·exact ⟨o,keep c o (I.cne x c e) hc nch ho (I.freeC x c e),hd⟩
 refine ⟨I.ok,I.os,hg,⟨fun b o e n hb hx=>?_,fun b o e n hb hx=>?_,fun b o e n hx=>?_,fun b o e hx=>?_,fun b xs e=>tups b xs (I.base.tups b xs e),fun b o xs e=>frzs b o xs (I.base.frzs b o xs e),fun b ps e=>?_⟩,?_,fun x c e=>?_,?_,fun x c e=>?_,fun p hp=>?_,hok,I.len⟩
 ·exact keep b o (neL b o e) hb (neC b o e hx) (I.base.keep b o e n hb hx) (I.base.free b o e n hx)
 ·obtain ⟨sl,e1⟩:=I.base.slot b o e n hb hx
  obtain ⟨sl',e2⟩:=slot b _ (neL b o e) hb (neC b o e hx) e1 (I.base.free b o e n hx)
  exact ⟨sl',e2⟩
 ·obtain ⟨o',e1⟩:=I.base.there b o e hx
  exact free b o' (neC b o e hx) e1 (I.base.free b o e n hx)
 ·obtain ⟨o',e1⟩:=I.base.there b o e hx
  exact there b o' (neC b o e hx) e1
 ·obtain ⟨m1,e1⟩:=I.base.tbls b ps e
  obtain ⟨m2,e2⟩:=tbls b _ e1
  exact ⟨m1++m2,by rw [e2,Array.append_assoc]⟩
 ·obtain ⟨m,hn,hl⟩:=I.loc
  refine ⟨m,ns m hn,fun i x v e1 e2 e3=>?_⟩
  obtain ⟨u,r,l⟩:=hl i x v e1 e2 e3
  refine ⟨u,r,?_⟩
  rcases l with l | ⟨k,c,e,z⟩
  ·exact .inl l
  ·exact .inr ⟨k,c,e,cellK x c e _ z⟩
 ·obtain ⟨v,z⟩:=I.cell x c e
  exact ⟨v,cellK x c e v z⟩
 ·obtain ⟨m,⟨o,_,_,ho,_⟩,_⟩:=I.loc
  exact free _ o (fun z=>(hch _ z).2.1 rfl) ho I.free
 ·obtain ⟨v,o,ho,hd⟩:=I.cell x c e
  exact free c o (fun z=>(hch c z).2.2.1 x c e rfl) ho (I.freeC x c e)
 ·obtain ⟨e,n,ne,nf,d⟩:=I.pin p hp
  have nch:p.1∉ch:=fun z=>(hch p.1 z).2.2.2 p hp rfl
  exact ⟨keep p.1 p.2 ne nf nch e n,free p.1 p.2 nch e n,ne,nf,d⟩
theorem Inv.un {t':Nat} (I:Inv X pins σ H s) (u:Un X.fs [] H H' s.heap h') (hok:HOk X.prog X.w H' h'):Inv X pins σ H' { s with heap:=h',toks:=t' }:=by
 obtain ⟨m,⟨o,es,ep,ho,r⟩,_⟩:=id I.loc
 obtain ⟨sl,hL⟩:=u.any ho I.free (by simp)
 exact I.step (g' := s.gens) (d' := s.drawn) (ch:=[]) (fun _ z=>nomatch z) (fun b o _ hb _ e n=>u.keep b o e n hb (by simp)) (fun b o _ hb _ e n=>u.slot b o e n hb (by simp)) (fun b o _ e n=>u.free b o e n (by simp)) (fun b o _ e=>u.there b o e (by simp)) u.tups u.frzs u.tbls (fun m' hm=>by
  obtain ⟨o',es',ep',ho',r'⟩:=hm
  rw [ho] at ho'; cases ho'
  exact ⟨_,es',ep',hL,r'⟩) hok I.bare
theorem Inv.call {g':Array GenState} {t':Nat} {d':Drawn} {ch:List Addr} (I:Inv X pins σ H s) (u:Un (frs X.stack) ch H H' s.heap h') (hok:HOk X.prog X.w H' h') (hg:AllBare g')
  (hch:∀ b∈ch,(b∈X.ex\/X.s₀.heap.objs.size<=b)/\b≠X.env.locals/\(∀ x c,X.env.cells.lookup x=some c->c≠b)/\∀ p∈X.pn++pins,p.1≠b) :
  Inv X pins σ H' { s with heap:=h',gens:=g',drawn:=d',toks:=t' }:=by
 obtain ⟨m,⟨o,es,ep,ho,r⟩,_⟩:=id I.loc
 obtain ⟨sl,hL⟩:=u.any ho I.free fun z=>(hch _ z).2.1 rfl
 exact I.step (ch:=ch) hch (fun b o hL hb hc e n=>u.keep b o e n (fun z=>(List.mem_cons.mp (I.stkSub b z)).elim hL hb) hc) (fun b o _ _ hc e n=>u.any e n hc) (fun b o hc e n=>u.free b o e n hc) (fun b o hc e=>u.there b o e hc) u.tups u.frzs u.tbls (fun m' hm=>by
  obtain ⟨o',es',ep',ho',r'⟩:=hm
  rw [ho] at ho'; cases ho'
  exact ⟨_,es',ep',hL,r'⟩) hok hg
theorem Inv.turned {t':Nat} {it:Addr} (I:Inv X pins σ H s) (k:∀ b o,b≠it->s.heap.get? b=some o->h'.get? b=some o) (hn:H it=none) (hL:it≠X.env.locals)
  (h1:it∈X.ex\/X.s₀.heap.objs.size<=it) (h2:∀ x c,X.env.cells.lookup x=some c->c≠it) (h3:∀ p∈X.pn++pins,p.1≠it):Inv X pins σ H { s with heap:=h',toks:=t' }:=by
 have nit:∀ b u,H b=some u->b≠it:=fun b u e z=>by rw [z,hn] at e; cases e
 refine I.step (g' := s.gens) (d' := s.drawn) (ch:=[it]) (fun b hb=>?_) (fun b o _ _ hc e _=>k b o (fun z=>hc (by simp [z])) e) (fun b o _ _ hc e _=>⟨o.slots,k b o (fun z=>hc (by simp [z])) e⟩) (fun _ _ _ _ n=>n)
  (fun b o hc e=>⟨o,k b o (fun z=>hc (by simp [z])) e⟩) (fun _ _ e=>e) (fun _ _ _ e=>e) (fun b ps e=>⟨#[],by rw [e]; simp⟩) (fun m hm=>?_) (fun b u e=>?_) I.bare
 ·have e:b=it:=by simpa using hb
  subst e
  exact ⟨h1,hL,h2,h3⟩
 ·obtain ⟨o,es,ep,ho,r⟩:=hm
  exact ⟨o,es,ep,k _ o (Ne.symm hL) ho,r⟩
 ·refine (I.hok b u e).stay (fun c v hc q=>k c v ?_ q) (fun _ q=>q) fun _ _ q=>q
  rcases hc with z | z
  ·rw [z]; exact nit b u e
  ·exact nit c _ z
theorem Inv.tok (I:Inv X pins σ H s) (t:Nat):Inv X pins σ H { s with toks:=t }:=I.un (h' := s.heap) (t' := t) Un.refl I.hok
theorem Inv.kept {t':Nat} (I:Inv X pins σ H s) (k:∀ b u,s.heap.get? b=some u->h'.get? b=some u):Inv X pins σ H { s with heap:=h',toks:=t' }:=I.un (Un.kept k) (I.hok.kept k)
theorem Inv.laid {a:Addr} {o:HO} {t':Nat} (I:Inv X pins σ H s) (k:∀ b u,s.heap.get? b=some u->h'.get? b=some u) (hp:s.heap.objs.size<=a) (new:ObjOk X.prog X.w (upd H a o) h' a o) :
  Inv X pins σ (upd H a o) { s with heap:=h',toks:=t' }:=I.un (Un.laid k hp (I.hok.fresh hp)) (I.hok.laid k hp new)
theorem Inv.write {x e:Addr} {o:HO} {t':Nat} (I:Inv X pins σ H s) (mu:Mut (H x)) (he:e=x\/H e=some (.own x)) (k:∀ b u,b≠e->s.heap.get? b=some u->h'.get? b=some u) (heo:∃ u,h'.get? e=some u)
  (new:ObjOk X.prog X.w (upd H x o) h' x o):Inv X pins σ (upd H x o) { s with heap:=h',toks:=t' }:=I.un (Un.write mu he k heo) (I.hok.write mu he k heo new)
theorem Inv.pins_of {pins':List (Addr×Obj)} (I:Inv X pins σ H s) (h:∀ p∈pins',s.heap.get? p.1=some p.2/\H p.1=none/\p.1≠X.env.locals/\p.1∉X.fs/\∀ v,p.2.data≠.cell v):Inv X pins' σ H s:=
 ⟨I.ok,I.os,I.bare,I.base,I.loc,I.cell,I.free,I.freeC,fun p hp=>(List.mem_append.mp hp).elim (fun z=>I.pin p (List.mem_append_left _ z)) (h p),I.hok,I.len⟩
theorem sN {N:List Str} (hN:N.Nodup) {i j:Nat} {x:Str} (a:N[i]?=some x) (b:N[j]?=some x):i=j:=by
 obtain ⟨h1,e1⟩:=List.getElem?_eq_some_iff.mp a
 obtain ⟨h2,e2⟩:=List.getElem?_eq_some_iff.mp b
 exact (List.getElem_inj hN).mp (e1.trans e2.symm)
theorem vt {M:Model} {A:Around} {E:Value->Shared->Prop} {i:Nat} {x:Str} {v:V} {u:Value} {Q:Unit->Shared->Prop} (I:Inv X pins σ H s) (hN:X.N.Nodup) (hi:X.N[i]?=some x) (hx:Loc X.env.scope x) (r:RelV v u)
  (h:∀ s',Inv X pins (σ.set i (some v)) H s'->(∃ a,Heap.SameBut a s.heap s'.heap/\(a=X.env.locals\/X.env.cells.lookup x=some a))->Q () s') (hf:X.fn x=true\/X.env.scope.names.lookup x=some .local:=by first | exact .inl rfl | exact .inr rfl | assumption):wpAny M A (storeName X.env x u) Q E s:=by
 obtain ⟨m,hn,hl⟩:=id I.loc
 have hcls:(X.env.scope.kind==.class||(X.env.scope.kind==.module&&X.env.locals != X.env.globals))=false:=by rw [I.ok.kind]; rfl
 have hiσ:i<σ.length:=by rw [I.len]; exact (List.getElem?_eq_some_iff.mp hi).1
 have cne:=I.cne
 have tracked:∀ {a:Addr} {h':Heap},(∃ o,s.heap.get? a=some o/\H a=none)->Heap.SameBut a s.heap h'->HOk X.prog X.w H h' := fun {a h'} ha hs b ob e=>by
  obtain ⟨_,_,hfree⟩:=ha
  refine (I.hok b ob e).stay (fun c w' hc q=>(hs.2 c ?_).trans q) (fun _ q=>q) fun _ _ q=>q
  rintro rfl
  rcases hc with rfl | hc
  ·rw [hfree] at e; cases e
  ·rw [hfree] at hc; cases hc
 rcases hx with hk | hk
 ·refine wpAny_storeName_local hk hn (fun h' hn' hs=>?_) hcls
  obtain ⟨oL,_,_,hoL,_⟩:=id hn
  refine h _ ⟨I.ok,I.os,I.bare,⟨fun b o e n hb hx=>?_,fun b o e n hb hx=>?_,I.base.free,fun b o e hx=>?_,I.base.tups,I.base.frzs,I.base.tbls⟩,⟨_,hn',fun j y v' e1 e2 e3=>?_⟩,fun y c e=>?_,I.free,I.freeC,fun p hp=>?_,tracked ⟨oL,hoL,I.free⟩ hs,by simpa using I.len⟩ ⟨_,hs,.inl rfl⟩
  ·exact (hs.2 b (Nat.ne_of_lt (Nat.lt_of_lt_of_le (Heap.lt_size e) I.ok.above))).trans (I.base.keep b o e n hb hx)
  ·obtain ⟨sl,e1⟩:=I.base.slot b o e n hb hx
   exact ⟨sl,(hs.2 b (Nat.ne_of_lt (Nat.lt_of_lt_of_le (Heap.lt_size e) I.ok.above))).trans e1⟩
  ·obtain ⟨o',e1⟩:=I.base.there b o e hx
   exact ⟨o',(hs.2 b (Nat.ne_of_lt (Nat.lt_of_lt_of_le (Heap.lt_size e) I.ok.above))).trans e1⟩
  ·by_cases hj:j=i
   ·subst hj
    rw [hi] at e1; cases e1
    rw [List.getElem?_set_self hiσ] at e2
    cases e2
    exact ⟨u,r,.inl ⟨hk,by simp⟩⟩
   ·rw [List.getElem?_set_ne (Ne.symm hj)] at e2
    obtain ⟨u',r',q⟩:=hl j y v' e1 e2 e3
    refine ⟨u',r',?_⟩
    rcases q with ⟨k,e⟩ | ⟨k,c,e,z⟩
    ·refine .inl ⟨k,?_⟩
     have:y≠x:=fun e=>hj (sN hN e1 (e ▸ hi))
     simp [this,e]
    ·exact .inr ⟨k,c,e,z.sameBut hs (cne y c e)⟩
  ·obtain ⟨w',z⟩:=I.cell y c e
   exact ⟨w',z.sameBut hs (cne y c e)⟩
  ·obtain ⟨e,n,ne,nf,d⟩:=I.pin p hp
   exact ⟨(hs.2 p.1 ne).trans e,n,ne,nf,d⟩
 ·have hfn:X.fn x=true:=by
   rcases hf with z | z
   ·exact z
   ·rw [z] at hk; cases hk
  obtain ⟨c,hc⟩:=I.ok.has x (.inl hk)
  obtain ⟨w',z⟩:=I.cell x c hc
  refine wpAny_storeName_cell I.ok.kind hk hc z (fun h' hc' hs=>?_)
  obtain ⟨oc,hoc,hocd⟩:=id z
  refine h { s with heap:=h' } ⟨I.ok,I.os,I.bare,⟨fun b o e n hb hx=>?_,fun b o e n hb hx=>?_,I.base.free,fun b o e hx=>?_,I.base.tups,I.base.frzs,I.base.tbls⟩,⟨m,hn.sameBut hs (Ne.symm (cne x c hc)),fun j y v' e1 e2 e3=>?_⟩,fun y c' e=>?_,I.free,I.freeC,fun p hp=>?_,tracked ⟨oc,hoc,I.freeC x c hc⟩ hs,by simpa using I.len⟩ ⟨c,hs,.inr hc⟩
  ·exact (hs.2 b (Nat.ne_of_lt (Nat.lt_of_lt_of_le (Heap.lt_size e) (I.ok.cab x c hfn hc)))).trans (I.base.keep b o e n hb hx)
  ·obtain ⟨sl,e1⟩:=I.base.slot b o e n hb hx
   exact ⟨sl,(hs.2 b (Nat.ne_of_lt (Nat.lt_of_lt_of_le (Heap.lt_size e) (I.ok.cab x c hfn hc)))).trans e1⟩
  ·obtain ⟨o',e1⟩:=I.base.there b o e hx
   exact ⟨o',(hs.2 b (Nat.ne_of_lt (Nat.lt_of_lt_of_le (Heap.lt_size e) (I.ok.cab x c hfn hc)))).trans e1⟩
  ·by_cases hj:j=i
   ·subst hj
    rw [hi] at e1; cases e1
    rw [List.getElem?_set_self hiσ] at e2
    cases e2
    exact ⟨u,r,.inr ⟨.inl hk,c,hc,hc'⟩⟩
   ·rw [List.getElem?_set_ne (Ne.symm hj)] at e2
    obtain ⟨u',r',q⟩:=hl j y v' e1 e2 e3
    refine ⟨u',r',?_⟩
    rcases q with q | ⟨k,c',e,z'⟩
    ·exact .inl q
    ·refine .inr ⟨k,c',e,z'.sameBut hs ?_⟩
     rintro rfl
     exact hj (sN hN e1 (I.ok.inj _ _ _ e hc ▸ hi))
  ·by_cases hcc:c'=c
   ·subst hcc; exact ⟨_,hc'⟩
   ·obtain ⟨w2,z2⟩:=I.cell y c' e
    exact ⟨w2,z2.sameBut hs hcc⟩
  ·obtain ⟨e,n,ne,nf,d⟩:=I.pin p hp
   refine ⟨(hs.2 p.1 ?_).trans e,n,ne,nf,d⟩
   intro q
   rw [q,hoc] at e
   have q':oc=p.2:=Option.some.inj e
   exact d w' (by rw [<- q']; exact hocd)
theorem oC {M:Model} {A:Around} {E:Value->Shared->Prop} {i:Nat} {x:Str} {v:V} {u:Value} {Q:Unit->Shared->Prop} (I:Inv X pins σ H s) (hN:X.N.Nodup) (hi:X.N[i]?=some x) (hx:Loc X.env.scope x) (r:RelV v u)
  (h:∀ s',Inv X pins (σ.set i (some v)) H s'->Q () s') (hf:X.fn x=true\/X.env.scope.names.lookup x=some .local:=by first | exact .inl rfl | exact .inr rfl | assumption):wpAny M A (storeName X.env x u) Q E s:=
 vt I hN hi hx r (fun s' I' _=>h s' I') hf
theorem Inv.call' {s':Shared} {ch:List Addr} (I:Inv X pins σ H s) (ho:s'.os=s.os) (u:Un (frs X.stack) ch H H' s.heap s'.heap) (hok:HOk X.prog X.w H' s'.heap) (hg:AllBare s'.gens)
  (hch:∀ b∈ch,(b∈X.ex\/X.s₀.heap.objs.size<=b)/\b≠X.env.locals/\(∀ x c,X.env.cells.lookup x=some c->c≠b)/\∀ p∈X.pn++pins,p.1≠b):Inv X pins σ H' s' := by
 obtain ⟨h',g',d',t',o'⟩:=s'
 have e:o'=s.os:=ho
 subst e
 exact I.call (g' := g') (t' := t') (d' := d') u hok hg hch
end
abbrev XK:=Value->Option Addr->Hp->Prop
abbrev St:=List (Option V)
abbrev VK:=V->Hp->Prop
abbrev TE:=St->Hp->VK->Prop
abbrev TT:=St->Hp->(Bool->Hp->Prop)->Prop
abbrev TA:=St->Hp->(List V->Hp->Prop)->Prop
structure Ends where
 nx:St->Hp->Prop
 rt:VK
 bk:St->Hp->Prop:=fun _ _=>False
 ct:St->Hp->Prop:=fun _ _=>False
abbrev TS:=Ends->St->Hp->Prop
def EP (X:Cx) (pins:List (Addr×Obj)) (σ:St) (Q:VK) (u:Value) (s':Shared):Prop := ∃ v H',Inv X pins σ H' s'/\RelV v u/\Q v H'
def TP (X:Cx) (pins:List (Addr×Obj)) (σ:St) (Q:Bool->Hp->Prop) (b:Bool) (s':Shared):Prop := ∃ H',Inv X pins σ H' s'/\Q b H'
def AP (X:Cx) (pins:List (Addr×Obj)) (σ:St) (Q:List V->Hp->Prop) (us:List Value) (s':Shared):Prop := ∃ vs H',Inv X pins σ H' s'/\Vals vs us/\Q vs H'
def SP (X:Cx) (pins:List (Addr×Obj)) (D:Ends) (f:Flow) (s':Shared):Prop:=
 match f with
 | .next=>∃ σ' H',Inv X pins σ' H' s'/\D.nx σ' H'
 | .brk=>∃ σ' H',Inv X pins σ' H' s'/\D.bk σ' H'
 | .cont=>∃ σ' H',Inv X pins σ' H' s'/\D.ct σ' H'
 | .ret u=>∃ v σ' H',Inv X pins σ' H' s'/\RelV v u/\D.rt v H'
def PE (X:Cx) (e:Expr) (t:TE):Prop:=
 ∀ (pins:List (Addr×Obj)) (s:Shared) (σ:St) (H:Hp) (Q:VK),Inv X pins σ H s->t σ H Q->wpAny (model X.prog X.w) X.A (eval e X.env) (EP X pins σ Q) X.xe s
def PT (X:Cx) (e:Expr) (t:TT):Prop:=
 ∀ (pins:List (Addr×Obj)) (s:Shared) (σ:St) (H:Hp) (Q:Bool->Hp->Prop),Inv X pins σ H s->t σ H Q->wpAny (model X.prog X.w) X.A (isTrue e X.env (eval e X.env)) (TP X pins σ Q) X.xe s
def PW (X:Cx) (e:Expr) (t:TT):Prop:=
 ∀ (whole:Sem Value) (pins:List (Addr×Obj)) (s:Shared) (σ:St) (H:Hp) (Q:Bool->Hp->Prop),Inv X pins σ H s->t σ H Q->wpAny (model X.prog X.w) X.A (isTrue e X.env whole) (TP X pins σ Q) X.xe s
theorem PW.pt {X:Cx} {e:Expr} {t:TT} (h:PW X e t):PT X e t:=h _
def PA (X:Cx) (es:List Expr) (t:TA):Prop:=
 ∀ (pos:Pos) (pins:List (Addr×Obj)) (s:Shared) (σ:St) (H:Hp) (Q:List V->Hp->Prop),Inv X pins σ H s->t σ H Q->wpAny (model X.prog X.w) X.A (spliced (backTo pos (starEach es X.env))) (AP X pins σ Q) X.xe s
def PS (X:Cx) (st:Stmt) (t:TS):Prop:=
 ∀ (pins:List (Addr×Obj)) (s:Shared) (σ:St) (H:Hp) (D:Ends),Inv X pins σ H s->t D σ H->wpAny (model X.prog X.w) X.A (exec st X.env) (SP X pins D) X.xe s
def PSs (X:Cx) (st:List Stmt) (t:TS):Prop:=
 ∀ (pins:List (Addr×Obj)) (s:Shared) (σ:St) (H:Hp) (D:Ends),Inv X pins σ H s->t D σ H->wpAny (model X.prog X.w) X.A (execs st X.env) (SP X pins D) X.xe s
theorem thn {α:Type} {t:Sem α} {Q Q':α->Shared->Prop} {M:Model} {A:Around} {E:Value->Shared->Prop} {s:Shared} (h:wpAny M A t Q E s) (hQ:∀ a s,Q a s->Q' a s):wpAny M A t Q' E s:=wpAny_mono h hQ fun _ _ x=>x
end L2
namespace L2
open PySem PySem.Spec PyProof.Rows
section
variable {X:Cx}
def Fo (i:Nat):TE:=fun σ H Q=>∃ v,σ[i]?=some (some v)/\Q v H
def tC (v:V):TE:=fun _ H Q=>Q v H
theorem Em {i:Nat} {x:Str} {pos:Pos} (hN:X.N[i]?=some x) (hv:Vis X.env.scope x) (hd:(x==("__debug__" : Str))=false:=by decide) (hcd:(x==("__classdict__" : Str))=false:=by decide):PE X (.Name x pos) (Fo i):=by
 intro pins s σ H Q I h
 obtain ⟨v,e,h⟩:=h
 obtain ⟨m,hn,hl⟩:=I.loc
 obtain ⟨u,r,l⟩:=hl i x v hN e hv
 have fin:EP X pins σ Q u s:=⟨v,H,I,r,h⟩
 rcases l with ⟨hk,hm⟩ | ⟨hk,c,hc,hcell⟩
 ·exact wpAny_Name (wpAny_loadName_local I.ok.kind hk hn hm fin) hd
 ·rcases hk with hk | hk
  ·exact wpAny_Name (wpAny_loadName_cell I.ok.kind hk hc hcell fin) hd
  ·exact wpAny_Name (wpAny_loadName_free I.ok.kind hk hc hcell fin hcd) hd
theorem ao {i j pos}:PE X (.Constant (.int i) j pos) (tC (.int i)):=fun _ _ _ H _ I h=>wpAny_Constant_int ⟨.int i,H,I.tok _,⟨_,rfl⟩,h⟩
theorem dq {b j pos}:PE X (.Constant (.bool b) j pos) (tC (.bl b)):=fun _ _ _ H _ I h=>Constant_bool ⟨.bl b,H,I,rfl,h⟩
theorem El {x j pos}:PE X (.Constant (.str x) j pos) (tC (.str x)):=fun _ _ _ H _ I h=>Calls.Constant_str ⟨.str x,H,I.tok _,⟨_,rfl⟩,h⟩
def Gl (X:Cx) (x:Str):Prop:=X.env.kindOf x=some .globalImplicit
theorem kQ {E:Value->Shared->Prop} {pins:List (Addr×Obj)} {s:Shared} {σ:St} {H:Hp} {x:Str} {u:Value} {pos:Pos} {Q:Value->Shared->Prop} (I:Inv X pins σ H s) (hg:Gl X x) (hm:X.mg x=some u) (h:Q u s)
  (hd:(x==("__debug__" : Str))=false:=by decide):wpAny (model X.prog X.w) X.A (eval (.Name x pos) X.env) Q E s:=
 Calls.Name_function_global I.ok.kind hg (Calls.loadGlobal_global (by rw [I.ok.glob]; exact I.mod.glob.keeps I.bk) hm h) hd
theorem ky {E:Value->Shared->Prop} {pins:List (Addr×Obj)} {s:Shared} {σ:St} {H:Hp} {x:Str} {u:Value} {pos:Pos} {Q:Value->Shared->Prop} (I:Inv X pins σ H s) (hg:Gl X x) (hm:X.mg x=none) (hv:bootBuiltins x=some u) (h:Q u s)
  (hn:x ≠ "__name__" := by decide) (hd:(x==("__debug__" : Str))=false:=by decide):wpAny (model X.prog X.w) X.A (eval (.Name x pos) X.env) Q E s:=by
 obtain ⟨mb,h1,h2⟩:=I.mod.blt
 exact Calls.Name_function_global I.ok.kind hg (Calls.loadGlobal_builtin (by rw [I.ok.glob]; exact I.mod.glob.keeps I.bk) hm (by rw [I.ok.blt]; exact h1.keeps I.bk) ((h2 x hn).trans hv) h) hd
theorem eO {x:Str} {v:V} {u:Value} {pos:Pos} (hg:Gl X x) (hm:X.mg x=some u) (r:RelV v u) (hd:(x==("__debug__" : Str))=false:=by decide):PE X (.Name x pos) (tC v):=
 fun _ _ _ H _ I h=>kQ I hg hm ⟨v,H,I,r,h⟩ hd
theorem jK {x:Str} {v:V} {u:Value} {pos:Pos} (hg:Gl X x) (hm:X.mg x=none) (hv:bootBuiltins x=some u) (r:RelV v u) (hn:x ≠ "__name__" := by decide) (hd:(x==("__debug__" : Str))=false:=by decide):PE X (.Name x pos) (tC v):=
 fun _ _ _ H _ I h=>ky I hg hm hv ⟨v,H,I,r,h⟩ hn hd
variable {a b:Expr} {ta tb:TE} {pos:Pos}
def PC (X:Cx) (op:CmpOp) (a b:Expr) (t:TE):Prop:=
 ∀ (pins:List (Addr×Obj)) (s:Shared) (σ:St) (H:Hp) (Q:VK),Inv X pins σ H s->t σ H Q ->
  wpAny (model X.prog X.w) X.A (eval a X.env) (fun v s₁=>wpAny (model X.prog X.w) X.A (eval b X.env) (fun u s₂=>wpAny (model X.prog X.w) X.A (compareOp op v u) (EP X pins σ Q) X.xe s₂) X.xe s₁) X.xe s
theorem BI (b:Expr) {op:CmpOp} (h:op≠.In) (h2:op≠.NotIn):behindInMarks op b=false:=by
 have e1:(op==CmpOp.In)=false:=by cases op <;> first | rfl | exact absurd rfl h
 have e2:(op==CmpOp.NotIn)=false:=by cases op <;> first | rfl | exact absurd rfl h2
 cases b <;> simp [behindInMarks,e1,e2]
def tB (t:TE):TT:=fun σ H Q=>t σ H fun x H1=>∃ c,x=.bl c/\Q c H1
theorem wz {op:CmpOp} {t:TE} (h:PC X op a b t) (h1:behindInMarks op b=false:=by first | exact BI _ (by decide) (by decide) | rfl):PT X (.Compare a [op] [b] pos) (tB t):=by
 intro pins s σ H Q I hw
 refine wpAny_isTrue_Compare1 (thn (h pins s σ H _ I hw) fun v s1 h1=>thn h1 fun u s2 h2=>thn h2 fun c s3 ⟨x,H1,I1,r1,q1⟩=>?_) h1
 obtain ⟨d,rfl,q⟩:=q1
 cases r1
 exact wpAny_truthy_bool ⟨H1,I1,q⟩
theorem hJ {e:Expr} {t:TE} (h:PE X e t) (he:∀ whole,isTrue e X.env whole=(do let v <- whole; standAt e.pos; holding [v] (truthy v)):=by intro _; rfl):PT X e (tB t):=by
 intro pins s σ H Q I hw
 refine isTrue_plain (thn (h pins s σ H _ I hw) fun v s1 ⟨x,H1,I1,r1,q1⟩=>?_) (he _)
 obtain ⟨d,rfl,q⟩:=q1
 cases r1
 exact wpAny_truthy_bool ⟨H1,I1,q⟩
variable {tA tB':TT} {rest:List Expr}
def FI (t u:TT):TT:=fun σ H Q=>t σ H fun c H1=>if c=true then u σ H1 Q else Q false H1
def tOr (t u:TT):TT:=fun σ H Q=>t σ H fun c H1=>if c=true then Q true H1 else u σ H1 Q
def FN (t:TT):TT:=fun σ H Q=>t σ H fun c H1=>Q (!c) H1
theorem zS (ha:PT X a tA):PW X (.BoolOp .And [a] pos) tA:=by
 intro wh pins s σ H Q I h
 refine isTrue_and (thn (ha pins s σ H Q I h) fun c s1 e=>?_)
 cases c with
 | true=>exact isTrue_and_nil e
 | false=>exact e
theorem mY (ha:PT X a tA):PW X (.BoolOp .Or [a] pos) tA:=by
 intro wh pins s σ H Q I h
 refine isTrue_or (thn (ha pins s σ H Q I h) fun c s1 e=>?_)
 cases c with
 | false=>exact isTrue_or_nil e
 | true=>exact e
theorem Cm (ha:PT X a tA) (hb:PW X (.BoolOp .And (b :: rest) pos) tB'):PW X (.BoolOp .And (a :: b :: rest) pos) (FI tA tB'):=by
 intro wh pins s σ H Q I h
 refine isTrue_and (thn (ha pins s σ H _ I h) fun c s1 ⟨H1,I1,q1⟩=>?_)
 cases c with
 | true=>exact hb wh pins s1 σ H1 Q I1 q1
 | false=>exact ⟨H1,I1,q1⟩
theorem lQ (ha:PT X a tA) (hb:PW X (.BoolOp .Or (b :: rest) pos) tB'):PW X (.BoolOp .Or (a :: b :: rest) pos) (tOr tA tB'):=by
 intro wh pins s σ H Q I h
 refine isTrue_or (thn (ha pins s σ H _ I h) fun c s1 ⟨H1,I1,q1⟩=>?_)
 cases c with
 | true=>exact ⟨H1,I1,q1⟩
 | false=>exact hb wh pins s1 σ H1 Q I1 q1
theorem g9 (ha:PT X a tA):PT X (.UnaryOp .Not a pos) (FN tA):=by
 intro pins s σ H Q I h
 exact isTrue_not (ha pins s σ H (fun c H1=>Q (!c) H1) I h)
def Fb (ta tb:TE):TE:=fun σ H Q=>ta σ H fun x H1=>∃ c,x=.bl c/\if c=true then tb σ H1 Q else Q (.bl false) H1
def Fi (ta:TE):TE:=fun σ H Q=>ta σ H fun x H1=>∃ c,x=.bl c/\Q (.bl (!c)) H1
theorem tj {op} {t:TE} (h:PE X a t):PE X (.BoolOp op [a] pos) t:=fun pins s σ H Q I hw=>BoolOp_one (h pins s σ H Q I hw)
theorem tf (ha:PE X a ta) (hb:PE X (.BoolOp .And (b :: rest) pos) tb):PE X (.BoolOp .And (a :: b :: rest) pos) (Fb ta tb):=by
 intro pins s σ H Q I h
 refine BoolOp_and (thn (ha pins s σ H _ I h) fun v s1 ⟨x,H1,I1,r1,q1⟩=>?_)
 obtain ⟨c,rfl,q1⟩:=q1
 cases r1
 refine wpAny_truthy_bool ?_
 cases c with
 | true=>exact hb pins s1 σ H1 Q I1 q1
 | false=>exact ⟨.bl false,H1,I1,rfl,q1⟩
theorem yS (ha:PE X a ta):PE X (.UnaryOp .Not a pos) (Fi ta):=by
 intro pins s σ H Q I h
 refine UnaryOp_ (thn (ha pins s σ H _ I h) fun v s1 ⟨x,H1,I1,r1,q1⟩=>?_)
 obtain ⟨c,rfl,q1⟩:=q1
 cases r1
 exact not_of (wpAny_truthy_bool ⟨.bl (!c),H1,I1,rfl,q1⟩)
end
end L2
namespace L2
open PySem PySem.Spec PyProof.Rows
def SqL (K:PySem.W.Frag) (H:Hp) (a:Addr) (xs:List V):Prop:=
 Rd H a (.lst xs) \/
  ∃ (o:Obj) (its:Array Value) (n:Nat),K.lookup a=some o/\o.cls=.type "list" /\ o.dict=none/\o.data=.seq its n/\its.size<=sizeLine/\Vals xs its.toList
def SqT (K:PySem.W.Frag) (H:Hp) (a:Addr) (xs:List V):Prop:=
 Rd H a (.tup xs) \/
  ∃ (o:Obj) (its:Array Value) (n:Nat),K.lookup a=some o/\o.cls=.type "tuple" /\ o.data=.seq its n/\its.size<=sizeLine/\Vals xs its.toList
def Fv:Value->Option V
 | .none=>some .non
 | .bool b=>some (.bl b)
 | .int i _=>some (.int i)
 | .str x _=>some (.str x)
 | .bytes b _=>some (.byt b)
 | .float b _=>some (.flt b)
 | .ref a=>some (.ref a)
 | .type n=>some (.ty n)
 | _=>none
theorem RelV.abs {x:V} {u:Value} (r:RelV x u):Fv u=some x:=by
 cases x with
 | non=>cases r; rfl
 | bl _=>cases r; rfl
 | int _=>obtain ⟨t,rfl⟩:=r; rfl
 | str _=>obtain ⟨t,rfl⟩:=r; rfl
 | byt _=>obtain ⟨t,rfl⟩:=r; rfl
 | flt _=>obtain ⟨t,rfl⟩:=r; rfl
 | ref _=>cases r; rfl
 | ty _=>cases r; rfl
theorem RelV.inj {x y:V} {u:Value} (r:RelV x u) (q:RelV y u):x=y:=Option.some.inj (r.abs.symm.trans q.abs)
theorem Vals.inj:∀ {xs ys:List V} {us:List Value},Vals xs us->Vals ys us->xs=ys
 | _,_,_,.nil,.nil=>rfl
 | _,_,_,.cons r t,.cons r' t'=>by rw [r.inj r',Vals.inj t t']
section
variable {X:Cx} {pins:List (Addr×Obj)} {σ:St} {H:Hp} {s:Shared} {a:Addr} {xs ys:List V}
theorem SqL.of {K:PySem.W.Frag} (h:H a=some (.lst xs)):SqL K H a xs:=.inl (.inl h)
theorem SqT.of {K:PySem.W.Frag} (h:H a=some (.tup xs)):SqT K H a xs:=.inl (.inl h)
theorem Inv.list (I:Inv X pins σ H s) (h:SqL X.K H a xs):∃ its:List Value,Vals xs its/\PlainL s.heap a its.toArray/\xs.length<=sizeLine:=by
 rcases h with h | ⟨o,its,n,hk,hc,hd,hs,hz,r⟩
 ·obtain ⟨z,its,n,r,e⟩:=h.ok I.hok
  exact ⟨its,r,⟨_,n,e,rfl,rfl,rfl⟩,z⟩
 ·refine ⟨its.toList,r,⟨o,n,I.kIn a o hk,hc,hd,by simpa using hs⟩,?_⟩
  have e:=r.length
  simp only [Array.length_toList] at e
  omega
theorem Inv.tuple (I:Inv X pins σ H s) (h:SqT X.K H a xs):∃ its:List Value,Vals xs its/\IsTup s.heap a its.toArray/\xs.length<=sizeLine:=by
 rcases h with h | ⟨o,its,n,hk,hc,hs,hz,r⟩
 ·obtain ⟨z,its,r,p⟩:=h.ok I.hok
  exact ⟨its,r,p,z⟩
 ·refine ⟨its.toList,r,⟨o,I.kIn a o hk,hc,n,by simpa using hs⟩,?_⟩
  have e:=r.length
  simp only [Array.length_toList] at e
  omega
theorem Inv.list_inj (I:Inv X pins σ H s) (h:SqL X.K H a xs) (h':SqL X.K H a ys):xs=ys:=by
 obtain ⟨its,r,⟨o,n,e,_,_,d⟩,_⟩:=I.list h
 obtain ⟨its',r',⟨o',n',e',_,_,d'⟩,_⟩:=I.list h'
 rw [e] at e'; cases e'
 rw [d] at d'
 injection d' with d1 _
 have:its=its' := by simpa using congrArg Array.toList d1
 subst this
 exact r.inj r'
theorem Inv.tuple_inj (I:Inv X pins σ H s) (h:SqT X.K H a xs) (h':SqT X.K H a ys):xs=ys:=by
 obtain ⟨its,r,⟨o,e,_,n,d⟩,_⟩:=I.tuple h
 obtain ⟨its',r',⟨o',e',_,n',d'⟩,_⟩:=I.tuple h'
 rw [e] at e'; cases e'
 rw [d] at d'
 injection d' with d1 _
 have:its=its' := by simpa using congrArg Array.toList d1
 subst this
 exact r.inj r'
end
abbrev Cx.wish (X:Cx) (E:Value->Shared->Prop):Cx:={ X with xe:=E }
abbrev Cx.nox (X:Cx):Cx:=X.wish fun _ _=>False
theorem Cx.Ok.wish {X:Cx} (ok:X.Ok) (E:Value->Shared->Prop):(X.wish E).Ok:=
 ⟨ok.mod,ok.kind,ok.glob,ok.blt,ok.above,ok.inj,ok.has,ok.cab,ok.hd,ok.frames,ok.stk,ok.exf,ok.bs,ok.bsz,ok.noex,ok.exfs,ok.funs,ok.frf⟩
theorem Cx.Ok.unwish {X:Cx} {E:Value->Shared->Prop} (ok:(X.wish E).Ok):X.Ok:=
 ⟨ok.mod,ok.kind,ok.glob,ok.blt,ok.above,ok.inj,ok.has,ok.cab,ok.hd,ok.frames,ok.stk,ok.exf,ok.bs,ok.bsz,ok.noex,ok.exfs,ok.funs,ok.frf⟩
section
variable {X:Cx} {pins:List (Addr×Obj)} {σ:St} {H:Hp} {s:Shared} {E:Value->Shared->Prop}
theorem Inv.wish (I:Inv X pins σ H s) (E:Value->Shared->Prop):Inv (X.wish E) pins σ H s:=⟨I.ok.wish E,I.os,I.bare,I.base,I.loc,I.cell,I.free,I.freeC,I.pin,I.hok,I.len⟩
theorem Inv.unwish (I:Inv (X.wish E) pins σ H s):Inv X pins σ H s:=⟨I.ok.unwish,I.os,I.bare,I.base,I.loc,I.cell,I.free,I.freeC,I.pin,I.hok,I.len⟩
theorem SP.unwish {D:Ends} {f:Flow} {s':Shared} (h:SP (X.wish E) pins D f s'):SP X pins D f s' := by
 cases f with
 | next=>obtain ⟨σ',H',I,q⟩:=h; exact ⟨σ',H',I.unwish,q⟩
 | brk=>obtain ⟨σ',H',I,q⟩:=h; exact ⟨σ',H',I.unwish,q⟩
 | cont=>obtain ⟨σ',H',I,q⟩:=h; exact ⟨σ',H',I.unwish,q⟩
 | ret u=>obtain ⟨v,σ',H',I,r,q⟩:=h; exact ⟨v,σ',H',I.unwish,r,q⟩
theorem PSs.nox {st:List Stmt} {t:TS} (h:PSs X.nox st t):PSs X st t:=fun pins s σ H D I hw =>
 wpAny_mono (h pins s σ H D (I.wish _) hw) (fun _ _ q=>q.unwish) fun _ _ z=>False.elim z
end
section
variable {X:Cx} {st:Stmt} {rest:List Stmt} {t u:TS} {e:Expr} {te:TE} {pos:Pos}
def cU:TS:=fun D σ H=>D.nx σ H
def AN (t u:TS):TS:=fun D σ H=>t { D with nx:=u D } σ H
theorem bA:PSs X [] cU:=fun _ _ σ H _ I h=>wpAny_execs_nil ⟨σ,H,I,h⟩
theorem ar (h1:PS X st t) (h2:PSs X rest u):PSs X (st :: rest) (AN t u):=by
 intro pins s σ H D I h
 refine wpAny_execs_cons (thn (h1 pins s σ H { D with nx:=u D } I h) fun f s1 q=>?_)
 cases f with
 | next =>
  obtain ⟨σ',H',I',q⟩:=q
  exact h2 pins s1 σ' H' D I' q
 | ret v=>exact q
 | brk=>exact q
 | cont=>exact q
theorem av (h1:PS X st t):PSs X [st] t:=by
 intro pins s σ H D I h
 refine wpAny_execs_cons (thn (h1 pins s σ H D I h) fun f s1 q=>?_)
 cases f with
 | next=>exact wpAny_execs_nil q
 | ret v=>exact q
 | brk=>exact q
 | cont=>exact q
theorem Inv.quiet {pins:List (Addr×Obj)} {σ:St} {H:Hp} {s:Shared} (I:Inv X pins σ H s):interactive X.env=false:=by simp [interactive,I.ok.kind]
def Ff (te:TE):TS:=fun D σ H=>te σ H fun _ H1=>D.nx σ H1
theorem bV (he:PE X e te) (hs:swapsWith e none pos.line X.env=pure false:=by rfl):PS X (.Expr e pos) (Ff te):=by
 intro pins s σ H D I h
 exact wpAny_Expr_any (thn (he pins s σ H _ I h) fun v s1 ⟨x,H1,I1,r1,q1⟩=>⟨σ,H1,I1,q1⟩) I.quiet hs
def Fj (te:TE):TS:=fun D σ H=>te σ H D.rt
theorem aU (he:PE X e te):PS X (.Return (some e) pos) (Fj te):=by
 intro pins s σ H D I h
 exact wpAny_Return_some (thn (he pins s σ H _ I h) fun v s1 ⟨x,H1,I1,r1,q1⟩=>⟨x,σ,H1,I1,r1,q1⟩)
def EA (c:TT) (t u:TS):TS:=fun D σ H=>c σ H fun b H1=>if b=true then t D σ H1 else u D σ H1
theorem cJ {c:Expr} {a b:List Stmt} {tc:TT} (hc:PT X c tc) (ha:PSs X a t) (hb:PSs X b u):PS X (.If c a b pos) (EA tc t u):=by
 intro pins s σ H D I h
 refine wpAny_If (thn (hc pins s σ H _ I h) fun d s1 ⟨H1,I1,q1⟩=>?_)
 cases d with
 | true=>exact ha pins s1 σ H1 D I1 q1
 | false=>exact hb pins s1 σ H1 D I1 q1
def EB:TS:=fun _ _ _=>False
theorem Ce:PS X st EB:=fun _ _ _ _ _ _ h=>h.elim
end
abbrev TG:=V->St->Hp->(St->Hp->Prop)->Prop
abbrev TGs:=List V->St->Hp->(St->Hp->Prop)->Prop
def PG (X:Cx) (target:Expr) (t:TG):Prop:=
 ∀ (pins:List (Addr×Obj)) (s:Shared) (σ:St) (H:Hp) (v:V) (u:Value) (Q:St->Hp->Prop),Inv X pins σ H s->RelV v u->t v σ H Q ->
  wpAny (model X.prog X.w) X.A (assign target X.env u) (fun _ s'=>∃ σ' H',Inv X pins σ' H' s'/\Q σ' H') X.xe s
def PGs (X:Cx) (ts:List Expr) (t:TGs):Prop:=
 ∀ (pins:List (Addr×Obj)) (s:Shared) (σ:St) (H:Hp) (vs:List V) (us:List Value) (Q:St->Hp->Prop),Inv X pins σ H s->Vals vs us->t vs σ H Q ->
  wpAny (model X.prog X.w) X.A (assignInOrder ((assignEach ts X.env).map (·.2)) us) (fun _ s'=>∃ σ' H',Inv X pins σ' H' s'/\Q σ' H') X.xe s
abbrev DM:=V->V->V->Hp->(Hp->Prop)->Prop
def EL (X:Cx) (t:DM):Prop:=
 ∀ (pins:List (Addr×Obj)) (s:Shared) (σ:St) (H:Hp) (o i v:V) (ov iv u:Value) (Q:Hp->Prop),Inv X pins σ H s->RelV o ov->RelV i iv->RelV v u->t o i v H Q ->
  wpAny (model X.prog X.w) X.A (setItem ov iv u) (fun _ s'=>∃ H',Inv X pins σ H' s'/\Q H') X.xe s
section
variable {X:Cx} {pos:Pos}
def bW (i:Nat):TG:=fun v σ H Q=>Q (σ.set i (some v)) H
theorem az {i:Nat} {x:Str} (hN:X.N.Nodup) (hi:X.N[i]?=some x) (hx:Loc X.env.scope x) (hf:X.fn x=true\/X.env.scope.names.lookup x=some .local:=by first | exact .inl rfl | exact .inr rfl | assumption):PG X (.Name x pos) (bW i):=by
 intro pins s σ H v u Q I r h
 exact wpAny_assign_Name (oC I hN hi hx r (fun s' I'=>⟨_,H,I',h⟩) hf)
def Fx:TGs:=fun vs σ H Q=>vs=[]/\Q σ H
def ET (t:TG) (u:TGs):TGs:=fun vs σ H Q=>∃ v r,vs=v :: r/\t v σ H fun σ' H'=>u r σ' H' Q
theorem kS:PGs X [] Fx:=by
 intro pins s σ H vs us Q I r h
 obtain ⟨e,h⟩:=h
 subst e
 cases r
 exact assignInOrder_nil ⟨σ,H,I,h⟩
theorem cI {e:Expr} {es:List Expr} {t:TG} {u:TGs} (h1:PG X e t) (h2:PGs X es u)
  (hs:(assignEach (e :: es) X.env).map (·.2)=assign e X.env :: (assignEach es X.env).map (·.2):=by rfl):PGs X (e :: es) (ET t u):=by
 intro pins s σ H vs us Q I r h
 obtain ⟨v,vr,e1,h⟩:=h
 subst e1
 cases r with
 | cons r rr =>
  rw [hs]
  refine assignInOrder_cons (thn (h1 pins s σ H _ _ _ I r h) fun _ s1 ⟨σ1,H1,I1,q1⟩=>?_)
  exact h2 pins s1 σ1 H1 _ _ Q I1 rr q1
def EU (K:PySem.W.Frag) (n:Nat) (t:TGs):TG:=fun v σ H Q=>∃ a xs,v=.ref a/\SqT K H a xs/\xs.length=n/\t xs σ H Q
theorem pI {es:List Expr} {k:Nat} {t:TGs} {n:Nat} (hc:X.calm=true) (h:PGs X es t)
  (hn:(assignEach es X.env).length=n:=by rfl) (hst:(assignEach es X.env).findIdx? (·.1)=none:=by rfl):PG X (.Tuple es k pos) (EU X.K n t):=by
 intro pins s σ H v u Q I r hw
 obtain ⟨a,xs,e1,hq,hl,hw⟩:=hw
 subst e1
 cases r
 obtain ⟨its,rv,ht,hz⟩:=I.tuple hq
 refine assign_Tuple_tuple (I.ok.hd hc) ht (by simp [hn,<- hl,rv.length]) hst fun h' hx=>?_
 have I1:Inv X pins σ H { s with heap:=h' }:=I.kept (t' := s.toks) fun b o e=>hx b o (Nat.ne_of_lt (Heap.lt_size e)) e
 exact h pins _ σ H xs _ Q I1 (by simpa using rv) hw
def Fy (to ti:TE) (t:DM):TG:=fun v σ H Q=>to σ H fun o H1=>ti σ H1 fun i H2=>t o i v H2 fun H3=>Q σ H3
theorem En {o i:Expr} {to ti:TE} {t:DM} (ho:PE X o to) (hi:PE X i ti) (hs:EL X t)
  (ha:∀ v,assign (.Subscript o i pos) X.env v=(do
   let ov <- holding [v] (eval o X.env)
   let iv <- holding [v,ov] (eval i X.env)
   standAt pos
   holding [v,ov,iv] (setItem ov iv v)
   release [v,ov,iv] []):=by intro _; rfl):PG X (.Subscript o i pos) (Fy to ti t):=by
 intro pins s σ H v u Q I r h
 rw [ha]
 refine wpAny_bind (wpAny_holding (thn (ho pins s σ H _ I h) fun ov s1 ⟨x,H1,I1,r1,q1⟩=>?_))
 refine wpAny_bind (wpAny_holding (thn (hi pins s1 σ H1 _ I1 q1) fun iv s2 ⟨y,H2,I2,r2,q2⟩=>?_))
 refine wpAny_bind (wpAny_standAt (wpAny_bind (wpAny_holding (thn (hs pins s2 σ H2 x y v ov iv u _ I2 r1 r2 r q2) fun _ s3 ⟨H3,I3,q3⟩=>?_))))
 exact wpAny_release ⟨σ,H3,I3,q3⟩
def tY (te:TE) (g:TG):TS:=fun D σ H=>te σ H fun x H1=>g x σ H1 D.nx
theorem Cd {tg e:Expr} {te:TE} {g:TG} (he:PE X e te) (hg:PG X tg g) (hs:swapsWithSole [tg] e pos.line X.env=pure false:=by rfl) (hw:swappedStores [tg] e X.env=pure none:=by rfl)
  (h1:(assignEach [tg] X.env).map (·.2)=[assign tg X.env]:=by rfl):PS X (.Assign [tg] e pos) (tY te g):=by
 intro pins s σ H D I h
 refine wpAny_Assign_stores (thn (he pins s σ H _ I h) fun v s1 ⟨x,H1,I1,r1,q1⟩=>?_) hs hw
 rw [h1]
 exact thn (hg pins s1 σ H1 x v _ I1 r1 q1) fun _ s2 q=>q
theorem ay {i:Nat} {x:Str} {e:Expr} {te:TE} {pos':Pos} (hN:X.N.Nodup) (hi:X.N[i]?=some x) (hx:Loc X.env.scope x) (he:PE X e te) (hs:swapsWith e (some (.Name x pos')) pos.line X.env=pure false:=by rfl) (hf:X.fn x=true\/X.env.scope.names.lookup x=some .local:=by first | exact .inl rfl | exact .inr rfl | assumption) :
  PS X (.Assign [.Name x pos'] e pos) (tY te (bW i)):=by
 intro pins s σ H D I h
 refine wpAny_Assign_Name (thn (he pins s σ H _ I h) fun v s1 ⟨y,H1,I1,r1,q1⟩=>?_) hs
 exact oC I1 hN hi hx r1 (fun s2 I2=>⟨_,H1,I2,q1⟩) hf
end
section
variable {X:Cx} {pos:Pos}
def wO (c:TT) (tb:TS):TS:=fun D σ H=>∃ W:Nat->St->Hp->Prop,(∃ m,W m σ H)/\∀ m σ H,W m σ H ->
 c σ H fun b H1=>if b=true then ∃ N:St->Hp->Prop,(∀ σ' H',N σ' H'->∃ m',m'<m/\W m' σ' H')/\tb { D with nx:=N,ct:=N,bk:=D.nx } σ H1 else D.nx σ H1
theorem xM {c:Expr} {body:List Stmt} {tc:TT} {tb:TS} (hp:PassesOwn (model X.prog X.w) X.A X.env X.xe) (hc:PT X c tc) (hb:PSs X body tb):PS X (.While c body [] pos) (wO tc tb):=by
 intro pins s σ H D I h
 obtain ⟨W,⟨m0,w0⟩,turn⟩:=h
 refine wpAny_While (codeAny_whileLoop (fun n s'=>∃ σ' H',Inv X pins σ' H' s'/\W n σ' H') ?_ m0 ⟨σ,H,I,w0⟩)
 rintro n s1 ⟨σ1,H1,I1,w1⟩
 refine wpAny_passesOwn hp (thn (hc pins s1 σ1 H1 _ I1 (turn n σ1 H1 w1)) fun b s2 ⟨H2,I2,q2⟩=>?_)
 cases b with
 | true =>
  obtain ⟨N,hN,q2⟩:=q2
  rw [if_pos rfl]
  refine wpAny_passesOwn hp (thn (hb pins s2 σ1 H2 _ I2 q2) fun f s3 q3=>?_)
  cases f with
  | next =>
   obtain ⟨σ3,H3,I3,n3⟩:=q3
   obtain ⟨m',hm,w3⟩:=hN σ3 H3 n3
   exact ⟨m',hm,σ3,H3,I3,w3⟩
  | cont =>
   obtain ⟨σ3,H3,I3,n3⟩:=q3
   obtain ⟨m',hm,w3⟩:=hN σ3 H3 n3
   exact ⟨m',hm,σ3,H3,I3,w3⟩
  | brk=>exact q3
  | ret v=>exact q3
 | false =>
  rw [if_neg Bool.false_ne_true]
  exact wpAny_execs_nil ⟨σ1,H2,I2,q2⟩
end
structure It where
 go:Nat->Hp->Prop
 yld:Nat->Hp->V->Hp->Prop
 stop:Nat->Hp->Prop
def lR (X:Cx) (pins:List (Addr×Obj)) (H:Hp) (b:Addr):Prop:=
 H b=none/\b≠X.env.locals/\b∉X.fs/\(b∈X.ex\/X.s₀.heap.objs.size<=b)/\(∀ x c,X.env.cells.lookup x=some c->c≠b)/\∀ p∈X.pn++pins,p.1≠b
theorem Inv.fpOk {X:Cx} {pins:List (Addr×Obj)} {σ:St} {H H':Hp} {s:Shared} {b:Addr} (I:Inv X pins σ H s) (hb:s.heap.objs.size<=b) (hn:H' b=none):lR X pins H' b:=by
 refine ⟨hn,Nat.ne_of_gt (Nat.lt_of_lt_of_le I.lt hb),I.nofs hb,.inr (Nat.le_trans I.sz hb),fun x c e z=>?_,fun p hp z=>?_⟩
 ·obtain ⟨v,q⟩:=I.cell x c e
  exact absurd (Nat.lt_of_lt_of_le q.lt (by rw [z]; exact hb)) (Nat.lt_irrefl _)
 ·exact absurd (Nat.lt_of_lt_of_le (Heap.lt_size (I.pin p hp).1) (by rw [z]; exact hb)) (Nat.lt_irrefl _)
structure Turn (P:Program) (w:World) (K:PySem.W.Frag) (tg:Expr) (J:It) (fp:List Addr) (it:Addr) (tn:Nat->Heap->Prop):Prop where
 mem:it∈fp
 obj:∀ i h,tn i h->∀ b∈fp,∃ o,h.get? b=some o/\∀ v,o.data≠.cell v
 keep:∀ i h h',tn i h->(∀ b∈fp,∀ o,h.get? b=some o->h'.get? b=some o)->tn i h'
 item:∀ (X:Cx),X.prog=P->X.w=w->X.K=K->X.calm=true->∀ (i:Nat) (pins:List (Addr×Obj)) (s:Shared) (σ:St) (H:Hp) (E:Value->Shared->Prop),Inv X pins σ H s->(∀ b∈fp,lR X pins H b)->tn i s.heap->J.go i H ->
  wpAny (model P w) X.A (pyNext (.ref it)) (fun r s1=>∃ u,r=some u /\
   wpAny (model P w) X.A (letOwnedTupleGo tg (.ref it) u) (fun _ s2=>∃ x H',Inv X pins σ H' s2/\RelV x u/\J.yld i H x H'/\tn (i+1) s2.heap/\∀ b∈fp,H' b=none) E s1) E s
 done:∀ (X:Cx),X.prog=P->X.w=w->X.K=K->X.calm=true->∀ (i:Nat) (pins:List (Addr×Obj)) (s:Shared) (σ:St) (H:Hp) (E:Value->Shared->Prop),Inv X pins σ H s->(∀ b∈fp,lR X pins H b)->tn i s.heap->J.stop i H ->
  wpAny (model P w) X.A (pyNext (.ref it)) (fun r s1=>r=none/\Inv X pins σ H s1) E s
 self:∀ (A:Around) (i:Nat) (s:Shared) (Q:Value->Shared->Prop) (E:Value->Shared->Prop),tn i s.heap->Q (.ref it) s->wpAny (model P w) A (pyIter (.ref it)) Q E s
abbrev TI:=St->Hp->(It->Hp->Prop)->Prop
def PIE (X:Cx) (pins:List (Addr×Obj)) (σ:St) (tg:Expr) (R:It->Hp->Prop) (itv:Value) (s2:Shared):Prop:=
 ∃ (it:Addr) (fp:List Addr) (tn:Nat->Heap->Prop) (J:It) (H':Hp),itv=.ref it/\Inv X pins σ H' s2/\Turn X.prog X.w X.K tg J fp it tn/\tn 0 s2.heap/\(∀ b∈fp,lR X pins H' b)/\R J H'
def PI (X:Cx) (tg iter:Expr) (wi:TI):Prop:=
 ∀ (pins:List (Addr×Obj)) (s:Shared) (σ:St) (H:Hp) (R:It->Hp->Prop),Inv X pins σ H s->wi σ H R ->
  wpAny (model X.prog X.w) X.A (eval iter X.env) (fun v s1=>wpAny (model X.prog X.w) X.A (pyIter v) (PIE X pins σ tg R) X.xe s1) X.xe s
theorem zE {M:Model} {A:Around} {E:Value->Shared->Prop} {s:Shared} {tg:Expr} {it:Addr} {u:Value} {o:Obj} {n:String} {vs:Array Value} {Q:Unit->Shared->Prop} (ho:s.heap.get? it=some o) (hc:o.cls=.type n) (hd:o.data=.fields vs)
  (hn:["enumerate","zip","dict_itemiterator","dict_reverseitemiterator","odict_iterator","itertools.zip_longest","itertools.pairwise"].contains n=false) (hQ:Q () s):wpAny M A (letOwnedTupleGo tg (.ref it) u) Q E s:=by
 unfold letOwnedTupleGo
 cases tg <;> first
  | exact wpAny_pure hQ
  | (cases u <;> first
    | exact wpAny_pure hQ
    | (refine wpAny_bind (wpAny_load ho ?_)
       rw [hc,hd]
       show wpAny M A (if (["enumerate","zip","dict_itemiterator","dict_reverseitemiterator","odict_iterator","itertools.zip_longest","itertools.pairwise"].contains n&&vs[0]?==some (rawInt _))=true then _ else _) Q E s
       rw [if_neg (by intro h; rw [hn,Bool.false_and] at h; cases h)]
       exact wpAny_pure hQ))
def Itl (K:PySem.W.Frag) (a:Addr):It:=
 ⟨fun i H=>∃ xs x,SqL K H a xs/\xs[i]?=some x,fun i H x H'=>H'=H/\∀ xs,SqL K H a xs->xs[i]?=some x,fun i H=>∃ xs,SqL K H a xs/\xs.length<=i⟩
def Itt (K:PySem.W.Frag) (a:Addr):It:=
 ⟨fun i H=>∃ xs x,SqT K H a xs/\xs[i]?=some x,fun i H x H'=>H'=H/\∀ xs,SqT K H a xs->xs[i]?=some x,fun i H=>∃ xs,SqT K H a xs/\xs.length<=i⟩
def Itr (lo:Int) (n:Nat):It:=⟨fun i _=>i<n,fun i H x H'=>H'=H/\x=.int (lo+i),fun i _=>n<=i⟩
theorem AQ {P:Program} {w:World} {K:PySem.W.Frag} {tg:Expr} (a it:Addr):Turn P w K tg (Itl K a) [it] it (fun i h=>h.IsListIter it a i) where
 mem:=by simp
 obj:=fun i h st b hb=>by
  have e:b=it:=by simpa using hb
  subst e
  obtain ⟨o,e,c,d⟩:=st
  exact ⟨o,e,fun v z=>by rw [d] at z; cases z⟩
 keep:=fun i h h' st k=>st.at fun o e=>k it (by simp) o e
 item:=by
  intro X hP hw hK hc i pins s σ H E I hf st hg
  subst hP hw hK
  obtain ⟨xs,x,hq,hx⟩:=hg
  obtain ⟨its,rv,p,hz⟩:=I.list hq
  obtain ⟨u,hu,ru⟩:=rv.get hx
  obtain ⟨f0,f1,f2,f3,f4,f5⟩:=hf it (by simp)
  refine wpAny_pyNext_list_item st p.isList (x:=u) (by simpa using hu) fun h' st' sb=>?_
  have I1:Inv X pins σ H { s with heap:=h' }:=I.turned (t' := s.toks) (fun b o hb e=>(sb.2 b hb).trans e) f0 f1 f3 f4 f5
  obtain ⟨o,e,c,d⟩:=id st'
  exact ⟨u,rfl,zE (s:={ s with heap:=h' }) e c d (by decide) ⟨x,H,I1,ru,⟨rfl,fun ys hy=>by rw [I.list_inj hy hq]; exact hx⟩,st',fun b hb=>(hf b hb).1⟩⟩
 done:=by
  intro X hP hw hK hc i pins s σ H E I hf st hg
  subst hP hw hK
  obtain ⟨xs,hq,hx⟩:=hg
  obtain ⟨its,rv,p,hz⟩:=I.list hq
  obtain ⟨f0,f1,f2,f3,f4,f5⟩:=hf it (by simp)
  have hl:=rv.length
  exact wpAny_pyNext_list_end (I.ok.hd hc) st p.isList (by simp; omega) fun h' eb=>⟨rfl,I.turned (t' := s.toks) (fun b o hb e=>eb b o hb e) f0 f1 f3 f4 f5⟩
 self:=fun _ _ _ _ _ st h=>wpAny_pyIter_listiter st h
theorem zf {P:Program} {w:World} {K:PySem.W.Frag} {tg:Expr} (a it:Addr):Turn P w K tg (Itt K a) [it] it (fun i h=>h.IsTupleIter it a i) where
 mem:=by simp
 obj:=fun i h st b hb=>by
  have e:b=it:=by simpa using hb
  subst e
  obtain ⟨o,e,c,d⟩:=st
  exact ⟨o,e,fun v z=>by rw [d] at z; cases z⟩
 keep:=fun i h h' st k=>st.at fun o e=>k it (by simp) o e
 item:=by
  intro X hP hw hK hc i pins s σ H E I hf st hg
  subst hP hw hK
  obtain ⟨xs,x,hq,hx⟩:=hg
  obtain ⟨its,rv,p,hz⟩:=I.tuple hq
  obtain ⟨u,hu,ru⟩:=rv.get hx
  obtain ⟨f0,f1,f2,f3,f4,f5⟩:=hf it (by simp)
  refine wpAny_pyNext_tuple_item st (show s.heap.IsTuple a its.toArray from p) (x:=u) (by simpa using hu) fun h' st' sb=>?_
  have I1:Inv X pins σ H { s with heap:=h' }:=I.turned (t' := s.toks) (fun b o hb e=>(sb.2 b hb).trans e) f0 f1 f3 f4 f5
  obtain ⟨o,e,c,d⟩:=id st'
  exact ⟨u,rfl,zE (s:={ s with heap:=h' }) e c d (by decide) ⟨x,H,I1,ru,⟨rfl,fun ys hy=>by rw [I.tuple_inj hy hq]; exact hx⟩,st',fun b hb=>(hf b hb).1⟩⟩
 done:=by
  intro X hP hw hK hc i pins s σ H E I hf st hg
  subst hP hw hK
  obtain ⟨xs,hq,hx⟩:=hg
  obtain ⟨its,rv,p,hz⟩:=I.tuple hq
  obtain ⟨f0,f1,f2,f3,f4,f5⟩:=hf it (by simp)
  have hl:=rv.length
  exact wpAny_pyNext_tuple_end (I.ok.hd hc) st (show s.heap.IsTuple a its.toArray from p) (by simp; omega) fun h' eb=>⟨rfl,I.turned (t' := s.toks) (fun b o hb e=>eb b o hb e) f0 f1 f3 f4 f5⟩
 self:=fun _ _ _ _ _ st h=>wpAny_pyIter_tupleiter st h
theorem ze {P:Program} {w:World} {K:PySem.W.Frag} {tg:Expr} (it:Addr) (lo:Int) (n:Nat):Turn P w K tg (Itr lo n) [it] it (fun i h=>IsRangeIter h it (lo+(i:Nat)*1) ((n:Int)-(i:Nat)) 1) where
 mem:=by simp
 obj:=fun i h st b hb=>by
  have e:b=it:=by simpa using hb
  subst e
  exact ⟨_,st,fun v z=>by
   have z':Data.fields _=Data.cell v:=z
   cases z'⟩
 keep:=fun i h h' st k=>k it (by simp) _ st
 item:=by
  intro X hP hw hK hc i pins s σ H E I hf st hg
  subst hP hw hK
  obtain ⟨f0,f1,f2,f3,f4,f5⟩:=hf it (by simp)
  have W:=Walks.range (prog:=X.prog) (w:=X.w) (I.ok.hd hc) it lo 1 n
  refine W.item i s _ _ hg st fun v h' tk hv st' kk=>?_
  obtain ⟨t,rfl⟩:=hv
  have I1:Inv X pins σ H { s with heap:=h',toks:=tk }:=I.turned (fun b o hb e=>kk b o (by simpa using hb) e) f0 f1 f3 f4 f5
  refine ⟨_,rfl,zE (s:={ s with heap:=h',toks:=tk }) (n := "range_iterator") st' rfl rfl (by decide) ⟨.int (lo+i),H,I1,⟨t,?_⟩,⟨rfl,rfl⟩,st',fun b hb=>(hf b hb).1⟩⟩
  rw [Int.mul_one]
 done:=by
  intro X hP hw hK hc i pins s σ H E I hf st hg
  subst hP hw hK
  obtain ⟨f0,f1,f2,f3,f4,f5⟩:=hf it (by simp)
  exact wpAny_pyNext_range_end (I.ok.hd hc) st (by have:n<=i:=hg; omega) fun h' eb=>⟨rfl,I.turned (t' := s.toks) (fun b o hb e=>eb b o hb e) f0 f1 f3 f4 f5⟩
 self:=fun _ _ _ _ _ st h=>wpAny_pyIter_rangeiter st h
end L2
namespace L2
open PySem PySem.Spec PyProof.Rows
section
variable {X:Cx} {tg:Expr}
def EW (K:PySem.W.Frag) (tl:TE):TI:=fun σ H R=>tl σ H fun x H1=>∃ a,x=.ref a/\(∃ xs,SqL K H1 a xs)/\R (Itl K a) H1
def Fz (K:PySem.W.Frag) (tl:TE):TI:=fun σ H R=>tl σ H fun x H1=>∃ a,x=.ref a/\(∃ xs,SqT K H1 a xs)/\R (Itt K a) H1
theorem cF {l:Expr} {tl:TE} (hl:PE X l tl):PI X tg l (EW X.K tl):=by
 intro pins s σ H R I h
 refine thn (hl pins s σ H _ I h) fun v s1 ⟨x,H1,I1,r1,q1⟩=>?_
 obtain ⟨a,e,⟨xs,hq⟩,q⟩:=q1
 subst e
 cases r1
 obtain ⟨its,rv,p,hz⟩:=I1.list hq
 refine wpAny_pyIter_list p.isList ?_
 refine ⟨s1.heap.objs.size,[s1.heap.objs.size],_,_,H1,rfl,I1.kept (t' := s1.toks) fun b o e=>Heap.get?_push_of_some _ e,AQ a _,⟨_,Heap.get?_push_size _ rfl,rfl,rfl⟩,fun b hb=>?_,q⟩
 have e:b=s1.heap.objs.size:=by simpa using hb
 subst e
 exact I1.fpOk (Nat.le_refl _) (I1.hok.fresh (Nat.le_refl _))
theorem gY {l:Expr} {tl:TE} (hl:PE X l tl):PI X tg l (Fz X.K tl):=by
 intro pins s σ H R I h
 refine thn (hl pins s σ H _ I h) fun v s1 ⟨x,H1,I1,r1,q1⟩=>?_
 obtain ⟨a,e,⟨xs,hq⟩,q⟩:=q1
 subst e
 cases r1
 obtain ⟨its,rv,p,hz⟩:=I1.tuple hq
 refine wpAny_pyIter_tuple (show s1.heap.IsTuple a its.toArray from p) ?_
 refine ⟨s1.heap.objs.size,[s1.heap.objs.size],_,_,H1,rfl,I1.kept (t' := s1.toks) fun b o e=>Heap.get?_push_of_some _ e,zf a _,⟨_,Heap.get?_push_size _ rfl,rfl,rfl⟩,fun b hb=>?_,q⟩
 have e:b=s1.heap.objs.size:=by simpa using hb
 subst e
 exact I1.fpOk (Nat.le_refl _) (I1.hok.fresh (Nat.le_refl _))
theorem Cr {pins:List (Addr×Obj)} {σ:St} {H:Hp} {s:Shared} {R:It->Hp->Prop} {E:Value->Shared->Prop} {lo hi:Int} {t u v:Tok} {tk:Nat} (I:Inv X pins σ H s) (h1 : -(2^62)<=lo) (h2:lo<2^62) (h3 : -(2^62)<=hi) (h4:hi<2^62)
  (q:R (Itr lo (hi-lo).toNat) H):wpAny (model X.prog X.w) X.A (pyIter (.ref s.heap.objs.size)) (PIE X pins σ tg R) E { s with heap:=s.heap.push { cls:=.type "range",data:=.fields #[.int lo t,.int hi u,.int 1 v] },toks:=tk }:=by
 refine wpAny_pyIter_range (IsRange.new ..) (small_one h1 h2 h3 h4) ?_
 have I1:Inv X pins σ H { s with heap:=s.heap.push { cls:=.type "range",data:=.fields #[.int lo t,.int hi u,.int 1 v] },toks:=tk }:=I.kept fun b o e=>Heap.get?_push_of_some _ e
 refine ⟨(s.heap.push { cls:=.type "range",data:=.fields #[.int lo t,.int hi u,.int 1 v] }).objs.size,[(s.heap.push { cls:=.type "range",data:=.fields #[.int lo t,.int hi u,.int 1 v] }).objs.size],_,_,H,rfl,
  I1.kept (t' := tk) fun b o e=>Heap.get?_push_of_some _ e,ze _ lo (hi-lo).toNat,?_,fun b hb=>?_,q⟩
 ·have e1:lo+((0:Nat):Int)*1=lo:=by simp
  have e2:(((hi-lo).toNat:Nat):Int)-((0:Nat):Int)=Builtin.Range.rangeSize lo hi 1:=by rw [rangeSize_one]; split <;> omega
  show IsRangeIter _ _ (lo+((0:Nat):Int)*1) ((((hi-lo).toNat:Nat):Int)-((0:Nat):Int)) 1
  rw [e1,e2]
  exact Heap.get?_push_size _ rfl
 ·have e:b=(s.heap.push { cls:=.type "range",data:=.fields #[.int lo t,.int hi u,.int 1 v] }).objs.size:=by simpa using hb
  subst e
  exact I1.fpOk (Nat.le_refl _) (I1.hok.fresh (Nat.le_refl _))
def EX (ta:TA):TI:=fun σ H R=>ta σ H fun vs H1=>∃ j:Int,vs=[.int j]/\-(2^62)<=j/\j<2^62/\R (Itr 0 j.toNat) H1
theorem cq {a:Expr} {ta:TA} {p pos:Pos} (hg:Gl X "range") (hm:X.mg "range" = none) (ha:PA X [a] ta) (hs:starEach [a] X.env=[(false,eval a X.env)]:=by rfl):PI X tg (.Call (.Name "range" p) [a] [] pos) (EX ta):=by
 intro pins s σ H R I h
 refine Call_ (ky I hg hm boot_range (PyProof.Rows.callWith_type1 (thn (ha pos pins s σ H _ I h) fun us s1 ⟨vs,H1,I1,r1,q1⟩=>?_) hs rfl))
 obtain ⟨j,e,q1,q2,q⟩:=q1
 subst e
 cases r1 with
 | cons r rr =>
  cases rr
  obtain ⟨t,rfl⟩:=r
  exact call_range_1 (Cr I1 (by omega) (by omega) q1 q2 (by simpa using q))
def pT (wi:TI) (g:TG) (tb:TS):TS:=fun D σ H=>wi σ H fun J H1=>∃ W:Nat->Nat->St->Hp->Prop,(∃ m,W 0 m σ H1)/\∀ i m σ H,W i m σ H ->
 (J.stop i H/\D.nx σ H)\/(J.go i H/\∃ N:St->Hp->Prop,(∀ σ' H',N σ' H'->∃ m',m'<m/\W (i+1) m' σ' H')/\∀ x H',J.yld i H x H'->g x σ H' fun σ2 H2=>tb { D with nx:=N,ct:=N,bk:=D.nx } σ2 H2)
def wq (fp:List Addr) (h:Heap):List (Addr×Obj):=fp.filterMap fun b=>(h.get? b).map fun o=>(b,o)
theorem jJ {fp:List Addr} {h:Heap} {b:Addr} {o:Obj} (hb:b∈fp) (e:h.get? b=some o):(b,o)∈wq fp h:=List.mem_filterMap.mpr ⟨b,hb,by rw [e]; rfl⟩
theorem Ay {fp:List Addr} {h:Heap} {p:Addr×Obj} (hp:p∈wq fp h):p.1∈fp/\h.get? p.1=some p.2:=by
 obtain ⟨b,hb,e⟩:=List.mem_filterMap.mp hp
 cases q:h.get? b with
 | none=>rw [q] at e; cases e
 | some o =>
  rw [q] at e
  have e':(b,o)=p:=Option.some.inj e
  subst e'
  exact ⟨hb,q⟩
theorem Inv.pinned {pins:List (Addr×Obj)} {σ:St} {H:Hp} {s:Shared} {fp:List Addr} (I:Inv X pins σ H s) (hf:∀ b∈fp,lR X pins H b) (ho:∀ b∈fp,∃ o,s.heap.get? b=some o/\∀ v,o.data≠.cell v):Inv X (pins++wq fp s.heap) σ H s:=
 I.pins_of fun p hp=>(List.mem_append.mp hp).elim (fun z=>I.pin p (List.mem_append_right _ z)) fun z=>by
  obtain ⟨hb,e⟩:=Ay z
  obtain ⟨f0,f1,f2,_⟩:=hf p.1 hb
  obtain ⟨o,e',d⟩:=ho p.1 hb
  rw [e] at e'; cases e'
  exact ⟨e,f0,f1,f2,d⟩
theorem Inv.unpinned {pins pl:List (Addr×Obj)} {σ:St} {H:Hp} {s:Shared} (I:Inv X (pins++pl) σ H s):Inv X pins σ H s:=I.pins_of fun p hp=>I.pin p (List.mem_append_right _ (List.mem_append_left _ hp))
theorem bR {iter:Expr} {body:List Stmt} {wi:TI} {g:TG} {tb:TS} {pos:Pos} (hp:PassesOwn (model X.prog X.w) X.A X.env X.xe) (hc:X.calm=true) (hi:PI X tg iter wi) (hg:PG X tg g) (hb:PSs X body tb)
  (hs:∀ x,foldedSetIterable iter X.env x=pure x:=by intro _; rfl):PS X (.For tg iter body [] pos) (pT wi g tb):=by
 intro pins s σ H D I h
 refine wpAny_For (thn (hi pins s σ H _ I h) fun v s1 h1=>thn h1 fun itv s2 h2=>?_) hs
 obtain ⟨it,fp,tn,J,H2,e,I2,T,st2,f2,W,⟨m0,w0⟩,turn⟩:=h2
 subst e
 have stat:∀ {H':Hp},(∀ b∈fp,H' b=none)->∀ b∈fp,lR X pins H' b:=fun hn b hb=>⟨hn b hb,(f2 b hb).2⟩
 refine codeAny_forLoop_any (fun n s'=>∃ i σ' H',Inv X pins σ' H' s'/\tn i s'.heap/\(∀ b∈fp,H' b=none)/\W i n σ' H') ?_ m0 ⟨0,σ,H2,I2,st2,fun b hb=>(f2 b hb).1,w0⟩
 rintro n s3 ⟨i,σ3,H3,I3,st3,fr3,w3⟩
 rcases turn i n σ3 H3 w3 with ⟨stop,qn⟩ | ⟨go,N,hN,step⟩
 ·refine wpAny_passesOwn hp (thn (T.done X rfl rfl rfl hc i pins s3 σ3 H3 X.xe I3 (stat fr3) st3 stop) fun r s4 ⟨hr,I4⟩=>?_)
  subst hr
  exact wpAny_execs_nil ⟨σ3,H3,I4,qn⟩
 ·refine wpAny_passesOwn hp (thn (T.item X rfl rfl rfl hc i pins s3 σ3 H3 X.xe I3 (stat fr3) st3 go) fun r s4 ⟨u,hr,h4⟩=>?_)
  subst hr
  refine wpAny_passesOwn hp (thn h4 fun _ s5 ⟨x,H5,I5,r5,y5,st5,fr5⟩=>?_)
  have I5' := I5.pinned (stat fr5) (T.obj _ _ st5)
  refine wpAny_passesOwn hp (thn (hg _ s5 σ3 H5 x u _ I5' r5 (step x H5 y5)) fun _ s6 ⟨σ6,H6,I6,q6⟩=>?_)
  refine wpAny_passesOwn hp (thn (hb _ s6 σ6 H6 _ I6 q6) fun f s7 q7=>?_)
  have again:∀ {σ7:St} {H7:Hp},Inv X (pins++wq fp s5.heap) σ7 H7 s7->N σ7 H7->∃ m,m<n/\∃ i σ' H',Inv X pins σ' H' s7/\tn i s7.heap/\(∀ b∈fp,H' b=none)/\W i m σ' H' := fun {σ7 H7} I7 n7=>by
   obtain ⟨m',hm,w7⟩:=hN σ7 H7 n7
   refine ⟨m',hm,i+1,σ7,H7,I7.unpinned,T.keep _ _ _ st5 fun b hb o e=>(I7.pin (b,o) (List.mem_append_right _ (List.mem_append_right _ (jJ hb e)))).1,fun b hb=>?_,w7⟩
   obtain ⟨o,e,d⟩:=T.obj _ _ st5 b hb
   exact (I7.pin (b,o) (List.mem_append_right _ (List.mem_append_right _ (jJ hb e)))).2.1
  cases f with
  | next=>obtain ⟨σ7,H7,I7,n7⟩:=q7; exact again I7 n7
  | cont=>obtain ⟨σ7,H7,I7,n7⟩:=q7; exact again I7 n7
  | brk=>obtain ⟨σ7,H7,I7,q7⟩:=q7; exact ⟨σ7,H7,I7.unpinned,q7⟩
  | ret v=>obtain ⟨x7,σ7,H7,I7,r7,q7⟩:=q7; exact ⟨x7,σ7,H7,I7.unpinned,r7,q7⟩
end
theorem fJ {K:PySem.W.Frag} {a:Addr} {xs:List V} {g:TG} {tb:TS} {D:Ends} {σ:St} {H:Hp} (Pv:Nat->St->Hp->Prop) (h0:Pv 0 σ H) (hl:∀ i σ H,i<=xs.length->Pv i σ H->SqL K H a xs)
  (hs:∀ i x σ H,xs[i]?=some x->Pv i σ H->g x σ H fun σ2 H2=>tb { D with nx:=Pv (i+1),ct:=Pv (i+1),bk:=D.nx } σ2 H2) (hd:∀ σ H,Pv xs.length σ H->D.nx σ H) :
  ∃ W:Nat->Nat->St->Hp->Prop,(∃ m,W 0 m σ H)/\∀ i m σ H,W i m σ H ->
   ((Itl K a).stop i H/\D.nx σ H)\/((Itl K a).go i H/\∃ N:St->Hp->Prop,(∀ σ' H',N σ' H'->∃ m',m'<m/\W (i+1) m' σ' H')/\∀ x H',(Itl K a).yld i H x H'->g x σ H' fun σ2 H2=>tb { D with nx:=N,ct:=N,bk:=D.nx } σ2 H2):=by
 refine ⟨fun i m σ H=>m=xs.length-i/\i<=xs.length/\Pv i σ H,⟨xs.length,by simp,Nat.zero_le _,h0⟩,?_⟩
 rintro i m σ H ⟨rfl,hi,p⟩
 have q:=hl i σ H hi p
 by_cases hlt:i<xs.length
 ·refine .inr ⟨⟨xs,xs[i],q,by simp [hlt]⟩,Pv (i+1),fun σ' H' p'=>⟨xs.length-(i+1),by omega,rfl,hlt,p'⟩,fun x H' y=>?_⟩
  obtain ⟨e,y⟩:=y
  subst e
  exact hs i x σ _ (y xs q) p
 ·have e:i=xs.length:=by omega
  subst e
  exact .inl ⟨⟨xs,q,Nat.le_refl _⟩,hd σ H p⟩
theorem kM {K:PySem.W.Frag} {a:Addr} {xs:List V} {g:TG} {tb:TS} {D:Ends} {σ:St} {H:Hp} (Pv:Nat->St->Hp->Prop) (h0:Pv 0 σ H) (hl:∀ i σ H,i<=xs.length->Pv i σ H->SqT K H a xs)
  (hs:∀ i x σ H,xs[i]?=some x->Pv i σ H->g x σ H fun σ2 H2=>tb { D with nx:=Pv (i+1),ct:=Pv (i+1),bk:=D.nx } σ2 H2) (hd:∀ σ H,Pv xs.length σ H->D.nx σ H) :
  ∃ W:Nat->Nat->St->Hp->Prop,(∃ m,W 0 m σ H)/\∀ i m σ H,W i m σ H ->
   ((Itt K a).stop i H/\D.nx σ H)\/((Itt K a).go i H/\∃ N:St->Hp->Prop,(∀ σ' H',N σ' H'->∃ m',m'<m/\W (i+1) m' σ' H')/\∀ x H',(Itt K a).yld i H x H'->g x σ H' fun σ2 H2=>tb { D with nx:=N,ct:=N,bk:=D.nx } σ2 H2):=by
 refine ⟨fun i m σ H=>m=xs.length-i/\i<=xs.length/\Pv i σ H,⟨xs.length,by simp,Nat.zero_le _,h0⟩,?_⟩
 rintro i m σ H ⟨rfl,hi,p⟩
 have q:=hl i σ H hi p
 by_cases hlt:i<xs.length
 ·refine .inr ⟨⟨xs,xs[i],q,by simp [hlt]⟩,Pv (i+1),fun σ' H' p'=>⟨xs.length-(i+1),by omega,rfl,hlt,p'⟩,fun x H' y=>?_⟩
  obtain ⟨e,y⟩:=y
  subst e
  exact hs i x σ _ (y xs q) p
 ·have e:i=xs.length:=by omega
  subst e
  exact .inl ⟨⟨xs,q,Nat.le_refl _⟩,hd σ H p⟩
theorem fj {lo:Int} {n:Nat} {g:TG} {tb:TS} {D:Ends} {σ:St} {H:Hp} (Pv:Nat->St->Hp->Prop) (h0:Pv 0 σ H)
  (hs:∀ i σ H,i<n->Pv i σ H->g (.int (lo+i)) σ H fun σ2 H2=>tb { D with nx:=Pv (i+1),ct:=Pv (i+1),bk:=D.nx } σ2 H2) (hd:∀ σ H,Pv n σ H->D.nx σ H) :
  ∃ W:Nat->Nat->St->Hp->Prop,(∃ m,W 0 m σ H)/\∀ i m σ H,W i m σ H ->
   ((Itr lo n).stop i H/\D.nx σ H)\/((Itr lo n).go i H/\∃ N:St->Hp->Prop,(∀ σ' H',N σ' H'->∃ m',m'<m/\W (i+1) m' σ' H')/\∀ x H',(Itr lo n).yld i H x H'->g x σ H' fun σ2 H2=>tb { D with nx:=N,ct:=N,bk:=D.nx } σ2 H2):=by
 refine ⟨fun i m σ H=>m=n-i/\i<=n/\Pv i σ H,⟨n,by simp,Nat.zero_le _,h0⟩,?_⟩
 rintro i m σ H ⟨rfl,hi,p⟩
 by_cases hlt:i<n
 ·refine .inr ⟨hlt,Pv (i+1),fun σ' H' p'=>⟨n-(i+1),by omega,rfl,hlt,p'⟩,fun x H' y=>?_⟩
  obtain ⟨e,y⟩:=y
  subst e y
  exact hs i σ _ hlt p
 ·have e:i=n:=by omega
  subst e
  exact .inl ⟨Nat.le_refl _,hd σ H p⟩
end L2
namespace L2
open PySem PySem.Spec PyProof.Rows
abbrev R2:=V->V->Hp->VK->Prop
def OpR (X:Cx) (f:Value->Value->Sem Value) (r:R2):Prop:=
 ∀ (pins:List (Addr×Obj)) (s:Shared) (σ:St) (H:Hp) (x y:V) (v u:Value) (Q:VK),Inv X pins σ H s->RelV x v->RelV y u->r x y H Q ->
  wpAny (model X.prog X.w) X.A (f v u) (EP X pins σ Q) X.xe s
def eU (X:Cx) (f:Value) (r:List V->Hp->VK->Prop):Prop:=
 ∀ (pins:List (Addr×Obj)) (s:Shared) (σ:St) (H:Hp) (xs:List V) (us:List Value) (Q:VK),Inv X pins σ H s->Vals xs us->r xs H Q ->
  wpAny (model X.prog X.w) X.A (call f us) (EP X pins σ Q) X.xe s
def Fu (X:Cx) (r:V->Hp->(Bool->Hp->Prop)->Prop):Prop:=
 ∀ (pins:List (Addr×Obj)) (s:Shared) (σ:St) (H:Hp) (x:V) (v:Value) (Q:Bool->Hp->Prop),Inv X pins σ H s->RelV x v->r x H Q ->
  wpAny (model X.prog X.w) X.A (truthy v) (TP X pins σ Q) X.xe s
def tOp (r:R2) (ta tb:TE):TE:=fun σ H Q=>ta σ H fun x H1=>tb σ H1 fun y H2=>r x y H2 Q
def rI (C:Int->Int->Prop) (g:Int->Int->V):R2:=fun x y H Q=>∃ i j,x=.int i/\y=.int j/\C i j/\Q (g i j) H
def rI0 (g:Int->Int->V):R2:=fun x y H Q=>∃ i j,x=.int i/\y=.int j/\Q (g i j) H
section
variable {X:Cx} {a b c:Expr} {ta tb tc:TE} {pos:Pos}
theorem DP (ha:PE X a ta) (hb:PE X b tb) {pins:List (Addr×Obj)} {s:Shared} {σ:St} {H:Hp} {R:V->V->Hp->Prop} (I:Inv X pins σ H s)
  (h:ta σ H fun x H1=>tb σ H1 fun y H2=>R x y H2) {Q:Value->Shared->Prop} {f:Value->Value->Sem Value}
  (hf:∀ v u s2 x y H2,Inv X pins σ H2 s2->RelV x v->RelV y u->R x y H2->wpAny (model X.prog X.w) X.A (f v u) Q X.xe s2) :
  wpAny (model X.prog X.w) X.A (eval a X.env) (fun v s₁=>wpAny (model X.prog X.w) X.A (eval b X.env) (fun u s₂=>wpAny (model X.prog X.w) X.A (f v u) Q X.xe s₂) X.xe s₁) X.xe s:=by
 refine thn (ha pins s σ H _ I h) fun v s1 ⟨x,H1,I1,r1,q1⟩=>?_
 refine thn (hb pins s1 σ H1 _ I1 q1) fun u s2 ⟨y,H2,I2,r2,q2⟩=>?_
 exact hf v u s2 x y H2 I2 r1 r2 q2
theorem aS {op:Operator} {r:R2} (ho:OpR X (binaryOp op) r) (ha:PE X a ta) (hb:PE X b tb):PE X (.BinOp a op b pos) (tOp r ta tb):=by
 intro pins s σ H Q I h
 exact wpAny_BinOp (DP ha hb I h fun v u s2 x y H2 I2 rx ry q=>ho pins s2 σ H2 x y v u Q I2 rx ry q)
theorem opI {f:Value->Value->Sem Value} {C:Int->Int->Prop} {g:Int->Int->Int}
  (rule:∀ (i j:Int) (t u:Tok) (s:Shared) (Q:Value->Shared->Prop) (E:Value->Shared->Prop),C i j->Q (.int (g i j) s.toks) { s with toks:=s.toks+1 }->wpAny (model X.prog X.w) X.A (f (.int i t) (.int j u)) Q E s) :
  OpR X f (rI C fun i j=>.int (g i j)):=by
 intro pins s σ H x y v u Q I rx ry h
 obtain ⟨i,j,rfl,rfl,hc,q⟩:=h
 obtain ⟨t,rfl⟩:=rx
 obtain ⟨t',rfl⟩:=ry
 exact rule i j t t' s _ _ hc ⟨.int (g i j),H,I.tok _,⟨_,rfl⟩,q⟩
theorem FE {f:Value->Value->Sem Value} {g:Int->Int->Int}
  (rule:∀ (i j:Int) (t u:Tok) (s:Shared) (Q:Value->Shared->Prop) (E:Value->Shared->Prop),Q (.int (g i j) s.toks) { s with toks:=s.toks+1 }->wpAny (model X.prog X.w) X.A (f (.int i t) (.int j u)) Q E s) :
  OpR X f (rI0 fun i j=>.int (g i j)):=by
 intro pins s σ H x y v u Q I rx ry h
 obtain ⟨i,j,rfl,rfl,q⟩:=h
 obtain ⟨t,rfl⟩:=rx
 obtain ⟨t',rfl⟩:=ry
 exact rule i j t t' s _ _ ⟨.int (g i j),H,I.tok _,⟨_,rfl⟩,q⟩
theorem De {f:Value->Value->Sem Value} {g:Int->Int->Bool}
  (rule:∀ (i j:Int) (t u:Tok) (s:Shared) (Q:Value->Shared->Prop) (E:Value->Shared->Prop),Q (.bool (g i j)) s->wpAny (model X.prog X.w) X.A (f (.int i t) (.int j u)) Q E s) :
  OpR X f (rI0 fun i j=>.bl (g i j)):=by
 intro pins s σ H x y v u Q I rx ry h
 obtain ⟨i,j,rfl,rfl,q⟩:=h
 obtain ⟨t,rfl⟩:=rx
 obtain ⟨t',rfl⟩:=ry
 exact rule i j t t' s _ _ ⟨.bl (g i j),H,I,rfl,q⟩
def Ft (i j:Int):Prop:=0<j/\j<1073741824
def CMul (i j:Int):Prop:=(-(2^64)<i/\i<2^64)\/(-(2^64)<j/\j<2^64)
theorem CMul.ok {i j:Int} (h:CMul i j):IntMulOk i j:=by
 rcases h with ⟨h1,h2⟩ | ⟨h1,h2⟩
 ·exact .of_left (intBits_le_64 h1 h2)
 ·exact .of_right (intBits_le_64 h1 h2)
theorem dH:OpR X (binaryOp .Add) (rI0 fun i j=>.int (i+j)):=FE fun _ _ _ _ _ _ _ q=>add_int q
theorem dI:OpR X (binaryOp .Mult) (rI CMul fun i j=>.int (i*j)):=opI fun _ _ _ _ _ _ _ hc q=>mul_int q hc.ok
theorem wm:OpR X (binaryOp .FloorDiv) (rI Ft fun i j=>.int (i / j)):=opI fun i j _ _ _ _ _ hc q=>by
 have h1:(0:Int)<j:=hc.1
 have h2:j<1073741824:=hc.2
 exact floordiv_int (by omega) (by rw [Int.fdiv_eq_ediv_of_nonneg i (by omega)]; exact q) (.inl (PyProof.noPylong_small (by omega)))
theorem cE:OpR X (binaryOp .Mod) (rI (fun _ j=>0<j) fun i j=>.int (i%j)):=opI fun i j _ _ _ _ _ hc q=>by
 have h1:(0:Int)<j:=hc
 exact mod_int' (by omega) (by rw [Int.fmod_eq_emod_of_nonneg i (by omega)]; exact q)
end
def E9:V->V->Bool
 | .non,.non=>true | .non,.int _=>true | .int _,.non=>true | .non,.bl _=>true | .bl _,.non=>true | .non,.str _=>true | .str _,.non=>true
 | .int _,.int _=>true | .bl _,.bl _=>true | .str _,.str _=>true | .byt _,.byt _=>true
 | .int _,.str _=>true | .str _,.int _=>true | .bl _,.str _=>true | .str _,.bl _=>true
 | _,_=>false
def rEq:R2:=fun x y H Q=>E9 x y=true/\Q (.bl (decide (x=y))) H
def rNe:R2:=fun x y H Q=>E9 x y=true/\Q (.bl (!decide (x=y))) H
theorem zz {i j:Int}:decide (V.int i=V.int j)=(i==j):=by
 rw [Bool.eq_iff_iff]
 simp
theorem Bg {i j:Bool}:decide (V.bl i=V.bl j)=(i==j):=by
 rw [Bool.eq_iff_iff]
 simp
theorem zA {i j:Str}:decide (V.str i=V.str j)=(i==j):=by
 rw [Bool.eq_iff_iff]
 simp
theorem zy {i j:Array UInt8}:decide (V.byt i=V.byt j)=(i.toList==j.toList):=by
 rw [Bool.eq_iff_iff]
 cases i
 cases j
 simp
section
variable {X:Cx} {a b c:Expr} {ta tb tc:TE} {pos:Pos}
theorem bE {pins:List (Addr×Obj)} {σ:St} {H:Hp} {s:Shared} {Q:VK} {k k':Bool} (I:Inv X pins σ H s) (q:Q (.bl k) H) (e:k=k'):EP X pins σ Q (.bool k') s:=by
 subst e
 exact ⟨.bl k,H,I,rfl,q⟩
theorem jU:OpR X (compareOp .Eq) rEq:=by
 intro pins s σ H x y v u Q I rx ry h
 obtain ⟨hs,q⟩:=h
 cases x with
 | non =>
  cases rx
  cases y with
  | non=>cases ry; exact PySem.EqNone.eq_none_none (bE I q (by simp))
  | bl j=>cases ry; exact PySem.EqNone.eq_none_bool (bE I q (by simp))
  | int j=>obtain ⟨t',rfl⟩:=ry; exact PySem.EqNone.eq_none_int (bE I q (by simp))
  | str j=>obtain ⟨t',rfl⟩:=ry; exact PySem.EqNone.eq_none_str (bE I q (by simp))
  | _=>exact absurd (show false=true from hs) Bool.false_ne_true
 | bl i =>
  cases rx
  cases y with
  | non=>cases ry; exact PySem.EqNone.eq_bool_none (bE I q (by simp))
  | bl j=>cases ry; exact eq_bool (bE I q Bg)
  | str j=>obtain ⟨t',rfl⟩:=ry; exact PySem.EqMixed.eq_bool_str (bE I q (by simp))
  | _=>exact absurd (show false=true from hs) Bool.false_ne_true
 | int i =>
  obtain ⟨t,rfl⟩:=rx
  cases y with
  | non=>cases ry; exact PySem.EqNone.eq_int_none (bE I q (by simp))
  | int j=>obtain ⟨t',rfl⟩:=ry; exact eq_int (bE I q zz)
  | str j=>obtain ⟨t',rfl⟩:=ry; exact PySem.EqMixed.eq_int_str (bE I q (by simp))
  | _=>exact absurd (show false=true from hs) Bool.false_ne_true
 | str i =>
  obtain ⟨t,rfl⟩:=rx
  cases y with
  | non=>cases ry; exact PySem.EqNone.eq_str_none (bE I q (by simp))
  | bl j=>cases ry; exact PySem.EqMixed.eq_str_bool (bE I q (by simp))
  | int j=>obtain ⟨t',rfl⟩:=ry; exact PySem.EqMixed.eq_str_int (bE I q (by simp))
  | str j=>obtain ⟨t',rfl⟩:=ry; exact eq_str (bE I q zA)
  | _=>exact absurd (show false=true from hs) Bool.false_ne_true
 | byt i =>
  obtain ⟨t,rfl⟩:=rx
  cases y with
  | byt j=>obtain ⟨t',rfl⟩:=ry; exact PySem.W.eq_bytes (bE I q zy)
  | _=>exact absurd (show false=true from hs) Bool.false_ne_true
 | _=>cases y <;> exact absurd (show false=true from hs) Bool.false_ne_true
theorem xG:OpR X (compareOp .NotEq) rNe:=by
 intro pins s σ H x y v u Q I rx ry h
 obtain ⟨hs,q⟩:=h
 cases x with
 | non =>
  cases rx
  cases y with
  | non=>cases ry; exact PySem.EqNone.ne_none_none (bE I q (by simp))
  | bl j=>cases ry; exact PySem.EqNone.ne_none_bool (bE I q (by simp))
  | int j=>obtain ⟨t',rfl⟩:=ry; exact PySem.EqNone.ne_none_int (bE I q (by simp))
  | str j=>obtain ⟨t',rfl⟩:=ry; exact PySem.EqNone.ne_none_str (bE I q (by simp))
  | _=>exact absurd (show false=true from hs) Bool.false_ne_true
 | bl i =>
  cases rx
  cases y with
  | non=>cases ry; exact PySem.EqNone.ne_bool_none (bE I q (by simp))
  | bl j=>cases ry; exact ne_bool (bE I q (congrArg not Bg))
  | str j=>obtain ⟨t',rfl⟩:=ry; exact PySem.EqMixed.ne_bool_str (bE I q (by simp))
  | _=>exact absurd (show false=true from hs) Bool.false_ne_true
 | int i =>
  obtain ⟨t,rfl⟩:=rx
  cases y with
  | non=>cases ry; exact PySem.EqNone.ne_int_none (bE I q (by simp))
  | int j=>obtain ⟨t',rfl⟩:=ry; exact ne_int (bE I q (congrArg not zz))
  | str j=>obtain ⟨t',rfl⟩:=ry; exact PySem.EqMixed.ne_int_str (bE I q (by simp))
  | _=>exact absurd (show false=true from hs) Bool.false_ne_true
 | str i =>
  obtain ⟨t,rfl⟩:=rx
  cases y with
  | non=>cases ry; exact PySem.EqNone.ne_str_none (bE I q (by simp))
  | bl j=>cases ry; exact PySem.EqMixed.ne_str_bool (bE I q (by simp))
  | int j=>obtain ⟨t',rfl⟩:=ry; exact PySem.EqMixed.ne_str_int (bE I q (by simp))
  | str j=>obtain ⟨t',rfl⟩:=ry; exact ne_str (bE I q (congrArg not zA))
  | _=>exact absurd (show false=true from hs) Bool.false_ne_true
 | byt i =>
  obtain ⟨t,rfl⟩:=rx
  cases y with
  | byt j=>obtain ⟨t',rfl⟩:=ry; exact PySem.W.ne_bytes (bE I q (congrArg not zy))
  | _=>exact absurd (show false=true from hs) Bool.false_ne_true
 | _=>cases y <;> exact absurd (show false=true from hs) Bool.false_ne_true
theorem zN:OpR X (compareOp .Lt) (rI0 fun i j=>.bl (decide (i<j))):=De fun _ _ _ _ _ _ _ q=>lt_int q
theorem E1:OpR X (compareOp .LtE) (rI0 fun i j=>.bl (decide (i<=j))):=De fun _ _ _ _ _ _ _ q=>le_int q
theorem zM:OpR X (compareOp .Gt) (rI0 fun i j=>.bl (decide (j<i))):=De fun _ _ _ _ _ _ _ q=>gt_int q
theorem DC:OpR X (compareOp .GtE) (rI0 fun i j=>.bl (decide (j<=i))):=De fun _ _ _ _ _ _ _ q=>ge_int q
theorem bJ (b:Expr) {op:CmpOp} (h:op≠.In:=by decide) (h2:op≠.NotIn:=by decide):behindInMarks op b=false:=by
 have e1:(op==CmpOp.In)=false:=by cases op <;> first | rfl | exact absurd rfl h
 have e2:(op==CmpOp.NotIn)=false:=by cases op <;> first | rfl | exact absurd rfl h2
 cases b <;> simp [behindInMarks,e1,e2]
theorem oh {op:CmpOp} {r:R2} (ho:OpR X (compareOp op) r) (ha:PE X a ta) (hb:PE X b tb) (hm:behindInMarks op b=false):PE X (.Compare a [op] [b] pos) (tOp r ta tb):=by
 intro pins s σ H Q I h
 exact wpAny_Compare1 (DP ha hb I h fun v u s2 x y H2 I2 rx ry q=>ho pins s2 σ H2 x y v u Q I2 rx ry q) hm
def Fm (t:TE):TT:=fun σ H Q=>t σ H fun x H'=>∃ k,x=.bl k/\Q k H'
theorem bC {op:CmpOp} {r:R2} (ho:OpR X (compareOp op) r) (ha:PE X a ta) (hb:PE X b tb) (hm:behindInMarks op b=false):PT X (.Compare a [op] [b] pos) (Fm (tOp r ta tb)):=by
 intro pins s σ H Q I h
 refine wpAny_isTrue_Compare1 (thn (ha pins s σ H _ I h) fun v s1 ⟨x,H1,I1,r1,q1⟩=>thn (hb pins s1 σ H1 _ I1 q1) fun u s2 ⟨y,H2,I2,r2,q2⟩ =>
  thn (ho pins s2 σ H2 x y v u _ I2 r1 r2 q2) fun c s3 ⟨z,H3,I3,r3,k,e,q3⟩=>?_) hm
 subst e
 cases r3
 exact wpAny_truthy_bool ⟨H3,I3,q3⟩
def EM (K:PySem.W.Frag) (x:V) (H:Hp) (k:Bool):Prop:=
 match x with
 | .non=>k=false
 | .bl b=>k=b
 | .int i=>k=(i != 0)
 | .str y=>y.length<=sizeLine/\k=((y.length:Int) != 0)
 | .byt y=>y.size<=sizeLine/\k=((y.size:Int) != 0)
 | .ref p=>(∃ xs,SqL K H p xs/\k=!xs.isEmpty)\/(∃ xs,SqT K H p xs/\k=!xs.isEmpty)\/∃ kvs,H p=some (.dK kvs)/\k=!kvs.isEmpty
 | _=>False
theorem yo {κ:Type} {kvs:List (κ×V)} {vs:List (κ×Value)} (r:KV kvs vs):(!vs.isEmpty)=!kvs.isEmpty:=by
 cases r <;> rfl
theorem sf {xs:List V} {its:List Value} (r:Vals xs its):(!its.toArray.isEmpty)=!xs.isEmpty:=by
 cases r <;> simp
theorem sE:(sizeLine:Nat)<2^63:=by rw [sizeLine_eq]; decide
theorem EF:Fu X (fun x H Q=>∃ k,EM X.K x H k/\Q k H):=by
 intro pins s σ H x v Q I rx h
 obtain ⟨k,e,q⟩:=h
 have hl:=sE
 have hs:sizeLine=16777216:=sizeLine_eq
 cases x with
 | non =>
  cases rx
  have e':k=false:=e
  subst e'
  exact truthy_none ⟨H,I,q⟩
 | bl b =>
  cases rx
  have e':k=b:=e
  subst e'
  exact wpAny_truthy_bool ⟨H,I,q⟩
 | int i =>
  obtain ⟨t,rfl⟩:=rx
  have e':k=(i != 0):=e
  subst e'
  exact PySem.P.truthy_int ⟨H,I,q⟩
 | str y =>
  obtain ⟨t,rfl⟩:=rx
  obtain ⟨hy,e'⟩:y.length<=sizeLine/\k=((y.length:Int) != 0):=e
  subst e'
  exact PySem.P.truthy_str (by omega) ⟨H,I.tok _,q⟩
 | byt y =>
  obtain ⟨t,rfl⟩:=rx
  obtain ⟨hy,e'⟩:y.size<=sizeLine/\k=((y.size:Int) != 0):=e
  subst e'
  exact PySem.W.truthy_bytes (by omega) ⟨H,I.tok _,q⟩
 | ref p =>
  cases rx
  have e':(∃ xs,SqL X.K H p xs/\k=!xs.isEmpty)\/(∃ xs,SqT X.K H p xs/\k=!xs.isEmpty)\/∃ kvs,H p=some (.dK kvs)/\k=!kvs.isEmpty:=e
  rcases e' with ⟨xs,hx,e'⟩ | ⟨xs,hx,e'⟩ | ⟨kvs,hx,e'⟩
  ·subst e'
   obtain ⟨its,r,pl,hz⟩:=I.list hx
   have hlen:=r.length
   exact wpAny_truthy_list pl.isList (by simp only [List.size_toArray]; omega) ⟨H,I.tok _,by rw [sf r]; exact q⟩
  ·subst e'
   obtain ⟨its,r,pl,hz⟩:=I.tuple hx
   have hlen:=r.length
   exact truthy_tuple pl (by simp only [List.size_toArray]; omega) ⟨H,I.tok _,by rw [sf r]; exact q⟩
  ·subst e'
   obtain ⟨hz,hS,vs,r,m⟩:kvs.length<=sizeLine/\(p==sysModules)=false/\∃ vs,KV kvs vs/\s.heap.DictOf (aV X.prog X.w) p vs:=I.hok p _ hx
   have hlen:kvs.length=vs.length:=Paired.length r
   exact wpAny_truthy_dict hS m (by omega) ⟨H,I.tok _,by rw [yo r]; exact q⟩
 | _=>exact (show False from e).elim
theorem xN (ha:PE X a ta) (he:∀ whole,isTrue a X.env whole=(do let v <- whole; standAt a.pos; holding [v] (truthy v))) :
  PT X a (fun σ H Q=>ta σ H fun x H'=>∃ k,EM X.K x H' k/\Q k H'):=by
 intro pins s σ H Q I h
 exact isTrue_plain (thn (ha pins s σ H _ I h) fun v s1 ⟨x,H1,I1,r1,q1⟩=>EF pins s1 σ H1 x v Q I1 r1 q1) (he _)
theorem vals1 {x:V} {us:List Value} (r:Vals [x] us):∃ u,us=[u]/\RelV x u:=by
 cases r with
 | cons r1 r2=>cases r2; exact ⟨_,rfl,r1⟩
end
end L2
namespace L2
open PySem PySem.Spec PyProof.Rows
structure ObjM (h:Heap) (x dx C:Addr) (mA:Str->Option Value):Prop where
 obj:h.get? x=some (PySem.W.instObj C dx)
 ns:h.Ns1 dx mA
 ne:dx≠x
theorem Au {h:Heap} {dx:Addr} {mA:Str->Option Value} (n:h.Ns1 dx mA):∃ od,h.get? dx=some od/\∀ name,PySem.W.lookIn name od=some (mA name):=by
 obtain ⟨o,es,ep,ho,hd,hk,_,hm⟩:=n
 refine ⟨o,ho,fun name=>?_⟩
 have e:=hm name
 unfold nsFind findBy at e
 rw [<- Array.find?_toList] at e
 unfold PySem.W.lookIn
 rw [hd]
 dsimp only
 split
 ·rename_i y q
  rw [q] at e
  exact congrArg some e
 ·rename_i q
  rw [q] at e
  have a:es.toList.any (·.refKey)=false:=by
   rw [List.any_eq_false]
   intro y hy
   obtain ⟨z,t,hkey⟩:=hk y (Array.mem_toList_iff.mp hy)
   simp [DictEntry.refKey,hkey]
  have a':¬ es.toList.any (·.refKey)=true:=by rw [a]; exact Bool.false_ne_true
  rw [if_neg a']
  exact congrArg some e
theorem ObjM.look {h:Heap} {x dx C:Addr} {mA:Str->Option Value} (I:ObjM h x dx C mA):∃ od,PySem.W.InstAt h x (PySem.W.instObj C dx) C (some od)/\∀ name,PySem.W.lookIn name od=some (mA name):=
 let ⟨od,ho,hl⟩:=Au I.ns
 ⟨od,⟨I.obj,rfl,rfl,ho⟩,hl⟩
section
variable {prog:Program} {w:World} {A:Around} {E:Value->Shared->Prop} {s:Shared} {K:PySem.W.Frag} {x dx C f:Addr} {mA:Str->Option Value} {name:Str} {v:Value}
theorem get_map {expr:Bool} {Q:Value->Shared->Prop} (X:K.In s.heap) (I:ObjM s.heap x dx C mA) (hg:PySem.W.plainGet K C name=true) (hh:PySem.W.hasDictIn K C=true)
  (ha:PySem.W.findIn K (.ref C) name=some none) (hv:mA name=some v) (hv':PySem.W.handedIn v=true) (h:Q v { s with toks:=s.toks+1 }) :
  wpAny (model prog w) A (getAttr (.ref x) name expr) Q E s:=by
 obtain ⟨od,J,hl⟩:=I.look
 exact PySem.W.get_value X J (PySem.W.plainGet_of hg).1 (PySem.W.findObj_own hh ha rfl (by rw [hl,hv])) hv' h
theorem Bn {pl:Sem Bool} {Q:Value×List Value->Shared->Prop} (X:K.In s.heap) (I:ObjM s.heap x dx C mA) (hg:PySem.W.plainGet K C name=true)
  (hf:PySem.W.findIn K (.ref C) name=some (some (.ref f))) (ht:PySem.W.isFn K (.ref f)=true) (hv:mA name=none) (h:Q (.ref f,[.ref x]) s) :
  wpAny (model prog w) A (getMethod (.ref x) name pl) Q E s:=by
 obtain ⟨od,J,hl⟩:=I.look
 exact PySem.W.method_fn X J (PySem.W.plainGet_of hg).1 (PySem.W.plainGet_of hg).2 hf (beq_iff_eq.mp ht) (by show (PySem.W.lookIn name od).map (·.isSome)=some false; rw [hl,hv]; rfl) h
theorem Dt {ns:List Str} {Q:Unit->Shared->Prop} (X:K.In s.heap) (I:ObjM s.heap x dx C mA)
  (hs:PySem.W.findIn K (.ref C) "__setattr__" = some (some (.builtin "object.__setattr__"))) (hp:PySem.W.plainOver K C=true) (ht:PySem.W.takerIn K C name=some none) (hh:PySem.W.hasDictIn K C=true)
  (hw:PySem.Within mA ns) (hsz:ns.length<=sizeLine)
  (h:∀ h',ObjM h' x dx C (fun y=>if y=name then some v else mA y)->Heap.SameBut dx s.heap h'->Q () { s with heap:=h',toks:=s.toks+2 }) :
  wpAny (model prog w) A (setAttr (.ref x) name v) Q E s:=by
 obtain ⟨od,J,hl⟩:=I.look
 refine PySem.W.set_plain X J hs (PySem.W.osa_open (s:={ s with toks:=s.toks+1 }) (r:=none) X J hp ht fun b=>?_)
 obtain ⟨cd,hc,hd'⟩:=PySem.W.any_some hh
 have hx:s.heap.get? x=some ⟨.ref C,some dx,.plain,#[]⟩:=I.obj
 refine wpAny_bind (wpAny_pure (wpAny_bind (wpAny_bind (wpAny_loadPart hx (wpAny_bind (PySem.W.Looks.here (s:={ s with toks:=s.toks+1 }) (PySem.W.looks_clsIn X hc) ?_))))))
 rw [hd']
 refine wpAny_pure (a:=some dx) (wpAny_bind (wpAny_pure (wpAny_bind ?_)))
 refine wpAny_nsSet1 (s:={ s with toks:=s.toks+1 }) I.ns fun h' hn2 hs2=>?_
 obtain ⟨oD,esD,epD,hoD,hdD,hcD⟩:=hn2.count (PySem.Within.cons name v hw)
 refine wpAny_bind (wpAny_lookBehind hoD (by rw [hdD]; exact pastItsLine_dict (Nat.le_trans hcD (by rw [List.length_cons]; omega))) ?_)
 exact wpAny_pure (h _ ⟨(hs2.2 _ (Ne.symm I.ne)).trans I.obj,hn2,I.ne⟩ hs2)
theorem BD {R:Result->Shared->Prop} {vs:List Value} {kw:List (Str×Value)} (X:K.In s.heap) (hm:PySem.W.makesIn K C=true)
  (hi:PySem.W.findIn K (.ref C) "__init__" = some (some (.ref f))) (hf:PySem.W.typeIn K (.ref f)=some (.type "function"))
  (h:codeAny (model prog w) (A.under (.builtin "type.__call__" ⟨.ref C :: vs,kw⟩)) (.call (.ref f) ⟨.ref (s.heap.objs.size+1) :: vs,kw⟩) (PySem.W.InitBack (s.heap.objs.size+1) R)
   { s with heap:=(s.heap.push PySem.W.emptyDict).push (PySem.W.instObj C s.heap.objs.size) }) :
  codeAny (model prog w) A (.call (.ref C) ⟨vs,kw⟩) R s:=by
 obtain ⟨hh,g,d,t,os⟩:=s
 exact PySem.W.make_core (PySem.W.makes_of X hm) (PySem.W.looks_findIn X hi) (fun self=>PySem.W.bind_fn X self hf) (.inl rfl) h
end
def jb (f:Str) (v:V):List (Str×V)->List (Str×V)
 | []=>[(f,v)]
 | (g,x) :: r=>if g=f then (g,v) :: r else (g,x) :: jb f v r
theorem p7 (f g:Str) (v:V):∀ fs:List (Str×V),(jb f v fs).lookup g=if g=f then some v else fs.lookup g
 | []=>by
  show List.lookup g [(f,v)]=_
  by_cases h:g=f
  ·have hb:(g==f)=true:=beq_iff_eq.mpr h
   simp only [List.lookup,hb,if_pos h]
  ·have hb:(g==f)=false:=beq_eq_false_iff_ne.mpr h
   simp only [List.lookup,hb,if_neg h]
 | (k,x) :: r=>by
  have ih:=p7 f g v r
  rw [show jb f v ((k,x) :: r)=(if k=f then (k,v) :: r else (k,x) :: jb f v r) from rfl]
  by_cases hk:k=f
  ·rw [if_pos hk]
   by_cases h:g=k
   ·have hb:(g==k)=true:=beq_iff_eq.mpr h
    simp only [List.lookup,hb,if_pos (h.trans hk)]
   ·have hb:(g==k)=false:=beq_eq_false_iff_ne.mpr h
    simp only [List.lookup,hb,if_neg (fun e:g=f=>h (e.trans hk.symm))]
  ·rw [if_neg hk]
   by_cases h:g=k
   ·have hb:(g==k)=true:=beq_iff_eq.mpr h
    simp only [List.lookup,hb,if_neg (fun e:g=f=>hk (h.symm.trans e))]
   ·have hb:(g==k)=false:=beq_eq_false_iff_ne.mpr h
    simp only [List.lookup,hb]
    exact ih
theorem pA (f:Str) (v:V):∀ fs:List (Str×V),f∈(jb f v fs).map (·.1)/\∀ g,g∈fs.map (·.1)->g∈(jb f v fs).map (·.1)
 | []=>⟨by simp [jb],fun g h=>by simp at h⟩
 | (k,x) :: r=>by
  obtain ⟨i1,i2⟩:=pA f v r
  rw [show jb f v ((k,x) :: r)=(if k=f then (k,v) :: r else (k,x) :: jb f v r) from rfl]
  by_cases hk:k=f
  ·rw [if_pos hk]
   subst hk
   exact ⟨by simp,fun g h=>by simpa using h⟩
  ·rw [if_neg hk]
   refine ⟨?_,fun g h=>?_⟩
   ·rw [List.map_cons]
    exact List.mem_cons_of_mem _ i1
   ·rw [List.map_cons] at h ⊢
    rcases List.mem_cons.mp h with e | e
    ·exact List.mem_cons.mpr (.inl e)
    ·exact List.mem_cons_of_mem _ (i2 g e)
theorem p6 (f:Str) (v:V):∀ fs:List (Str×V),(jb f v fs).length<=fs.length+1
 | []=>by simp [jb]
 | (k,x) :: r=>by
  have ih:=p6 f v r
  rw [show jb f v ((k,x) :: r)=(if k=f then (k,v) :: r else (k,x) :: jb f v r) from rfl]
  by_cases hk:k=f
  ·rw [if_pos hk,List.length_cons,List.length_cons]; omega
  ·rw [if_neg hk,List.length_cons,List.length_cons]; omega
theorem RelO.some_of {v:V} {o:Option Value} (r:RelO (some v) o):∃ u,o=some u/\RelV v u:=by
 cases o with
 | none=>exact (show False from r).elim
 | some u=>exact ⟨u,rfl,r⟩
theorem RelO.none_of {o:Option Value} (r:RelO none o):o=none:=by
 cases o with
 | none=>rfl
 | some u=>exact (show False from r).elim
theorem Al {v:V} {u:Value} (r:RelV v u):PySem.W.handedIn u=true:=by
 cases v with
 | non=>cases (show u=Value.none from r); rfl
 | bl b=>cases (show u=Value.bool b from r); rfl
 | int i=>obtain ⟨t,e⟩:=(show ∃ t,u=Value.int i t from r); cases e; rfl
 | str x=>obtain ⟨t,e⟩:=(show ∃ t,u=Value.str x t from r); cases e; rfl
 | byt b=>obtain ⟨t,e⟩:=(show ∃ t,u=Value.bytes b t from r); cases e; rfl
 | flt b=>obtain ⟨t,e⟩:=(show ∃ t,u=Value.float b t from r); cases e; rfl
 | ref a=>cases (show u=Value.ref a from r); rfl
 | ty n=>cases (show u=Value.type n from r); rfl
section
variable {P:Program} {w:World} {H H':Hp} {h h':Heap} {a C dx:Addr} {fs fs':List (Str×V)}
theorem qY (hok:HOk P w H h) (e:H a=some (.ins C dx fs)):∃ mA,ObjM h a dx C mA/\(∀ f,RelO (fs.lookup f) (mA f))/\PySem.Within mA (fs.map (·.1))/\fs.length<=1000/\H dx=some (.own a):=by
 obtain ⟨d,z,ne,ob,mA,n,r,q⟩:=(show ObjOk P w H h a (.ins C dx fs) from hok a _ e)
 exact ⟨mA,⟨ob,n,ne⟩,r,q,z,d⟩
end
structure Cls (K:PySem.W.Frag) (C:Addr):Prop where
 pg:PySem.W.plainGet K C Str.empty=true
 hd:PySem.W.hasDictIn K C=true
 po:PySem.W.plainOver K C=true
 sa:PySem.W.findIn K (.ref C) "__setattr__" = some (some (.builtin "object.__setattr__"))
theorem Cls.get {K:PySem.W.Frag} {C:Addr} (c:Cls K C) (f:Str):PySem.W.plainGet K C f=true:=c.pg
def NoAttr (K:PySem.W.Frag) (C:Addr) (f:Str):Prop:=PySem.W.findIn K (.ref C) f=some none
theorem NoAttr.taker {K:PySem.W.Frag} {C:Addr} {f:Str} (n:NoAttr K C f):PySem.W.takerIn K C f=some none:=by
 unfold PySem.W.takerIn
 rw [show PySem.W.findIn K (.ref C) f=some none from n]
 rfl
structure Con (K:PySem.W.Frag) (C:Addr) (f:Str) (v:V) (u:Value):Prop where
 at_:PySem.W.findIn K (.ref C) f=some (some u)
 rel:RelV v u
 get:PySem.W.specialIn K u "__get__" = some none
 cp:PySem.W.copiedNames.contains f=false
structure Meth (K:PySem.W.Frag) (C:Addr) (m:Str) (f:Addr):Prop where
 at_:PySem.W.findIn K (.ref C) m=some (some (.ref f))
 fn:PySem.W.isFn K (.ref f)=true
 kp:PySem.W.keepIn K (.ref f)=true
section
variable {X:Cx} {pins:List (Addr×Obj)} {σ:St} {H:Hp} {s:Shared} {a C dx:Addr} {fs:List (Str×V)} {f:Str} {v:V} {A:Around} {E:Value->Shared->Prop}
theorem ym {b:Bool} {Q:Value->Shared->Prop} (I:Inv X pins σ H s) (e:H a=some (.ins C dx fs)) (c:Cls X.K C) (n:NoAttr X.K C f) (l:fs.lookup f=some v)
  (h:∀ u s',Inv X pins σ H s'->RelV v u->Q u s'):wpAny (model X.prog X.w) A (getAttr (.ref a) f b) Q E s:=by
 obtain ⟨mA,O,r,_,_,_⟩:=qY I.hok e
 obtain ⟨u,hu,ru⟩:=RelO.some_of (v:=v) (o:=mA f) (by rw [<- l]; exact r f)
 exact get_map I.kIn O (c.get f) c.hd n hu (Al ru) (h u _ (I.tok _) ru)
theorem sd {m:Str} {g:Addr} {pl:Sem Bool} {Q:Value×List Value->Shared->Prop} (I:Inv X pins σ H s) (e:H a=some (.ins C dx fs)) (c:Cls X.K C) (k:Meth X.K C m g) (l:fs.lookup m=none)
  (h:Q (.ref g,[.ref a]) s):wpAny (model X.prog X.w) A (getMethod (.ref a) m pl) Q E s:=by
 obtain ⟨mA,O,r,_,_,_⟩:=qY I.hok e
 have hn:mA m=none:=RelO.none_of (by rw [<- l]; exact r m)
 exact Bn I.kIn O (c.get m) k.at_ k.fn hn h
theorem yY {y:V} {u:Value} {Q:Unit->Shared->Prop} (I:Inv X pins σ H s) (e:H a=some (.ins C dx fs)) (c:Cls X.K C) (n:NoAttr X.K C f) (hl:fs.length<1000) (ry:RelV y u)
  (h:∀ s',Inv X pins σ (upd H a (.ins C dx (jb f y fs))) s'->Q () s'):wpAny (model X.prog X.w) A (setAttr (.ref a) f u) Q E s:=by
 obtain ⟨mA,O,r,wi,_,ho⟩:=qY I.hok e
 have hz:(fs.map (·.1)).length<=sizeLine:=by rw [List.length_map,sizeLine_eq]; omega
 refine Dt I.kIn O c.sa c.po n.taker c.hd wi hz fun h' O' sb=>h _ ?_
 have hd:∃ o,h'.get? dx=some o:=let ⟨o,_,_,e',_⟩:=O'.ns; ⟨o,e'⟩
 refine I.write (x:=a) (e:=dx) (by rw [e]; exact True.intro) (.inr ho) (fun b q hb z=>(sb.2 b hb).trans z) hd ?_
 refine ⟨by rw [ah O.ne]; exact ho,?_,O.ne,O'.obj,_,O'.ns,fun g=>?_,fun g hg=>?_⟩
 ·have:=p6 f y fs; omega
 ·show RelO ((jb f y fs).lookup g) (if g=f then some u else mA g)
  rw [p7]
  by_cases q:g=f
  ·rw [if_pos q,if_pos q]; exact ry
  ·rw [if_neg q,if_neg q]; exact r g
 ·by_cases q:g=f
  ·rw [q]; exact (pA f y fs).1
  ·refine (pA f y fs).2 g (wi g fun z=>hg ?_)
   show (if g=f then some u else mA g)=none
   rw [if_neg q]; exact z
theorem Inv.made (I:Inv X pins σ H s):Inv X pins σ (upd (upd H s.heap.objs.size (.own (s.heap.objs.size+1))) (s.heap.objs.size+1) (.ins C s.heap.objs.size []))
  { s with heap:=(s.heap.push PySem.W.emptyDict).push (PySem.W.instObj C s.heap.objs.size) }:=by
 have e1:(s.heap.push PySem.W.emptyDict).get? s.heap.objs.size=some PySem.W.emptyDict:=Heap.get?_push_size s.heap rfl
 have e2:((s.heap.push PySem.W.emptyDict).push (PySem.W.instObj C s.heap.objs.size)).get? (s.heap.objs.size+1)=some (PySem.W.instObj C s.heap.objs.size):=by
  have:=Heap.get?_push_size (s.heap.push PySem.W.emptyDict) (o:=PySem.W.instObj C s.heap.objs.size) rfl
  rwa [Heap.size_push] at this
 have e3:(s.heap.push PySem.W.emptyDict).Ns s.heap.objs.size (fun _=>none):=⟨PySem.W.emptyDict,#[],_,e1,rfl,(fun e he=>absurd he (by simp)),fun _=>rfl⟩
 have I1:=I.laid (a:=s.heap.objs.size) (o:=.own (s.heap.objs.size+1)) (h' := s.heap.push PySem.W.emptyDict) (t' := s.toks) (fun b u q=>Heap.get?_push_of_some _ q) (Nat.le_refl _) ⟨_,e1⟩
 refine I1.laid (a:=s.heap.objs.size+1) (o:=.ins C s.heap.objs.size []) (t' := s.toks) (fun b u q=>Heap.get?_push_of_some _ q) (Nat.le_of_eq (Heap.size_push _ _)) ?_
 have ne:s.heap.objs.size≠s.heap.objs.size+1:=Nat.ne_of_lt (Nat.lt_succ_self _)
 refine ⟨by rw [ah ne,ae],Nat.zero_le _,ne,e2,fun _=>none,(Heap.Ns1.of_empty e3).at fun o q=>Heap.get?_push_of_some _ q,fun _=>True.intro,fun y hy=>absurd rfl hy⟩
theorem CP {prog:Program} {w:World} {env:Env} {e:Expr} {f:Str} {pos:Pos} {s:Shared} {Q:Value->Shared->Prop} (hb:attributeBase e f env (eval e env)=eval e env)
  (h:wpAny (model prog w) A (eval e env) (fun o s₁=>wpAny (model prog w) A (getAttr o f true) Q E s₁) E s):wpAny (model prog w) A (eval (.Attribute e f pos) env) Q E s:=
 Attribute_any_ h (by rw [arm_eval_Attribute,hb])
end
def FL (K:PySem.W.Frag) (ta:TE) (f:Str):TE:=fun σ H Q=>ta σ H fun x H1=>∃ a C dx fs v,x=.ref a/\H1 a=some (.ins C dx fs)/\Cls K C/\NoAttr K C f/\fs.lookup f=some v/\Q v H1
def FH (K:PySem.W.Frag) (ta tv:TE) (f:Str):TS:=fun D σ H=>tv σ H fun y H1=>ta σ H1 fun x H2=>∃ a C dx fs,x=.ref a/\H2 a=some (.ins C dx fs)/\Cls K C/\NoAttr K C f/\fs.length<1000 /\
 D.nx σ (upd H2 a (.ins C dx (jb f y fs)))
section
variable {X:Cx} {o e value:Expr} {f:Str} {pos pos' tpos:Pos} {ta tv:TE}
theorem df (he:PE X e ta) (hb:attributeBase e f X.env (eval e X.env)=eval e X.env):PE X (.Attribute e f pos) (FL X.K ta f):=by
 intro pins s σ H Q I h
 refine CP hb (thn (he pins s σ H _ I h) fun u s1 ⟨x,H1,I1,rx,a,C,dx,fs,v,ex,ea,c,n,l,q⟩=>?_)
 subst ex
 obtain rfl:u=Value.ref a:=rx
 exact ym I1 ea c n l fun u' s2 I2 ru=>⟨v,H1,I2,ru,q⟩
theorem wy (ha:PE X o ta) (hv:PE X value tv) (hs:swapsWith value (some (.Attribute o f pos')) pos.line X.env=pure false):PS X (.Assign [.Attribute o f pos'] value pos) (FH X.K ta tv f):=by
 intro pins s σ H D I h
 refine plainObj_wpAny_Assign_Attribute (thn (hv pins s σ H _ I h) fun u s1 ⟨y,H1,I1,ry,q⟩=>thn (ha pins s1 σ H1 _ I1 q) fun ov s2 ⟨x,H2,I2,rx,a,C,dx,fs,ex,ea,c,n,l,q2⟩=>?_) hs
 subst ex
 obtain rfl:ov=Value.ref a:=rx
 exact yY I2 ea c n l ry fun s3 I3=>⟨σ,_,I3,q2⟩
end
section
variable {X:Cx} {pins:List (Addr×Obj)} {σ:St} {H:Hp} {s:Shared} {A:Around} {E:Value->Shared->Prop} {Q:Value->Shared->Prop} {c:Value} {b:Bool}
inductive TyOf (K:PySem.W.Frag) (H:Hp):V->Value->Prop where
 | non:TyOf K H .non (.type "NoneType")
 | bl (x:Bool):TyOf K H (.bl x) (.type "bool")
 | int (i:Int):TyOf K H (.int i) (.type "int")
 | str (x:Str):TyOf K H (.str x) (.type "str")
 | flt (x:UInt64):TyOf K H (.flt x) (.type "float")
 | lst {a:Addr} {xs:List V} (e:H a=some (.lst xs)):TyOf K H (.ref a) (.type "list")
 | frz {a:Addr} {o:Obj} {xs:List V} (e:H a=some (.frz o (.lst xs))):TyOf K H (.ref a) (.type "list")
 | tup {a:Addr} {xs:List V} (e:H a=some (.tup xs)):TyOf K H (.ref a) (.type "tuple")
 | dK {a:Addr} {kvs:List (Key×V)} (e:H a=some (.dK kvs)):TyOf K H (.ref a) (.type "dict")
 | dT {a:Addr} {kvs:List (List Key×V)} (e:H a=some (.dT kvs)):TyOf K H (.ref a) (.type "dict")
 | ins {a C dx:Addr} {fs:List (Str×V)} (e:H a=some (.ins C dx fs)) (cl:Cls K C) (ha:PySem.W.findIn K (.ref C) "__class__" = some (some (.builtin "object.__class__")))
   (hn:PySem.W.specialIn K (.builtin "object.__class__") "__get__" = some (some (.builtin "getset_descriptor.__get__"))) (htk:PySem.W.takesIn K (.builtin "object.__class__")=some true)
   (hm:PySem.W.mroIn K C (.type "object")=some true):TyOf K H (.ref a) (.ref C)
theorem Aq {x:V} {u t:Value} (I:Inv X pins σ H s) (rx:RelV x u) (ty:TyOf X.K H x t) (e:PySem.W.kitOne X.K t c=some b) (h:∀ tk,Q (.bool b) { s with toks:=tk }) :
  wpAny (model X.prog X.w) A (call (.builtin "isinstance") [u,c]) Q E s:=by
 cases ty with
 | non=>cases (show u=Value.none from rx); exact PySem.W.kia_one PySem.W.kitx_none I.kIn True.intro e (fun z=>nomatch z) h
 | bl y=>cases (show u=Value.bool y from rx); exact PySem.W.kia_one PySem.W.kitx_bool I.kIn True.intro e (fun z=>nomatch z) h
 | int i=>obtain ⟨t,q⟩:=(show ∃ t,u=Value.int i t from rx); cases q; exact PySem.W.kia_one PySem.W.kitx_int I.kIn True.intro e (fun z=>nomatch z) h
 | str y=>obtain ⟨t,q⟩:=(show ∃ t,u=Value.str y t from rx); cases q; exact PySem.W.kia_one PySem.W.kitx_str I.kIn True.intro e (fun z=>nomatch z) h
 | flt y=>obtain ⟨t,q⟩:=(show ∃ t,u=Value.float y t from rx); cases q; exact PySem.W.kia_one PySem.W.kitx_float I.kIn True.intro e (fun z=>nomatch z) h
 | @lst a xs ea =>
  cases (show u=Value.ref a from rx)
  obtain ⟨_,_,n,_,h1⟩:=(show ObjOk X.prog X.w H s.heap a (.lst xs) from I.hok a _ ea)
  exact PySem.W.kia_one PySem.W.kitx_list I.kIn ⟨_,h1,rfl⟩ e (fun z=>nomatch z) h
 | @frz a ob xs ea =>
  cases (show u=Value.ref a from rx)
  obtain ⟨_,_,_,n,_,h1⟩:=(show ObjOk X.prog X.w H s.heap a (.frz ob (.lst xs)) from I.hok a _ ea)
  exact PySem.W.kia_one PySem.W.kitx_list I.kIn ⟨_,h1,rfl⟩ e (fun z=>nomatch z) h
 | @tup a xs ea =>
  cases (show u=Value.ref a from rx)
  obtain ⟨_,_,_,p⟩:=(show ObjOk X.prog X.w H s.heap a (.tup xs) from I.hok a _ ea)
  obtain ⟨o,h1,h2,_⟩:=p
  exact PySem.W.kia_one PySem.W.kitx_tuple I.kIn ⟨o,h1,h2⟩ e (fun z=>nomatch z) h
 | @dK a kvs ea =>
  cases (show u=Value.ref a from rx)
  obtain ⟨_,_,vs,_,p⟩:=(show ObjOk X.prog X.w H s.heap a (.dK kvs) from I.hok a _ ea)
  obtain ⟨o,es,ep,h1,h2,_⟩:=p
  exact PySem.W.kia_one PySem.W.kitx_dict I.kIn ⟨o,h1,h2.1⟩ e (fun z=>nomatch z) h
 | @dT a kvs ea =>
  cases (show u=Value.ref a from rx)
  obtain ⟨_,_,xs,_,o,es,ep,h1,h2,_⟩:=(show ObjOk X.prog X.w H s.heap a (.dT kvs) from I.hok a _ ea)
  exact PySem.W.kia_one PySem.W.kitx_dict I.kIn ⟨o,h1,h2.1⟩ e (fun z=>nomatch z) h
 | @ins a C dx fs ea cl ha hn htk hm =>
  cases (show u=Value.ref a from rx)
  obtain ⟨mA,O,_⟩:=qY I.hok ea
  obtain ⟨od,J,_⟩:=O.look
  exact PySem.W.kia_one (PySem.W.kitx_own (cl.get _) cl.hd ha hn htk hm) I.kIn J e (fun z=>nomatch z) h
end
end L2
namespace L2
open PySem PySem.Spec PyProof.Rows
structure Room (k:Nat) (A:Around):Prop where
 hd:A.handled=none
 dp:A.depth+3*k+5<recursionLimit
 un:A.units+16*k+200<cLine
theorem Room.mono {j k:Nat} {A:Around} (r:Room k A) (h:j<=k):Room j A:=⟨r.hd,by have:=r.dp; omega,by have:=r.un; omega⟩
theorem Room.deeper {k:Nat} {A:Around} (r:Room (k+1) A) (env:Env):Room k (A.deeper env):=
 ⟨r.hd,by have:=r.dp; show A.depth+1+3*k+5<_; omega,by have:=r.un; show A.units+3+16*k+200<_; omega⟩
theorem yw {A:Around} {C:Addr} {us:List Value} {kw:List (Str×Value)}:(A.under (.builtin "type.__call__" ⟨.ref C :: us,kw⟩)).depth=A.depth+1:=by
 first | rfl | simp [Around.under,Code.weight,Code.isCreation,Code.isGuard,Code.isCaller,Code.frames,Code.isFrame,guardIds]
theorem yx {A:Around} {C:Addr} {us:List Value} {kw:List (Str×Value)}:(A.under (.builtin "type.__call__" ⟨.ref C :: us,kw⟩)).units=A.units+1:=by
 first | rfl | simp [Around.under,Code.cUnits,Code.frames,Code.isFrame]
theorem Room.make {k:Nat} {A:Around} (r:Room (k+1) A) (C:Addr) (us:List Value) (kw:List (Str×Value)):Room k (A.under (.builtin "type.__call__" ⟨.ref C :: us,kw⟩)):=
 ⟨r.hd,by have:=r.dp; rw [yw]; omega,by have:=r.un; rw [yx]; omega⟩
theorem Room.depth {k:Nat} {A:Around} (r:Room k A):A.depth<recursionLimit:=by have:=r.dp; omega
theorem Room.units {k:Nat} {A:Around} (r:Room k A):A.units+64<cLine:=by have:=r.un; omega
def Dx:TA:=fun _ H Q=>Q [] H
def DG (ta:TE) (tr:TA):TA:=fun σ H Q=>ta σ H fun x H1=>tr σ H1 fun xs H2=>Q (x :: xs) H2
section
variable {X:Cx} {e:Expr} {es:List Expr} {te:TE} {t:TA} {pos:Pos}
theorem af:PA X [] Dx:=fun _ _ _ _ H Q I h=>Calls.spliced_nil ⟨[],H,I,.nil,h⟩
theorem aa (ha:PE X e te) (hr:PA X es t) (hs:starEach (e :: es) X.env=(false,eval e X.env) :: starEach es X.env:=by rfl):PA X (e :: es) (DG te t):=by
 intro pos pins s σ H Q I h
 rw [hs]
 show wpAny _ _ (spliced ((false,eval e X.env) :: backTo pos (starEach es X.env))) _ _ s
 refine Calls.spliced_cons (thn (ha pins s σ H _ I h) fun u s1 ⟨x,H1,I1,r1,q1⟩=>?_)
 exact thn (hr pos pins s1 σ H1 _ I1 q1) fun us s2 ⟨xs,H2,I2,r2,q2⟩=>⟨x :: xs,H2,I2,.cons r1 r2,q2⟩
def Fn (t:TA):TE:=fun σ H Q=>t σ H fun xs H1=>xs.length<=sizeLine/\∀ p,H1 p=none->Q (.ref p) (upd H1 p (.tup xs))
def Fg (t:TA):TE:=fun σ H Q=>t σ H fun xs H1=>xs.length<=sizeLine/\∀ p,H1 p=none->Q (.ref p) (upd H1 p (.lst xs))
theorem bF {x1} (h:PA X es t):PE X (.Tuple es x1 pos) (Fn t):=by
 intro pins s σ H Q I hq
 refine wpAny_Tuple_spliced (thn (h pos pins s σ H _ I hq) fun us s1 ⟨xs,H1,I1,r,z,q⟩=>⟨by rw [<- r.length]; exact z,?_⟩)
 have hf:H1 s1.heap.objs.size=none:=I1.hok.fresh (Nat.le_refl _)
 refine ⟨.ref s1.heap.objs.size,upd H1 s1.heap.objs.size (.tup xs),I1.laid (t' := s1.toks) (fun b u e=>Heap.get?_push_of_some _ e) (Nat.le_refl _) ?_,rfl,q _ hf⟩
 exact ⟨z,us,r,⟨_,Heap.get?_push_size _ rfl,rfl,_,rfl⟩⟩
theorem eP (h:PA X es t):PE X (.List es pos) (Fg t):=by
 intro pins s σ H Q I hq
 refine wpAny_List_spliced (thn (h pos pins s σ H _ I hq) fun us s1 ⟨xs,H1,I1,r,z,q⟩=>⟨by rw [<- r.length]; exact z,?_⟩)
 have hf:H1 s1.heap.objs.size=none:=I1.hok.fresh (Nat.le_refl _)
 refine ⟨.ref s1.heap.objs.size,upd H1 s1.heap.objs.size (.lst xs),I1.laid (t' := s1.toks) (fun b u e=>Heap.get?_push_of_some _ e) (Nat.le_refl _) ?_,rfl,q _ hf⟩
 exact ⟨z,us,0,r,Heap.get?_push_size _ rfl⟩
end
abbrev Sp:=List V->Hp->VK->XK->Prop
abbrev CXT:=List Env->Hp->Shared->XK->Value->Shared->Prop
structure Env0 (P:Program) (w:World) (K:PySem.W.Frag) (mg:Str->Option Value) (base:Heap) (A:Around) (outer:List Env) (s:Shared) (H:Hp):Prop where
 frames:A.frames=some outer
 mod:Mod K mg base
 bs:∀ b o,base.get? b=some o->s.heap.get? b=some o/\H b=none
 bsz:base.objs.size<=s.heap.objs.size
 funs:s.heap.FunFrames base outer
 frf:∀ b∈frs outer,H b=none
 hok:HOk P w H s.heap
 bare:AllBare s.gens
def CE (outer:List Env) (P:Program) (w:World) (H:Hp) (s:Shared) (Q:VK) (u:Value) (s':Shared):Prop:=
 ∃ v H',s'.os=s.os/\AllBare s'.gens/\Un (frs outer) [] H H' s.heap s'.heap/\HOk P w H' s'.heap/\RelV v u/\Q v H'
def CR (CX:CXT) (outer:List Env) (P:Program) (w:World) (H:Hp) (s:Shared) (Q:VK) (E:XK) (r:Result) (s':Shared):Prop:=
 match r with
 | .ok (.ret u)=>CE outer P w H s Q u s'
 | .ok _=>False
 | .error e=>CX outer H s E e s'
structure FnOk (P:Program) (w:World) (K:PySem.W.Frag) (mg:Str->Option Value) (base:Heap) (CX:CXT) (k:Nat) (f:Addr) (fd:FuncData) (ps:List Str) (sp:Sp):Prop where
 len:∀ vs H Q E,sp vs H Q E->vs.length=ps.length
 run:∀ (A:Around) (outer:List Env) (s:Shared) (H:Hp) (args:Args) (us:List Value) (vs:List V) (Q:VK) (E:XK),Room k A->Env0 P w K mg base A outer s H->BindsTo s fd args (ps.zip us)->Vals vs us->sp vs H Q E ->
  codeAny (model P w) A (.call (.ref f) args) (CR CX outer P w H s Q E) s
theorem Env0.make {P:Program} {w:World} {K:PySem.W.Frag} {mg:Str->Option Value} {base:Heap} {A:Around} {outer:List Env} {s:Shared} {H:Hp} (e:Env0 P w K mg base A outer s H) (C:Addr) (us:List Value) (kw:List (Str×Value)) :
  Env0 P w K mg base (A.under (.builtin "type.__call__" ⟨.ref C :: us,kw⟩)) outer s H:=⟨by first | exact e.frames | (simpa [Around.under,Code.envs,Code.isFrame,pushEnvs] using e.frames),e.mod,e.bs,e.bsz,e.funs,e.frf,e.hok,e.bare⟩
section
variable {X:Cx} {pins:List (Addr×Obj)} {σ:St} {H:Hp} {s s':Shared}
theorem Inv.env0 (I:Inv X pins σ H s):Env0 X.prog X.w X.K X.mg X.base X.A X.stack s H:=
 ⟨I.ok.frames,I.ok.mod,I.bs,Nat.le_trans I.ok.bsz I.sz,I.stack,I.stkFree,I.hok,I.bare⟩
theorem Inv.after {Q:VK} {u:Value} (I:Inv X pins σ H s) (h:CE X.stack X.prog X.w H s Q u s'):EP X pins σ Q u s' := by
 obtain ⟨v,H',os,bare,un,hok,r,q⟩:=h
 obtain ⟨hh,g,d,t,os'⟩:=s'
 obtain rfl:os'=s.os:=os
 exact ⟨v,H',I.call (h' := hh) (g' := g) (d' := d) (t' := t) (ch:=[]) un hok bare (fun b z=>absurd z (by simp)),r,q⟩
end
def Cz (sp:Sp) (dvs:List V) (E:XK) (t:TA):TE:=fun σ H Q=>t σ H fun vs H1=>sp (vs++dvs) H1 Q E
def zX (C:Addr) (m:Str) (sp:Sp) (dvs:List V) (E:XK) (ta:TE) (t:TA):TE:=fun σ H Q=>ta σ H fun x H1=>∃ a dx fs,x=.ref a/\H1 a=some (.ins C dx fs)/\fs.lookup m=none /\
 t σ H1 fun vs H2=>sp (x :: (vs++dvs)) H2 Q E
def DH (C:Addr) (sp:Sp) (dvs:List V) (E:XK) (t:TA):TE:=fun σ H Q=>t σ H fun vs H1=>∀ x dx,H1 x=none->H1 dx=none->dx≠x ->
 sp (.ref x :: (vs++dvs)) (upd (upd H1 dx (.own x)) x (.ins C dx [])) (fun v H2=>v=.non/\Q (.ref x) H2) E
def Binds (K:PySem.W.Frag) (fd:FuncData) (ps:List Str) (ds:List Value):Prop:=
 ∀ (s:Shared) (us:List Value),K.In s.heap->(us++ds).length=ps.length->BindsTo s fd ⟨us,[]⟩ (ps.zip (us++ds))
theorem Binds.all {K:PySem.W.Frag} {fd:FuncData} {ps:List Str} (h:∀ us:List Value,us.length=ps.length->bindArgs fd ⟨us,[]⟩=pure (ps.zip us)):Binds K fd ps []:=fun s us _ hl=>by
 rw [List.append_nil] at hl ⊢
 exact .of_eq (h us hl)
def Passes (CX:CXT) (X:Cx) (E:XK):Prop := ∀ (pins:List (Addr×Obj)) (σ:St) (H:Hp) (s:Shared) (e:Value) (s':Shared),Inv X pins σ H s->CX X.stack H s E e s'->X.xe e s'
section
variable {X:Cx} {CX:CXT} {k:Nat} {f C:Addr} {fd:FuncData} {ps:List Str} {sp:Sp} {dvs:List V} {ds:List Value} {E:XK} {x m:Str} {p pos apos:Pos} {e o:Expr} {es:List Expr} {ta:TE} {t:TA}
theorem yW {pins:List (Addr×Obj)} {σ:St} {H:Hp} {s:Shared} {Q:VK} {us:List Value} {vs:List V} (F:FnOk X.prog X.w X.K X.mg X.base CX k f fd ps sp) (hr:Room k X.A) (hb:Binds X.K fd ps ds) (hd:Vals dvs ds) (hx:Passes CX X E)
  (I:Inv X pins σ H s) (r:Vals vs us) (h:sp (vs++dvs) H Q E):wpAny (model X.prog X.w) X.A (call (.ref f) us) (EP X pins σ Q) X.xe s:=by
 have r2:Vals (vs++dvs) (us++ds):=r.append hd
 have hl:(us++ds).length=ps.length:=by rw [<- r2.length]; exact F.len _ _ _ _ h
 refine wpAny_call (codeAny_mono (F.run X.A X.stack s H ⟨us,[]⟩ (us++ds) (vs++dvs) Q E hr I.env0 (hb s us I.kIn hl) r2 h) fun r s' hq=>?_)
 cases r with
 | error e=>exact hx pins σ H s e s' I hq
 | ok fl =>
  cases fl with
  | ret u=>exact I.after hq
  | next=>exact False.elim hq
  | brk=>exact False.elim hq
  | cont=>exact False.elim hq
theorem zO (F:FnOk X.prog X.w X.K X.mg X.base CX k f fd ps sp) (hr:Room k X.A) (hg:Gl X x) (hm:X.mg x=some (.ref f)) (hk:PySem.W.keepIn X.K (.ref f)=true) (hb:Binds X.K fd ps ds) (hd:Vals dvs ds) (hx:Passes CX X E)
  (ha:PA X (e :: es) t) (hdb:(x==("__debug__" : Str))=false:=by decide) (he:starEach (e :: es) X.env=(false,eval e X.env) :: starEach es X.env:=by rfl) (hpl:(backTo pos (starEach es X.env)).any (·.1)=false:=by rfl) :
  PE X (.Call (.Name x p) (e :: es) [] pos) (Cz sp dvs E t):=by
 intro pins s σ H Q I h
 refine wpAny_Call_Name_kw (kQ I hg hm ?_ hdb)
 refine PySem.W.callWith_K (h₀:=X.base) I.ok.mod.kin hk (thn (ha pos pins s σ H _ I h) fun us s1 ⟨vs,H1,I1,r,q⟩=>⟨I1.kIn,?_⟩) he hpl
 exact yW F hr hb hd hx I1 r q
theorem Di {pl:Sem Bool} (he:PE X o ta) (c:Cls X.K C) (hm:Meth X.K C m f) (F:FnOk X.prog X.w X.K X.mg X.base CX k f fd ps sp) (hr:Room k X.A) (hb:Binds X.K fd ps ds) (hd:Vals dvs ds) (hx:Passes CX X E) (ha:PA X (e :: es) t)
  (hst:starEach (e :: es) X.env=(false,eval e X.env) :: starEach es X.env:=by rfl) (hpl:(backTo pos (starEach es X.env)).any (·.1)=false:=by rfl)
  (ht:eval (.Call (.Attribute o m apos) (e :: es) [] pos) X.env=(do
   let ov <- eval o X.env
   standAt apos.atName
   let (f,first) <- holding [ov] (getMethod ov m pl)
   callWith pos f first (backTo pos (starEach (e :: es) X.env)) (backToKw pos (keywordEach [] X.env))):=by rfl) :
  PE X (.Call (.Attribute o m apos) (e :: es) [] pos) (zX C m sp dvs E ta t):=by
 intro pins s σ H Q I h
 refine PySem.W.methodCall_KW (pl:=pl) (thn (he pins s σ H _ I h) fun u s1 ⟨x,H1,I1,rx,a,dx,fs,ex,ea,l,q⟩=>?_) ht
 subst ex
 obtain rfl:u=Value.ref a:=rx
 refine sd I1 ea c hm l ?_
 refine PySem.W.callWith_K (first:=[.ref a]) (h₀:=X.base) I.ok.mod.kin hm.kp (thn (ha pos pins s1 σ H1 _ I1 q) fun us s2 ⟨vs,H2,I2,r,q2⟩=>⟨I2.kIn,?_⟩) hst hpl
 exact yW (us:=.ref a :: us) (vs:=.ref a :: vs) F hr hb hd hx I2 (.cons rfl r) q2
theorem B4 {pl:Sem Bool} (he:PE X o ta) (c:Cls X.K C) (hm:Meth X.K C m f) (F:FnOk X.prog X.w X.K X.mg X.base CX k f fd ps sp) (hr:Room k X.A) (hb:Binds X.K fd ps ds) (hd:Vals dvs ds) (hx:Passes CX X E)
  (ht:eval (.Call (.Attribute o m apos) [] [] pos) X.env=(do
   let ov <- eval o X.env
   standAt apos.atName
   let (f,first) <- holding [ov] (getMethod ov m pl)
   callWith pos f first (backTo pos (starEach [] X.env)) (backToKw pos (keywordEach [] X.env))):=by rfl) :
  PE X (.Call (.Attribute o m apos) [] [] pos) (zX C m sp dvs E ta Dx):=by
 intro pins s σ H Q I h
 refine PySem.W.methodCall_KW (pl:=pl) (thn (he pins s σ H _ I h) fun u s1 ⟨x,H1,I1,rx,a,dx,fs,ex,ea,l,q⟩=>?_) ht
 subst ex
 obtain rfl:u=Value.ref a:=rx
 refine sd I1 ea c hm l ?_
 exact PySem.W.callWith_K0 (first:=[.ref a]) I1.kIn hm.kp (yW (us:=[.ref a]) (vs:=[.ref a]) F hr hb hd hx I1 (.cons rfl .nil) q)
structure Mk (K:PySem.W.Frag) (C f:Addr):Prop where
 makes:PySem.W.makesIn K C=true
 init:PySem.W.findIn K (.ref C) "__init__" = some (some (.ref f))
 fn:PySem.W.isFn K (.ref f)=true
 kp:PySem.W.keepIn K (.ref C)=true
theorem Cs {pins:List (Addr×Obj)} {σ:St} {H:Hp} {s:Shared} {Q:VK} {us:List Value} {vs:List V} (M:Mk X.K C f) (F:FnOk X.prog X.w X.K X.mg X.base CX k f fd ps sp) (hr:Room (k+1) X.A) (hb:Binds X.K fd ps ds) (hd:Vals dvs ds)
  (hx:Passes CX X E) (I:Inv X pins σ H s) (r:Vals vs us)
  (h:∀ x dx,H x=none->H dx=none->dx≠x->sp (.ref x :: (vs++dvs)) (upd (upd H dx (.own x)) x (.ins C dx [])) (fun v H2=>v=.non/\Q (.ref x) H2) E) :
  wpAny (model X.prog X.w) X.A (call (.ref C) us) (EP X pins σ Q) X.xe s:=by
 have hq:=h (s.heap.objs.size+1) s.heap.objs.size (I.hok.fresh (Nat.le_succ _)) (I.hok.fresh (Nat.le_refl _)) (Nat.ne_of_lt (Nat.lt_succ_self _))
 have I2:=Inv.made (C:=C) I
 have r2:Vals (V.ref (s.heap.objs.size+1) :: (vs++dvs)) (Value.ref (s.heap.objs.size+1) :: (us++ds)):=.cons rfl (r.append hd)
 have hl:(Value.ref (s.heap.objs.size+1) :: us++ds).length=ps.length:=by
  have e:=r2.length
  rw [F.len _ _ _ _ hq] at e
  exact e.symm
 refine wpAny_call (BD (f:=f) I.kIn M.makes M.init (beq_iff_eq.mp M.fn) (codeAny_mono (F.run _ X.stack _ _ ⟨Value.ref (s.heap.objs.size+1) :: us,[]⟩ (Value.ref (s.heap.objs.size+1) :: (us++ds)) _ _ E (hr.make C us [])
  (I2.env0.make C us []) (hb _ (Value.ref (s.heap.objs.size+1) :: us) I2.kIn hl) r2 hq) fun r s' hq'=>?_))
 cases r with
 | error e=>exact hx pins σ _ _ e s' I2 hq'
 | ok fl =>
  cases fl with
  | ret u =>
   obtain ⟨v,H',I3,rv,ev,q3⟩:=I2.after hq'
   subst ev
   exact ⟨rv,⟨V.ref (s.heap.objs.size+1),H',I3,rfl,q3⟩⟩
  | next=>exact False.elim hq'
  | brk=>exact False.elim hq'
  | cont=>exact False.elim hq'
theorem Dh (M:Mk X.K C f) (F:FnOk X.prog X.w X.K X.mg X.base CX k f fd ps sp) (hr:Room (k+1) X.A) (hg:Gl X x) (hm:X.mg x=some (.ref C)) (hb:Binds X.K fd ps ds) (hd:Vals dvs ds) (hx:Passes CX X E)
  (ha:PA X (e :: es) t) (hdb:(x==("__debug__" : Str))=false:=by decide) (he:starEach (e :: es) X.env=(false,eval e X.env) :: starEach es X.env:=by rfl) (hpl:(backTo pos (starEach es X.env)).any (·.1)=false:=by rfl) :
  PE X (.Call (.Name x p) (e :: es) [] pos) (DH C sp dvs E t):=by
 intro pins s σ H Q I h
 refine wpAny_Call_Name_kw (kQ I hg hm ?_ hdb)
 refine PySem.W.callWith_K (h₀:=X.base) I.ok.mod.kin M.kp (thn (ha pos pins s σ H _ I h) fun us s1 ⟨vs,H1,I1,r,q⟩=>⟨I1.kIn,?_⟩) he hpl
 exact Cs M F hr hb hd hx I1 r q
end
section
variable {X:Cx} {CX:CXT} {k:Nat} {f C:Addr} {fd:FuncData} {ps ks:List Str} {sp:Sp} {E:XK} {x m:Str} {p pos apos kpos:Pos} {e o:Expr} {es:List Expr} {kws:List Keyword} {te ta:TE} {t tk:TA} {nm:Option Str}
structure KBinds (K:PySem.W.Frag) (fd:FuncData) (ps ks:List Str) (g:List Value->List Value->List Value) (gV:List V->List V->List V):Prop where
 to:∀ (s:Shared) (us ws:List Value),K.In s.heap->(g us ws).length=ps.length->BindsTo s fd ⟨us,ks.zip ws⟩ (ps.zip (g us ws))
 rel:∀ {vs:List V} {us:List Value} {zs:List V} {ws:List Value},Vals vs us->Vals zs ws->Vals (gV vs zs) (g us ws)
variable {g:List Value->List Value->List Value} {gV:List V->List V->List V}
end
structure FnScope (N P:List Str) (sc:Scope):Prop where
 kind:sc.kind=.function
 co:sc.isCoroutine=false
 gen:sc.isGenerator=false
 nd:N.Nodup
 pre:N.take P.length=P
 par:∀ x∈P,sc.names.lookup x=some .local\/sc.names.lookup x=some .cell
 nofree:∀ y∈sc.names,y.2≠.free
theorem uZ {kindOf:Str->Option NameKind} {x:Str}:∀ {binds:List (Str×Value)} {m:Str->Option Value},(∀ v,(x,v)∉binds)->bindL kindOf binds m x=m x
 | [],_,_=>rfl
 | (n,v) :: r,m,h=>by
  unfold bindL
  rw [uZ fun w hw=>h w (List.mem_cons_of_mem _ hw)]
  split
  ·have:x≠n:=by rintro rfl; exact h v List.mem_cons_self
   simp [this]
  ·rfl
theorem uX {kindOf:Str->Option NameKind} {x:Str}:∀ {binds:List (Str×Value)} {m:Str->Option Value},(∀ v,(x,v)∉binds)->bindC kindOf binds m x=m x
 | [],_,_=>rfl
 | (n,v) :: r,m,h=>by
  unfold bindC
  rw [uX fun w hw=>h w (List.mem_cons_of_mem _ hw)]
  split
  ·rfl
  ·have:x≠n:=by rintro rfl; exact h v List.mem_cons_self
   simp [this]
theorem uY {kindOf:Str->Option NameKind} {x:Str} {v:Value}:∀ {P:List Str} {vs:List Value} {i:Nat} {m:Str->Option Value},P.Nodup->P[i]?=some x->vs[i]?=some v->kindOf x=some .local ->
  bindL kindOf (P.zip vs) m x=some v
 | [],_,_,_,_,h,_,_=>by simp at h
 | _ :: _,[],_,_,_,_,h,_=>by simp at h
 | p :: P,w :: vs,0,m,nd,h1,h2,hk=>by
  simp at h1 h2; subst h1; subst h2
  show bindL kindOf ((p,w) :: P.zip vs) m p=_
  unfold bindL
  rw [uZ fun v hv=>(List.nodup_cons.mp nd).1 (List.of_mem_zip hv).1,if_pos hk]
  simp
 | p :: P,w :: vs,i+1,m,nd,h1,h2,hk=>by
  show bindL kindOf ((p,w) :: P.zip vs) m x=_
  unfold bindL
  exact uY (i:=i) (List.nodup_cons.mp nd).2 (by simpa using h1) (by simpa using h2) hk
theorem uW {kindOf:Str->Option NameKind} {x:Str} {v:Value}:∀ {P:List Str} {vs:List Value} {i:Nat} {m:Str->Option Value},P.Nodup->P[i]?=some x->vs[i]?=some v->kindOf x≠some .local ->
  bindC kindOf (P.zip vs) m x=some v
 | [],_,_,_,_,h,_,_=>by simp at h
 | _ :: _,[],_,_,_,_,h,_=>by simp at h
 | p :: P,w :: vs,0,m,nd,h1,h2,hk=>by
  simp at h1 h2; subst h1; subst h2
  show bindC kindOf ((p,w) :: P.zip vs) m p=_
  unfold bindC
  rw [uX fun v hv=>(List.nodup_cons.mp nd).1 (List.of_mem_zip hv).1,if_neg hk]
  simp
 | p :: P,w :: vs,i+1,m,nd,h1,h2,hk=>by
  show bindC kindOf ((p,w) :: P.zip vs) m x=_
  unfold bindC
  exact uW (i:=i) (List.nodup_cons.mp nd).2 (by simpa using h1) (by simpa using h2) hk
def start (N:List Str) (vs:List V):St:=vs.map some++List.replicate (N.length-vs.length) none
def w6 (CX:CXT) (P:Program) (w:World) (K:PySem.W.Frag) (mg:Str->Option Value) (base:Heap) (N:List Str) (qual:Str) (scope:Scope) (f:Addr) (cd:Value) (A:Around) (outer:List Env) (s:Shared) (H:Hp) (E:XK):Cx where
 prog:=P
 w:=w
 K:=K
 mg:=mg
 base:=base
 A:=A.deeper (envOfC qual scope s.heap.objs.size f cd)
 N:=N
 s₀:=s
 H₀:=H
 env:=envOfC qual scope s.heap.objs.size f cd
 outer:=outer
 stack:=envOfC qual scope s.heap.objs.size f cd :: outer
 ex:=[]
 calm:=true
 fn:=fun _=>true
 pn:=[]
 xe:=fun e s'=>wpAny (model P w) (A.deeper (envOfC qual scope s.heap.objs.size f cd)) (leaving (envOfC qual scope s.heap.objs.size f cd) e) (fun _ s''=>CX outer H s E e s'') (fun e' s''=>CX outer H s E e' s'') s'
theorem wY {sc:Scope} {n:Nat} {x:Str} (h:sc.names.lookup x=some .cell):∃ c,(cellsFrom n sc.names []).lookup x=some c:=by
 have q:=PySem.W.cellsFrom_some sc.names n [] (.inl h)
 exact Option.isSome_iff_exists.mp q
theorem Ap {CX:CXT} {P:Program} {w:World} {K:PySem.W.Frag} {mg:Str->Option Value} {base:Heap} {N ps:List Str} {qual:Str} {scope:Scope} {f:Addr} {cd:Value} {A:Around} {outer:List Env} {s s1:Shared} {H:Hp} {E:XK} {us:List Value} {vs:List V}
  (S:FnScope N ps scope) (hd:A.handled=none) (e0:Env0 P w K mg base A outer s H) (hl:vs.length=ps.length) (r:Vals vs us)
  (x:InCallC s s.heap.objs.size (bindL (envOfC qual scope s.heap.objs.size f cd).kindOf (ps.zip us) fun _=>none) (cellsFrom (s.heap.objs.size+1) scope.names []) (bindC (envOfC qual scope s.heap.objs.size f cd).kindOf (ps.zip us) fun _=>none) s1) :
  Inv (w6 CX P w K mg base N qual scope f cd A outer s H E) [] (start N vs) H s1:=by
 have hpl:ps.length<=N.length:=by have:=congrArg List.length S.pre; rw [List.length_take] at this; omega
 obtain ⟨h1,tk,rfl,hk⟩:=x.done
 have noA:∀ b:Addr,b∉(w6 CX P w K mg base N qual scope f cd A outer s H E).ex:=fun b z=>absurd (show b∈([]:List Addr) from z) (by simp)
 refine ⟨⟨e0.mod,S.kind,rfl,rfl,Nat.le_refl _,fun y z c h1 h2=>?_,fun y hy=>?_,fun y c _ h=>?_,fun _=>hd,Around.frames_deeper e0.frames,.inr ⟨rfl,rfl⟩,fun b z=>absurd z (noA b),e0.bs,e0.bsz,fun b _ _=>noA b,fun b z=>absurd z (noA b),e0.funs,e0.frf⟩,
  rfl,e0.bare,Un.kept hk,⟨_,x.toInCall.ns,fun i y v h1 h2 h3=>?_⟩,fun y c h=>⟨_,x.cell y c h⟩,e0.hok.fresh (Nat.le_refl _),fun y c h=>?_,fun p hp=>absurd (show p∈([]:List (Addr×Obj)) from hp) (by simp),e0.hok.kept hk,?_⟩
 ·exact name_of_addr x.apart (PySem.mem_of_lookup h1) (PySem.mem_of_lookup h2)
 ·have hy:scope.names.lookup y=some .cell\/scope.names.lookup y=some .free:=hy
  rcases hy with hy | hy
  ·exact wY hy
  ·exact absurd rfl (S.nofree _ (PySem.mem_of_lookup hy))
 ·exact Nat.le_of_lt (x.above y c (PySem.mem_of_lookup h))
 ·have hi:i<vs.length:=by
   unfold start at h2
   by_cases hi:i<vs.length
   ·exact hi
   ·rw [List.getElem?_append_right (by simpa using hi)] at h2
    rw [List.getElem?_replicate] at h2
    split at h2 <;> cases h2
  have ha:vs[i]?=some v:=by
   unfold start at h2
   rw [List.getElem?_append_left (by simpa using hi),List.getElem?_map] at h2
   cases e:vs[i]? with
   | none=>rw [e] at h2; cases h2
   | some a=>rw [e] at h2; cases h2; rfl
  obtain ⟨u,hu,rv⟩:=r.get ha
  have hp:ps[i]?=some y:=by
   rw [<- S.pre,List.getElem?_take_of_lt (by omega)]; exact h1
  have ndP:ps.Nodup:=by rw [<- S.pre]; exact S.nd.sublist (List.take_sublist _ _)
  refine ⟨u,rv,?_⟩
  rcases S.par y (List.mem_of_getElem? hp) with k | k
  ·exact .inl ⟨k,uY ndP hp hu k⟩
  ·obtain ⟨c,e⟩:=wY (n:=s.heap.objs.size+1) k
   refine .inr ⟨.inl k,c,e,?_⟩
   have q:=x.cell y c e
   rw [uW ndP hp hu (by show scope.names.lookup y≠_; rw [k]; decide)] at q
   exact q
 ·exact e0.hok.fresh (Nat.le_of_lt (x.above y c (PySem.mem_of_lookup h)))
 ·unfold start
  show _=N.length
  rw [List.length_append,List.length_map,List.length_replicate]
  omega
theorem DB {CX:CXT} {P:Program} {w:World} {K:PySem.W.Frag} {mg:Str->Option Value} {base:Heap} {k:Nat} {f:Addr} {name qual:Str} {params:Arguments} {body:List Stmt} {scope:Scope} {dV kV doc pm cdv ct oc:Value} {an od:Option Addr}
  {osl:Array (Option Value)} {N ps:List Str} {sp:Sp} (lk:K.lookup f=some ⟨oc,od,.func (PySem.W.fnOf name qual params body scope dV kV doc pm an cdv ct),osl⟩) (hcd:PySem.W.codeIn K cdv qual=true) (S:FnScope N ps scope)
  (len:∀ vs H Q E,sp vs H Q E->vs.length=ps.length)
  (hbody:∀ (A:Around) (outer:List Env) (s:Shared) (H:Hp) (vs:List V) (Q:VK) (E:XK),Room k (A.deeper (envOfC qual scope s.heap.objs.size f cdv))->sp vs H Q E ->
   ∃ t,PSs (w6 CX P w K mg base N qual scope f cdv A outer s H E) body t/\t { nx:=fun _ H'=>Q .non H',rt:=Q } (start N vs) H) :
  FnOk P w K mg base CX (k+1) f (PySem.W.fnOf name qual params body scope dV kV doc pm an cdv ct) ps sp:=by
 refine ⟨len,fun A outer s H args us vs Q E hr e0 hb r hsp=>?_⟩
 have hl:=len _ _ _ _ hsp
 have KX:K.In s.heap:=e0.mod.kin.keeps fun b o e=>(e0.bs b o e).1
 have lim:s.heap.NoLimit:=e0.mod.nolimit.keeps fun b o e=>(e0.bs b o e).1
 have hkind:∀ y∈ps.zip us,scope.names.lookup y.1=some .local\/(scope.names.lookup y.1=some .cell/\((cellsFrom (s.heap.objs.size+1) scope.names []).lookup y.1).isSome=true):=fun ⟨n,v⟩ hy=>by
  rcases S.par n (List.of_mem_zip hy).1 with q | q
  ·exact .inl q
  ·exact .inr ⟨q,PySem.W.cellsFrom_some _ _ _ (.inl q)⟩
 refine codeAny_call_function hr.depth (KX _ _ lk) rfl S.co S.gen rfl (PySem.W.codeRec_of KX hcd) (hb _ _ _ _ ?_)
 refine wpAny_newFunctionEnv_cells S.kind hkind fun env he s1 x=>?_
 subst he
 refine ⟨lim.keeps x.toInCall.keep,codeAny_func ?_⟩
 obtain ⟨t,ht,hq⟩:=hbody A outer s H vs Q E (hr.deeper _) hsp
 have I:Inv (w6 CX P w K mg base N qual scope f cdv A outer s H E) [] (start N vs) H s1:=Ap S hr.hd e0 hl r x
 refine wpAny_mono (ht [] s1 (start N vs) H _ I hq) (fun fl s' hs=>?_) fun e s' hs=>hs
 have fin:∀ {σ':St} {H':Hp} {v:V} {u:Value},Inv (w6 CX P w K mg base N qual scope f cdv A outer s H E) [] σ' H' s'->RelV v u->Q v H'->CE outer P w H s Q u s' :=
  fun {σ' H' v u} J rv q=>⟨v,H',J.os,J.bare,J.base,J.hok,rv,q⟩
 cases fl with
 | ret u =>
  obtain ⟨v,σ',H',J,rv,q⟩:=hs
  exact fin J rv q
 | next =>
  obtain ⟨σ',H',J,q⟩:=hs
  exact fin (v:=V.non) (u:=Value.none) J rfl q
 | brk =>
  obtain ⟨_,_,_,q⟩:=hs
  exact False.elim q
 | cont =>
  obtain ⟨_,_,_,q⟩:=hs
  exact False.elim q
end L2
namespace L2
open PySem PySem.Spec PyProof.Rows
section
variable {X:Cx} {x:Str} {p pos:Pos} {e:Expr} {es:List Expr} {t:TA} {id T:String} {r:List V->Hp->VK->Prop}
def tCB (r:List V->Hp->VK->Prop) (t:TA):TE:=fun σ H Q=>t σ H fun vs H1=>r vs H1 Q
theorem aB (hc:eU X (.builtin id) r) (hg:Gl X x) (hm:X.mg x=none) (hv:bootBuiltins x=some (.builtin id)) (ha:PA X (e :: es) t) (hn:x ≠ "__name__" := by decide) (hdb:(x==("__debug__" : Str))=false:=by decide)
  (he:starEach (e :: es) X.env=(false,eval e X.env) :: starEach es X.env:=by rfl) (hpl:(backTo pos (starEach es X.env)).any (·.1)=false:=by rfl):PE X (.Call (.Name x p) (e :: es) [] pos) (tCB r t):=by
 intro pins s σ H Q I h
 refine wpAny_Call_Name_kw (ky I hg hm hv ?_ hn hdb)
 exact PyProof.Rows.callWith_builtin1 (thn (ha pos pins s σ H _ I h) fun us s1 ⟨vs,H1,I1,r1,q1⟩=>hc pins s1 σ H1 vs us Q I1 r1 q1) he hpl
theorem aO (hc:eU X (.type T) r) (hg:Gl X x) (hm:X.mg x=none) (hv:bootBuiltins x=some (.type T)) (ha:PA X (e :: es) t) (hn:x ≠ "__name__" := by decide) (hdb:(x==("__debug__" : Str))=false:=by decide)
  (he:starEach (e :: es) X.env=(false,eval e X.env) :: starEach es X.env:=by rfl) (hpl:(backTo pos (starEach es X.env)).any (·.1)=false:=by rfl):PE X (.Call (.Name x p) (e :: es) [] pos) (tCB r t):=by
 intro pins s σ H Q I h
 refine wpAny_Call_Name_kw (ky I hg hm hv ?_ hn hdb)
 exact PyProof.Rows.callWith_type1 (thn (ha pos pins s σ H _ I h) fun us s1 ⟨vs,H1,I1,r1,q1⟩=>hc pins s1 σ H1 vs us Q I1 r1 q1) he hpl
end
end L2
namespace HT
open PySem PyProof.Rows
section
open PySem.SeqAt
open PySem.AutoSeq1 (wpAny_loadPart')
open PySem.MeetsSeq PySem.MeetsSeq2 PySem.MeetsSeq3
end
section
variable {prog:Program} {w:World} {A:Around} {E:Value->Shared->Prop} {s:Shared}
end
end HT
namespace L2
open PySem PySem.Spec PyProof.Rows
abbrev TO:=St->Hp->(Option Int->Hp->Prop)->Prop
section
variable {X:Cx} {e:Expr} {te:TE} {lo hi:Option Expr} {tl th:TO} {pos p2:Pos}
end
end L2
namespace L2
open PySem PySem.Spec PyProof.Rows
def ixN (n:Nat) (i:Int):Option Nat:=if 0<=i then (if i<n then some i.toNat else none) else if -(n:Int)<=i then some (i+n).toNat else none
def atI {α:Type} (xs:List α) (i:Int):Option α:=(ixN xs.length i).bind fun j=>xs[j]?
theorem zI {n:Nat} {i:Int} {j:Nat} (h:ixN n i=some j):seqIndex? i n=some j/\j<n/\-(n:Int)<=i/\i<n:=by
 unfold ixN at h
 by_cases h0:0<=i
 ·rw [if_pos h0] at h
  by_cases h1:i<n
  ·rw [if_pos h1] at h
   have e:i.toNat=j:=Option.some.inj h
   exact ⟨by rw [seqIndex_of h0 h1,e],by omega,by omega,h1⟩
  ·rw [if_neg h1] at h; cases h
 ·rw [if_neg h0] at h
  by_cases h1 : -(n:Int)<=i
  ·rw [if_pos h1] at h
   have e:(i+n).toNat=j:=Option.some.inj h
   exact ⟨by rw [seqIndex_neg (by omega) h1,e],by omega,h1,by omega⟩
  ·rw [if_neg h1] at h; cases h
theorem zw {α:Type} {xs:List α} {i:Int} {v:α} (h:atI xs i=some v):∃ j,seqIndex? i xs.length=some j/\xs[j]?=some v/\j<xs.length/\-(xs.length:Int)<=i/\i<xs.length:=by
 unfold atI at h
 cases e:ixN xs.length i with
 | none=>rw [e] at h; cases h
 | some j =>
  rw [e] at h
  obtain ⟨h1,h2,h3,h4⟩:=zI e
  exact ⟨j,h1,h,h2,h3,h4⟩
theorem nz {α:Type} {xs:List α} {j:Nat} {v:α} (h:xs[j]?=some v):atI xs (j:Int)=some v:=by
 have hj:j<xs.length:=(List.getElem?_eq_some_iff.mp h).1
 have e:ixN xs.length (j:Int)=some j:=by
  unfold ixN
  rw [if_pos (by omega),if_pos (by omega)]; simp
 unfold atI; rw [e]; exact h
def zt (b:Expr):Prop := ∀ o i,subscripted b false o i=operate [o,i] (getItem o i)
def IxR (X:Cx) (r:R2):Prop:=
 ∀ (value slice:Expr) (pins:List (Addr×Obj)) (s:Shared) (σ:St) (H:Hp) (x y:V) (v u:Value) (Q:VK),Inv X pins σ H s->RelV x v->RelV y u->r x y H Q ->
  subscripted slice false v u=operate [v,u] (getItem v u)->wpAny (model X.prog X.w) X.A (subscriptTail value slice v u) (EP X pins σ Q) X.xe s
def MtR (X:Cx) (id:String) (r:V->List V->Hp->VK->Prop):Prop:=
 ∀ (pins:List (Addr×Obj)) (s:Shared) (σ:St) (H:Hp) (x:V) (xs:List V) (v:Value) (us:List Value) (Q:VK),Inv X pins σ H s->RelV x v->Vals xs us->r x xs H Q ->
  wpAny (model X.prog X.w) X.A (call (.builtin id) (v :: us)) (EP X pins σ Q) X.xe s
section
variable {X:Cx} {a b:Expr} {ta tb:TE} {pos:Pos}
theorem aN {r:R2} (hr:IxR X r) (ha:PE X a ta) (hb:PE X b tb) (hs:zt b):PE X (.Subscript a b pos) (tOp r ta tb):=by
 intro pins s σ H Q I h
 exact Subscript_ (DP ha hb I h fun v u s2 x y H2 I2 rx ry q=>hr a b pins s2 σ H2 x y v u Q I2 rx ry q (hs _ _))
def E4 (K:PySem.W.Frag):R2:=fun x y H Q=>∃ p xs i v,x=.ref p/\y=.int i/\SqL K H p xs/\atI xs i=some v/\Q v H
def E5 (K:PySem.W.Frag):R2:=fun x y H Q=>∃ p xs i v,x=.ref p/\y=.int i/\SqT K H p xs/\atI xs i=some v/\Q v H
theorem cX:IxR X (E4 X.K):=by
 intro value slice pins s σ H x y v u Q I rx ry h hs
 obtain ⟨p,xs,i,z,rfl,rfl,hq,he,q⟩:=h
 cases rx
 obtain ⟨t,rfl⟩:=ry
 obtain ⟨its,r,pl,hz⟩:=I.list hq
 obtain ⟨j,h1,h2,h3,h4,h5⟩:=zw he
 obtain ⟨w,ew,rw'⟩:=r.get h2
 have hl:=r.length
 have hn:=sE
 have fin:EP X pins σ Q w s:=⟨z,H,I,rw',q⟩
 by_cases h0:0<=i
 ·have hj:i.toNat=j:=by
   rw [seqIndex_of h0 h5] at h1
   exact Option.some.inj h1
  exact item_listR pl.isList h0 (by omega) (by rw [hj]; simpa using ew) fin hs
 ·have hj:(i+(its.toArray.size:Int)).toNat=j:=by
   rw [seqIndex_neg (by omega) h4] at h1
   rw [List.size_toArray,<- hl]
   exact Option.some.inj h1
  exact subscriptTail_builtinR (x:=w) pl.isList.typeIs slot_list_getitem.lookup
   (wpAny_getItem_list_neg (Q:=fun r s'=>r=w/\EP X pins σ Q r s') pl.isList (by omega) (by rw [List.size_toArray] <;> omega) (by omega) (by rw [hj]; simpa using ew) ⟨rfl,fin⟩) hs
theorem aM:IxR X (E5 X.K):=by
 intro value slice pins s σ H x y v u Q I rx ry h hs
 obtain ⟨p,xs,i,z,rfl,rfl,hq,he,q⟩:=h
 cases rx
 obtain ⟨t,rfl⟩:=ry
 obtain ⟨its,r,pl,hz⟩:=I.tuple hq
 obtain ⟨j,h1,h2,h3,h4,h5⟩:=zw he
 obtain ⟨w,ew,rw'⟩:=r.get h2
 have hl:=r.length
 have hn:=sE
 have fin:EP X pins σ Q w s:=⟨z,H,I,rw',q⟩
 exact subscriptTail_builtinR (x:=w) pl.typeIs slot_tuple_getitem.lookup
  (getItem_tuple (j:=j) (Q:=fun r s'=>r=w/\EP X pins σ Q r s') pl (by omega) (by omega) (by rw [List.size_toArray,<- hl]; exact h1) (by simpa using ew) ⟨rfl,fin⟩) hs
theorem yy (its:List Value) (n j:Nat) (u:Value):Obj.mapSeq (·.setIfInBounds j u) { cls:=.type "list",data:=.seq its.toArray n }={ cls:=.type "list",data:=.seq (its.set j u).toArray n }:=by
 simp [Obj.mapSeq]
theorem Inv.lst {pins:List (Addr×Obj)} {σ:St} {H:Hp} {s:Shared} {p:Addr} {xs:List V} (I:Inv X pins σ H s) (h:H p=some (.lst xs)) :
  ∃ (its:List Value) (n:Nat),Vals xs its/\s.heap.get? p=some { cls:=.type "list",data:=.seq its.toArray n }/\xs.length<=sizeLine:=by
 obtain ⟨z,its,n,r,e⟩:=I.hok p _ h
 exact ⟨its,n,r,e,z⟩
theorem Inv.lstUpd {pins:List (Addr×Obj)} {σ:St} {H:Hp} {s:Shared} {p:Addr} {xs ys:List V} {its its':List Value} {n n':Nat} {f:Obj->Obj} (I:Inv X pins σ H s) (h:H p=some (.lst xs))
  (ho:s.heap.get? p=some { cls:=.type "list",data:=.seq its.toArray n }) (hf:f { cls:=.type "list",data:=.seq its.toArray n }={ cls:=.type "list",data:=.seq its'.toArray n' }) (r:Vals ys its') (hz:ys.length<=sizeLine) (t:Nat) :
  Inv X pins σ (upd H p (.lst ys)) { s with heap:=s.heap.update p f,toks:=t }:=by
 have e:(s.heap.update p f).get? p=some { cls:=.type "list",data:=.seq its'.toArray n' }:=by
  rw [Heap.get?_update_self f ho (by rw [hf] <;> rfl),hf]
 refine I.write (x:=p) (e:=p) (by rw [h]; trivial) (.inl rfl) (fun b u hb q=>(Heap.get?_update_other _ _ (Ne.symm hb)).trans q) ⟨_,e⟩ ?_
 exact ⟨hz,its',n',r,e⟩
def E6:V->V->V->Hp->(Hp->Prop)->Prop:=fun o i v H Q=>∃ p xs k j,o=.ref p/\i=.int k/\H p=some (.lst xs)/\ixN xs.length k=some j/\Q (upd H p (.lst (xs.set j v)))
theorem set_list:EL X E6:=by
 intro pins s σ H o i v ov iv u Q I ro ri rv h
 obtain ⟨p,xs,k,j,rfl,rfl,hp,hj,q⟩:=h
 cases ro
 obtain ⟨t,rfl⟩:=ri
 obtain ⟨its,n,r,ho,hz⟩:=I.lst hp
 obtain ⟨h1,h2,h3,h4⟩:=zI hj
 have hl:=r.length
 have hn:=sE
 have I':Inv X pins σ (upd H p (.lst (xs.set j v))) { s with heap:=s.heap.update p (Obj.mapSeq (·.setIfInBounds j u)) }:=
  I.lstUpd hp ho (yy its n j u) (r.set rv j) (by rw [List.length_set]; exact hz) s.toks
 by_cases h0:0<=k
 ·have hk:k.toNat=j:=by
   rw [seqIndex_of h0 h4] at h1
   exact Option.some.inj h1
  exact PySem.W.ki_setAt ho h0 (by omega) (by rw [List.size_toArray,<- hl]; exact h4) (by rw [hk]; exact ⟨_,I',q⟩)
 ·have hk:(k+(its.toArray.size:Int)).toNat=j:=by
   rw [seqIndex_neg (by omega) h3] at h1
   rw [List.size_toArray,<- hl]
   exact Option.some.inj h1
  exact PySem.W.ki_setBack ho (by omega) (by rw [List.size_toArray,<- hl]; exact h3) (by omega) (by rw [hk]; exact ⟨_,I',q⟩)
theorem aF:eU X (.builtin "len") (fun xs H Q=>∃ p ys,xs=[.ref p]/\(SqL X.K H p ys\/SqT X.K H p ys)/\Q (.int ys.length) H):=by
 intro pins s σ H xs us Q I r h
 obtain ⟨p,ys,rfl,hq,q⟩:=h
 obtain ⟨u,rfl,rx⟩:=vals1 r
 cases rx
 have hn:=sE
 rcases hq with hq | hq
 ·obtain ⟨its,r',pl,hz⟩:=I.list hq
  have hlen:=r'.length
  exact Calls.call_len_list pl.isList (by simp only [List.size_toArray] <;> omega) ⟨.int ys.length,H,I.tok _,⟨s.toks+1,by rw [List.size_toArray,hlen]⟩,q⟩
 ·obtain ⟨its,r',pl,hz⟩:=I.tuple hq
  have hlen:=r'.length
  exact len_tuple pl (by simp only [List.size_toArray] <;> omega) ⟨.int ys.length,H,I.tok _,⟨s.toks+1,by rw [List.size_toArray,hlen]⟩,q⟩
theorem vH:eU X (.type "list") (fun xs H Q=>∃ p ys,xs=[.ref p]/\(SqL X.K H p ys\/SqT X.K H p ys)/\∀ l,H l=none->Q (.ref l) (upd H l (.lst ys))):=by
 intro pins s σ H xs us Q I r h
 obtain ⟨p,ys,rfl,hq,q⟩:=h
 obtain ⟨u,rfl,rx⟩:=vals1 r
 cases rx
 have fin:∀ (its:List Value),Vals ys its->ys.length<=sizeLine->∀ (h':Heap) (c':Nat),(∀ b o',s.heap.get? b=some o'->h'.get? b=some o') ->
   h'.get? s.heap.objs.size=some { cls:=.type "list",dict:=none,data:=.seq its.toArray c',slots := #[] }->EP X pins σ Q (.ref s.heap.objs.size) { s with heap:=h' }:=fun its r' hz h' c' kp e =>
  ⟨.ref s.heap.objs.size,_,I.laid (t' := s.toks) kp (Nat.le_refl _) (show ObjOk X.prog X.w _ h' _ (.lst ys) from ⟨hz,its,c',r',e⟩),rfl,q _ (I.hok.fresh (Nat.le_refl _))⟩
 rcases hq with hq | hq
 ·obtain ⟨its,r',pl,hz⟩:=I.list hq
  have hlen:=r'.length
  obtain ⟨o,ho,hc,n,hd⟩:=pl.isList
  exact call_list_seq p (.inl rfl) ho hc hd (fun h' c' kp e=>fin its r' hz h' c' kp e) (by simp only [List.size_toArray] <;> omega)
 ·obtain ⟨its,r',pl,hz⟩:=I.tuple hq
  have hlen:=r'.length
  obtain ⟨o,ho,hc,n,hd⟩:=pl
  exact call_list_seq p (.inr rfl) ho hc hd (fun h' c' kp e=>fin its r' hz h' c' kp e) (by simp only [List.size_toArray] <;> omega)
theorem aX:eU X (.type "tuple") (fun xs H Q=>∃ p ys,xs=[.ref p]/\((SqL X.K H p ys/\∀ l,H l=none->Q (.ref l) (upd H l (.tup ys)))\/(SqT X.K H p ys/\Q (.ref p) H))):=by
 intro pins s σ H xs us Q I r h
 obtain ⟨p,ys,rfl,h⟩:=h
 obtain ⟨u,rfl,rx⟩:=vals1 r
 cases rx
 rcases h with ⟨hq,q⟩ | ⟨hq,q⟩
 ·obtain ⟨its,r',pl,hz⟩:=I.list hq
  have hlen:=r'.length
  refine call_tuple_list pl.isList (fun h' kp=>?_) (by simp only [List.size_toArray] <;> omega)
  have I1:Inv X pins σ H { s with heap:=h' }:=I.kept (t' := s.toks) kp
  have I2:Inv X pins σ (upd H h'.objs.size (.tup ys)) { s with heap:=h'.push { cls:=.type "tuple",data:=.seq its.toArray } }:=
   I1.laid (t' := s.toks) (fun b o e=>Heap.get?_push_of_some _ e) (Nat.le_refl _) (show ObjOk X.prog X.w _ _ _ (.tup ys) from ⟨hz,its,r',IsTup.new _ _⟩)
  exact ⟨.ref h'.objs.size,_,I2,rfl,q _ (I1.hok.fresh (Nat.le_refl _))⟩
 ·obtain ⟨its,r',pl,hz⟩:=I.tuple hq
  exact call_tuple_same pl ⟨.ref p,H,I,rfl,q⟩
def tyV (K:PySem.W.Frag) (T:String) (x:V) (H:Hp):Prop:=match x with
 | .str _=>T = "str"
 | .int _=>T = "int"
 | .ref p=>(T = "list" /\ ∃ xs,SqL K H p xs)\/(T = "tuple" /\ ∃ o,K.lookup p=some o/\o.cls=.type "tuple" /\ o.dict=none) \/
   (T = "dict" /\ ((∃ kvs,H p=some (.dK kvs))\/∃ kvs,H p=some (.dT kvs)))\/(T = "set" /\ ∃ S n,H p=some (.set S n))
 | _=>False
theorem CB {pins:List (Addr×Obj)} {σ:St} {H:Hp} {s:Shared} {T:String} {x:V} {v:Value} (I:Inv X pins σ H s) (r:RelV x v) (ty:tyV X.K T x H) :
  s.TypeIs v T/\∀ a,v=.ref a->∃ ob,s.heap.get? a=some ob/\ob.dict=none:=by
 cases x with
 | str z =>
  obtain ⟨t,rfl⟩:=r
  cases (show T = "str" from ty)
  exact ⟨typeIs_str s z t,fun _ e=>nomatch e⟩
 | int i =>
  obtain ⟨t,rfl⟩:=r
  cases (show T = "int" from ty)
  exact ⟨typeIs_int s i t,fun _ e=>nomatch e⟩
 | ref p =>
  cases r
  rcases ty with ⟨rfl,xs,hq⟩ | ⟨rfl,o,hk,hc,hd⟩ | ⟨rfl,hk⟩ | ⟨rfl,S,n,hk⟩
  ·obtain ⟨its,_,pl,_⟩:=I.list hq
   refine ⟨pl.isList.typeIs,fun a e=>?_⟩
   cases e
   obtain ⟨o,n,e,c,hd,_⟩:=pl
   exact ⟨o,e,hd⟩
  ·refine ⟨⟨o,I.kIn p o hk,hc⟩,fun a e=>?_⟩
   cases e
   exact ⟨o,I.kIn _ o hk,hd⟩
  ·have z:∃ o,s.heap.get? p=some o/\o.ExactDict:=by
    rcases hk with ⟨kvs,hk⟩ | ⟨kvs,hk⟩
    ·obtain ⟨_,_,_,_,o,_,_,e,ex,_⟩:=I.hok p _ hk
     exact ⟨o,e,ex⟩
    ·obtain ⟨_,_,_,_,o,_,_,e,ex,_⟩:=I.hok p _ hk
     exact ⟨o,e,ex⟩
   obtain ⟨o,e,ex⟩:=z
   refine ⟨⟨o,e,ex.1⟩,fun a e2=>?_⟩
   cases e2
   exact ⟨o,e,ex.2.1⟩
  ·obtain ⟨o,_,_,_,e,ex,_⟩:=I.hok p _ hk
   refine ⟨⟨o,e,ex.1⟩,fun a e2=>?_⟩
   cases e2
   exact ⟨o,e,ex.2.1⟩
 | _=>exact False.elim ty
def FJ (K:PySem.W.Frag) (T:String) (r:V->List V->Hp->VK->Prop) (to:TE):TE:=fun σ H Q=>to σ H fun x H1=>tyV K T x H1/\r x [] H1 Q
def tBM (K:PySem.W.Frag) (T:String) (r:V->List V->Hp->VK->Prop) (to:TE) (t:TA):TE:=fun σ H Q=>to σ H fun x H1=>tyV K T x H1/\t σ H1 fun xs H2=>r x xs H2 Q
variable {o e:Expr} {es:List Expr} {to:TE} {t:TA} {name:Str} {apos cpos:Pos} {T id:String} {r:V->List V->Hp->VK->Prop}
theorem BX (pa:PlainAttrs T) (slot:Slot T name id) (hty:typeOf (.builtin id)=pure (.type "method_descriptor")) (hm:MtR X id r) (ho:PE X o to)
  (hbase:attributeBase o name X.env (eval o X.env)=eval o X.env:=by rfl) (hline:(apos.endLine==cpos.line)=true:=by rfl):PE X (.Call (.Attribute o name apos) [] [] cpos) (FJ X.K T r to):=by
 intro pins s σ H Q I h
 refine wpAny_Call_method0_late hbase hline (thn (ho pins s σ H _ I h) fun v s1 ⟨x,H1,I1,r1,ty,q1⟩=>?_)
 obtain ⟨h1,h2⟩:=CB I1 r1 ty
 exact ⟨T,id,pa,slot,hty,h1,h2,Calls.callWith_builtin rfl (PySem.evalArgs_none (hm pins s1 σ H1 x [] v [] Q I1 r1 .nil q1))⟩
theorem i8 (pa:PlainAttrs T) (slot:Slot T name id) (hty:typeOf (.builtin id)=pure (.type "method_descriptor")) (hm:MtR X id r) (ho:PE X o to) (ha:PA X (e :: es) t)
  (hbase:attributeBase o name X.env (eval o X.env)=eval o X.env:=by rfl)
  (hfew:((backTo cpos (starEach (e :: es) X.env)).all (fun x=>!x.1)&&(backToKw cpos (keywordEach [] X.env)).all (fun x=>x.1.isSome)
   && decide ((e :: es).length+([]:List Keyword).length+(if ([]:List Keyword).isEmpty then 0 else 1)<30))=true:=by rfl)
  (hline:(apos.endLine==cpos.line)=true:=by rfl) (hs:starEach (e :: es) X.env=(false,eval e X.env) :: starEach es X.env:=by rfl) (hplain:(backTo cpos (starEach es X.env)).any (·.1)=false:=by rfl) :
  PE X (.Call (.Attribute o name apos) (e :: es) [] cpos) (tBM X.K T r to t):=by
 intro pins s σ H Q I h
 refine wpAny_Call_method_late hbase hfew hline rfl (thn (ho pins s σ H _ I h) fun v s1 ⟨x,H1,I1,r1,ty,q1⟩=>?_)
 obtain ⟨h1,h2⟩:=CB I1 r1 ty
 refine ⟨T,id,pa,slot,hty,h1,h2,?_⟩
 have hA:=ha cpos pins s1 σ H1 _ I1 q1
 rw [hs] at hA ⊢
 refine Calls.callWith_builtin (by show (false||(backTo cpos (starEach es X.env)).any (·.1))=false; rw [hplain] <;> rfl) (Calls.evalArgs_plain ?_)
 exact thn hA fun us s2 ⟨vs,H2,I2,r2,q2⟩=>hm pins s2 σ H2 x vs v us Q I2 r1 r2 q2
/- xs.append(e),list.index on a module's tuple .. are MtR facts of 06m -/
end
end L2
namespace L2
open PySem PySem.Spec PyProof.Rows
def MtM (X:Cx) (id:String) (r:V->List V->Hp->VK->Prop):Prop:=
 ∀ (pins:List (Addr×Obj)) (s:Shared) (σ:St) (H:Hp) (x:V) (xs:List V) (v:Value) (us:List Value) (Q:VK),Inv X pins σ H s->RelV x v->Vals xs us->r x xs H Q ->
  wpAny (model X.prog X.w) X.A (call (.builtin id) (v :: us)) (EP X pins σ Q) X.xe s
theorem Vals.one:∀ {x:V} {us:List Value},Vals [x] us->∃ u,us=[u]/\RelV x u
 | _,_,.cons r .nil=>⟨_,rfl,r⟩
theorem Vals.two:∀ {x y:V} {us:List Value},Vals [x,y] us->∃ u v,us=[u,v]/\RelV x u/\RelV y v
 | _,_,_,.cons r (.cons q .nil)=>⟨_,_,rfl,r,q⟩
theorem Vals.zero:∀ {us:List Value},Vals [] us->us=[]
 | _,.nil=>rfl
theorem Vals.dropLast {xs:List V} {us:List Value} (h:Vals xs us):Vals xs.dropLast us.dropLast:=by
 induction h with
 | nil=>exact .nil
 | cons r t ih =>
  cases t with
  | nil=>exact .nil
  | cons q t'=>exact .cons r ih
theorem yl {α:Type} (l:List α):l.eraseIdx (l.length-1)=l.dropLast:=by
 induction l with
 | nil=>rfl
 | cons a r ih =>
  cases r with
  | nil=>rfl
  | cons b r =>
   have e:(a :: b :: r).length-1=((b :: r).length-1)+1:=by
    have h1:(a :: b :: r).length=r.length+2:=rfl
    have h2:(b :: r).length=r.length+1:=rfl
    omega
   rw [e,List.eraseIdx_cons_succ,ih]
   all_goals rfl
section
variable {X:Cx} {pins:List (Addr×Obj)} {σ:St} {H:Hp} {s:Shared} {l b:Addr} {xs ys zs:List V}
theorem Inv.lset {its its':List Value} {n:Nat} {f:Array Value->Array Value} {t':Nat} (I:Inv X pins σ H s) (hH:H l=some (.lst xs))
  (e:s.heap.get? l=some { cls:=.type "list",data:=.seq its.toArray n }) (hf:f its.toArray=its'.toArray) (hv:Vals ys its') (hz:ys.length<=sizeLine) :
  Inv X pins σ (upd H l (.lst ys)) { s with heap:=s.heap.update l (Obj.mapSeq f),toks:=t' }:=by
 have q:=PySem.IsL.update e f
 rw [hf] at q
 refine I.write (x:=l) (e:=l) (by rw [hH]; exact trivial) (.inl rfl) (fun b' u hb hu=>(Heap.get?_update_other s.heap (Obj.mapSeq f) (Ne.symm hb)).trans hu) ⟨_,q⟩ ?_
 exact ⟨hz,its',_,hv,q⟩
theorem Inv.lstM (I:Inv X pins σ H s) (hH:H l=some (.lst xs)):xs.length<=sizeLine/\∃ (its:List Value) (n:Nat),Vals xs its/\xs.length=its.length/\s.heap.get? l=some { cls:=.type "list",data:=.seq its.toArray n }:=by
 obtain ⟨z,its,n,r,e⟩:=I.hok l _ hH
 exact ⟨z,its,n,r,r.length,e⟩
theorem xy {n:Nat} (h:n<=sizeLine):Builtin.List.listTooLong n=false:=by
 unfold Builtin.List.listTooLong
 exact decide_eq_false (by omega)
end
section
variable {X:Cx}
def Dr:V->List V->Hp->VK->Prop:=fun x vs H Q=>∃ l xs y,x=.ref l/\vs=[y]/\H l=some (.lst xs)/\xs.length<sizeLine/\Q .non (upd H l (.lst (xs++[y])))
theorem b7:MtM X "list.append" Dr:=by
 intro pins s σ H x vs v us Q I rx rv h
 obtain ⟨l,xs,y,rfl,rfl,hH,hz,q⟩:=h
 cases rx
 obtain ⟨u,rfl,ru⟩:=rv.one
 obtain ⟨z,its,n,r,hl,e⟩:=I.lstM hH
 refine call_meets F.slot_list_append ⟨_,e,rfl⟩ F.entry_list_append (F.args_list_append_2 _ _) (PySem.list_append l its.toArray n u (by rw [List.size_toArray]; omega)) ⟨e,?_⟩
 refine ⟨.non,_,I.lset (its' := its++[u]) hH e (by simp) (r.append (.cons ru .nil)) ?_,rfl,q⟩
 rw [List.length_append,List.length_singleton]
 omega
def zT:V->List V->Hp->VK->Prop:=fun x vs H Q=>∃ l b xs zs,x=.ref l/\vs=[.ref b]/\H l=some (.lst xs)/\H b=some (.lst zs)/\xs.length+zs.length<=sizeLine/\Q .non (upd H l (.lst (xs++zs)))
theorem Ax:MtM X "list.extend" zT:=by
 intro pins s σ H x vs v us Q I rx rv h
 obtain ⟨l,b,xs,zs,rfl,rfl,hH,hB,hz,q⟩:=h
 cases rx
 obtain ⟨u,rfl,ru⟩:=rv.one
 cases ru
 obtain ⟨z,its,n,r,hl,e⟩:=I.lstM hH
 obtain ⟨z2,its2,n2,r2,hl2,e2⟩:=I.lstM hB
 have hsz:its.toArray.size+its2.toArray.size<=sizeLine:=by rw [List.size_toArray,List.size_toArray]; omega
 have hlong:¬ (!its.toArray.isEmpty&&Builtin.List.listTooLong (its.toArray.size+its2.toArray.size))=true:=by
  rw [xy hsz,Bool.and_false]
  exact Bool.false_ne_true
 refine call_meets F.slot_list_extend ⟨_,e,rfl⟩ F.entry_list_extend (F.args_list_extend_2 _ _)
  (AutoSeq1.list_extend_list_list_0 l its.toArray n b its2.toArray n2 hlong (by rw [List.size_toArray]; omega) (by omega)) ⟨e,e2,?_⟩
 refine ⟨.non,_,I.lset (its' := its++its2) hH e (by simp) (r.append r2) ?_,rfl,q⟩
 rw [List.length_append]
 omega
def FG:V->List V->Hp->VK->Prop:=fun x vs H Q=>∃ l xs y,x=.ref l/\vs=[]/\H l=some (.lst xs)/\xs[xs.length-1]?=some y/\Q y (upd H l (.lst xs.dropLast))
theorem Ec:MtM X "list.pop" FG:=by
 intro pins s σ H x vs v us Q I rx rv h
 obtain ⟨l,xs,y,rfl,rfl,hH,hy,q⟩:=h
 cases rx
 have hus:=rv.zero
 subst hus
 obtain ⟨z,its,n,r,hl,e⟩:=I.lstM hH
 obtain ⟨u,hu,ru⟩:=r.get hy
 have hy':its.toArray[its.toArray.size-1]?=some u:=by
  show its.toArray[its.length-1]?=some u
  rw [<- Array.getElem?_toList,<- hl]
  exact hu
 refine call_meets F.slot_list_pop ⟨_,e,rfl⟩ F.entry_list_pop (F.args_list_pop_1 _) (MeetsSeq.list_pop_last l its.toArray n u hy' (by rw [List.size_toArray]; omega)) ⟨e,?_⟩
 refine ⟨y,_,I.lset (its' := its.dropLast) hH e ?_ r.dropLast ?_,ru,q⟩
 ·show its.toArray.eraseIdxIfInBounds (its.toArray.size-1)=its.dropLast.toArray
  rw [List.size_toArray,List.eraseIdxIfInBounds_toArray,yl]
 ·rw [List.length_dropLast]
  omega
end
section
variable {prog:Program} {w:World} {A:Around} {E:Value->Shared->Prop} {s:Shared}
end
section
variable {X:Cx}
end
end L2
namespace Att
open PySem PySem.W PySem.Calls PyProof.Rows
theorem qy {P:Params} {h:Heap}:∀ (ns:List Int) (vs:List Value),WellAll P h vs (ns.map WData.int)->IntsAre vs ns:=by
 intro ns
 induction ns with
 | nil =>
  intro vs w
  rw [List.map_nil] at w
  cases w
  exact .nil
 | cons n ns ih =>
  intro vs w
  rw [List.map_cons] at w
  cases w with
  | cons a b =>
   cases a
   exact .cons _ _ (ih _ b)
theorem AL {l:OpenLaw} {n:Nat} (hn:l.most=some n) {P:Params} {h:Heap} {args:List WData} {vals:List Value}
  (hpre:l.row.toRowW.claim.pre args=true) (hwl:WellAll P h vals args) :
  ∃ a vs ns,vals=[Value.ref a]/\args=[WData.list (ns.map WData.int)]/\h.get? a=some { cls:=.type "list",data:=.seq vs.toArray }/\IntsAre vs ns/\ns.length<=n:=by
 have hsh:WShape.hasAll [] args [.list .int]=true:=(pre_splitW hpre).1
 have hc:l.pre.holds [] { args:=args }=true:=(pre_splitW hpre).2
 obtain ⟨d,r,rfl,h1,h2⟩:=hasAllW_cons hsh
 obtain rfl:=hasAllW_nil h2
 obtain ⟨xs,rfl,h3⟩:=hasW_list h1
 obtain ⟨ns,rfl⟩:=items_int h3
 have hlen:ns.length<=n:=by
  unfold OpenLaw.pre at hc
  have h4:(WTm.not (.lt (.lit (.int (n:Int))) (.len (.arg 0)))).holds [] { args:=[.list (ns.map .int)] }=true:=by
   have h4:=(holds_andW hc).1
   rw [hn] at h4
   exact h4
  have h5:=condW_of h4 (w_not (w_lt w_lit (w_len_list (w_arg rfl))))
  rw [List.length_map] at h5
  refine Nat.le_of_not_lt fun q=>?_
  have q':(n:Int)<((ns.length:Nat):Int):=by omega
  first
   | (rw [decide_eq_true q'] at h5; exact absurd h5 (by decide))
   | (simp at h5; omega)
 cases hwl with
 | cons w1 w2 =>
  cases w2
  cases w1 with
  | list ho hall=>exact ⟨_,_,ns,rfl,rfl,ho,qy ns _ hall,hlen⟩
theorem AK (l:OpenLaw) (args:List WData):l.row.toRowW.claim.post args (.bool true) args=true:=
 postW_of (r:=l.row.toRowW) (X:=(true==true))
  (show WShape.has [] (.bool true) .bool=true by first | rfl | decide | simp [WShape.has,WShape.arms,WShape.armsAll])
  (show (WTm.eq .res (.lit (.bool true))).value [] { args:=args,res:=some (.bool true),after:=args }=some (.bool (true==true)) from w_eq_bool (w_res rfl) w_lit) rfl
theorem attach_call {l:OpenLaw} {n:Nat} {q:Program} {loose:List Str} {XP:(Str->Option Value)->Heap->Prop} {YP:World->Heap->Prop} {d:DefRec}
  (hn:l.most=some n) (hdf:d.params.defaults=[])
  (call:∀ (w:World) (s₀ s₁:Shared) (mg mb:Str->Option Value) (fa:Addr) (o:Obj) (pm cd doc:Value) (a:Addr) (vs:List Value) (ns:List Int),
   Ground q loose [] XP w s₀ mg mb s₁.heap->YP w s₁.heap ->
   s₁.heap.get? fa=some o->o.data=.func (docDef d.name d.params d.body d.scope pm cd doc)->s₁.heap.CodeRec cd d.name->mg d.name=some (.ref fa) ->
   s₁.heap.get? a=some { cls:=.type "list",data:=.seq vs.toArray }->IntsAre vs ns->ns.length<=n->s₁.gens=#[] ->
   codeAny (model l.prog w) callerA (.call (.ref fa) ⟨[.ref a],[]⟩) (fun r s'=>r=.ok (.ret (.bool true))/\OldK s₁.heap s'.heap/\s'.os=s₁.os/\AllBare s'.gens) s₁) :
  WalkO q loose XP YP l.row.toRowW d [] (fun f vs=>PySem.call f vs):=by
 intro w s₀ s₁ mg mb G Y fa o pm cd doc dV kV ho hd hcd hD hmg hg args vals as hpre hlay hrd hwl hlo
 obtain rfl:dV=.none:=Dflts.none hD hdf
 obtain rfl:kV=.none:=Dflts.noKw hD
 obtain ⟨a,vs,ns,rfl,rfl,hobj,hints,hlen⟩:=AL hn hpre hwl
 refine enter_call (codeAny_mono (call w s₀ s₁ mg mb fa o pm cd doc a vs ns G Y ho (fd_plain hd) hcd hmg hobj hints hlen hg) fun r s' hq=>?_)
 obtain ⟨rfl,h2,h3,h4⟩:=hq
 exact ⟨.inl ⟨.bool true,.bool true,[],rfl,fun _=>rfl,.bool true,AK l _,fun _=>⟨List.Pairwise.nil,fun _ hm=>(nomatch hm)⟩⟩,h2,h3,h4⟩
section
variable {prog:Program} {w:World} {A:Around} {E:Value->Shared->Prop} {s:Shared} {K:Frag}
def ledger (h:Heap) (L d:Addr):List (Addr×Obj):=(List.range h.objs.size).filterMap fun a=>if a=L\/a=d then none else (h.get? a).map fun o=>(a,o)
end
end Att
namespace L2
open PySem PySem.Spec PyProof.Rows
theorem vu:∀ {vs:List Value} {ns:List Int},IntsAre vs ns->Vals (ns.map V.int) vs
 | _,_,.nil=>.nil
 | _,_,.cons n t h=>.cons ⟨t,rfl⟩ (vu h)
def DL (H:Hp):Prop := ∀ b,H b=none\/∃ o xs,H b=some (.frz o (.lst xs))
theorem BB {P:Program} {w:World} {K:PySem.W.Frag} {mg mb:Str->Option Value} {CX:CXT} {k:Nat} {fa a:Addr} {fd:FuncData} {x:Str} {sp:Sp} {s₁:Shared} {vs:List Value} {ns:List Int}
  (KX:K.In s₁.heap) (hns:s₁.heap.Ns mainGlobals mg) (hb:s₁.heap.Ns builtinsNs mb) (hbb:∀ x:Str,x ≠ "__name__" -> mb x=bootBuiltins x) (hlim:s₁.heap.NoLimit) (hg:s₁.gens=#[])
  (ha:s₁.heap.get? a=some { cls:=.type "list",data:=.seq vs.toArray }) (hi:IntsAre vs ns) (hl:ns.length<=sizeLine) (hr:Room k callerA)
  (F:∀ base:Heap,K.In base->base.Ns mainGlobals mg->FnOk P w K mg base CX k fa fd [x] sp) (hbind:∀ (s:Shared) (u:Value),BindsTo s fd ⟨[u],[]⟩ [(x,u)])
  (hsp:∀ H:Hp,DL H->SqL K H a (ns.map V.int)->sp [.ref a] H (fun v _=>v=.bl true) fun _ _ _=>False)
  (hCX:∀ H e s',CX [] H s₁ (fun _ _ _=>False) e s'->False) :
  codeAny (model P w) callerA (.call (.ref fa) ⟨[.ref a],[]⟩) (fun r s'=>r=.ok (.ret (.bool true))/\OldK s₁.heap s'.heap/\s'.os=s₁.os/\AllBare s'.gens) s₁:=by
 have rv:=vu hi
 have lenV:=hi.length
 have core:∀ H:Hp,DL H->SqL K H a (ns.map V.int)->HOk P w H s₁.heap->(∀ b,H b≠none->b=a)->(H a≠none->K.lookup a=none) ->
   codeAny (model P w) callerA (.call (.ref fa) ⟨[.ref a],[]⟩) (fun r s'=>r=.ok (.ret (.bool true))/\OldK s₁.heap s'.heap/\s'.os=s₁.os/\AllBare s'.gens) s₁:=by
  intro H hO hS hok hA hK
  have base_of:∀ {b:Addr} {o:Obj},s₁.heap.get? b=some o->H b=none->(vR s₁.heap H).get? b=some o:=fun e n=>Bo e n
  have noA:∀ {b:Addr} {o:Obj} {es:Array DictEntry} {ep:Nat},s₁.heap.get? b=some o->o.data=.dict es ep->H b=none:=fun {b o es ep} e d=>by
   cases q:H b with
   | none=>rfl
   | some u =>
    have e':b=a:=hA b (by rw [q]; simp)
    subst e'
    rw [ha] at e; cases e
    have d':Data.seq vs.toArray _=Data.dict es ep:=d
    cases d'
  have nsK:∀ {b:Addr} {m:Str->Option Value},s₁.heap.Ns b m->(vR s₁.heap H).Ns b m:=fun {b m} ⟨o,es,ep,e,d,r⟩=>⟨o,es,ep,base_of e (noA e d),d,r⟩
  have hKb:K.In (vR s₁.heap H):=fun b o e=>base_of (KX b o e) (by
   cases q:H b with
   | none=>rfl
   | some u =>
    have e':b=a:=hA b (by rw [q]; simp)
    subst e'
    rw [hK (by rw [q]; simp)] at e; cases e)
  have hM:Mod K mg (vR s₁.heap H):=⟨hKb,nsK hns,⟨mb,nsK hb,hbb⟩,let ⟨mc,h1,h2⟩:=hlim; ⟨mc,nsK h1,h2⟩⟩
  have e0:Env0 P w K mg (vR s₁.heap H) callerA [] s₁ H:=⟨rfl,hM,fun b o e=>C9 e,Nat.le_of_eq (An _ _),trivial,fun b hb=>absurd (show b∈([]:List Addr) from hb) (by simp),hok,.of_eq hg⟩
  refine codeAny_mono ((F _ hKb (nsK hns)).run callerA [] s₁ H ⟨[.ref a],[]⟩ [.ref a] [.ref a] _ _ hr e0 (hbind s₁ (.ref a)) (.cons rfl .nil) (hsp H hO hS)) fun r s' h=>?_
  cases r with
  | error e=>exact (hCX H e s' h).elim
  | ok fl =>
   cases fl with
   | next=>exact False.elim h
   | brk=>exact False.elim h
   | cont=>exact False.elim h
   | ret u =>
    obtain ⟨v,H',os,bare,un,hok',r',q⟩:=h
    have q':v=.bl true:=q
    subst q'
    obtain rfl:u=Value.bool true:=r'
    refine ⟨rfl,OldK.of_keep fun b o e=>?_,os,bare⟩
    cases q:H b with
    | none=>exact un.keep b o e q (by intro z; exact absurd (show b∈([]:List Addr) from z) (by simp)) (by simp)
    | some u =>
     rcases hO b with z | ⟨ob,xs,z⟩
     ·rw [q] at z; cases z
     ·have z2:=un.frzs b ob _ z
      obtain ⟨e1,_⟩:=hok b _ z
      obtain ⟨e2,_⟩:=hok' b _ z2
      rw [e] at e1; cases e1
      exact e2
 cases hk:K.lookup a with
 | some o =>
  have e:=KX a o hk
  rw [ha] at e
  cases e
  refine core (fun _=>none) (fun _=>.inl rfl) (.inr ⟨_,vs.toArray,_,hk,rfl,rfl,rfl,by rw [List.size_toArray,lenV]; exact hl,by simpa using rv⟩) (fun b u z=>by have z':(none:Option HO)=some u:=z; cases z') (fun b z=>absurd rfl z) fun z=>absurd rfl z
 | none =>
  refine core (fun b=>if b=a then some (.frz { cls:=.type "list",data:=.seq vs.toArray } (.lst (ns.map V.int))) else none) (fun b=>?_) (.inl (.inr ⟨{ cls:=.type "list",data:=.seq vs.toArray },if_pos rfl⟩)) (fun b u z=>?_) (fun b z=>?_) fun _=>hk
  ·by_cases hb:b=a
   ·exact .inr ⟨_,_,if_pos hb⟩
   ·exact .inl (if_neg hb)
  ·by_cases hb:b=a
   ·have z' := (if_pos hb).symm.trans z
    cases z'
    subst hb
    exact ⟨ha,by rw [List.length_map]; exact hl,vs,_,rv,ha⟩
   ·have z' := (if_neg hb).symm.trans z
    cases z'
  ·by_cases hb:b=a
   ·exact hb
   ·exact absurd (if_neg hb) z
end L2
namespace L2
open PySem PySem.Spec PyProof.Rows
theorem walk_of {l:PySem.W.OpenLaw} {n k:Nat} {q:Program} {loose:List Str} {XP:(Str->Option Value)->Heap->Prop} {YP:World->Heap->Prop} {d:DefRec} {K:Params->PySem.W.Frag} {CX:World->CXT} {sp:World->Sp} {x:Str}
  (hn:l.most=some n) (hn2:n<=sizeLine) (hdf:d.params.defaults=[]) (hr:Room k callerA)
  (hY:∀ (w:World) (h:Heap),YP w h->(K w.params).In h)
  (F:∀ (w:World) (mg:Str->Option Value) (fa:Addr) (h:Heap),(K w.params).In h->h.Ns mainGlobals mg->mg d.name=some (.ref fa) ->
   ∃ fd:FuncData,(∀ (s:Shared) (u:Value),BindsTo s fd ⟨[u],[]⟩ [(x,u)]) /\
    ∀ base:Heap,(K w.params).In base->base.Ns mainGlobals mg->FnOk l.prog w (K w.params) mg base (CX w) k fa fd [x] (sp w))
  (hsp:∀ (w:World) (H:Hp) (a:Addr) (ns:List Int),ns.length<=n->DL H->SqL (K w.params) H a (ns.map V.int)->sp w [.ref a] H (fun v _=>v=.bl true) fun _ _ _=>False)
  (hCX:∀ (w:World) (H:Hp) (s:Shared) (e:Value) (s':Shared),CX w [] H s (fun _ _ _=>False) e s'->False) :
  PySem.W.WalkO q loose XP YP l.row.toRowW d [] (fun f vs=>PySem.call f vs):=by
 refine Att.attach_call hn hdf fun w s₀ s₁ mg mb fa o pm cd doc a vs ns G Y ho hd hcd hmg hobj hints hlen hg=>?_
 have KX:=hY w _ Y
 obtain ⟨fd,hb,hF⟩:=F w mg fa _ KX G.T.g hmg
 exact BB KX G.T.g G.T.b G.T.builtins G.T.nolimit hg hobj hints (Nat.le_trans hlen hn2) hr hF hb (fun H hO hS=>hsp w H a ns hlen hO hS) fun H e s'=>hCX w H s₁ e s'
end L2
namespace L2
open PySem PySem.Spec PyProof.Rows
def inClass (s:Stmt) (j:Nat):Stmt:=match s with
 | .ClassDef _ _ _ body _ _ _ _ _ _ _=>body.getD j (.Pass ⟨0,0,0,0⟩)
 | _=>.Pass ⟨0,0,0,0⟩
def aL (s:Stmt):Arguments:=match s with
 | .FunctionDef _ a _ _ _ _ _ _ _ _=>a
 | _=>{ posonlyargs:=[],args:=[],vararg:=none,kwonlyargs:=[],kw_defaults:=[],kwarg:=none,defaults:=[] }
def aI (s:Stmt):List Stmt:=match s with
 | .FunctionDef _ _ b _ _ _ _ _ _ _=>b
 | _=>[]
def ak (s:Stmt):Scope:=match s with
 | .FunctionDef _ _ _ _ _ _ sc _ _ _=>sc
 | _=>{ kind:=.function,names:=[],isGenerator:=false,isCoroutine:=false }
abbrev CX0:CXT:=fun _ _ _ _ _ _=>False
abbrev E0:XK:=fun _ _ _=>False
theorem BW {X:Cx}:Passes CX0 X E0:=fun _ _ _ _ _ _ _ h=>h.elim
structure Fun (K:PySem.W.Frag) (x qual:Str) (st:Stmt) (f:Addr) (fd:FuncData):Prop where
 ex:∃ (oc:Value) (od:Option Addr) (kV doc pm:Value) (an:Option Addr) (cdv ct:Value) (osl:Array (Option Value)),
  fd=PySem.W.fnOf x qual (aL st) (aI st) (ak st) .none kV doc pm an cdv ct/\K.lookup f=some ⟨oc,od,.func fd,osl⟩/\PySem.W.codeIn K cdv qual=true
 kp:PySem.W.keepIn K (.ref f)=true
section
variable {P:Program} {w:World} {K:PySem.W.Frag} {mg:Str->Option Value} {base:Heap}
end
theorem ko {A:Around} {k:Nat} (hr:Room k A):A.units+1<cLine:=Nat.lt_of_le_of_lt (Nat.add_le_add_left (by decide:1<=64) _) hr.units
theorem ax {n:Nat} (h:n<=1000):n<sizeLine:=Nat.lt_of_le_of_lt h (by decide)
section
variable {X:Cx}
theorem pv (i:Nat) {x:Str} {pos:Pos} (hN:X.N[i]?=some x:=by rfl) (hv:Vis X.env.scope x:=by first | exact Or.inl rfl | exact Or.inr (Or.inl rfl) | exact Or.inr (Or.inr rfl)) (hd:(x==("__debug__" : Str))=false:=by decide)
  (hcd:(x==("__classdict__" : Str))=false:=by decide):PE X (.Name x pos) (Fo i):=Em hN hv hd hcd
end
theorem lA {A B:Prop} (h:B):if false=true then A else B:=by
 rw [if_neg Bool.false_ne_true]
 exact h
theorem uu {A B:Prop} (h:A):if true=true then A else B:=by
 rw [if_pos rfl]
 exact h
theorem EY {c A B:Prop} [Decidable c] (h1:c->A) (h2:¬ c->B):if c then A else B:=by
 by_cases h:c
 ·rw [if_pos h]
  exact h1 h
 ·rw [if_neg h]
  exact h2 h
def Same (H H':Hp):Prop := ∀ b o,H b=some o->H' b=some o
theorem Same.trans {H H1 H2:Hp} (a:Same H H1) (b:Same H1 H2):Same H H2:=fun c o h=>b c o (a c o h)
theorem Same.free {H H':Hp} (e:Same H H') {l:Addr} (h:H' l=Option.none):H l=Option.none:=by
 cases q:H l with
 | none=>rfl
 | some o =>
  rw [e l o q] at h
  cases h
theorem Same.seq {K:PySem.W.Frag} {H H':Hp} {a:Addr} {xs:List V} (e:Same H H') (h:SqL K H a xs):SqL K H' a xs:=by
 rcases h with (h | ⟨o,h⟩) | h
 ·exact .inl (.inl (e _ _ h))
 ·exact .inl (.inr ⟨o,e _ _ h⟩)
 ·exact .inr h
end L2
set_option Elab.async false
set_option linter.all false
set_option maxRecDepth 100000
namespace L2
open PySem PySem.Spec PyProof.Rows
def cR (cells:List (Str×Addr)):List (Str×NameKind)->List (Str×Addr)->List (Str×Addr)
 | [],cs=>cs
 | (n,k) :: r,cs=>cR cells r (if k==.free then (n,(cells.lookup n).getD 0) :: cs else cs)
theorem lN {scope:Scope} {env:Env} (h:∀ y∈scope.names,y.2=.free->∃ c,env.cells.lookup y.1=some c) :
  closureFor scope env=pure (cR env.cells scope.names []):=by
 have all:∀ (ns:List (Str×NameKind)) (cs:List (Str×Addr)),(∀ y∈ns,y.2=.free->∃ c,env.cells.lookup y.1=some c) ->
   (forIn ns cs (fun (x:Str×NameKind) (r:List (Str×Addr))=>(match x with
    | (name,kind)=>if (kind==NameKind.free)=true then (do let c <- cellOf env name; pure (ForInStep.yield ((name,c) :: r))) else pure (ForInStep.yield r):Sem (ForInStep (List (Str×Addr))))):Sem (List (Str×Addr)))
   = pure (cR env.cells ns cs):=by
  intro ns
  induction ns with
  | nil=>intro cs _; rfl
  | cons y r ih =>
   intro cs hy
   obtain ⟨n,k⟩:=y
   rw [List.forIn_cons]
   by_cases hk:k=.free
   ·subst hk
    obtain ⟨c,e⟩:=hy (n,.free) List.mem_cons_self rfl
    have e':env.cells.lookup n=some c:=e
    have e1:cellOf env n=pure c:=by unfold cellOf; rw [e']
    simp only [beq_self_eq_true,if_true,e1,pure_bind]
    rw [ih _ fun z hz=>hy z (List.mem_cons_of_mem _ hz)]
    simp only [cR,beq_self_eq_true,if_true,e',Option.getD_some]
   ·have hb:(k==NameKind.free)=false:=by simpa using hk
    simp only [hb,Bool.false_eq_true,if_false,pure_bind]
    rw [ih _ fun z hz=>hy z (List.mem_cons_of_mem _ hz)]
    simp only [cR,hb,Bool.false_eq_true,if_false]
 unfold closureFor
 have q:=all scope.names [] h
 simp only [bind_pure]
 exact q
theorem lM (cells:List (Str×Addr)) {x:Str} {c:Addr}:∀ (ns:List (Str×NameKind)) (cs:List (Str×Addr)),(cR cells ns cs).lookup x=some c ->
  ((x,NameKind.free)∈ns/\(cells.lookup x).getD 0=c)\/cs.lookup x=some c
 | [],_,h=>.inr h
 | (n,k) :: r,cs,h=>by
  rcases lM cells r _ h with ⟨h1,h2⟩ | h1
  ·exact .inl ⟨List.mem_cons_of_mem _ h1,h2⟩
  ·by_cases hk:k=.free
   ·subst hk
    simp only [beq_self_eq_true,if_true] at h1
    by_cases hx:x=n
    ·subst hx
     simp only [List.lookup_cons,beq_self_eq_true] at h1
     exact .inl ⟨List.mem_cons_self,Option.some.inj h1⟩
    ·have hb:(x==n)=false:=by simpa using hx
     simp only [List.lookup_cons,hb] at h1
     exact .inr h1
   ·have hb:(k==NameKind.free)=false:=by simpa using hk
    simp only [hb,Bool.false_eq_true,if_false] at h1
    exact .inr h1
theorem jv (cells:List (Str×Addr)) {x:Str} {c:Addr} (e:cells.lookup x=some c):∀ (ns:List (Str×NameKind)) (cs:List (Str×Addr)),((x,NameKind.free)∈ns\/cs.lookup x=some c) ->
  (cR cells ns cs).lookup x=some c
 | [],_,h=>by
  rcases h with h | h
  ·cases h
  ·exact h
 | (n,k) :: r,cs,h=>by
  refine jv cells e r _ ?_
  rcases h with h | h
  ·rcases List.mem_cons.mp h with z | z
   ·cases z
    right
    simp only [beq_self_eq_true,if_true,List.lookup_cons,e,Option.getD_some]
   ·exact .inl z
  ·right
   by_cases hk:(k==NameKind.free)=true
   ·rw [if_pos hk]
    by_cases hx:x=n
    ·subst hx
     simp only [List.lookup_cons,beq_self_eq_true,e,Option.getD_some]
    ·have hb:(x==n)=false:=by simpa using hx
     simp only [List.lookup_cons,hb]
     exact h
   ·rw [if_neg hk]
    exact h
theorem ow {env:Env}:∀ {names:List (Str×NameKind)} {x:Str},names.lookup x=some .free ->
  (names.map fun (n,k)=>if (k==NameKind.free&&env.scope.kind==.function&&env.kindOf n==some .cell) then (n,NameKind.cell) else (n,k)).lookup x=some .cell \/
  (names.map fun (n,k)=>if (k==NameKind.free&&env.scope.kind==.function&&env.kindOf n==some .cell) then (n,NameKind.cell) else (n,k)).lookup x=some .free
 | [],_,h=>by simp at h
 | (n,k) :: r,x,h=>by
  have ih:=@ow env r x
  show List.lookup x ((if (k==NameKind.free&&env.scope.kind==.function&&env.kindOf n==some .cell)=true then (n,NameKind.cell) else (n,k)) :: _)=_ \/
   List.lookup x ((if (k==NameKind.free&&env.scope.kind==.function&&env.kindOf n==some .cell)=true then (n,NameKind.cell) else (n,k)) :: _)=_
  cases hx:x==n with
  | true =>
   simp only [List.lookup_cons,hx] at h
   cases h
   by_cases hc:(NameKind.free==NameKind.free&&env.scope.kind==.function&&env.kindOf n==some .cell)=true
   ·rw [if_pos hc]; simp only [List.lookup_cons,hx]; first | exact .inl trivial | exact .inl rfl
   ·rw [if_neg hc]; simp only [List.lookup_cons,hx]; first | exact .inr trivial | exact .inr rfl
  | false =>
   simp only [List.lookup_cons,hx] at h
   by_cases hc:(k==NameKind.free&&env.scope.kind==.function&&env.kindOf n==some .cell)=true
   ·rw [if_pos hc]; simp only [List.lookup_cons,hx]; exact ih h
   ·rw [if_neg hc]; simp only [List.lookup_cons,hx]; exact ih h
theorem jL {env:Env}:∀ {names:List (Str×NameKind)} {x:Str} {k':NameKind},k'=.cell\/k'=.free->(∀ y∈names,y.2≠.cell) ->
  (names.map fun (n,k)=>if (k==NameKind.free&&env.scope.kind==.function&&env.kindOf n==some .cell) then (n,NameKind.cell) else (n,k)).lookup x=some k'->(x,NameKind.free)∈names
 | [],_,_,_,_,h=>by simp at h
 | (n,k) :: r,x,k',hk',hn,h=>by
  have ih:=@jL env r x k' hk' (fun y hy=>hn y (List.mem_cons_of_mem _ hy))
  have h':List.lookup x ((if (k==NameKind.free&&env.scope.kind==.function&&env.kindOf n==some .cell)=true then (n,NameKind.cell) else (n,k)) :: (r.map fun (n,k)=>if (k==NameKind.free&&env.scope.kind==.function&&env.kindOf n==some .cell) then (n,NameKind.cell) else (n,k)))=some k' := h
  have hkc:k≠.cell:=hn (n,k) List.mem_cons_self
  cases hx:x==n with
  | true =>
   have hxn:x=n:=by simpa using hx
   subst hxn
   by_cases hc:(k==NameKind.free&&env.scope.kind==.function&&env.kindOf x==some .cell)=true
   ·have hk:k=.free:=by
     simp only [Bool.and_eq_true,beq_iff_eq] at hc
     exact hc.1.1
    subst hk
    exact List.mem_cons_self
   ·rw [if_neg hc] at h'
    simp only [List.lookup_cons,beq_self_eq_true] at h'
    have hk:k=k' := Option.some.inj h'
    rcases hk' with z | z
    ·exact absurd (hk.trans z) hkc
    ·rw [hk,z]; exact List.mem_cons_self
  | false =>
   refine List.mem_cons_of_mem _ (ih ?_)
   by_cases hc:(k==NameKind.free&&env.scope.kind==.function&&env.kindOf n==some .cell)=true
   ·rw [if_pos hc] at h'
    simpa only [List.lookup_cons,hx] using h'
   ·rw [if_neg hc] at h'
    simpa only [List.lookup_cons,hx] using h'
def aZ (ix:List (Option Nat)) (σ:St):St:=ix.map fun o=>match o with
 | none=>none
 | some i=>(σ[i]?).join
structure BlkScope (NX:List Str) (scX:Scope) (N:List Str) (ix:List (Option Nat)) (sc:Scope):Prop where
 kind:sc.kind=.function
 nd:N.Nodup
 nocell:∀ y∈sc.names,y.2≠.cell
 locs:∀ y∈sc.names,y.2=.local->sc.names.lookup y.1=some .local
 free:∀ y∈sc.names,y.2=.free->scX.names.lookup y.1=some .cell\/scX.names.lookup y.1=some .free
 len:ix.length=N.length
 at_:∀ p∈N.zip ix,∀ i,p.2=some i->NX[i]?=some p.1/\sc.names.lookup p.1=some .free
def ff (X:Cx) (N:List Str) (scope:Scope) (fp:List Addr) (s:Shared) (H:Hp) (C:Addr):Cx:=
 { prog:=X.prog,w:=X.w,K:=X.K,mg:=X.mg,base:=X.base,A:=X.A,N:=N,s₀:=s,H₀:=H,env:=compEnvC scope (cR X.env.cells scope.names []) C X.env,outer:=X.stack,stack:=X.stack,ex:=fp,fn:=fun _=>false,calm:=X.calm,pn:=X.pn,xe:=fun _ _=>False }
theorem qF {names:List (Str×NameKind)} {x:Str} (h:names.lookup x=some .free):(x,NameKind.free)∈names:=PySem.mem_of_lookup h
section
variable {X:Cx} {pins:List (Addr×Obj)} {σ:St} {H:Hp} {s:Shared} {N:List Str} {ix:List (Option Nat)} {scope:Scope} {fp:List Addr}
theorem BlkScope.clos (S:BlkScope X.N X.env.scope N ix scope) (ok:X.Ok):∀ y∈scope.names,y.2=.free->∃ c,X.env.cells.lookup y.1=some c:=fun y hy hf=>ok.has y.1 (S.free y hy hf)
theorem Ao {D C:Addr} {h':Heap} {tk:Nat} {m:Str->Option Value} (I:Inv X pins σ H s) (S:BlkScope X.N X.env.scope N ix scope) (hf:∀ b∈fp,lR X pins H b)
  (hfo:∀ b∈fp,∃ o,s.heap.get? b=some o/\∀ v,o.data≠.cell v)
  (hD:s.heap.objs.size<=D) (hC:s.heap.objs.size<=C) (hDC:D≠C) (hk:∀ b o,s.heap.get? b=some o->h'.get? b=some o) (hns:h'.Ns C m)
  (hl:∃ n,h'.get? D=some { cls:=.type "list",data:=.seq ([]:List Value).toArray n }) :
  Inv (ff X N scope fp s H C) pins (aZ ix σ) (upd H D (.lst [])) { s with heap:=h',toks:=tk }:=by
 have fresh:∀ {a:Addr},s.heap.objs.size<=a->H a=none:=fun h=>I.hok.fresh h
 have cl_of:∀ x c,(cR X.env.cells scope.names []).lookup x=some c->X.env.cells.lookup x=some c:=fun x c e=>by
  rcases lM _ _ _ e with ⟨h1,h2⟩ | h1
  ·obtain ⟨c',e'⟩:=S.clos I.ok _ h1 rfl
   have e'':X.env.cells.lookup x=some c' := e'
   rw [e''] at h2
   rw [e'']
   exact congrArg some h2
  ·simp at h1
 have ltO:∀ {b:Addr} {o:Obj},s.heap.get? b=some o->b<s.heap.objs.size:=fun e=>Heap.lt_size e
 have neC:∀ {b:Addr} {o:Obj},s.heap.get? b=some o->b≠C:=fun e=>Nat.ne_of_lt (Nat.lt_of_lt_of_le (ltO e) hC)
 have neD:∀ {b:Addr} {o:Obj},s.heap.get? b=some o->b≠D:=fun e=>Nat.ne_of_lt (Nat.lt_of_lt_of_le (ltO e) hD)
 have cellG:∀ x c,X.env.cells.lookup x=some c->∃ o,s.heap.get? c=some o:=fun x c e=>by
  obtain ⟨v,o,ho,_⟩:=I.cell x c e
  exact ⟨o,ho⟩
 refine ⟨⟨I.ok.mod,?_,I.ok.glob,I.ok.blt,hC,fun x y c e1 e2=>I.ok.inj x y c (cl_of x c e1) (cl_of y c e2),fun x hx=>?_,fun x c h _=>?_,I.ok.hd,I.ok.frames,.inl rfl,fun b hb=>?_,I.bs,Nat.le_trans I.ok.bsz I.sz,fun b o e hb=>?_,fun b hb hb2=>?_,I.stack,I.stkFree⟩,
  rfl,I.bare,Un.laid hk hD (fresh hD),⟨m,hns,fun j x v e1 e2 e3=>?_⟩,fun x c e=>?_,?_,fun x c e=>?_,fun p hp=>?_,I.hok.laid hk hD ?_,?_⟩
 ·exact S.kind
 ·have hx':(x,NameKind.free)∈scope.names:=by
   rcases hx with hx | hx
   ·exact jL (.inl rfl) S.nocell hx
   ·exact jL (.inr rfl) S.nocell hx
  obtain ⟨c,e⟩:=S.clos I.ok _ hx' rfl
  exact ⟨c,jv _ e _ _ (.inl hx')⟩
 ·exact absurd (show false=true from h) Bool.false_ne_true
 ·obtain ⟨f0,f1,f2,f3,f4,f5⟩:=hf b hb
  obtain ⟨o,e,_⟩:=hfo b hb
  exact ⟨neC e,fun x c ec=>f4 x c (cl_of x c ec)⟩
 ·obtain ⟨f0,f1,f2,f3,f4,f5⟩:=hf b hb
  rcases f3 with z | z
  ·exact I.ok.noex b o e z
  ·exact absurd (Nat.lt_of_lt_of_le (Heap.lt_size (I.ok.bs b o e).1) z) (Nat.lt_irrefl _)
 ·obtain ⟨f0,f1,f2,f3,f4,f5⟩:=hf b hb
  rcases List.mem_cons.mp (I.stkSub b hb2) with z | z
  ·exact f1 z
  ·exact f2 z
 ·-- a name's value
  obtain ⟨mX,hnX,hlX⟩:=id I.loc
  have hj:(aZ ix σ)[j]?=some (some v):=e2
  unfold aZ at hj
  rw [List.getElem?_map] at hj
  cases ej:ix[j]? with
  | none=>rw [ej] at hj; cases hj
  | some o =>
   rw [ej] at hj
   cases o with
   | none=>cases hj
   | some i =>
    have hj':(σ[i]?).join=some v:=Option.some.inj hj
    have hz:(x,some i)∈N.zip ix:=List.mem_iff_getElem?.mpr ⟨j,by rw [List.getElem?_zip_eq_some]; exact ⟨e1,ej⟩⟩
    obtain ⟨hNi,hfr⟩:=S.at_ _ hz i rfl
    have hmem:=qF hfr
    have hσ:σ[i]?=some (some v):=by
     cases q:σ[i]? with
     | none=>rw [q] at hj'; cases hj'
     | some w' =>
      rw [q] at hj'
      have q':w'=some v:=hj'
      rw [q']
    have hvx:X.env.scope.names.lookup x=some .cell\/X.env.scope.names.lookup x=some .free:=S.free _ hmem rfl
    obtain ⟨u,r,lk⟩:=hlX i x v hNi hσ (.inr hvx)
    refine ⟨u,r,.inr ⟨?_,?_⟩⟩
    ·exact ow hfr
    ·rcases lk with ⟨k,_⟩ | ⟨k,c,ec,ci⟩
     ·have k':X.env.scope.names.lookup x=some .local:=k
      rcases hvx with z | z
      ·rw [z] at k'; cases k'
      ·rw [z] at k'; cases k'
     ·obtain ⟨oc,hoc,hocd⟩:=ci
      exact ⟨c,jv _ ec _ _ (.inl hmem),oc,hk c oc hoc,hocd⟩
 ·obtain ⟨v,o,ho,hd⟩:=I.cell x c (cl_of x c e)
  exact ⟨v,o,hk c o ho,hd⟩
 ·show upd H D (.lst []) C=none
  rw [ah (Ne.symm hDC)]
  exact fresh hC
 ·obtain ⟨o,ho⟩:=cellG x c (cl_of x c e)
  rw [ah (neD ho)]
  exact I.freeC x c (cl_of x c e)
 ·obtain ⟨e,n,ne,nf,d⟩:=I.pin p hp
  refine ⟨hk _ _ e,by rw [ah (neD e)]; exact n,neC e,fun z=>?_,d⟩
  rcases List.mem_cons.mp (I.stkSub p.1 z) with q | q
  ·exact ne q
  ·exact nf q
 ·obtain ⟨n,hl⟩:=hl
  exact ⟨Nat.zero_le _,[],n,.nil,hl⟩
 ·show (aZ ix σ).length=N.length
  unfold aZ
  rw [List.length_map]
  exact S.len
end
end L2
set_option Elab.async false
set_option linter.all false
set_option maxRecDepth 100000
namespace L2
open PySem PySem.Spec PyProof.Rows
theorem wZ {prog:Program} {w:World} {A:Around} {R:Result->Shared->Prop} {s:Shared} {elt target iter:Expr} {scope:Scope} {pos:Pos} {it acc:Value} {env:Env} (I:Nat->Shared->Prop)
  (turn:∀ n s,I n s->wpAny (model prog w) A (pyNext it) (fun r s₁=>match r with
   | none=>R (.ok .next) s₁
   | some v=>wpAny (model prog w) A (letOwnedTupleGo target it v) (fun _ s₁'=>wpAny (model prog w) A (assign target env v) (fun _ s₂=>wpAny (model prog w) A (eval elt env) (fun x s₃ =>
     wpAny (model prog w) A (call (.builtin "list.append") [acc,x]) (fun _ s₄=>∃ m,m<n/\I m s₄) (fun _ _=>False) s₃)
     (fun _ _=>False) s₂) (fun _ _=>False) s₁') (fun _ _=>False) s₁) (fun _ _=>False) s)
  (n:Nat) (h:I n s) :
  codeAny (model prog w) A (.compLoop (.ListComp elt [⟨target,iter,[],0⟩] scope pos) 0 it acc env) R s:=by
 refine codeAny_loop rfl I (fun n s hI=>?_) n h
 show wpAny _ _ ((compTurn (.ListComp elt [⟨target,iter,[],0⟩] scope pos) 0 it acc env).onRaise (fun x=>do noteFrame x env; theTreesLotGoes x)) _ _ s
 refine wpAny_noted ?_
 rw [compTurn_list1]
 refine wpAny_bind (wpAny_standAt (wpAny_bind (wpAny_mono (turn n s hI) (fun r s₁ h₁=>?_) fun _ _ h'=>h'.elim)))
 cases r with
 | none=>exact wpAny_pure h₁
 | some v =>
  refine wpAny_bind (wpAny_mono h₁ (fun _ s₁' h₁'=>?_) fun _ _ h'=>h'.elim)
  exact wpAny_bind (wpAny_mono h₁' (fun _ s₂ h₂=>wpAny_bind (wpAny_bind (wpAny_mono h₂ (fun x s₃ h₃=>wpAny_bind (wpAny_mono h₃
   (fun _ s₄ h₄=>wpAny_pure (wpAny_pure ⟨rfl,h₄⟩)) fun _ _ h'=>h'.elim)) fun _ _ h'=>h'.elim))) fun _ _ h'=>h'.elim)
def pV (J:It) (ix:List (Option Nat)) (g:TG) (te:TE) (σ:St) (H:Hp) (Qd:Addr->Hp->Prop):Prop:=
 ∀ D,H D=none->∃ W:Nat->Nat->St->Hp->Prop,(∃ m,W 0 m (aZ ix σ) (upd H D (.lst [])))/\∀ i m σ' H',W i m σ' H' ->
  (J.stop i H'/\Qd D H')\/(J.go i H'/\∀ x H2,J.yld i H' x H2->g x σ' H2 fun σ3 H3=>te σ3 H3 fun y H4=>∃ ys,H4 D=some (.lst ys)/\ys.length<sizeLine/\∃ m',m'<m/\W (i+1) m' σ3 (upd H4 D (.lst (ys++[y]))))
section
variable {X:Cx} {pins:List (Addr×Obj)} {σ:St} {H:Hp} {s:Shared} {N:List Str} {ix:List (Option Nat)} {scope:Scope} {fp:List Addr} {tg elt iter:Expr} {pos spos:Pos} {J:It} {it:Addr} {tn:Nat->Heap->Prop} {g:TG} {te:TE} {wi:TI}
theorem w4 {Qd:Addr->Hp->Prop} {RR:Value->Addr->Result->Shared->Prop} {E:Value->Shared->Prop} (I:Inv X pins σ H s) (hc:X.calm=true) (S:BlkScope X.N X.env.scope N ix scope) (T:Turn X.prog X.w X.K tg J fp it tn) (st:tn 0 s.heap) (f2:∀ b∈fp,lR X pins H b)
  (hg:∀ C,PG (ff X N scope fp s H C) tg g) (he:∀ C,PE (ff X N scope fp s H C) elt te) (hW:pV J ix g te σ H Qd)
  (hR:∀ D C s' H' m,Inv X pins σ H' s'->s'.heap.Ns C m->lR X pins H' C->Qd D H'->RR (.ref D) C (.ok .next) s') :
  wpAny (model X.prog X.w) X.A (newList []) (fun acc s₃=>wpAny (model X.prog X.w) X.A (newFunctionEnv scope X.env.globals (cR X.env.cells scope.names []) [] X.env.qual none .none (some X.env)) (fun cenv s₄ =>
   codeAny (model X.prog X.w) X.A (.compStart (.ListComp elt [⟨tg,iter,[],0⟩] scope pos) 0 (.ref it) acc { cenv with scope:=relabel scope X.env }) (RR acc cenv.locals) s₄) E s₃) E s:=by
 refine wpAny_newObj_type (wpAny_newFunctionEnv S.nocell (by intro y hy; simp at hy) (fun h₁ hns₁ hsb₁=>?_) S.kind)
 dsimp only at hns₁ hsb₁ ⊢
 generalize hH2:s.heap.push { cls:=.type "list",dict:=none,data:=.seq ([]:List Value).toArray }=H2 at hns₁ hsb₁ ⊢
 have hC:H2.objs.size=s.heap.objs.size+1:=by rw [<- hH2,Heap.size_push]
 have hDC:s.heap.objs.size≠H2.objs.size:=by rw [hC]; exact Nat.ne_of_lt (Nat.lt_succ_self _)
 have hCle:s.heap.objs.size<=H2.objs.size:=by rw [hC]; exact Nat.le_succ _
 have below:∀ b,b<s.heap.objs.size->b≠H2.objs.size:=fun b hb=>by rw [hC]; exact Nat.ne_of_lt (Nat.lt_succ_of_lt hb)
 have old:∀ b o,s.heap.get? b=some o->h₁.get? b=some o:=fun b o e=>hsb₁.extBut b o (below b (Heap.lt_size e)) (Heap.get?_push_of_some _ (hH2 ▸ Heap.get?_push_of_some _ e))
 have hacc:∃ n,h₁.get? s.heap.objs.size=some { cls:=.type "list",data:=.seq ([]:List Value).toArray n }:=⟨_,hsb₁.extBut _ _ hDC (Heap.get?_push_of_some _ (hH2 ▸ Heap.get?_push_size _ rfl))⟩
 have st1:tn 0 h₁:=T.keep _ _ _ st fun b _ o e=>old b o e
 have fo:∀ b∈fp,∃ o,s.heap.get? b=some o/\∀ v,o.data≠.cell v:=T.obj _ _ st
 have I0:Inv (ff X N scope fp s H H2.objs.size) pins (aZ ix σ) (upd H s.heap.objs.size (.lst [])) { s with heap:=h₁,toks:=s.toks+([]:List (Str×Value)).length }:=
  Ao I S f2 fo (Nat.le_refl _) hCle hDC old hns₁ hacc
 have freshD:H s.heap.objs.size=none:=I.hok.fresh (Nat.le_refl _)
 obtain ⟨W,⟨m0,w0⟩,turn⟩:=hW s.heap.objs.size freshD
 have cl_ne:∀ b∈fp,b≠H2.objs.size:=fun b hb=>by
  obtain ⟨o,e,_⟩:=fo b hb
  exact below b (Heap.lt_size e)
 have stat:∀ {H':Hp},(∀ b∈fp,H' b=none)->∀ b∈fp,lR (ff X N scope fp s H H2.objs.size) pins H' b:=fun hn b hb=>by
  obtain ⟨f0,f1,f3,f4,f5,f6⟩:=f2 b hb
  exact ⟨hn b hb,cl_ne b hb,I0.ok.exfs b hb,.inl hb,(I0.ok.exf b hb).2,f6⟩
 have fr0:∀ b∈fp,(upd H s.heap.objs.size (.lst [])) b=none:=fun b hb=>by
  obtain ⟨o,e,_⟩:=fo b hb
  rw [ah (Nat.ne_of_lt (Heap.lt_size e))]
  exact (f2 b hb).1
 have loop:codeAny (model X.prog X.w) X.A (.compLoop (.ListComp elt [⟨tg,iter,[],0⟩] scope pos) 0 (.ref it) (.ref s.heap.objs.size) (compEnvC scope (cR X.env.cells scope.names []) H2.objs.size X.env))
   (RR (.ref s.heap.objs.size) H2.objs.size) { s with heap:=h₁,toks:=s.toks+([]:List (Str×Value)).length }:=by
  refine wZ (fun n s'=>∃ i σ' H',Inv (ff X N scope fp s H H2.objs.size) pins σ' H' s'/\tn i s'.heap/\(∀ b∈fp,H' b=none)/\W i n σ' H') ?_ m0 ⟨0,_,_,I0,st1,fr0,w0⟩
  rintro n s3 ⟨i,σ3,H3,I3,st3,fr3,w3⟩
  rcases turn i n σ3 H3 w3 with ⟨stop,qn⟩ | ⟨go,step⟩
  ·refine thn (T.done (ff X N scope fp s H H2.objs.size) rfl rfl rfl hc i pins s3 σ3 H3 _ I3 (stat fr3) st3 stop) fun r s4 ⟨hr,I4⟩=>?_
   subst hr
   obtain ⟨m4,hn4,_⟩:=id I4.loc
   refine hR _ _ s4 H3 m4 ?_ hn4 (I.fpOk hCle I4.free) qn
   exact I.call' (ch:=fp) I4.os I4.base I4.hok I4.bare fun b hb=>by
    obtain ⟨f0,f1,f3,f4,f5,f6⟩:=f2 b hb
    exact ⟨f4,f1,f5,f6⟩
  ·refine thn (T.item (ff X N scope fp s H H2.objs.size) rfl rfl rfl hc i pins s3 σ3 H3 _ I3 (stat fr3) st3 go) fun r s4 ⟨u,hr,h4⟩=>?_
   subst hr
   refine thn h4 fun _ s5 ⟨x,H5,I5,r5,y5,st5,fr5⟩=>?_
   have I5' := I5.pinned (stat fr5) (T.obj _ _ st5)
   refine thn (hg _ _ s5 σ3 H5 x u _ I5' r5 (step x H5 y5)) fun _ s6 ⟨σ6,H6,I6,q6⟩=>?_
   refine thn (he _ _ s6 σ6 H6 _ I6 q6) fun yv s7 ⟨y,H7,I7,r7,ys,hD7,hz7,m',hm,w7⟩=>?_
   refine thn (b7 (X:=ff X N scope fp s H H2.objs.size) _ s7 σ6 H7 (.ref s.heap.objs.size) [y] (.ref s.heap.objs.size) [yv] (fun _ H8=>W (i+1) m' σ6 H8) I7 rfl (.cons r7 .nil) ⟨_,ys,y,rfl,rfl,hD7,hz7,w7⟩) fun _ s8 ⟨_,H8,I8,_,w8⟩=>?_
   refine ⟨m',hm,i+1,σ6,H8,I8.unpinned,T.keep _ _ _ st5 fun b hb o e=>(I8.pin (b,o) (List.mem_append_right _ (List.mem_append_right _ (jJ hb e)))).1,fun b hb=>?_,w8⟩
   obtain ⟨o,e,d⟩:=T.obj _ _ st5 b hb
   exact (I8.pin (b,o) (List.mem_append_right _ (List.mem_append_right _ (jJ hb e)))).2.1
 exact codeAny_compStart_list loop (T.self _ _ _ _ _ st1 loop)
def DF (ix:List (Option Nat)) (wi:TI) (g:TG) (te:TE):TE:=fun σ H Q=>wi σ H fun J H1=>pV J ix g te σ H1 fun D H'=>Q (.ref D) H'
theorem c0 (hc:X.calm=true) (S:BlkScope X.N X.env.scope N ix scope) (hi:PI X tg iter wi) (hg:∀ fp s H C,PG (ff X N scope fp s H C) tg g) (he:∀ fp s H C,PE (ff X N scope fp s H C) elt te)
  (hs:∀ x,foldedSetIterable iter X.env x=pure x:=by intro _; rfl):PE X (.ListComp elt [⟨tg,iter,[],0⟩] scope pos) (DF ix wi g te):=by
 intro pins s σ H Q I h
 rw [eval_ListComp]
 refine wpAny_comprehension_free (use:=none) rfl hs (lN (S.clos I.ok)) S.kind S.locs (thn (hi pins s σ H _ I h) fun v s1 h1=>thn h1 fun itv s2 h2=>?_)
 obtain ⟨it,fp,tn,J,H2,e,I2,T,st2,f2,hW⟩:=h2
 subst e
 refine w4 (RR:=fun acc C=>compPost (model X.prog X.w) X.A X.xe none (EP X pins σ Q) acc C) I2 hc S T st2 f2 (hg _ _ _) (he _ _ _) hW ?_
 intro D C s' H' m I' hn fC q
 exact ⟨m,hn,fun h' sb=>⟨.ref D,H',I'.turned (t' := s'.toks) (fun b o hb e=>(sb.2 b hb).trans e) fC.1 fC.2.1 fC.2.2.2.1 fC.2.2.2.2.1 fC.2.2.2.2.2,rfl,q⟩⟩
theorem gZ {i:Nat} {y:Str} {py:Pos} (hc:X.calm=true) (hN:X.N.Nodup) (hyi:X.N[i]?=some y) (hy:Loc X.env.scope y) (S:BlkScope X.N X.env.scope N ix scope) (hi:PI X tg iter wi) (hg:∀ fp s H C,PG (ff X N scope fp s H C) tg g) (he:∀ fp s H C,PE (ff X N scope fp s H C) elt te)
  (hsw:swapsWith (.ListComp elt [⟨tg,iter,[],0⟩] scope pos) (some (.Name y py)) spos.line X.env=pure true:=by rfl)
  (hf:X.fn y=true\/X.env.scope.names.lookup y=some .local:=by first | exact .inl rfl | exact .inr rfl | assumption)
  (hs:∀ x,foldedSetIterable iter X.env x=pure x:=by intro _; rfl):PS X (.Assign [.Name y py] (.ListComp elt [⟨tg,iter,[],0⟩] scope pos) spos) (tY (DF ix wi g te) (bW i)):=by
 intro pins s σ H D I h
 rw [exec_Assign_Name_used _ _ _ _ hsw]
 refine wpAny_bind (wpAny_standAt (wpAny_bind ?_))
 show wpAny _ X.A (do let _ <- comprehension (.ListComp elt [⟨tg,iter,[],0⟩] scope pos) scope X.env _ (newList []) false (eval iter X.env) (some (assign (.Name y py) X.env))) _ _ s
 refine wpAny_bind (wpAny_mono (wpAny_comprehension_free (use:=some (assign (.Name y py) X.env)) (Q:=fun _ s'=>SP X pins D .next s') rfl hs (lN (S.clos I.ok)) S.kind S.locs
  (thn (hi pins s σ H _ I h) fun v s1 h1=>thn h1 fun itv s2 h2=>?_)) (fun _ s' hq=>wpAny_pure (wpAny_pure hq)) fun _ _ e=>e)
 obtain ⟨it,fp,tn,J,H2,e,I2,T,st2,f2,hW⟩:=h2
 subst e
 refine w4 (RR:=fun acc C=>compPost (model X.prog X.w) X.A X.xe (some (assign (.Name y py) X.env)) (fun _ s'=>SP X pins D .next s') acc C) I2 hc S T st2 f2 (hg _ _ _) (he _ _ _) hW ?_
 intro Dl C s' H' m I' hn fC q
 show wpAny _ X.A (assign (.Name y py) X.env (.ref Dl)) _ _ s'
 refine wpAny_assign_Name (vt I' hN hyi hy (v:=.ref Dl) rfl (fun s2 I2' hsb=>?_) hf)
 obtain ⟨a,sb,ha⟩:=hsb
 refine ⟨m,hn.sameBut sb ?_,fun h3 sb3=>⟨_,H',I2'.turned (t' := s2.toks) (fun b o hb e=>(sb3.2 b hb).trans e) fC.1 fC.2.1 fC.2.2.2.1 fC.2.2.2.2.1 fC.2.2.2.2.2,q⟩⟩
 rcases ha with z | z
 ·rw [z]; exact fC.2.1
 ·exact Ne.symm (fC.2.2.2.2.1 _ _ z)
end
theorem jx {lo:Int} {n:Nat} {ix:List (Option Nat)} {te:TE} {σ:St} {H:Hp} {Qd:Addr->Hp->Prop} (Pv:Addr->Nat->List V->Hp->Prop)
  (h0:∀ D,H D=none->Pv D 0 [] (upd H D (.lst [])))
  (hs:∀ D i ys H' (Q':VK),H D=none->i<n->H' D=some (.lst ys)->Pv D i ys H'->(∀ y H4,H4 D=some (.lst ys)->ys.length<sizeLine->Pv D (i+1) (ys++[y]) (upd H4 D (.lst (ys++[y])))->Q' y H4) ->
   te ((aZ ix σ).set 0 (some (.int (lo+i)))) H' Q')
  (hd:∀ D ys H',H D=none->H' D=some (.lst ys)->Pv D n ys H'->Qd D H'):pV (Itr lo n) ix (bW 0) te σ H Qd:=by
 intro D hD
 refine ⟨fun i m σ' H'=>m=n-i/\i<=n/\(σ'=aZ ix σ\/∃ t,σ'=(aZ ix σ).set 0 t)/\∃ ys,H' D=some (.lst ys)/\Pv D i ys H',⟨n,by simp,Nat.zero_le _,.inl rfl,[],ae,h0 D hD⟩,?_⟩
 rintro i m σ' H' ⟨rfl,hi,hσ,ys,hy,p⟩
 by_cases hlt:i<n
 ·refine .inr ⟨hlt,fun x H2 y=>?_⟩
  obtain ⟨e1,e2⟩:=y
  subst e1
  subst e2
  have es:σ'.set 0 (some (V.int (lo+i)))=(aZ ix σ).set 0 (some (V.int (lo+i))):=by
   rcases hσ with z | ⟨t,z⟩
   ·rw [z]
   ·rw [z,List.set_set]
  show te (σ'.set 0 (some (V.int (lo+i)))) _ _
  rw [es]
  refine hs D i ys _ _ hD hlt hy p fun y H4 h4 hz p4=>⟨ys,h4,hz,n-(i+1),by omega,rfl,hlt,.inr ⟨_,rfl⟩,ys++[y],ae,p4⟩
 ·have e:i=n:=by omega
  subst e
  exact .inl ⟨Nat.le_refl _,hd D ys H' hD hy p⟩
theorem fc {K:PySem.W.Frag} {a:Addr} {xs:List V} {ix:List (Option Nat)} {te:TE} {σ:St} {H:Hp} {Qd:Addr->Hp->Prop} (Pv:Addr->Nat->List V->Hp->Prop)
  (h0:∀ D,H D=none->Pv D 0 [] (upd H D (.lst [])))
  (hl:∀ D i ys H',i<=xs.length->Pv D i ys H'->SqL K H' a xs)
  (hs:∀ D i x ys H' (Q':VK),H D=none->xs[i]?=some x->H' D=some (.lst ys)->Pv D i ys H'->(∀ y H4,H4 D=some (.lst ys)->ys.length<sizeLine->Pv D (i+1) (ys++[y]) (upd H4 D (.lst (ys++[y])))->Q' y H4) ->
   te ((aZ ix σ).set 0 (some x)) H' Q')
  (hd:∀ D ys H',H D=none->H' D=some (.lst ys)->Pv D xs.length ys H'->Qd D H'):pV (Itl K a) ix (bW 0) te σ H Qd:=by
 intro D hD
 refine ⟨fun i m σ' H'=>m=xs.length-i/\i<=xs.length/\(σ'=aZ ix σ\/∃ t,σ'=(aZ ix σ).set 0 t)/\∃ ys,H' D=some (.lst ys)/\Pv D i ys H',⟨xs.length,by simp,Nat.zero_le _,.inl rfl,[],ae,h0 D hD⟩,?_⟩
 rintro i m σ' H' ⟨rfl,hi,hσ,ys,hy,p⟩
 have q:=hl D i ys H' hi p
 by_cases hlt:i<xs.length
 ·refine .inr ⟨⟨xs,xs[i],q,by simp [hlt]⟩,fun x H2 y=>?_⟩
  obtain ⟨e1,e2⟩:=y
  subst e1
  have ex:=e2 xs q
  have es:σ'.set 0 (some x)=(aZ ix σ).set 0 (some x):=by
   rcases hσ with z | ⟨t,z⟩
   ·rw [z]
   ·rw [z,List.set_set]
  show te (σ'.set 0 (some x)) _ _
  rw [es]
  refine hs D i x ys _ _ hD ex hy p fun y H4 h4 hz p4=>⟨ys,h4,hz,xs.length-(i+1),by omega,rfl,hlt,.inr ⟨_,rfl⟩,ys++[y],ae,p4⟩
 ·have e:i=xs.length:=by omega
  subst e
  exact .inl ⟨⟨xs,q,Nat.le_refl _⟩,hd D ys H' hD hy p⟩
section
variable {X:Cx}
def FF (K:PySem.W.Frag):List V->Hp->VK->Prop:=fun xs H Q=>∃ x n t b,xs=[x,.ty n]/\TyOf K H x t/\PySem.W.kitOne K t (.type n)=some b/\Q (.bl b) H
theorem iQ:eU X (.builtin "isinstance") (FF X.K):=by
 intro pins s σ H xs us Q I r h
 obtain ⟨x,n,t,b,rfl,ty,e,q⟩:=h
 obtain ⟨u,v,rfl,ru,rv⟩:=r.two
 cases (show v=Value.type n from rv)
 exact Aq I ru ty e fun tk=>⟨.bl b,H,I.tok tk,rfl,q⟩
end
section
variable {prog:Program} {w:World} {A:Around} {E:Value->Shared->Prop} {s:Shared}
end
section
variable {X:Cx} {pos:Pos}
end
end L2
set_option Elab.async false
set_option linter.all false
set_option maxRecDepth 100000
namespace HT
open PySem PySem.Spec PyProof.Rows
section
variable {prog:Program} {w:World} {A:Around} {E:Value->Shared->Prop} {s:Shared}
end
end HT
namespace L2
open PySem PySem.Spec PyProof.Rows
section
variable {X:Cx}
end
structure FunD (K:PySem.W.Frag) (x qual:Str) (st:Stmt) (dV:Value) (f:Addr) (fd:FuncData):Prop where
 ex:∃ (oc:Value) (od:Option Addr) (kV doc pm:Value) (an:Option Addr) (cdv ct:Value) (osl:Array (Option Value)),
  fd=PySem.W.fnOf x qual (aL st) (aI st) (ak st) dV kV doc pm an cdv ct/\K.lookup f=some ⟨oc,od,.func fd,osl⟩/\PySem.W.codeIn K cdv qual=true
 kp:PySem.W.keepIn K (.ref f)=true
section
variable {P:Program} {w:World} {K:PySem.W.Frag} {mg:Str->Option Value} {base:Heap}
theorem FunD.ok {x qual:Str} {st:Stmt} {dV:Value} {f:Addr} {fd:FuncData} {N ps:List Str} {k:Nat} {sp:Sp} (F:FunD K x qual st dV f fd) (S:FnScope N ps (ak st)) (len:∀ vs H Q E,sp vs H Q E->vs.length=ps.length)
  (hbody:∀ (cdv:Value) (A:Around) (outer:List Env) (s:Shared) (H:Hp) (vs:List V) (Q:VK) (E:XK),Room k (A.deeper (envOfC qual (ak st) s.heap.objs.size f cdv))->sp vs H Q E ->
   ∃ t,PSs (w6 CX0 P w K mg base N qual (ak st) f cdv A outer s H E).nox (aI st) t/\t { nx:=fun _ H'=>Q .non H',rt:=Q } (start N vs) H):FnOk P w K mg base CX0 (k+1) f fd ps sp:=by
 obtain ⟨oc,od,kV,doc,pm,an,cdv,ct,osl,rfl,lk,hcd⟩:=F.ex
 refine DB lk hcd S len fun A outer s H vs Q E hr hsp=>?_
 obtain ⟨t,h,q⟩:=hbody cdv A outer s H vs Q E hr hsp
 exact ⟨t,h.nox,q⟩
theorem FunD.binds {x qual:Str} {st:Stmt} {f:Addr} {fd:FuncData} {ps:List Str} (F:FunD K x qual st .none f fd)
  (h:∀ (kV doc pm:Value) (an:Option Addr) (cdv ct:Value) (us:List Value),us.length=ps.length->bindArgs (PySem.W.fnOf x qual (aL st) (aI st) (ak st) .none kV doc pm an cdv ct) ⟨us,[]⟩=pure (ps.zip us)):Binds K fd ps []:=by
 obtain ⟨oc,od,kV,doc,pm,an,cdv,ct,osl,rfl,lk,hcd⟩:=F.ex
 exact .all (h kV doc pm an cdv ct)
theorem FunD.bindsD {x qual:Str} {st:Stmt} {f T:Addr} {fd:FuncData} {ps:List Str} {ds:List Value} {o:Obj} {items:Array Value} {n:Nat} (F:FunD K x qual st (.ref T) f fd) (ho:K.lookup T=some o) (hs:o.data=.seq items n) (m:Nat) (hm:m+ds.length=ps.length)
  (h:∀ (kV doc pm:Value) (an:Option Addr) (cdv ct:Value) (us:List Value),us.length=m->∃ k:Option (Array Value)->Sem (List (Str×Value)),
   bindArgs (PySem.W.fnOf x qual (aL st) (aI st) (ak st) (.ref T) kV doc pm an cdv ct) ⟨us,[]⟩=seqItems? (.ref T)>>=k/\k (some items)=pure (ps.zip (us++ds))):Binds K fd ps ds:=by
 obtain ⟨oc,od,kV,doc,pm,an,cdv,ct,osl,rfl,lk,hcd⟩:=F.ex
 intro s us X hl
 obtain ⟨k,h1,h2⟩:=h kV doc pm an cdv ct us (by rw [List.length_append] at hl; omega)
 exact BindsTo.of_defaults (fd:=PySem.W.fnOf x qual (aL st) (aI st) (ak st) (.ref T) kV doc pm an cdv ct) rfl (X _ _ ho) hs h1 h2
theorem ba {x qual:Str} {st:Stmt} {f:Addr} {oc:Value} {od an:Option Addr} {osl:Array (Option Value)} {dV kV doc pm cdv ct:Value} (l:K.lookup f=some ⟨oc,od,.func (PySem.W.fnOf x qual (aL st) (aI st) (ak st) dV kV doc pm an cdv ct),osl⟩)
  (c:PySem.W.codeIn K cdv qual=true) (k:PySem.W.keepIn K (.ref f)=true):FunD K x qual st dV f (PySem.W.fnOf x qual (aL st) (aI st) (ak st) dV kV doc pm an cdv ct):=⟨⟨oc,od,kV,doc,pm,an,cdv,ct,osl,rfl,l,c⟩,k⟩
structure DefOk (P:Program) (w:World) (K:PySem.W.Frag) (mg:Str->Option Value) (base:Heap) (x:Str) (k:Nat) (ps:List Str) (dvs:List V) (sp:Sp):Prop where
 ex:∃ (f:Addr) (fd:FuncData) (ds:List Value),mg x=some (.ref f)/\PySem.W.keepIn K (.ref f)=true/\Vals dvs ds/\Binds K fd ps ds/\FnOk P w K mg base CX0 k f fd ps sp
end
section
variable {X:Cx} {x:Str} {j k:Nat} {ps:List Str} {dvs:List V} {sp:Sp} {p pos:Pos} {e:Expr} {es:List Expr} {t:TA}
theorem bX (G:DefOk X.prog X.w X.K X.mg X.base x k ps dvs sp) (hr:Room j X.A) (ha:PA X (e :: es) t) (hx:∀ e s,X.xe e s=False:=by intro _ _; rfl) (hkj:k<=j:=by decide) (hg:Gl X x:=by rfl) (hdb:(x==("__debug__" : Str))=false:=by decide)
  (he:starEach (e :: es) X.env=(false,eval e X.env) :: starEach es X.env:=by rfl) (hpl:(backTo pos (starEach es X.env)).any (·.1)=false:=by rfl) :
  PE X (.Call (.Name x p) (e :: es) [] pos) (Cz sp dvs E0 t):=by
 obtain ⟨f,fd,ds,hm,hk,hd,hb,F⟩:=G.ex
 exact zO F (hr.mono hkj) hg hm hk hb hd (fun _ _ _ _ _ _ _ h=>h.elim) ha hdb he hpl
end
theorem p5 (K:PySem.W.Frag):PySem.W.kitOne K (.type "int") (.type "int")=some true:=by with_unfolding_all rfl
theorem nU (K:PySem.W.Frag):PySem.W.kitOne K (.type "int") (.type "bool")=some false:=by with_unfolding_all rfl
theorem aj {H:Hp} {p:Addr} (h:H p=none) (o:HO):Same H (upd H p o):=fun b u q=>by rw [ah (au q h)]; exact q
theorem small {n:Nat} (h:n<=1000):n<=sizeLine:=Nat.le_of_lt (ax h)
theorem bD:bootBuiltins "len" = some (.builtin "len"):=by decide +kernel
theorem bH:bootBuiltins "isinstance" = some (.builtin "isinstance"):=by decide +kernel
theorem DQ:bootBuiltins "int" = some (.type "int"):=by decide +kernel
theorem CQ:bootBuiltins "bool" = some (.type "bool"):=by decide +kernel
theorem bM:bootBuiltins "tuple" = some (.type "tuple"):=by decide +kernel
theorem nB:bootBuiltins "list" = some (.type "list"):=by decide +kernel
theorem qX:bootBuiltins "dict" = some (.type "dict"):=by decide +kernel
theorem vE:bootBuiltins "set" = some (.type "set"):=by decide +kernel
end L2
set_option Elab.async false
set_option linter.all false
set_option maxRecDepth 100000
namespace L2
open PySem PySem.Spec PyProof.Rows
def BIG:Int:=2^4000
theorem AZ {k:Int} (h0:0<=k) (h:k<BIG):k.natAbs.log2<4000:=by
 rcases Nat.eq_zero_or_pos k.natAbs with z | hp
 ·rw [z]; decide +kernel
 ·refine (Nat.log2_lt (by omega)).mpr ?_
  have e:BIG=((2^4000:Nat):Int):=by unfold BIG; norm_cast
  rw [e] at h
  omega
def CMulB (i j:Int):Prop:=(0<=i/\i<BIG)/\(0<=j/\j<BIG)
theorem CMulB.ok {i j:Int} (h:CMulB i j):IntMulOk i j:=by
 have one:∀ {k:Int},0<=k->k<BIG->Builtin.Int.intBits k<=2^20:=fun {k} h0 h1=>by
  unfold Builtin.Int.intBits
  have:=AZ h0 h1
  split <;> omega
 exact .of_bits (one h.1.1 h.1.2) (one h.2.1 h.2.2)
section
variable {X:Cx}
theorem Df:OpR X (binaryOp .Mult) (rI CMulB fun i j=>.int (i*j)):=opI fun _ _ _ _ _ _ _ hc q=>PyProof.Rows.mul_int q hc.ok
end
section
variable {X:Cx} {tg:Expr}
end
theorem zZ {c:TT} {tb:TS} {D:Ends} {σ:St} {H:Hp} (Pv:Nat->St->Hp->Prop) (h0:∃ m,Pv m σ H)
  (hs:∀ m σ H,Pv m σ H->c σ H fun b H1=>if b=true then ∃ N:St->Hp->Prop,(∀ σ' H',N σ' H'->∃ m',m'<m/\Pv m' σ' H')/\tb { D with nx:=N,ct:=N,bk:=D.nx } σ H1 else D.nx σ H1):wO c tb D σ H:=⟨Pv,h0,hs⟩
end L2
set_option Elab.async false
set_option linter.all false
set_option maxRecDepth 100000
namespace L2
open PySem PySem.Spec PyProof.Rows
section
variable {X:Cx} {pins:List (Addr×Obj)} {σ:St} {H:Hp} {s:Shared}
end
section
variable {X:Cx} {tg:Expr}
end
section
variable {X:Cx}
end
end L2
set_option Elab.async false
set_option linter.all false
set_option maxRecDepth 100000
namespace PySem
section
variable {prog:Program} {w:World} {A:Around} {R:Result->Shared->Prop} {I:Addr} {fp wr:List Addr} {n:Nat} {P:Nat->Value->Prop} {St:Nat->Heap->Prop}
end
section
variable {prog:Program} {w:World} {A:Around} {E:Value->Shared->Prop} {s:Shared}
end
end PySem
namespace L2
open PySem PySem.Spec PyProof.Rows
section
variable {X:Cx}
variable {p pos kpos:Pos} {e d:Expr} {ta:TA} {td:TE}
end
section
variable {prog:Program} {w:World} {A:Around} {E:Value->Shared->Prop} {s:Shared}
end
section
variable {X:Cx} {e:Expr} {te:TE} {lo hi:Option Expr} {st:Expr} {tl th ts:TO} {pos p2:Pos}
end
section
variable {X:Cx} {tg:Expr}
end
theorem ke {K:PySem.W.Frag} {a:Addr} {xs:List V} {ix:List (Option Nat)} {te:TE} {σ:St} {H:Hp} {Qd:Addr->Hp->Prop} (Pv:Addr->Nat->List V->Hp->Prop)
  (h0:∀ D,H D=none->Pv D 0 [] (upd H D (.lst [])))
  (hl:∀ D i ys H',i<=xs.length->Pv D i ys H'->SqT K H' a xs)
  (hs:∀ D i x ys H' (Q':VK),H D=none->xs[i]?=some x->H' D=some (.lst ys)->Pv D i ys H'->(∀ y H4,H4 D=some (.lst ys)->ys.length<sizeLine->Pv D (i+1) (ys++[y]) (upd H4 D (.lst (ys++[y])))->Q' y H4) ->
   te ((aZ ix σ).set 0 (some x)) H' Q')
  (hd:∀ D ys H',H D=none->H' D=some (.lst ys)->Pv D xs.length ys H'->Qd D H'):pV (Itt K a) ix (bW 0) te σ H Qd:=by
 intro D hD
 refine ⟨fun i m σ' H'=>m=xs.length-i/\i<=xs.length/\(σ'=aZ ix σ\/∃ t,σ'=(aZ ix σ).set 0 t)/\∃ ys,H' D=some (.lst ys)/\Pv D i ys H',⟨xs.length,by simp,Nat.zero_le _,.inl rfl,[],ae,h0 D hD⟩,?_⟩
 rintro i m σ' H' ⟨rfl,hi,hσ,ys,hy,p⟩
 have q:=hl D i ys H' hi p
 by_cases hlt:i<xs.length
 ·refine .inr ⟨⟨xs,xs[i],q,by simp [hlt]⟩,fun x H2 y=>?_⟩
  obtain ⟨e1,e2⟩:=y
  subst e1
  have ex:=e2 xs q
  have es:σ'.set 0 (some x)=(aZ ix σ).set 0 (some x):=by
   rcases hσ with z | ⟨t,z⟩
   ·rw [z]
   ·rw [z,List.set_set]
  show te (σ'.set 0 (some x)) _ _
  rw [es]
  refine hs D i x ys _ _ hD ex hy p fun y H4 h4 hz p4=>⟨ys,h4,hz,xs.length-(i+1),by omega,rfl,hlt,.inr ⟨_,rfl⟩,ys++[y],ae,p4⟩
 ·have e:i=xs.length:=by omega
  subst e
  exact .inl ⟨⟨xs,q,Nat.le_refl _⟩,hd D ys H' hD hy p⟩
section
variable {X:Cx}
theorem xi (K:PySem.W.Frag) (h:X.K=K:=by rfl):IxR X (E4 K):=by subst h; exact cX
theorem qZ (K:PySem.W.Frag) (h:X.K=K:=by rfl):IxR X (E5 K):=by subst h; exact aM
end
end L2
set_option Elab.async false
set_option linter.all false
set_option maxRecDepth 100000
namespace L2
open PySem PySem.Spec PyProof.Rows
section
variable {κ:Type} [DecidableEq κ]
def eR (kvs:List (κ×V)) (k:κ):Option V:=(kvs.find? fun kv=>decide (kv.1=k)).map (·.2)
def putK (kvs:List (κ×V)) (k:κ) (v:V):List (κ×V):=
 if (kvs.any fun kv=>decide (kv.1=k))=true then kvs.map (fun kv=>if kv.1=k then (kv.1,v) else kv) else kvs++[(k,v)]
def rZ (kvs:List (κ×V)) (k:κ):List (κ×V):=kvs.filter fun kv=>decide (kv.1≠k)
theorem je {p:κ×V} {r:List (κ×V)} {k:κ} (e:p.1=k):eR (p :: r) k=some p.2:=by simp [eR,List.find?_cons,e]
theorem hU {p:κ×V} {r:List (κ×V)} {k:κ} (e:¬ p.1=k):eR (p :: r) k=eR r k:=by simp [eR,List.find?_cons,e]
theorem xZ (k:κ):∀ kvs:List (κ×V),(kvs.any fun kv=>decide (kv.1=k))=(eR kvs k).isSome
 | []=>rfl
 | p :: r=>by
  rw [List.any_cons]
  by_cases e:p.1=k
  ·simp only [je e,decide_eq_true e,Bool.true_or,Option.isSome_some]
  ·rw [hU e,decide_eq_false e,Bool.false_or]; exact xZ k r
theorem fK (kvs:List (κ×V)) (k:κ) (v:V):(putK kvs k v).length<=kvs.length+1:=by
 unfold putK
 split
 ·rw [List.length_map]; omega
 ·rw [List.length_append,List.length_cons,List.length_nil]; omega
theorem RelO.isSome_eq {o:Option V} {u:Option Value} (r:RelO o u):o.isSome=u.isSome:=by
 cases o with
 | none=>cases u with
  | none=>rfl
  | some _=>exact (show False from r).elim
 | some _=>cases u with
  | none=>exact (show False from r).elim
  | some _=>rfl
theorem RelO.getD {o:Option V} {u:Option Value} {d:V} {d':Value} (r:RelO o u) (rd:RelV d d'):RelV (o.getD d) (u.getD d'):=by
 cases o with
 | none=>cases u with
  | none=>exact rd
  | some _=>exact (show False from r).elim
 | some _=>cases u with
  | none=>exact (show False from r).elim
  | some _=>exact r
theorem KV.val {kvs:List (κ×V)} {vs:List (κ×Value)} (r:KV kvs vs) (k:κ):RelO (eR kvs k) (valueAt vs k):=by
 unfold KV at r
 induction r with
 | nil=>exact True.intro
 | @cons p q ps qs h t ih =>
  obtain ⟨h1,h2⟩:=h
  by_cases e:p.1=k
  ·have e':q.1=k:=h1.symm.trans e
   have b:valueAt (q :: qs) k=some q.2:=by simp [valueAt,List.find?_cons,e']
   rw [je e,b]; exact h2
  ·have e':¬ q.1=k:=fun z=>e (h1.trans z)
   have b:valueAt (q :: qs) k=valueAt qs k:=by simp [valueAt,List.find?_cons,e']
   rw [hU e,b]; exact ih
theorem KV.any {kvs:List (κ×V)} {vs:List (κ×Value)} (r:KV kvs vs) (k:κ):(kvs.any fun kv=>decide (kv.1=k))=vs.any fun kv=>decide (kv.1=k):=by
 unfold KV at r
 induction r with
 | nil=>rfl
 | cons h t ih=>rw [List.any_cons,List.any_cons,ih,h.1]
theorem KV.repl {kvs:List (κ×V)} {vs:List (κ×Value)} (r:KV kvs vs) (k:κ) {y:V} {u:Value} (ry:RelV y u) :
  KV (kvs.map fun kv=>if kv.1=k then (kv.1,y) else kv) (vs.map fun kv=>if kv.1=k then (kv.1,u) else kv):=by
 unfold KV at r ⊢
 induction r with
 | nil=>exact .nil
 | @cons p q ps qs h t ih =>
  rw [List.map_cons,List.map_cons]
  refine .cons ?_ ih
  obtain ⟨h1,h2⟩:=h
  by_cases e:p.1=k
  ·rw [if_pos e,if_pos (h1.symm.trans e)]; exact ⟨h1,ry⟩
  ·rw [if_neg e,if_neg (fun z=>e (h1.trans z))]; exact ⟨h1,h2⟩
theorem KV.put {kvs:List (κ×V)} {vs:List (κ×Value)} (r:KV kvs vs) (k:κ) {y:V} {u:Value} (ry:RelV y u):KV (putK kvs k y) (stored vs k u):=by
 unfold putK stored
 rw [r.any k]
 by_cases e:(vs.any fun kv=>decide (kv.1=k))=true
 ·rw [if_pos e,if_pos e]; exact r.repl k ry
 ·rw [if_neg e,if_neg e]; exact Paired.snoc r ⟨rfl,ry⟩
theorem KV.drop {kvs:List (κ×V)} {vs:List (κ×Value)} (r:KV kvs vs) (k:κ):KV (rZ kvs k) (without vs k):=by
 unfold KV at r ⊢
 unfold rZ without
 induction r with
 | nil=>exact .nil
 | @cons p q ps qs h t ih =>
  obtain ⟨h1,h2⟩:=h
  rw [List.filter_cons,List.filter_cons]
  by_cases e:p.1=k
  ·have a:¬ decide (p.1≠k)=true:=by simp [e]
   have b:¬ decide (q.1≠k)=true:=by simp [h1.symm.trans e]
   rw [if_neg a,if_neg b]; exact ih
  ·have e':¬ q.1=k:=fun z=>e (h1.trans z)
   have a:decide (p.1≠k)=true:=by simp [e]
   have b:decide (q.1≠k)=true:=by simp [e']
   rw [if_pos a,if_pos b]; exact .cons ⟨h1,h2⟩ ih
theorem KV.length {kvs:List (κ×V)} {vs:List (κ×Value)} (r:KV kvs vs):kvs.length=vs.length:=Paired.length r
theorem Bh (kvs:List (κ×V)) (k:κ):(rZ kvs k).length<=kvs.length:=List.length_filter_le _ _
end
theorem lO {P:Program} {w:World} {k:Key} {u:Value} (r:RelV (kV k) u):(aV P w).is k u=true:=by
 cases k with
 | inl i=>obtain ⟨t,e⟩:=(show ∃ t,u=Value.int i t from r); subst e; exact xu P w i t
 | inr x=>obtain ⟨t,e⟩:=(show ∃ t,u=Value.str x t from r); subst e; exact xv P w x t
theorem ve {P:Program} {w:World}:∀ {ks:List Key} {us:List Value},Vals (ks.map kV) us->ItemsAre (aV P w) ks us
 | [],_,r=>by rw [List.map_nil] at r; cases r; exact .nil
 | k :: ks,_,r=>by
  rw [List.map_cons] at r
  cases r with
  | cons h t=>exact .cons (lO h) (ve t)
abbrev KT (H:Hp):List (List Key×V)->List (List Key×Addr×Value)->Prop:=Paired fun p q=>p.1=q.1/\H q.2.1=some (.tup (p.1.map kV))/\RelV p.2 q.2.2
theorem KT.val {H:Hp} {kvs:List (List Key×V)} {xs:List (List Key×Addr×Value)} (r:KT H kvs xs) (k:List Key):RelO (eR kvs k) ((atKey xs k).map (·.2)):=by
 induction r with
 | nil=>exact True.intro
 | @cons p q ps qs h t ih =>
  obtain ⟨h1,_,h2⟩:=h
  by_cases e:p.1=k
  ·have e':q.1=k:=h1.symm.trans e
   have b:atKey (q :: qs) k=some q.2:=by simp [atKey,List.find?_cons,e']
   rw [je e,b]; exact h2
  ·have e':¬ q.1=k:=fun z=>e (h1.trans z)
   have b:atKey (q :: qs) k=atKey qs k:=by simp [atKey,List.find?_cons,e']
   rw [hU e,b]; exact ih
theorem KT.repl {H:Hp} {kvs:List (List Key×V)} {xs:List (List Key×Addr×Value)} (r:KT H kvs xs) (k:List Key) {y:V} {u:Value} (ry:RelV y u) :
  KT H (kvs.map fun kv=>if kv.1=k then (kv.1,y) else kv) (xs.map (putAt k u)):=by
 induction r with
 | nil=>exact .nil
 | @cons p q ps qs h t ih =>
  rw [List.map_cons,List.map_cons]
  refine .cons ?_ ih
  obtain ⟨h1,h2,h3⟩:=h
  unfold putAt
  by_cases e:p.1=k
  ·rw [if_pos e,if_pos (h1.symm.trans e)]; exact ⟨h1,h2,ry⟩
  ·rw [if_neg e,if_neg (fun z=>e (h1.trans z))]; exact ⟨h1,h2,h3⟩
theorem KT.put {H:Hp} {kvs:List (List Key×V)} {xs:List (List Key×Addr×Value)} (r:KT H kvs xs) (k:List Key) {b:Addr} {y:V} {u:Value} (hb:H b=some (.tup (k.map kV))) (ry:RelV y u) :
  KT H (putK kvs k y) (storedH xs k b u):=by
 have e:(kvs.any fun kv=>decide (kv.1=k))=(atKey xs k).isSome:=by
  rw [xZ,(r.val k).isSome_eq,Option.isSome_map]
 unfold putK storedH
 rw [e]
 by_cases q:(atKey xs k).isSome=true
 ·rw [if_pos q,if_pos q]; exact r.repl k ry
 ·rw [if_neg q,if_neg q]; exact Paired.snoc r ⟨rfl,hb,ry⟩
theorem KT.keeps {H H':Hp} {kvs:List (List Key×V)} {xs:List (List Key×Addr×Value)} (r:KT H kvs xs) (ht:∀ b ys,H b=some (.tup ys)->H' b=some (.tup ys)):KT H' kvs xs:=
 Paired.mapP r fun _ _ z=>⟨z.1,ht _ _ z.2.1,z.2.2⟩
section
variable {P:Program} {w:World} {H:Hp} {h:Heap} {a:Addr}
theorem DE {u:HO} (ok:HOk P w H h) (e:Rd H a u):ObjOk P w H h a u:=e.ok ok
theorem pX {kvs:List (Key×V)} (ok:HOk P w H h) (e:Rd H a (.dK kvs)):kvs.length<=sizeLine/\(a==sysModules)=false/\∃ vs,KV kvs vs/\h.DictOf (aV P w) a vs:=
 show ObjOk P w H h a (.dK kvs) from DE ok e
theorem zB {kvs:List (Key×V)} (ok:HOk P w H h) (e:H a=some (.dK kvs)):kvs.length<=sizeLine/\(a==sysModules)=false/\∃ vs,KV kvs vs/\h.DictOf (aV P w) a vs:=pX ok (.inl e)
theorem mF {ks:List Key} (ok:HOk P w H h) (e:H a=some (.tup (ks.map kV))):(tupleKind (aV P w)).is h ks a:=by
 obtain ⟨_,its,r,o,h1,h2,n,h3⟩:=(show ObjOk P w H h a (.tup (ks.map kV)) from ok a _ e)
 exact ⟨o,its.toArray,n,h1,h2,h3,by simpa using ve r⟩
theorem r4 {kvs:List (List Key×V)} (ok:HOk P w H h) (e:Rd H a (.dT kvs)):kvs.length<=sizeLine/\(a==sysModules)=false /\
  ∃ xs,KT H kvs xs/\h.DictOfH (tupleKind (aV P w)) a xs:=by
 obtain ⟨z,y,xs,r,o,es,ep,h1,h2,h3,h4,h5⟩:=(show ObjOk P w H h a (.dT kvs) from DE ok e)
 refine ⟨z,y,xs,r,o,es,ep,h1,h2,h3,h4,fun x hx=>?_,h5⟩
 have all:∀ {l:List (List Key×V)} {m:List (List Key×Addr×Value)},KT H l m->∀ x∈m,(tupleKind (aV P w)).is h x.1 x.2.1:=by
  intro l m q
  induction q with
  | nil=>intro x hx; exact nomatch hx
  | @cons p q ps qs hq t ih =>
   intro x hx
   rcases List.mem_cons.mp hx with e | hx
   ·subst e
    exact mF ok (by rw [<- hq.1]; exact hq.2.1)
   ·exact ih x hx
 exact all r x hx
theorem ES {kvs:List (List Key×V)} (ok:HOk P w H h) (e:H a=some (.dT kvs)):kvs.length<=sizeLine/\(a==sysModules)=false /\
  ∃ xs,KT H kvs xs/\h.DictOfH (tupleKind (aV P w)) a xs:=r4 ok (.inl e)
end
def DGet (H:Hp) (a:Addr) (y:V) (r:Option V):Prop:=
 (∃ kvs k,Rd H a (.dK kvs)/\y=kV k/\r=eR kvs k)\/∃ kvs k b,Rd H a (.dT kvs)/\y=.ref b/\H b=some (.tup (k.map kV))/\r=eR kvs k
def DPut (H:Hp) (a:Addr) (y v:V) (H':Hp):Prop:=
 (∃ kvs k,H a=some (.dK kvs)/\y=kV k/\kvs.length<sizeLine/\H'=upd H a (.dK (putK kvs k v))) \/
 ∃ kvs k b,H a=some (.dT kvs)/\y=.ref b/\H b=some (.tup (k.map kV))/\kvs.length<sizeLine/\H'=upd H a (.dT (putK kvs k v))
theorem DGet.k {H:Hp} {a:Addr} {kvs:List (Key×V)} {k:Key} (e:H a=some (.dK kvs)):DGet H a (kV k) (eR kvs k):=.inl ⟨kvs,k,.inl e,rfl,rfl⟩
theorem DPut.k {H:Hp} {a:Addr} {kvs:List (Key×V)} {k:Key} {v:V} (e:H a=some (.dK kvs)) (hl:kvs.length<sizeLine):DPut H a (kV k) v (upd H a (.dK (putK kvs k v))):=.inl ⟨kvs,k,e,rfl,hl,rfl⟩
section
variable {X:Cx} {pins:List (Addr×Obj)} {σ:St} {H:Hp} {s:Shared} {a:Addr} {y v:V} {u r:Value} {o:Option V} {A:Around} {E:Value->Shared->Prop}
theorem Inv.big (I:Inv X pins σ H s):sysModules<s.heap.objs.size:=by
 have h:mainGlobals<s.heap.objs.size:=(I.mod.glob.keeps I.bk).lt
 exact Nat.lt_trans (by decide) h
theorem Ab {Q:Value->Shared->Prop} (hu:A.units+1<cLine) (I:Inv X pins σ H s) (g:DGet H a y (some v)) (ry:RelV y u) (h:∀ w' s',Inv X pins σ H s'->RelV v w'->Q w' s') :
  wpAny (model X.prog X.w) A (getItem (.ref a) u) Q E s:=by
 rcases g with ⟨kvs,k,e,ey,l⟩ | ⟨kvs,k,b,e,ey,eb,l⟩
 ·subst ey
  obtain ⟨z,hd,vs,rel,dd⟩:=pX I.hok e
  obtain ⟨w',hw,rw'⟩:=RelO.some_of (v:=v) (o:=valueAt vs k) (by rw [l]; exact rel.val k)
  exact wpAny_getItem_of (lO ry) dd.mapOf hw (h w' _ (I.tok _) rw')
 ·subst ey
  cases (show u=Value.ref b from ry)
  obtain ⟨z,hd,xs,rel,dd⟩:=r4 I.hok e
  obtain ⟨w',hw,rw'⟩:=RelO.some_of (v:=v) (o:=(atKey xs k).map (·.2)) (by rw [l]; exact rel.val k)
  obtain ⟨p,hp,hp2⟩:=Option.map_eq_some_iff.mp hw
  refine wpAny_getItem_heap (tupleKind_room_in1 hu) (mF I.hok eb) dd hp ?_
  rw [hp2]
  exact h w' _ (I.tok _) rw'
theorem Fw {Q:Value->Shared->Prop} (hu:A.units+1<cLine) (I:Inv X pins σ H s) (g:DGet H a y o) (ry:RelV y u) (h:∀ s',Inv X pins σ H s'->Q (.bool o.isSome) s') :
  wpAny (model X.prog X.w) A (compareOp .In u (.ref a)) Q E s:=by
 rcases g with ⟨kvs,k,e,ey,l⟩ | ⟨kvs,k,b,e,ey,eb,l⟩
 ·subst ey
  obtain ⟨z,hd,vs,rel,dd⟩:=pX I.hok e
  refine wpAny_in_of (lO ry) hd dd.mapOf ?_
  rw [<- (rel.val k).isSome_eq,<- l]
  exact h _ (I.tok _)
 ·subst ey
  cases (show u=Value.ref b from ry)
  obtain ⟨z,hd,xs,rel,dd⟩:=r4 I.hok e
  refine wpAny_in_heap (tupleKind_room_in1 hu) (mF I.hok eb) hd dd ?_
  have q:=(rel.val k).isSome_eq
  rw [Option.isSome_map] at q
  rw [<- q,<- l]
  exact h _ (I.tok _)
theorem CU {Q:Value->Shared->Prop} (hu:A.units+1<cLine) (I:Inv X pins σ H s) (g:DGet H a y o) (ry:RelV y u) (h:∀ s',Inv X pins σ H s'->Q (.bool (!o.isSome)) s') :
  wpAny (model X.prog X.w) A (compareOp .NotIn u (.ref a)) Q E s:=by
 rcases g with ⟨kvs,k,e,ey,l⟩ | ⟨kvs,k,b,e,ey,eb,l⟩
 ·subst ey
  obtain ⟨z,hd,vs,rel,dd⟩:=pX I.hok e
  refine wpAny_notIn_of (lO ry) hd dd.mapOf ?_
  rw [<- (rel.val k).isSome_eq,<- l]
  exact h _ (I.tok _)
 ·subst ey
  cases (show u=Value.ref b from ry)
  obtain ⟨z,hd,xs,rel,dd⟩:=r4 I.hok e
  refine wpAny_notIn_heap (tupleKind_room_in1 hu) (mF I.hok eb) hd dd ?_
  have q:=(rel.val k).isSome_eq
  rw [Option.isSome_map] at q
  rw [<- q,<- l]
  exact h _ (I.tok _)
theorem kL {h':Heap} {t':Nat} {ob:HO} (I:Inv X pins σ H s) (mu:Mut (H a)) (hs:Heap.SameBut a s.heap h') (he:∃ q,h'.get? a=some q) (new:ObjOk X.prog X.w (upd H a ob) h' a ob) :
  Inv X pins σ (upd H a ob) { s with heap:=h',toks:=t' }:=
 I.write (x:=a) (e:=a) mu (.inl rfl) (fun b q hb z=>(hs.2 b hb).trans z) he new
theorem rY {P:Program} {w:World} {H':Hp} {h':Heap} {kvs:List (Key×V)} {vs:List (Key×Value)} (z:kvs.length<=sizeLine) (hd:(a==sysModules)=false) (rel:KV kvs vs) (dd:h'.DictOf (aV P w) a vs) :
  ObjOk P w H' h' a (.dK kvs):=⟨z,hd,vs,rel,dd⟩
theorem Ac {H':Hp} {Q:Unit->Shared->Prop} (hu:A.units+1<cLine) (I:Inv X pins σ H s) (g:DPut H a y v H') (ry:RelV y u) (rv:RelV v r) (h:∀ s',Inv X pins σ H' s'->Q () s') :
  wpAny (model X.prog X.w) A (setItem (.ref a) u r) Q E s:=by
 rcases g with ⟨kvs,k,e,ey,l,eH⟩ | ⟨kvs,k,b,e,ey,eb,l,eH⟩
 ·subst ey eH
  obtain ⟨z,hd,vs,rel,dd⟩:=zB I.hok e
  have hz:vs.length<=sizeLine:=by rw [<- rel.length]; exact z
  have hl:(putK kvs k v).length<=sizeLine:=by have:=fK kvs k v; omega
  refine wpAny_setItem_pairs (hsz:=hz) (lO ry) dd fun h' dd' hs=>h _ ?_
  have he:∃ q,h'.get? a=some q:=let ⟨q,_,_,hq,_⟩:=dd'; ⟨q,hq⟩
  exact kL I (by rw [e]; exact True.intro) hs he (rY hl hd (rel.put k rv) dd')
 ·subst ey eH
  cases (show u=Value.ref b from ry)
  obtain ⟨z,hd,xs,rel,dd⟩:=ES I.hok e
  have hz:xs.length<=sizeLine:=by rw [<- Paired.length rel]; exact z
  have hl:(putK kvs k v).length<=sizeLine:=by have:=fK kvs k v; omega
  refine wpAny_setItem_heap (hsz:=hz) (tupleKind_room_in1 hu) (mF I.hok eb) dd fun h' dd' hs=>h _ ?_
  obtain ⟨q,es,ep,hq,h2,h3,h4,_,h5⟩:=dd'
  refine kL I (by rw [e]; exact True.intro) hs ⟨q,hq⟩ ⟨hl,hd,_,(rel.put k eb rv).keeps fun c ys ec=>?_,q,es,ep,hq,h2,h3,h4,h5⟩
  rw [ah (aE ec e (fun z=>nomatch z))]
  exact ec
end
section
variable {X:Cx} {pins:List (Addr×Obj)} {σ:St} {H:Hp} {s:Shared} {a:Addr} {kvs:List (Key×V)} {k:Key} {u:Value} {A:Around} {E:Value->Shared->Prop}
theorem ER {v:V} {more:List Value} {Q:Value->Shared->Prop} (I:Inv X pins σ H s) (e:H a=some (.dK kvs)) (ry:RelV (kV k) u) (l:eR kvs k=some v) (hm:more=[]\/∃ x,more=[x])
  (h:∀ w' s',Inv X pins σ (upd H a (.dK (rZ kvs k))) s'->RelV v w'->Q w' s'):wpAny (model X.prog X.w) A (call (.builtin "dict.pop") (.ref a :: u :: more)) Q E s:=by
 obtain ⟨z,hd,vs,rel,dd⟩:=zB I.hok e
 obtain ⟨w',hw,rw'⟩:=RelO.some_of (v:=v) (o:=valueAt vs k) (by rw [<- l]; exact rel.val k)
 have hp:(keyPart u).isSome=true:=by
  cases k with
  | inl i=>obtain ⟨t,q⟩:=(show ∃ t,u=Value.int i t from ry); subst q; rfl
  | inr x=>obtain ⟨t,q⟩:=(show ∃ t,u=Value.str x t from ry); subst q; rfl
 have ha:argsOk "dict.pop" ⟨.ref a :: u :: more,[]⟩:=by
  rcases hm with q | ⟨x,q⟩
  ·subst q; exact PySem.F.args_dict_pop_2 _ _
  ·subst q; exact PySem.F.args_dict_pop_3 _ _ _
 refine call_meetsIn PySem.F.slot_dict_pop dd.typeIs PySem.F.entry_dict_pop ha (meets_dict_pop_there (aV X.prog X.w) a (lO ry) more hm hp)
  ⟨vs,w',dd,by rw [<- rel.length]; exact z,hw,fun h' dd' hs=>h w' _ ?_ rw'⟩
 have he:∃ q,h'.get? a=some q:=let ⟨q,_,_,hq,_⟩:=dd'; ⟨q,hq⟩
 exact kL I (by rw [e]; exact True.intro) hs he (rY (Nat.le_trans (Bh kvs k) z) hd (rel.drop k) dd')
theorem EO {Q:Value->Shared->Prop} (I:Inv X pins σ H s) (e:Rd H a (.dK kvs)) (h:∀ t s',Inv X pins σ H s'->Q (.int kvs.length t) s'):wpAny (model X.prog X.w) A (call (.builtin "len") [.ref a]) Q E s:=by
 obtain ⟨z,hd,vs,rel,dd⟩:=pX I.hok e
 refine call_len_dict hd dd (by rw [<- rel.length]; rw [sizeLine_eq] at z; omega) ?_
 rw [<- rel.length]
 exact h _ _ (I.tok _)
end
def DK (i:Expr):Prop := ∀ ov iv,subscripted i false ov iv=operate [ov,iv] (getItem ov iv)
theorem zW {prog:Program} {w:World} {A:Around} {E:Value->Shared->Prop} {s:Shared} {env:Env} {value slice:Expr} {pos:Pos} {T id:String} {Q:Value->Shared->Prop}
  (hl:typeLookup (.type T) "__getitem__" = pure (some (.builtin id))) (hs:DK slice)
  (h:wpAny (model prog w) A (eval value env) (fun o s₁=>wpAny (model prog w) A (eval slice env) (fun i s₂=>s₂.TypeIs o T/\wpAny (model prog w) A (getItem o i) Q E s₂) E s₁) E s) :
  wpAny (model prog w) A (eval (.Subscript value slice pos) env) Q E s:=by
 refine Subscript_ (wpAny_mono h (fun o s₁ h₁=>wpAny_mono h₁ (fun i s₂ h₂=>?_) fun _ _ x=>x) fun _ _ x=>x)
 obtain ⟨hT,h₂⟩:=h₂
 unfold subscriptTail
 refine wpAny_bind ?_
 rw [getitemInPython_of_ne hT.not_modules]
 refine wpAny_bind (wpAny_specialOf hT hl ?_)
 have fin:wpAny (model prog w) A (subscripted slice false o i) (fun r s₃=>wpAny (model prog w) A (letTemporaryGo value o r>>=fun _=>pure r) Q E s₃) E s₂:=by
  rw [hs o i]
  exact wpAny_operating (wpAny_mono h₂ (fun r s₃ h₃=>wpAny_bind (wpAny_letTemporaryGo (wpAny_pure h₃))) fun _ _ x=>x)
 first
  | exact wpAny_pure (wpAny_bind fin)
  | exact wpAny_bind (wpAny_pure (wpAny_bind fin))
  | exact wpAny_bind fin
theorem xb {X:Cx} {pins:List (Addr×Obj)} {σ:St} {H:Hp} {s:Shared} {a:Addr} {y:V} {o:Option V} (I:Inv X pins σ H s) (g:DGet H a y o):s.TypeIs (.ref a) "dict" := by
 rcases g with ⟨kvs,k,e,_,_⟩ | ⟨kvs,k,b,e,_,_,_⟩
 ·obtain ⟨_,_,vs,_,dd⟩:=pX I.hok e
  exact dd.typeIs
 ·obtain ⟨_,_,xs,_,dd⟩:=r4 I.hok e
  exact dd.typeIs
def Fc (td ty:TE):TE:=fun σ H Q=>td σ H fun x H1=>ty σ H1 fun y H2=>∃ a v,x=.ref a/\DGet H2 a y (some v)/\Q v H2
def FK (ty td:TE):TE:=fun σ H Q=>ty σ H fun y H1=>td σ H1 fun x H2=>∃ a o,x=.ref a/\DGet H2 a y o/\Q (.bl o.isSome) H2
def Dv (ty td:TE):TE:=fun σ H Q=>ty σ H fun y H1=>td σ H1 fun x H2=>∃ a o,x=.ref a/\DGet H2 a y o/\Q (.bl (!o.isSome)) H2
def E7 (td ty tv:TE):TS:=fun D σ H=>tv σ H fun v H1=>td σ H1 fun x H2=>ty σ H2 fun y H3=>∃ a H4,x=.ref a/\DPut H3 a y v H4/\D.nx σ H4
section
variable {X:Cx} {o i e value:Expr} {pos pos' tpos:Pos} {td ty tv:TE}
theorem zP (hu:X.A.units+1<cLine) (ho:PE X o td) (hi:PE X i ty) (hs:DK i):PE X (.Subscript o i pos) (Fc td ty):=by
 intro pins s σ H Q I h
 refine zW PySem.F.slot_dict_getitem.lookup hs (thn (ho pins s σ H _ I h) fun u s1 ⟨x,H1,I1,rx,q1⟩=>thn (hi pins s1 σ H1 _ I1 q1) fun iv s2 ⟨y,H2,I2,ry,a,v,ex,g,q2⟩=>?_)
 subst ex
 obtain rfl:u=Value.ref a:=rx
 exact ⟨xb I2 g,Ab hu I2 g ry fun w' s3 I3 rw'=>⟨v,H2,I3,rw',q2⟩⟩
theorem Ej (hu:X.A.units+1<cLine) (hi:PE X i ty) (ho:PE X o td):PC X .In i o (FK ty td):=by
 intro pins s σ H Q I h
 refine thn (hi pins s σ H _ I h) fun iv s1 ⟨y,H1,I1,ry,q1⟩=>thn (ho pins s1 σ H1 _ I1 q1) fun u s2 ⟨x,H2,I2,rx,a,ov,ex,g,q2⟩=>?_
 subst ex
 obtain rfl:u=Value.ref a:=rx
 exact Fw hu I2 g ry fun s3 I3=>⟨.bl ov.isSome,H2,I3,rfl,q2⟩
theorem vm (hu:X.A.units+1<cLine) (hi:PE X i ty) (ho:PE X o td):PC X .NotIn i o (Dv ty td):=by
 intro pins s σ H Q I h
 refine thn (hi pins s σ H _ I h) fun iv s1 ⟨y,H1,I1,ry,q1⟩=>thn (ho pins s1 σ H1 _ I1 q1) fun u s2 ⟨x,H2,I2,rx,a,ov,ex,g,q2⟩=>?_
 subst ex
 obtain rfl:u=Value.ref a:=rx
 exact CU hu I2 g ry fun s3 I3=>⟨.bl (!ov.isSome),H2,I3,rfl,q2⟩
theorem rq (hu:X.A.units+1<cLine) (ho:PE X o td) (hi:PE X i ty) (hv:PE X value tv) (hs:swapsWith value (some (.Subscript o i pos')) pos.line X.env=pure false) :
  PS X (.Assign [.Subscript o i pos'] value pos) (E7 td ty tv):=by
 intro pins s σ H D I h
 refine wpAny_Assign_Subscript (thn (hv pins s σ H _ I h) fun r s1 ⟨v,H1,I1,rv,q1⟩=>thn (ho pins s1 σ H1 _ I1 q1) fun u s2 ⟨x,H2,I2,rx,q2⟩=>thn (hi pins s2 σ H2 _ I2 q2) fun iv s3 ⟨y,H3,I3,ry,a,H4,ex,g,q3⟩=>?_) hs
 subst ex
 obtain rfl:u=Value.ref a:=rx
 exact Ac hu I3 g ry rv fun s4 I4=>⟨σ,H4,I4,q3⟩
end
theorem xc {P:Program} {w:World} {H:Hp} (h:Heap) (hb:sysModules<h.objs.size):ObjOk P w H (h.push { cls:=.type "dict",data:=.dict #[] }) h.objs.size (.dK []):=
 ⟨Nat.zero_le _,beq_eq_false_iff_ne.mpr (Ne.symm (Nat.ne_of_lt hb)),[],.nil,Heap.DictOf.new h⟩
def Ex:TE:=fun _ H Q=>∀ p,H p=none->Q (.ref p) (upd H p (.dK []))
section
variable {X:Cx} {pos:Pos}
theorem kB:PE X (.Dict [] [] pos) Ex:=fun pins s σ H Q I h =>
 wpAny_Dict_empty ⟨.ref s.heap.objs.size,_,I.laid (a:=s.heap.objs.size) (o:=.dK []) (t' := s.toks) (fun _ _ q=>Heap.get?_push_of_some _ q) (Nat.le_refl _) (xc s.heap I.big),rfl,h _ (I.hok.fresh (Nat.le_refl _))⟩
end
def y9:List (TE×TE)->St->Hp->(List (V×V)->Hp->Prop)->Prop
 | [],_,H,Q=>Q [] H
 | (tk,tv) :: r,σ,H,Q=>tk σ H fun x H1=>tv σ H1 fun y H2=>y9 r σ H2 fun ps H3=>Q ((x,y) :: ps) H3
abbrev VV:List (V×V)->List (Value×Value)->Prop:=Paired fun p q=>RelV p.1 q.1/\RelV p.2 q.2
def PPs (X:Cx) (pos:Pos) (keys:List (Option Expr)) (values:List Expr) (trs:List (TE×TE)):Prop:=
 ∀ (pins:List (Addr×Obj)) (s:Shared) (σ:St) (H:Hp) (Q:List (V×V)->Hp->Prop),Inv X pins σ H s->y9 trs σ H Q ->
  wpAny (model X.prog X.w) X.A (evalPairs (pairTrees keys values X.env pos)) (fun vs s'=>∃ ps H',Inv X pins σ H' s'/\VV ps vs/\Q ps H') X.xe s
theorem Dn {X:Cx} {pos:Pos}:PPs X pos [] [] []:=fun pins s σ H Q I h=>pairTrees_nil_walk ⟨[],H,I,.nil,h⟩
theorem Cc {X:Cx} {pos:Pos} {k v:Expr} {ks:List (Option Expr)} {vs:List Expr} {tk tv:TE} {trs:List (TE×TE)} (hk:PE X k tk) (hv:PE X v tv) (hr:PPs X pos ks vs trs) :
  PPs X pos (some k :: ks) (v :: vs) ((tk,tv) :: trs):=fun pins s σ H Q I h =>
 pairTrees_cons_walk (thn (hk pins s σ H _ I h) fun u s1 ⟨x,H1,I1,rx,q1⟩=>thn (hv pins s1 σ H1 _ I1 q1) fun w2 s2 ⟨y,H2,I2,ry,q2⟩ =>
  thn (hr pins s2 σ H2 _ I2 q2) fun ws s3 ⟨ps,H3,I3,rel,q3⟩=>⟨(x,y) :: ps,H3,I3,.cons ⟨rx,ry⟩ rel,q3⟩)
def cT (kvs more:List (Key×V)):List (Key×V):=more.foldl (fun acc kv=>putK acc kv.1 kv.2) kvs
theorem KV.merge:∀ {more:List (Key×V)} {rs:List (Key×Value)} {kvs:List (Key×V)} {vs:List (Key×Value)},KV more rs->KV kvs vs->KV (cT kvs more) (merged vs rs):=by
 intro more rs kvs vs r
 unfold KV at r
 induction r generalizing kvs vs with
 | nil=>intro q; exact q
 | @cons p q ps qs h t ih =>
  intro r0
  have e:KV (putK kvs p.1 p.2) (stored vs q.1 q.2):=by
   have:=r0.put p.1 h.2
   rw [<- h.1]; exact this
  exact ih e
theorem iK:∀ (more kvs:List (Key×V)),(cT kvs more).length<=kvs.length+more.length
 | [],kvs=>by show kvs.length<=kvs.length+0; omega
 | p :: r,kvs=>by
  have h1:=iK r (putK kvs p.1 p.2)
  have h2:=fK kvs p.1 p.2
  show (cT (putK kvs p.1 p.2) r).length<=_
  rw [List.length_cons]; omega
theorem rM {P:Program} {w:World}:∀ {kvs:List (Key×V)} {ws:List (Value×Value)},VV (kvs.map fun kv=>(kV kv.1,kv.2)) ws->∃ rs,Carries (aV P w) ws rs/\KV kvs rs
 | [],_,r=>by rw [List.map_nil] at r; cases r; exact ⟨[],True.intro,.nil⟩
 | p :: kvs,_,r=>by
  rw [List.map_cons] at r
  cases r with
  | @cons a b as bs h t =>
   obtain ⟨rs,c,q⟩:=rM (P:=P) (w:=w) t
   obtain ⟨b1,b2⟩:=b
   exact ⟨(p.1,b2) :: rs,⟨lO h.1,rfl,c⟩,.cons ⟨rfl,h.2⟩ q⟩
def Fe (trs:List (TE×TE)):TE:=fun σ H Q=>∀ p,H p=none->y9 trs σ (upd H p (.dK [])) fun ps H2=>H2 p=some (.dK [])/\∃ kvs:List (Key×V),ps=kvs.map (fun kv=>(kV kv.1,kv.2))/\kvs.length<=15/\Q (.ref p) (upd H2 p (.dK (cT [] kvs)))
theorem Dg {X:Cx} {pos:Pos} {keys:List (Option Expr)} {values:List Expr} {trs:List (TE×TE)} (h:PPs X pos keys values trs) (hall:keys.all (·.isSome)=true) (hl:keys.length=values.length) (h0:keys≠[])
  (h15:keys.length<=15):PE X (.Dict keys values pos) (Fe trs):=by
 intro pins s σ H Q I q
 have hn:=I.hok.fresh (Nat.le_refl s.heap.objs.size)
 have I1:=I.laid (a:=s.heap.objs.size) (o:=.dK []) (h' := s.heap.push { cls:=.type "dict",data:=.dict #[] }) (t' := s.toks) (fun _ _ q=>Heap.get?_push_of_some _ q) (Nat.le_refl _) (xc s.heap I.big)
 refine wpAny_Dict_walk (knd:=aV X.prog X.w) hall hl h0 h15 (thn (h pins _ σ _ _ I1 (q _ hn)) fun ws s2 ⟨ps,H2,I2,rel,e,kvs,ep,lk,q2⟩=>?_)
 subst ep
 obtain ⟨rs,c,rk⟩:=rM (P:=X.prog) (w:=X.w) rel
 obtain ⟨z,hd,vs0,r0,dd⟩:=zB I2.hok e
 cases r0
 refine ⟨rs,c,dd,fun h' dd' hs=>⟨.ref s.heap.objs.size,_,?_,rfl,q2⟩⟩
 have hz:(cT [] kvs).length<=sizeLine:=by
  have h1:=iK kvs []
  rw [List.length_nil] at h1
  rw [sizeLine_eq]; omega
 have he:∃ q,h'.get? s.heap.objs.size=some q:=let ⟨q,_,_,hq,_⟩:=dd'; ⟨q,hq⟩
 exact kL I2 (by rw [e]; exact True.intro) hs he (rY hz hd (rk.merge .nil) dd')
structure M1 (X:Cx) (o:Expr) (m:Str) (apos:Pos) (e:Expr) (cpos:Pos):Prop where
 base:attributeBase o m X.env (eval o X.env)=eval o X.env
 few:((backTo cpos (starEach [e] X.env)).all (fun x=>!x.1)&&(backToKw cpos (keywordEach [] X.env)).all (fun x=>x.1.isSome)
  && decide (([e]:List Expr).length+([]:List Keyword).length+(if ([]:List Keyword).isEmpty then 0 else 1)<30))=true
 line:(apos.endLine==cpos.line)=true
 trees:backTo cpos (starEach [e] X.env)=[(false,eval e X.env)]
structure M2 (X:Cx) (o:Expr) (m:Str) (apos:Pos) (e f:Expr) (cpos:Pos):Prop where
 base:attributeBase o m X.env (eval o X.env)=eval o X.env
 few:((backTo cpos (starEach [e,f] X.env)).all (fun x=>!x.1)&&(backToKw cpos (keywordEach [] X.env)).all (fun x=>x.1.isSome)
  && decide (([e,f]:List Expr).length+([]:List Keyword).length+(if ([]:List Keyword).isEmpty then 0 else 1)<30))=true
 line:(apos.endLine==cpos.line)=true
 trees:backTo cpos (starEach [e,f] X.env)=[(false,eval e X.env),(false,eval f X.env)]
def IsD (H:Hp) (a:Addr):Prop:=(∃ kvs,Rd H a (.dK kvs))\/∃ kvs,Rd H a (.dT kvs)
theorem yn {X:Cx} {pins:List (Addr×Obj)} {σ:St} {H:Hp} {s:Shared} {a:Addr} (I:Inv X pins σ H s) (d:IsD H a) :
  s.TypeIs (.ref a) "dict" /\ (∀ b,Value.ref a=.ref b->∃ ob,s.heap.get? b=some ob/\ob.dict=none)/\(a==sysModules)=false:=by
 rcases d with ⟨kvs,e⟩ | ⟨kvs,e⟩
 ·obtain ⟨_,hd,vs,_,dd⟩:=pX I.hok e
  refine ⟨dd.typeIs,fun b q=>?_,hd⟩
  cases q
  obtain ⟨ob,_,_,h1,h2,_⟩:=dd
  exact ⟨ob,h1,h2.2.1⟩
 ·obtain ⟨_,hd,xs,_,dd⟩:=r4 I.hok e
  refine ⟨dd.typeIs,fun b q=>?_,hd⟩
  cases q
  obtain ⟨ob,_,_,h1,h2,_⟩:=dd
  exact ⟨ob,h1,h2.2.1⟩
section
variable {X:Cx} {pins:List (Addr×Obj)} {σ:St} {H:Hp} {s:Shared} {a:Addr} {y d:V} {u r:Value} {o:Option V} {A:Around} {E:Value->Shared->Prop}
theorem DR {Q:Value->Shared->Prop} (hu:A.units+1<cLine) (I:Inv X pins σ H s) (g:DGet H a y o) (ry:RelV y u) (rd:RelV d r) (h:∀ w' s',Inv X pins σ H s'->RelV (o.getD d) w'->Q w' s') :
  wpAny (model X.prog X.w) A (call (.builtin "dict.get") [.ref a,u,r]) Q E s:=by
 rcases g with ⟨kvs,k,e,ey,l⟩ | ⟨kvs,k,b,e,ey,eb,l⟩
 ·subst ey
  obtain ⟨z,hd,vs,rel,dd⟩:=pX I.hok e
  refine call_meetsIn PySem.F.slot_dict_get dd.typeIs PySem.F.entry_dict_get (PySem.F.args_dict_get_3 _ _ _) (meets_dict_get_default (aV X.prog X.w) a (lO ry) hd r) ⟨_,dd.mapOf,h _ _ (I.tok _) ?_⟩
  rw [l]
  exact (rel.val k).getD rd
 ·subst ey
  cases (show u=Value.ref b from ry)
  obtain ⟨z,hd,xs,rel,dd⟩:=r4 I.hok e
  refine call_meetsIn PySem.F.slot_dict_get dd.typeIs PySem.F.entry_dict_get (PySem.F.args_dict_get_3 _ _ _) (meetsH_dict_get_default (tupleKind (aV X.prog X.w)) a b hd r) ⟨tupleKind_room_in1 hu,k,xs,mF I.hok eb,dd,h _ _ (I.tok _) ?_⟩
  rw [l]
  exact (rel.val k).getD rd
end
def Ew (td ty tx:TE):TE:=fun σ H Q=>td σ H fun x H1=>∃ a,x=.ref a/\IsD H1 a/\ty σ H1 fun y H2=>tx σ H2 fun z H3=>∃ o,DGet H3 a y o/\Q (o.getD z) H3
def Ez (td ty:TE):TE:=fun σ H Q=>td σ H fun x H1=>∃ a,x=.ref a/\IsD H1 a/\ty σ H1 fun y H2=>∃ kvs k v,H2 a=some (.dK kvs)/\y=kV k/\eR kvs k=some v/\Q v (upd H2 a (.dK (rZ kvs k)))
section
variable {X:Cx} {o e f:Expr} {apos cpos:Pos} {td ty tx:TE}
theorem BZ (hu:X.A.units+1<cLine) (ho:PE X o td) (he:PE X e ty) (hf:PE X f tx) (m:M2 X o "get" apos e f cpos):PE X (.Call (.Attribute o "get" apos) [e,f] [] cpos) (Ew td ty tx):=by
 intro pins s σ H Q I h
 refine wpAny_Call_method m.base m.few m.line PySem.F.plainAttrs_dict PySem.F.slot_dict_get PySem.F.type_dict_get (thn (ho pins s σ H _ I h) fun u s1 ⟨x,H1,I1,rx,a,ex,d,q1⟩=>?_)
 subst ex
 obtain rfl:u=Value.ref a:=rx
 obtain ⟨t1,t2,_⟩:=yn I1 d
 refine ⟨t1,t2,?_⟩
 rw [m.trees]
 refine Calls.callWith_builtin rfl (Calls.evalArgs_plain (Calls.spliced_cons (thn (he pins s1 σ H1 _ I1 q1) fun iv s2 ⟨y,H2,I2,ry,q2⟩ =>
  Calls.spliced_cons (thn (hf pins s2 σ H2 _ I2 q2) fun fv s3 ⟨z,H3,I3,rz,ov,g,q3⟩=>Calls.spliced_nil ?_))))
 exact DR hu I3 g ry rz fun w' s4 I4 rw'=>⟨_,H3,I4,rw',q3⟩
theorem xH (ho:PE X o td) (he:PE X e ty) (m:M1 X o "pop" apos e cpos):PE X (.Call (.Attribute o "pop" apos) [e] [] cpos) (Ez td ty):=by
 intro pins s σ H Q I h
 refine wpAny_Call_method m.base m.few m.line PySem.F.plainAttrs_dict PySem.F.slot_dict_pop PySem.F.type_dict_pop (thn (ho pins s σ H _ I h) fun u s1 ⟨x,H1,I1,rx,a,ex,d,q1⟩=>?_)
 subst ex
 obtain rfl:u=Value.ref a:=rx
 obtain ⟨t1,t2,_⟩:=yn I1 d
 refine ⟨t1,t2,?_⟩
 rw [m.trees]
 refine Calls.callWith_builtin rfl (Calls.evalArgs_plain (Calls.spliced_cons (thn (he pins s1 σ H1 _ I1 q1) fun iv s2 ⟨y,H2,I2,ry,kvs,k,v,ea,ey,l,q2⟩=>Calls.spliced_nil ?_)))
 subst ey
 exact ER I2 ea ry l (.inl rfl) fun w' s3 I3 rw'=>⟨v,_,I3,rw',q2⟩
end
section
variable {X:Cx} {pins:List (Addr×Obj)} {σ:St} {H:Hp} {s:Shared} {a:Addr} {kvs:List (Key×V)} {A:Around} {E:Value->Shared->Prop}
end
section
variable {X:Cx} {pins:List (Addr×Obj)} {σ:St} {H:Hp} {s:Shared} {a:Addr} {y:V} {u:Value} {A:Around} {E:Value->Shared->Prop}
end
end L2
namespace L2
open PySem PySem.Spec PyProof.Rows
section
variable {κ:Type} [DecidableEq κ]
theorem nX:∀ {l:List κ} {k:κ},l.Nodup->¬ k∈l->(l++[k]).Nodup
 | [],k,_,_=>by simp
 | a :: r,k,h,hk=>by
  obtain ⟨h1,h2⟩:=List.nodup_cons.mp h
  show (a :: (r++[k])).Nodup
  refine List.nodup_cons.mpr ⟨fun m=>?_,nX h2 fun m=>hk (List.mem_cons.mpr (Or.inr m))⟩
  rcases List.mem_append.mp m with q | q
  ·exact h1 q
  ·exact hk (List.mem_cons.mpr (Or.inl (List.mem_singleton.mp q).symm))
end
end L2
set_option Elab.async false
set_option linter.all false
set_option maxRecDepth 100000
namespace PySem
open Sem (wp)
open Builtin
end PySem
namespace L2
open PySem PySem.Spec PyProof.Rows
section
variable {X:Cx}
end
inductive Pl (H:Hp):V->Prop where
 | non:Pl H .non
 | bl (b:Bool):Pl H (.bl b)
 | int (i:Int):Pl H (.int i)
 | str (x:Str):Pl H (.str x)
 | lst {a:Addr} {xs:List V} (e:H a=some (.lst xs)):Pl H (.ref a)
 | tup {a:Addr} {xs:List V} (e:H a=some (.tup xs)):Pl H (.ref a)
 | dK {a:Addr} {kvs:List (Key×V)} (e:H a=some (.dK kvs)):Pl H (.ref a)
structure PEW (X:Cx) (e:Expr) (t:TE):Prop where
 out:PE X e t
structure PAW (X:Cx) (es:List Expr) (t:TA):Prop where
 out:PA X es t
structure PTW (X:Cx) (e:Expr) (t:TT):Prop where
 out:PT X e t
structure PSW (X:Cx) (s:Stmt) (t:TS):Prop where
 out:PS X s t
structure PSsW (X:Cx) (s:List Stmt) (t:TS):Prop where
 out:PSs X s t
section
variable {X:Cx} {a b e:Expr} {es:List Expr} {ta tb te:TE} {t:TA} {pos:Pos}
theorem pU:PAW X [] Dx:=⟨af⟩
theorem br (ha:PEW X e te) (hr:PAW X es t) (hs:starEach (e :: es) X.env=(false,eval e X.env) :: starEach es X.env:=by rfl):PAW X (e :: es) (DG te t):=⟨aa ha.out hr.out hs⟩
theorem CD (h:PAW X es t):PEW X (.List es pos) (Fg t):=⟨eP h.out⟩
theorem CF {x1} (h:PAW X es t):PEW X (.Tuple es x1 pos) (Fn t):=⟨bF h.out⟩
theorem EI {r:R2} (hr:IxR X r) (ha:PEW X a ta) (hb:PEW X b tb) (hs:zt b):PEW X (.Subscript a b pos) (tOp r ta tb):=⟨aN hr ha.out hb.out hs⟩
variable {st:Stmt} {rest:List Stmt} {ts us:TS}
theorem zk:PSsW X [] cU:=⟨bA⟩
theorem aG (h1:PSW X st ts) (h2:PSsW X rest us):PSsW X (st :: rest) (AN ts us):=⟨ar h1.out h2.out⟩
theorem hV (h1:PSW X st ts):PSsW X [st] ts:=⟨av h1.out⟩
theorem x6 (he:PEW X e te):PSW X (.Return (some e) pos) (Fj te):=⟨aU he.out⟩
theorem Fs {i:Nat} {x:Str} {pos':Pos} (hN:X.N.Nodup) (hi:X.N[i]?=some x) (hx:Loc X.env.scope x) (he:PEW X e te) (hs:swapsWith e (some (.Name x pos')) pos.line X.env=pure false:=by rfl) (hf:X.fn x=true\/X.env.scope.names.lookup x=some .local:=by first | exact .inl rfl | exact .inr rfl | assumption) :
  PSW X (.Assign [.Name x pos'] e pos) (tY te (bW i)):=⟨ay hN hi hx he.out hs hf⟩
theorem EH {c:Expr} {a b:List Stmt} {tc:TT} {u:TS} (hc:PTW X c tc) (ha:PSsW X a ts) (hb:PSsW X b u):PSW X (.If c a b pos) (EA tc ts u):=⟨cJ hc.out ha.out hb.out⟩
theorem Fq {tg iter:Expr} {body:List Stmt} {wi:TI} {g:TG} {tb:TS} (hp:PassesOwn (model X.prog X.w) X.A X.env X.xe) (hc:X.calm=true) (hi:PI X tg iter wi) (hg:PG X tg g) (hb:PSsW X body tb)
  (hs:∀ x,foldedSetIterable iter X.env x=pure x:=by intro _; rfl):PSW X (.For tg iter body [] pos) (pT wi g tb):=⟨bR hp hc hi hg hb.out hs⟩
theorem l6 {b:List Stmt} {R:TS->Prop} (h:PSsW X b ts) (r:R ts):∃ t,PSs X b t/\R t:=⟨ts,h.out,r⟩
end
end L2
set_option Elab.async false
set_option linter.all false
set_option maxRecDepth 100000
namespace L2
open PySem PySem.Spec PyProof.Rows
def CX1 (P:Program) (w:World):CXT:=fun outer H s E e s'=>∃ (ea t C:Addr) (B:Heap) (H':Hp),e=.ref ea/\s'.os=s.os/\AllBare s'.gens/\Un (frs outer) [] H H' s.heap s'.heap/\HOk P w H' B /\
 Heap.FlyingW B outer ea (.ref C) (.ref t) s'.heap/\(∀ b o,s.heap.get? b=some o->b∉frs outer->∃ o',B.get? b=some o')/\H' ea=none/\E (.ref C) none H'
theorem ObjOk.ex {P:Program} {w:World} {H:Hp} {h:Heap} {a:Addr}:∀ {o:HO},ObjOk P w H h a o->∃ ob,h.get? a=some ob
 | .lst _,⟨_,_,_,_,e⟩=>⟨_,e⟩
 | .tup _,⟨_,_,_,o,e,_⟩=>⟨o,e⟩
 | .dK _,⟨_,_,_,_,o,_,_,e,_⟩=>⟨o,e⟩
 | .dT _,⟨_,_,_,_,o,_,_,e,_⟩=>⟨o,e⟩
 | .set _ _,⟨o,_,_,_,e,_⟩=>⟨o,e⟩
 | .ins _ _ _,⟨_,_,_,e,_⟩=>⟨_,e⟩
 | .own _,⟨o,e⟩=>⟨o,e⟩
 | .xd _,⟨_,⟨o,_,_,e,_⟩,_⟩=>⟨o,e⟩
 | .rng _ _,⟨_,_,_,e⟩=>⟨_,e⟩
 | .frz _ _,⟨e,_⟩=>⟨_,e⟩
 | .tbl _,e=>⟨_,e⟩
 | .met _ _,e=>⟨_,e⟩
 | .ext _,⟨_,⟨o,e⟩,_⟩=>⟨o,e⟩
theorem HOk.none {P:Program} {w:World} {H:Hp} {h:Heap} {a:Addr} (x:HOk P w H h) (e:h.get? a=none):H a=none:=by
 cases q:H a with
 | none=>rfl
 | some o =>
  obtain ⟨ob,e'⟩:=(x a o q).ex
  rw [e] at e'
  cases e'
theorem HOk.less {P:Program} {w:World} {H:Hp} {h B:Heap} (x:HOk P w H h) (k:∀ b u,(∃ o,H b=some o)->h.get? b=some u->B.get? b=some u):HOk P w H B:=fun a o e =>
 (x a o e).stay (fun b u hb q=>k b u (by
  rcases hb with z | z
  ·rw [z]; exact ⟨o,e⟩
  ·exact ⟨_,z⟩) q) (fun _ z=>z) fun _ _ z=>z
theorem Un.fly {fs:List Addr} {H H1:Hp} {h h1 h2 B:Heap} (u:Un fs [] H H1 h h1) (stays:B.StaysIn h2) (inB:∀ b o o1,h.get? b=some o->h1.get? b=some o1->b∉fs->B.get? b=some o1)
  (frame:∀ b o,b∈fs->h1.get? b=some o->∃ sl,h2.get? b=some { o with slots:=sl }):Un fs [] H H1 h h2 where
 keep:=fun b o q n hb hx=>stays b o (inB b o o q (u.keep b o q n hb hx) hb)
 slot:=fun b o q n hb hx=>by
  obtain ⟨sl,e⟩:=u.slot b o q n hb hx
  obtain ⟨sl',e'⟩:=frame b _ hb e
  exact ⟨sl',e'⟩
 free:=u.free
 there:=fun b o q hx=>by
  obtain ⟨o',e⟩:=u.there b o q hx
  by_cases hb:b∈fs
  ·obtain ⟨sl,e'⟩:=frame b _ hb e
   exact ⟨_,e'⟩
  ·exact ⟨o',stays b o' (inB b o o' q e hb)⟩
 tups:=u.tups
 frzs:=u.frzs
 tbls:=u.tbls
section
variable {P:Program} {w:World} {K:PySem.W.Frag} {mg:Str->Option Value} {base:Heap} {N:List Str} {qual:Str} {scope:Scope} {f:Addr} {cd:Value} {A:Around} {outer:List Env} {s:Shared} {H:Hp} {E:XK}
def Thr (X:Cx) (E:XK):Prop := ∀ (pins:List (Addr×Obj)) (σ:St) (H:Hp) (s:Shared) (h':Heap) (ea C:Addr) (vs:List Value),Inv X pins σ H s->Heap.MadeExcOf s.heap h' ea (.ref C) vs->E (.ref C) none H->X.xe (.ref ea) { s with heap:=h' }
theorem sZ (b:Addr):b∈frs (envOfC qual scope s.heap.objs.size f cd :: outer)↔b=s.heap.objs.size\/b∈frs outer:=by
 unfold frs
 rw [List.filterMap_cons]
 show b∈(s.heap.objs.size :: _)↔_
 rw [List.mem_cons]
theorem Dy:Thr (w6 (CX1 P w) P w K mg base N qual scope f cd A outer s H E) E:=by
 intro pins σ H1 s1 h' ea C vs I hx hE
 show wpAny (model P w) (A.deeper (envOfC qual scope s.heap.objs.size f cd)) (leaving (envOfC qual scope s.heap.objs.size f cd) (.ref ea)) _ _ _
 have hin:∀ env∈(envOfC qual scope s.heap.objs.size f cd :: outer),∀ b,env.frame=some b->b∈frs (envOfC qual scope s.heap.objs.size f cd :: outer):=fun env he b hb=>List.mem_filterMap.mpr ⟨env,he,hb⟩
 have fst:=I.stack
 have mem:∀ {b},b∈frs (envOfC qual scope s.heap.objs.size f cd :: outer)->∃ o,s1.heap.get? b=some o/\∀ vs,o.data≠.fields vs:=fun {b} hb=>(fst.mem hb).2
 refine wpAny_leaves_madeW (base:=PySem.W.hideAll s1.heap (frs (envOfC qual scope s.heap.objs.size f cd :: outer))) I.ok.frames rfl (fun b o q=>PySem.W.of_hideAll _ q) (PySem.W.funFrames_hide fst hin) hx fun h'' t x1 x2 x3 x4=>?_
 refine ⟨ea,t,C,_,H1,rfl,I.os,I.bare,?_,?_,x1,fun b o q hb=>?_,I.hok.none hx.new,hE⟩
 ·refine Un.fly (h1:=s1.heap) I.base x1.1 (fun b o o1 q q1 hb=>PySem.W.hideAll_get _ q1 fun z=>?_) fun b o hb q=>?_
  ·rcases (sZ b).mp z with e | e
   ·exact Nat.lt_irrefl _ (e ▸ Heap.lt_size q)
   ·exact hb e
  ·obtain ⟨o',e',hd⟩:=mem ((sZ (qual:=qual) (scope:=scope) (s:=s) (f:=f) (cd:=cd) b).mpr (.inr hb))
   rw [q] at e'
   cases e'
   exact x4 b o (hx.keeps b o q) hd
 ·exact I.hok.less fun b u ⟨o,e⟩ q=>PySem.W.hideAll_get _ q fun z=>by
   have:=I.stkFree b z
   rw [e] at this
   cases this
 ·obtain ⟨o',e'⟩:=I.base.there b o q (by intro z; cases z)
  exact ⟨o',PySem.W.hideAll_get _ e' fun z=>by
   rcases (sZ b).mp z with e | e
   ·exact Nat.lt_irrefl _ (e ▸ Heap.lt_size q)
   ·exact hb e⟩
end
end L2
set_option Elab.async false
set_option linter.all false
set_option maxRecDepth 100000
namespace L2
open PySem PySem.Spec PyProof.Rows
abbrev VEm:List Value:=[.type "ValueError",.type "Exception",.type "BaseException",.type "object"]
theorem DS {K:PySem.W.Frag} {h:Heap} {C:Addr} {bmB:List Value} {newId:String} (X:K.In h) (q:PySem.W.excIn K C bmB newId=true) :
  ∃ tl N nm qn bs hd sn sub ab col dd k0 k1 k2 k3 k5 mN,h.get? C=some (excClassObj nm qn C N bs tl hd sn sub ab col dd k0 k1 k2 k3 k5 newId)/\h.Ns N mN/\mN "__init__" = none/\OwnTail h bmB tl:=by
 unfold PySem.W.excIn at q
 cases e:K.lookup C with
 | none=>rw [e] at q; cases q
 | some ob =>
  rw [e] at q
  obtain ⟨oc,od,dt,sl⟩:=ob
  split at q
  ·rename_i dd cd sl' he
   cases he
   split at q
   ·rename_i C' tl k0 k1 k2 k3 n k5 m1 m2
    simp only [Bool.and_eq_true,beq_iff_eq,Bool.not_eq_true'] at q
    obtain ⟨⟨⟨⟨⟨rfl,rfl⟩,d1⟩,t1⟩,o1⟩,i1⟩:=q
    obtain ⟨nm,bs,mro,ns,qn,hd,sn,sub,ab,col,del⟩:=cd
    dsimp only at m1 d1 o1 i1
    subst m1 d1
    have es:sl=#[k0,k1,k2,k3,some (.builtin n),k5]:=by
     cases sl with
     | mk l=>exact congrArg Array.mk m2
    subst es
    exact ⟨tl,ns,nm,qn,bs,hd,sn,sub,ab,col,_,k0,k1,k2,k3,k5,_,X _ _ e,.of_isNs (PySem.W.isNs_of_in X o1),PySem.W.nsMap_none_of_in X o1 i1,PySem.W.tail_of_in X t1⟩
   ·cases q
  ·cases q
section
variable {X:Cx} {x:Str} {j k:Nat} {ps:List Str} {dvs:List V} {sp:Sp} {p pos cpos:Pos} {e:Expr} {es:List Expr} {t:TA} {C:Addr} {E:XK}
def EC (C:Addr) (E:XK) (t:TA):TS:=fun _ σ H=>t σ H fun vs H1=>vs.length<=8/\E (.ref C) none H1
theorem Cf (hq:PySem.W.excIn X.K C VEm "ValueError.__new__" = true) (hc:X.calm=true) (hm:X.mg x=some (.ref C)) (ht:Thr X E) (ha:PA X (e :: es) t) (hg:Gl X x:=by rfl) (hdb:(x==("__debug__" : Str))=false:=by decide)
  (he:starEach (e :: es) X.env=(false,eval e X.env) :: starEach es X.env:=by rfl) (hpl:(backTo cpos (starEach es X.env)).any (·.1)=false:=by rfl) :
  PS X (.Raise (some (.Call (.Name x p) (e :: es) [] cpos)) none pos) (EC C E t):=by
 intro pins s σ H D I h
 obtain ⟨tl,N,nm,qn,bs,hd,sn,sub,ab,col,dd,k0,k1,k2,k3,k5,mN,hC,hN,hni,T⟩:=DS I.ok.mod.kin hq
 refine wpAny_Raise_call_subU (C:=C) (nm:=nm) (q:=qn) (N:=N) (bs:=bs) (bm:=tl) (hdct:=hd) (sn:=sn) (sub:=sub) (ab:=ab) (col:=col) (dd:=dd) (k0:=k0) (k1:=k1) (k2:=k2) (k3:=k3) (k5:=k5)
  PySem.F.excBase_ValueError (bmB:=VEm) (by decide) PySem.F.excBase_ValueError (mN:=mN) (T.hasType (by decide)) (I.ok.hd hc) (by rw [he]; show (false||(backTo cpos (starEach es X.env)).any (·.1))=false; rw [hpl]; rfl) hni (kQ I hg hm ⟨rfl,?_⟩ hdb)
 have hw:=ha cpos pins s σ H _ I h
 rw [he] at hw ⊢
 refine Calls.evalArgs_plain (thn hw fun us s1 ⟨vs,H1,I1,r,l8,q⟩=>⟨rfl,?_,I1.bk _ _ hC,hN.keeps I1.bk,T.keeps I1.bk,fun h' ea hx=>ht pins σ H1 s1 h' ea C us I1 hx q⟩)
 show us.length<=sizeLine
 rw [<- r.length]
 exact Nat.le_trans l8 (by decide)
theorem E2 (G:DefOk X.prog X.w X.K X.mg X.base x k ps dvs sp) (hr:Room j X.A) (ha:PA X (e :: es) t) (hkj:k<=j:=by decide) (hg:Gl X x:=by rfl) (hdb:(x==("__debug__" : Str))=false:=by decide)
  (he:starEach (e :: es) X.env=(false,eval e X.env) :: starEach es X.env:=by rfl) (hpl:(backTo pos (starEach es X.env)).any (·.1)=false:=by rfl) :
  PE X (.Call (.Name x p) (e :: es) [] pos) (Cz sp dvs E0 t):=by
 obtain ⟨f,fd,ds,hm,hk,hd,hb,F⟩:=G.ex
 exact zO F (hr.mono hkj) hg hm hk hb hd (fun _ _ _ _ _ _ _ h=>h.elim) ha hdb he hpl
end
structure DefX (P:Program) (w:World) (K:PySem.W.Frag) (mg:Str->Option Value) (base:Heap) (x:Str) (k:Nat) (ps:List Str) (dvs:List V) (sp:Sp):Prop where
 ex:∃ (f:Addr) (fd:FuncData) (ds:List Value),mg x=some (.ref f)/\PySem.W.keepIn K (.ref f)=true/\Vals dvs ds/\Binds K fd ps ds/\FnOk P w K mg base (CX1 P w) k f fd ps sp
section
variable {X:Cx} {x:Str} {j k:Nat} {ps:List Str} {dvs:List V} {sp:Sp} {p pos:Pos} {e:Expr} {es:List Expr} {t:TA} {E:XK}
def Fl (t:TS):TS:=fun _ σ H=>t { nx:=fun _ _=>False,rt:=fun _ _=>False } σ H
theorem Cg {st:Stmt} {rest:List Stmt} {t:TS} (h:PS X st t):PSs X (st :: rest) (Fl t):=by
 intro pins s σ H D I q
 refine wpAny_execs_cons (thn (h pins s σ H _ I q) fun f s' hs=>?_)
 cases f with
 | next=>obtain ⟨_,_,_,z⟩:=hs; exact z.elim
 | brk=>obtain ⟨_,_,_,z⟩:=hs; exact z.elim
 | cont=>obtain ⟨_,_,_,z⟩:=hs; exact z.elim
 | ret u=>obtain ⟨_,_,_,_,_,z⟩:=hs; exact z.elim
end
section
variable {P:Program} {w:World} {K:PySem.W.Frag} {mg:Str->Option Value} {base:Heap}
theorem FunD.okX {x qual:Str} {st:Stmt} {dV:Value} {f:Addr} {fd:FuncData} {N ps:List Str} {k:Nat} {sp:Sp} (F:FunD K x qual st dV f fd) (S:FnScope N ps (ak st)) (len:∀ vs H Q E,sp vs H Q E->vs.length=ps.length)
  (hbody:∀ (cdv:Value) (A:Around) (outer:List Env) (s:Shared) (H:Hp) (vs:List V) (Q:VK) (E:XK),Room k (A.deeper (envOfC qual (ak st) s.heap.objs.size f cdv))->sp vs H Q E ->
   ∃ t,PSs (w6 (CX1 P w) P w K mg base N qual (ak st) f cdv A outer s H E) (aI st) t/\t { nx:=fun _ H'=>Q .non H',rt:=Q } (start N vs) H):FnOk P w K mg base (CX1 P w) (k+1) f fd ps sp:=by
 obtain ⟨oc,od,kV,doc,pm,an,cdv,ct,osl,rfl,lk,hcd⟩:=F.ex
 exact DB lk hcd S len fun A outer s H vs Q E hr hsp=>hbody cdv A outer s H vs Q E hr hsp
end
section
variable {X:Cx} {e v1 v2:Expr} {es rest:List Expr} {pos:Pos} {te:TE} {n:Nat}
end
end L2
set_option Elab.async false
set_option linter.all false
set_option maxRecDepth 100000
namespace L2
open PySem PySem.Spec PySem.W PySem.Builtin PySem.Builtin.Getset_descriptor
structure XCls (K:PySem.W.Frag) (C:Addr):Prop where
 ga:findIn K (.ref C) "__getattribute__" = some (some (.builtin "BaseException.__getattribute__"))
 gt:findIn K (.ref C) "__getattr__" = some none
 cl:findIn K (.ref C) "__class__" = some (some (.builtin "object.__class__"))
 gg:specialIn K (.builtin "object.__class__") "__get__" = some (some (.builtin "getset_descriptor.__get__"))
 tk:takesIn K (.builtin "object.__class__")=some true
 ob:mroIn K C (.type "object")=some true
 be:mroIn K C (.type "BaseException")=some true
 ci:(clsIn K C).isSome=true
section
variable {prog:Program} {w:World} {A:Around} {E:Value->Shared->Prop} {s:Shared} {K:PySem.W.Frag} {ea C:Addr} {ob:Obj}
theorem Bi {M:Model} {h:Heap} (c:XCls K C) (X:K.In h):Looks M h (Builtin.ObjectAttr.find (.ref ea) (.ref C) "__class__") (.bind (.builtin "getset_descriptor.__get__") (.builtin "object.__class__")):=by
 have l1:=looks_findIn (M:=M) X c.cl
 have l2:Looks M h (Builtin.ObjectAttr.getOf (some (.builtin "object.__class__"))) (some (.builtin "getset_descriptor.__get__")):=looks_specialIn (M:=M) X c.gg
 have l3:=looks_takesIn (M:=M) X c.tk
 have l4:Looks M h (Builtin.ObjectAttr.dataDescriptor? (some (.builtin "object.__class__")) (some (.builtin "getset_descriptor.__get__"))) (some (.builtin "getset_descriptor.__get__",.builtin "object.__class__")):=l3.andThen .now
 unfold Builtin.ObjectAttr.find
 exact l1.andThen (l2.andThen (l4.andThen (Looks.tag .now)))
theorem CW {tp:Value} {R:Result->Shared->Prop} (X:K.In s.heap) (LT:Looks (model prog w) s.heap (typeOf (.ref ea)) (.ref C)) (hm:mroIn K C (.type "object")=some true) (q:R (.ok (.ret (.ref C))) s) :
  codeAny (model prog w) A (.call (.builtin "getset_descriptor.__get__") ⟨[.builtin "object.__class__",.ref ea,tp],[]⟩) R s:=by
 have LM:=looks_mroIn (M:=model prog w) X hm
 obtain ⟨hp,gs,dr,tk,os⟩:=s
 dsimp only at LT LM
 refine codeAny_call_builtin KF.slot_gs.plain KF.entry_gs (KF.slot_gs.check _ _ _ _ _ _ _ _ KF.type_class (KF.args_gs _ _ _) ?_)
 unfold Builtin.«getset_descriptor.__get__» descrGet; rw [dga_obj]
 refine wpAny_bind (wpAny_pure ?_); unfold descrGetter descrCheckInstance descrNameAndClass isInstance
 simp only [KF.owner_class]; repeat lk
 refine ⟨Code.quiet_builtin _ (by decide +kernel),codeAny_builtin KF.entry_class ?_⟩; unfold Builtin.«object.__class__» shownTypeOf
 repeat lk
 exact q
theorem Ae {M:Model} {hh:Heap} {g:Array GenState} {d:Drawn} {t:Nat} {os:OsState} {nameV:Value} {Q:Unit->Shared->Prop} (LB:Looks M hh (isInstance (.ref ea) (.type "BaseException")) true) (hq:Q () ⟨hh,g,d,t,os⟩) :
  wpAny M A (checkBuiltinCall "BaseException.__getattribute__" ⟨[.ref ea,nameV],[]⟩) Q E ⟨hh,g,d,t,os⟩:=by
 have hk:builtinKind "BaseException.__getattribute__" = some .slot:=by decide +kernel
 have hsplit:splitId "BaseException.__getattribute__" = some ("BaseException","__getattribute__"):=by decide +kernel
 have ha:=PySem.F.args_bexc_ga (.ref ea) nameV
 simp only [checkBuiltinCall,hk,hsplit]
 refine wpAny_bind (LB.at ?_)
 simp only [Bool.not_true,Bool.false_eq_true,if_false]
 repeat (any_goals (first | assumption | wp_step))
theorem Af {Q:Option Value->Shared->Prop} (c:XCls K C) (X:K.In s.heap) (LT:∀ M:Model,Looks M s.heap (typeOf (.ref ea)) (.ref C)) (h:Q (some (.ref C)) { s with toks:=s.toks+1 }) :
  wpAny (model prog w) A (getAttr? (.ref ea) "__class__") Q E s:=by
 obtain ⟨hh,g,d,t,os⟩:=s
 have L0:=LT (model prog w)
 have L1:=looks_findIn (M:=model prog w) X c.ga
 have L2:=looks_findIn (M:=model prog w) X c.gt
 have LF:=Bi (M:=model prog w) (ea:=ea) c X
 have LB:Looks (model prog w) hh (isInstance (.ref ea) (.type "BaseException")) true:=L0.andThen (looks_mroIn (M:=model prog w) X c.be)
 unfold getAttr? getAttrBy? getAttrBy
 refine wpAny_bind (wpAny_mkText (wpAny_bind (wpAny_attempt (wpAny_holding (wpAny_bind (L0.at (wpAny_bind (L1.at ?_))))))))
 have ne:(onTheHeap (Value.ref C)&&Value.builtin "BaseException.__getattribute__" == Value.builtin "object.__getattribute__")=false:=by
  have:(Value.builtin "BaseException.__getattribute__" == Value.builtin "object.__getattribute__")=false:=by decide +kernel
  rw [this]; rfl
 dsimp only
 rw [ne]
 simp only [Bool.false_eq_true,if_false]
 unfold getAttrByItsOwn hookBefore
 rw [if_pos (show onTheHeap (Value.ref C)=true from rfl)]
 refine wpAny_bind (L2.at ?_)
 refine wpAny_bind (wpAny_attempt (wpAny_holding ?_))
 unfold callGetattribute
 simp only [Bool.false_and,Bool.false_eq_true,if_false]
 unfold boundAndCalled
 rw [PySem.F.attrBase_ValueError.ga.bind (.ref ea)]
 refine wpAny_bind (wpAny_pure ?_)
 have hk:builtinKind "BaseException.__getattribute__" = some .slot:=by decide +kernel
 have hsplit:splitId "BaseException.__getattribute__" = some ("BaseException","__getattribute__"):=by decide +kernel
 have ha:=PySem.F.args_bexc_ga (.ref ea) (.str "__class__" t)
 refine wpAny_call (codeAny_call_builtin PySem.F.attrBase_ValueError.ga.plain PySem.F.entry_bexc_ga ?_)
 refine Ae LB ?_
 unfold Builtin.«object.__getattribute__»
 refine wpAny_bind (wpAny_pure ?_)
 dsimp only
 refine wpAny_bind ?_
 refine (show wpAny _ _ (pure _) _ _ _ from wpAny_pure ?_)
 refine wpAny_bind (L0.at ?_)
 refine wpAny_bind (LF.at ?_)
 dsimp only
 show wpAny _ _ (holding [Value.builtin "object.__class__"] (call (.builtin "getset_descriptor.__get__") [.builtin "object.__class__",.ref ea,.ref C])>>=ret) _ _ _
 refine wpAny_bind (wpAny_holding (wpAny_call (CW (s:=⟨hh,g,d,t+1,os⟩) X L0 c.ob ?_)))
 refine wpAny_pure ?_
 exact handed_on rfl (wpAny_pure h)
def ExAt (ea C:Addr) (h:Heap):Prop := ∃ ob vs,h.get? ea=some ob/\ob.cls=.ref C/\ob.data=.fields vs
theorem ExAt.ty {M:Model} {h:Heap} (p:ExAt ea C h):Looks M h (typeOf (.ref ea)) (.ref C):=by
 obtain ⟨ob,vs,e,c,_⟩:=p
 exact c ▸ (Looks.ld e).andThen .now
theorem xk (c:XCls K C):KitX K (.ref ea) (.ref C) (ExAt ea C) where
 ty:=fun M h _ p=>p.ty
 it:=fun M h X _=>by
  obtain ⟨cd,e⟩:=Option.isSome_iff_exists.mp c.ci
  unfold clsIn at e
  split at e
  ·rename_i ho
   intro A' Q' E' s' k q
   unfold isType loadHead; exact wpAny_bind (wpAny_loadPart (k _ _ (X _ _ ho)) (wpAny_pure q))
  ·cases e
 ne:=fun h tp dd its n sl X htp=>by
  obtain ⟨cd,e⟩:=Option.isSome_iff_exists.mp c.ci
  refine Bool.eq_false_iff.mpr fun q=>?_
  cases (show C=tp from Value.ref.inj (beq_iff_eq.mp q))
  unfold clsIn at e
  split at e
  ·rename_i ho; cases (X _ _ ho).symm.trans htp
  ·cases e
 ca:=fun X p k=>Af c X (fun M=>p.ty) k
end
end L2
set_option Elab.async false
set_option linter.all false
set_option maxRecDepth 100000
namespace L2
open PySem PySem.Spec PyProof.Rows
abbrev Cx.held (X:Cx) (ea:Addr):Cx:={ X with A:=X.A.mark (some (.ref ea)),calm:=false,xe:=fun _ _=>False }
section
variable {X:Cx} {pins:List (Addr×Obj)} {σ:St} {H:Hp} {s:Shared} {E:XK} {ea:Addr}
theorem mark_frames {A:Around} {v:Option Value}:(A.mark v).frames=A.frames:=by first | rfl | simp [Around.mark]
theorem Cx.Ok.held (ok:X.Ok):(X.held ea).Ok:=
 ⟨ok.mod,ok.kind,ok.glob,ok.blt,ok.above,ok.inj,ok.has,ok.cab,(fun z=>by cases z),mark_frames.trans ok.frames,ok.stk,ok.exf,ok.bs,ok.bsz,ok.noex,ok.exfs,ok.funs,ok.frf⟩
theorem Inv.held (I:Inv X pins σ H s):Inv (X.held ea) pins σ H s:=⟨I.ok.held,I.os,I.bare,I.base,I.loc,I.cell,I.free,I.freeC,I.pin,I.hok,I.len⟩
theorem Inv.unheld (ok:X.Ok) (I:Inv (X.held ea) pins σ H s):Inv X pins σ H s:=⟨ok,I.os,I.bare,I.base,I.loc,I.cell,I.free,I.freeC,I.pin,I.hok,I.len⟩
def CXI (X:Cx) (pins:List (Addr×Obj)) (σ:St) (E:XK) (e:Value) (s':Shared):Prop := ∃ s H,Inv X pins σ H s/\CX1 X.prog X.w X.stack H s E e s'
abbrev TXE:=St->Hp->VK->XK->Prop
abbrev TX:=Ends->XK->St->Hp->Prop
def PXE (X:Cx) (e:Expr) (t:TXE):Prop := ∀ (pins:List (Addr×Obj)) (s:Shared) (σ:St) (H:Hp) (Q:VK) (E:XK),Inv X pins σ H s->t σ H Q E->wpAny (model X.prog X.w) X.A (eval e X.env) (EP X pins σ Q) (CXI X pins σ E) s
def PX1 (X:Cx) (st:Stmt) (t:TX):Prop := ∀ (pins:List (Addr×Obj)) (s:Shared) (σ:St) (H:Hp) (D:Ends) (E:XK),Inv X pins σ H s->t D E σ H->wpAny (model X.prog X.w) X.A (exec st X.env) (SP X pins D) (CXI X pins σ E) s
def PX (X:Cx) (st:List Stmt) (t:TX):Prop := ∀ (pins:List (Addr×Obj)) (s:Shared) (σ:St) (H:Hp) (D:Ends) (E:XK),Inv X pins σ H s->t D E σ H->wpAny (model X.prog X.w) X.A (execs st X.env) (SP X pins D) (CXI X pins σ E) s
end
section
variable {X:Cx} {x:Str} {j k:Nat} {ps:List Str} {dvs:List V} {sp:Sp} {p pos:Pos} {e:Expr} {es:List Expr} {t:TA} {E:XK}
def ED (sp:Sp) (dvs:List V) (t:TA):TXE:=fun σ H Q E=>t σ H fun vs H1=>sp (vs++dvs) H1 Q E
theorem Cn (G:DefX X.prog X.w X.K X.mg X.base x k ps dvs sp) (hr:Room j X.A) (ha:PA X (e :: es) t) (hx:∀ e s,X.xe e s=False:=by intro _ _; rfl) (hkj:k<=j:=by decide) (hg:Gl X x:=by rfl) (hdb:(x==("__debug__" : Str))=false:=by decide)
  (he:starEach (e :: es) X.env=(false,eval e X.env) :: starEach es X.env:=by rfl) (hpl:(backTo pos (starEach es X.env)).any (·.1)=false:=by rfl) :
  PXE X (.Call (.Name x p) (e :: es) [] pos) (ED sp dvs t):=by
 obtain ⟨f,fd,ds,hm,hk,hd,hb,F⟩:=G.ex
 intro pins s σ H Q E I h
 refine wpAny_Call_Name_kw (kQ I hg hm ?_ hdb)
 refine PySem.W.callWith_K (h₀:=X.base) I.ok.mod.kin hk (wpAny_mono (ha pos pins s σ H _ I h) (fun us s1 ⟨vs,H1,I1,r,q⟩=>⟨I1.kIn,?_⟩) fun e' s' z=>((hx e' s').mp z).elim) he hpl
 have r2:Vals (vs++dvs) (us++ds):=r.append hd
 have hl:(us++ds).length=ps.length:=by rw [<- r2.length]; exact F.len _ _ _ _ q
 refine wpAny_call (codeAny_mono (F.run X.A X.stack s1 H1 ⟨us,[]⟩ (us++ds) (vs++dvs) Q E (hr.mono hkj) I1.env0 (hb s1 us I1.kIn hl) r2 q) fun r' s' hq=>?_)
 cases r' with
 | error e'=>exact ⟨s1,H1,I1,hq⟩
 | ok fl =>
  cases fl with
  | ret u=>exact I1.after hq
  | next=>exact False.elim hq
  | brk=>exact False.elim hq
  | cont=>exact False.elim hq
def EG (t:TXE):TX:=fun D E σ H=>t σ H (fun _ H1=>D.nx σ H1) E
theorem Dq {t:TXE} (he:PXE X e t) (hs:swapsWith e none pos.line X.env=pure false:=by rfl):PX1 X (.Expr e pos) (EG t):=by
 intro pins s σ H D E I h
 exact wpAny_Expr_any (thn (he pins s σ H _ E I h) fun v s1 ⟨y,H1,I1,r1,q1⟩=>⟨σ,H1,I1,q1⟩) I.quiet hs
theorem Ep {st:Stmt} {t:TX} (h:PX1 X st t):PX X [st] t:=by
 intro pins s σ H D E I q
 refine wpAny_execs_cons (thn (h pins s σ H D E I q) fun f s' hs=>?_)
 cases f with
 | next=>exact wpAny_execs_nil hs
 | brk=>exact hs
 | cont=>exact hs
 | ret u=>exact hs
end
section
variable {P:Program} {w:World} {fs:List Addr} {H H1:Hp} {h h1:Heap} {ea C:Addr} {o:HO}
theorem Un.more (u:Un fs [] H H1 h h1) (n:h.get? ea=none) (z:H ea=none):Un fs [] H (upd H1 ea o) h h1 where
 keep:=u.keep
 slot:=u.slot
 free:=fun b ob q e hx=>by
  rw [ah (fun c=>by rw [c,n] at q; cases q)]
  exact u.free b ob q e hx
 there:=u.there
 tups:=fun b xs q=>by rw [ah (au q z)]; exact u.tups b xs q
 frzs:=fun b ob v q=>by rw [ah (au q z)]; exact u.frzs b ob v q
 tbls:=fun b ps q=>by rw [ah (au q z)]; exact u.tbls b ps q
theorem HOk.ext (x:HOk P w H h) (z:H ea=Option.none) (p:ExAt ea C h):HOk P w (upd H ea (.ext (ExAt ea C))) h:=by
 intro a u e
 by_cases q:a=ea
 ·subst q
  rw [ae] at e
  cases e
  obtain ⟨ob,vs,e1,e2,e3⟩:=p
  refine ⟨⟨ob,vs,e1,e2,e3⟩,⟨ob,e1⟩,?_⟩
  rintro h1 h2 ⟨ob',vs',f1,f2,f3⟩ k
  exact ⟨ob',vs',k _ f1,f2,f3⟩
 ·rw [ah q] at e
  exact (x a u e).stay (fun b v _ f=>f) (fun b f=>by rw [ah (au f z)]; exact f) fun b xs f=>by rw [ah (au f z)]; exact f
end
section
variable {X:Cx} {pins:List (Addr×Obj)} {σ:St} {H:Hp} {s:Shared} {E:XK}
theorem AR {M:Model} {A:Around} {EE:Value->Shared->Prop} {i:Nat} {x:Str} {v:V} {pos:Pos} {Q:Unit->Shared->Prop} (I:Inv X pins σ H s) (hN:X.N.Nodup) (hi:X.N[i]?=some x) (hx:X.env.scope.names.lookup x=some .local)
  (h:∀ s',Inv X pins (σ.set i none) H s'->Q () s'):wpAny M A (do bindName X.env x .none; unbindBehindTheSuite X.env x pos) Q EE s:=by
 have hcls:(X.env.scope.kind==.class||(X.env.scope.kind==.module&&X.env.locals != X.env.globals))=false:=by rw [I.ok.kind]; rfl
 have hiσ:i<σ.length:=by rw [I.len]; exact (List.getElem?_eq_some_iff.mp hi).1
 refine wpAny_bind (wpAny_bindName (oC I hN hi (.inl hx) (v:=.non) rfl (fun s1 I1=>?_) (.inr hx)))
 unfold unbindBehindTheSuite
 refine wpAny_onRaise ?_
 obtain ⟨m,hn,hl⟩:=id I1.loc
 have hv:m x=some .none:=by
  obtain ⟨u,ru,lk⟩:=hl i x .non hi (List.getElem?_set_self hiσ) (.inl hx)
  cases (show u=Value.none from ru)
  rcases lk with ⟨_,e⟩ | ⟨k,_⟩
  ·exact e
  ·have k0:X.env.kindOf x=some .local:=hx
   rw [k0] at k
   rcases k with k | k <;> cases k
 refine wpAny_unbindName_local hx hn hv hcls fun h' u hn' hs=>h _ ?_
 have cne:=I1.cne
 obtain ⟨oL,_,_,hoL,_⟩:=id hn
 refine ⟨I1.ok,I1.os,I1.bare,⟨fun b o e n hb hz=>?_,fun b o e n hb hz=>?_,I1.base.free,fun b o e hz=>?_,I1.base.tups,I1.base.frzs,I1.base.tbls⟩,⟨_,hn',fun j y v' e1 e2 e3=>?_⟩,fun y c e=>?_,I1.free,I1.freeC,fun p hp=>?_,fun b ob e=>?_,?_⟩
 ·exact (hs.2 b (Nat.ne_of_lt (Nat.lt_of_lt_of_le (Heap.lt_size e) I1.ok.above))).trans (I1.base.keep b o e n hb hz)
 ·obtain ⟨sl,f⟩:=I1.base.slot b o e n hb hz
  exact ⟨sl,(hs.2 b (Nat.ne_of_lt (Nat.lt_of_lt_of_le (Heap.lt_size e) I1.ok.above))).trans f⟩
 ·obtain ⟨o',f⟩:=I1.base.there b o e hz
  exact ⟨o',(hs.2 b (Nat.ne_of_lt (Nat.lt_of_lt_of_le (Heap.lt_size e) I1.ok.above))).trans f⟩
 ·by_cases hj:j=i
  ·subst hj
   rw [List.getElem?_set_self hiσ] at e2
   cases e2
  ·rw [List.getElem?_set_ne (Ne.symm hj)] at e2
   obtain ⟨u',r',q⟩:=hl j y v' e1 (by rw [List.getElem?_set_ne (Ne.symm hj)]; exact e2) e3
   refine ⟨u',r',?_⟩
   rcases q with ⟨k,e⟩ | ⟨k,c,e,z⟩
   ·refine .inl ⟨k,?_⟩
    have:y≠x:=fun e=>hj (sN hN e1 (e ▸ hi))
    simp [this,e]
   ·exact .inr ⟨k,c,e,z.sameBut hs (cne y c e)⟩
 ·obtain ⟨w',z⟩:=I1.cell y c e
  exact ⟨w',z.sameBut hs (cne y c e)⟩
 ·obtain ⟨e,n,ne,nf,d⟩:=I1.pin p hp
  exact ⟨(hs.2 p.1 ne).trans e,n,ne,nf,d⟩
 ·refine (I1.hok b ob e).stay (fun c w' hc q=>(hs.2 c ?_).trans q) (fun _ q=>q) fun _ _ q=>q
  rintro rfl
  rcases hc with rfl | hc
  ·rw [I1.free] at e; cases e
  ·rw [I1.free] at hc; cases hc
 ·rw [List.length_set]; exact I.len
end
section
variable {X:Cx} {pins:List (Addr×Obj)} {σ:St} {H:Hp} {s s':Shared} {E:XK} {C F:Addr} {i:Nat} {x n:Str} {np pos hpos:Pos} {body:List Stmt} {b₀:Stmt} {suite:List Stmt} {tb:TX} {ts:TS}
theorem land {h5:Heap} {B:Heap} {H':Hp} (I:Inv X pins σ H s) (os:s'.os=s.os) (bare:AllBare s'.gens) (un:Un (frs X.stack) [] H H' s.heap s'.heap) (hok:HOk X.prog X.w H' B)
  (there:∀ b o,s.heap.get? b=some o->b∉frs X.stack->∃ o',B.get? b=some o') (f0:B.StaysIn s'.heap) (f5:B.StaysIn h5) (sm:s'.heap.UpToSlots h5):Un (frs X.stack) [] H H' s.heap h5/\HOk X.prog X.w H' h5:=by
 have hokS:HOk X.prog X.w H' s'.heap:=hok.kept fun b u q=>f0 b u q
 have J:Inv X pins σ H' s' := I.call' (ch:=[]) os un hokS bare (fun b z=>by cases z)
 refine ⟨Un.fly un f5 (fun b o o1 q q1 hb=>?_) fun b o hb q=>?_,hok.kept fun b u q=>f5 b u q⟩
 ·obtain ⟨o',e'⟩:=there b o q hb
  have:=f0 b o' e'
  rw [q1] at this
  cases this
  exact e'
 ·obtain ⟨_,o',e',hd⟩:=J.stack.mem hb
  rw [q] at e'
  cases e'
  exact sm b o q hd
def FO (C:Addr) (i:Nat) (tb:TX) (ts:TS):TS:=fun D σ H=>tb D (fun c _ H1=>c=.ref C/\∀ ea,H1 ea=none ->
 ts { nx:=fun σ' H'=>D.nx (σ'.set i none) H',rt:=D.rt,bk:=fun σ' H'=>D.bk (σ'.set i none) H',ct:=fun σ' H'=>D.ct (σ'.set i none) H' } (σ.set i (some (.ref ea))) (upd H1 ea (.ext (ExAt ea C)))) σ H
theorem Eo (hN:X.N.Nodup) (hi:X.N[i]?=some n) (hx:X.env.scope.names.lookup n=some .local) (hm:X.mg x=some (.ref F)) (hq:PySem.W.exmOne X.K (.ref C) (.ref F)=some true) (hb:PX X body tb) (hs:∀ ea,PSs (X.held ea) (b₀ :: suite) ts)
  (hst:X.stack=X.env :: X.outer:=by rfl) (hfr:X.env.frame=some X.env.locals:=by rfl) (hg:Gl X x:=by rfl) (hdb:(x==("__debug__" : Str))=false:=by decide) :
  PS X (.Try body [.ExceptHandler (some (.Name x np)) (some n) (b₀ :: suite) hpos] [] [] pos) (FO C i tb ts):=by
 intro pins s σ H D I h
 refine wpAny_Try_except (wpAny_mono (hb pins s σ H D _ I h) (fun f s1 q=>?_) fun e s1 q=>?_)
 ·cases f with
  | next=>exact wpAny_execs_nil q
  | brk=>exact q
  | cont=>exact q
  | ret u=>exact q
 obtain ⟨s0,H0,I0,ea,t,C',B,H',rfl,os,bare,un,hok,fl,there,hn,hc,k⟩:=q
 obtain rfl:C'=C:=Value.ref.inj hc
 have flt:=fl
 rw [hst] at flt
 have ean:s0.heap.get? ea=none:=by
  cases q:s0.heap.get? ea with
  | none=>rfl
  | some o =>
   by_cases hb:ea∈frs X.stack
   ·exfalso
    obtain ⟨_,_,_,oe,vs,_,_,_,he,_,hd,_⟩:=id fl
    have hokS:HOk X.prog X.w H' s1.heap:=hok.kept fun b u q=>fl.1 b u q
    have J:Inv X pins σ H' s1:=I0.call' (ch:=[]) os un hokS bare (fun b z=>by cases z)
    obtain ⟨_,o',e',hnd⟩:=J.stack.mem hb
    rw [he] at e'
    cases e'
    exact hnd _ hd
   ·obtain ⟨o',e'⟩:=there ea o q hb
    rw [fl.2.1] at e'
    cases e'
 have h0n:H0 ea=none:=I0.hok.none ean
 refine wpAny_looks_onW (I0.ok.frames.trans (by rw [hst])) hfr flt fun h4 held4 sm4=>?_
 refine wpAny_landsW held4 fun h5 fl5 sm5=>?_
 have sm:=sm4.trans sm5
 obtain ⟨un5,hok5⟩:=land I0 os bare un hok there fl.1 fl5.1 sm
 have I5:Inv X pins σ H' { s1 with heap:=h5 }:=I0.call' (ch:=[]) os un5 hok5 bare (fun b z=>by cases z)
 refine wpAny_handleBy_cons (codeAny_handlers_test ?_) (by intro q; cases q)
 refine kQ (X:=X.held ea) I5.held hg hm ?_ hdb
 have ty5:PySem.W.Looks (model X.prog X.w) h5 (typeOf (.ref ea)) (.ref C'):=by
  obtain ⟨ob,e1,e2⟩:=fl5.there
  exact e2 ▸ (PySem.W.Looks.ld e1).andThen .now
 refine (PySem.W.exm_one (M:=model X.prog X.w) I5.kIn ty5 hq).here ?_
 refine codeAny_handlers_suite_as (lands_againW fl5 fun h6 fl6 sm6=>?_)
 obtain ⟨un6,hok6⟩:=land I0 os bare un hok there fl.1 fl6.1 (sm.trans sm6)
 have ex6:ExAt ea C' h6:=by
  obtain ⟨_,_,_,oe,vs,_,_,_,he,hcl,hd,_⟩:=fl6
  exact ⟨oe,vs,he,hcl.1,hd⟩
 have I6:Inv X pins σ (upd H' ea (.ext (ExAt ea C'))) { s1 with heap:=h6 }:=I0.call' (ch:=[]) os (un6.more ean h0n) (hok6.ext hn ex6) bare (fun b z=>by cases z)
 refine oC (X:=X.held ea) I6.held hN hi (.inl hx) (v:=.ref ea) rfl (fun s7 I7=>?_) (.inr hx)
 refine wpAny_mono (hs ea pins s7 _ _ _ I7 (k ea hn)) (fun f s8 q8=>?_) fun _ _ z=>z.elim
 have fin:∀ {σ8:St} {H8:Hp} {Q:Unit->Shared->Prop},Inv (X.held ea) pins σ8 H8 s8->(∀ s9,Inv X pins (σ8.set i none) H8 s9->Q () s9)->wpAny (model X.prog X.w) X.A (do bindName X.env n .none; unbindBehindTheSuite X.env n hpos) Q X.xe s8:=
  fun {σ8 H8 Q} J g=>AR (v:=.non) (J.unheld I.ok) hN hi hx g
 cases f with
 | next=>obtain ⟨σ8,H8,J,q⟩:=q8; exact fin J fun s9 J9=>⟨_,H8,J9,q⟩
 | brk=>obtain ⟨σ8,H8,J,q⟩:=q8; exact fin J fun s9 J9=>⟨_,H8,J9,q⟩
 | cont=>obtain ⟨σ8,H8,J,q⟩:=q8; exact fin J fun s9 J9=>⟨_,H8,J9,q⟩
 | ret u=>obtain ⟨v,σ8,H8,J,r,q⟩:=q8; exact fin J fun s9 J9=>⟨v,_,H8,J9,r,q⟩
end
end L2
set_option Elab.async false
set_option linter.all false
set_option maxRecDepth 100000
namespace L2
open PySem PySem.Spec PyProof.Rows
structure RoomH (k:Nat) (A:Around):Prop where
 dp:A.depth+3*k+5<recursionLimit
 un:A.units+16*k+200<cLine
structure FnOkH (P:Program) (w:World) (K:PySem.W.Frag) (mg:Str->Option Value) (base:Heap) (CX:CXT) (k:Nat) (f:Addr) (fd:FuncData) (ps:List Str) (sp:Sp):Prop where
 len:∀ vs H Q E,sp vs H Q E->vs.length=ps.length
 run:∀ (A:Around) (outer:List Env) (s:Shared) (H:Hp) (args:Args) (us:List Value) (vs:List V) (Q:VK) (E:XK),RoomH k A->Env0 P w K mg base A outer s H->BindsTo s fd args (ps.zip us)->Vals vs us->sp vs H Q E ->
  codeAny (model P w) A (.call (.ref f) args) (CR CX outer P w H s Q E) s
structure DefH (P:Program) (w:World) (K:PySem.W.Frag) (mg:Str->Option Value) (base:Heap) (x:Str) (k:Nat) (ps:List Str) (dvs:List V) (sp:Sp):Prop where
 ex:∃ (f:Addr) (fd:FuncData) (ds:List Value),mg x=some (.ref f)/\PySem.W.keepIn K (.ref f)=true/\Vals dvs ds/\Binds K fd ps ds/\FnOkH P w K mg base CX0 k f fd ps sp
section
variable {P:Program} {w:World} {K:PySem.W.Frag} {mg:Str->Option Value} {base:Heap}
end
section
variable {X:Cx} {x:Str} {j k:Nat} {ps:List Str} {dvs:List V} {sp:Sp} {p pos:Pos} {e:Expr} {es:List Expr} {t:TA}
end
section
variable {X:Cx}
end
end L2
set_option Elab.async false
set_option linter.all false
set_option maxRecDepth 100000
namespace L2
open PySem PySem.Spec PyProof.Rows
section
variable {X:Cx}
def EN:V->Option Value
 | .ref a=>some (.ref a)
 | .ty n=>some (.type n)
 | _=>none
theorem Ba {c:V} {cv u:Value} (e:EN c=some cv) (r:RelV c u):u=cv:=by
 cases c <;> first | cases e
 ·exact r
 ·exact r
def E3 (K:PySem.W.Frag):List V->Hp->VK->Prop:=fun xs H Q=>∃ (a C:Addr) (c:V) (cv:Value) (b:Bool),xs=[.ref a,c]/\H a=some (.ext (ExAt a C))/\XCls K C/\EN c=some cv/\PySem.W.kitOne K (.ref C) cv=some b/\Q (.bl b) H
theorem A9:eU X (.builtin "isinstance") (E3 X.K):=by
 intro pins s σ H xs us Q I r h
 obtain ⟨a,C,c,cv,b,rfl,ha,cl,hc,e,q⟩:=h
 obtain ⟨u,v,rfl,ru,rv⟩:=r.two
 cases (show u=Value.ref a from ru)
 cases Ba hc rv
 obtain ⟨p,_⟩:=(show ObjOk X.prog X.w H s.heap a (.ext (ExAt a C)) from I.hok a _ ha)
 exact PySem.W.kia_one (xk cl) I.kIn p e (fun z=>nomatch z) fun tk=>⟨.bl b,H,I.tok tk,rfl,q⟩
end
end L2
set_option Elab.async false
set_option linter.all false
set_option maxRecDepth 100000
namespace L2
open PySem PySem.Spec PyProof.Rows
section
variable {prog:Program} {w:World} {A:Around} {E:Value->Shared->Prop} {s:Shared} {it l S:Addr} {items:Array Value}
end
section
variable {X:Cx} {a:Expr} {ta:TA} {p p2 pos pos2:Pos}
end
end L2
set_option Elab.async false
set_option linter.all false
set_option maxRecDepth 100000
namespace L2
open PySem PySem.Spec PyProof.Rows
theorem fM {α β:Type} {F:α->β->Prop}:∀ {l₁:List α} {l₂:List β} {j:Nat} {q:β},Paired F l₁ l₂->l₂[j]?=some q->∃ p,l₁[j]?=some p/\F p q
 | _,_,_,_,.nil,e=>by simp at e
 | _,_,0,_,.cons r _,e=>by simp at e; subst e; exact ⟨_,rfl,r⟩
 | _,_,j+1,_,.cons _ t,e=>by
  obtain ⟨p,h1,h2⟩:=fM (j:=j) t (by simpa using e)
  exact ⟨p,by simpa using h1,h2⟩
section
variable {X:Cx}
theorem vg:∀ {ks:List Key} {us:List Value},us.length=ks.length->(∀ (j:Nat) (v:Value),us[j]?=some v->∃ k,ks[j]?=some k/\pZ k v=true)->Vals (ks.map kV) us
 | [],[],_,_=>.nil
 | [],_ :: _,h,_=>by simp at h
 | _ :: _,[],h,_=>by simp at h
 | k :: ks,u :: us,h,q=>by
  obtain ⟨k',e,i⟩:=q 0 u rfl
  cases (show k=k' from by simpa using e)
  refine .cons ?_ (vg (by simpa using h) fun j v e=>by simpa using q (j+1) v (by simpa using e))
  rcases bN i with ⟨n,t,rfl,rfl⟩ | ⟨x,t,rfl,rfl⟩
  ·exact ⟨t,rfl⟩
  ·exact ⟨t,rfl⟩
def Es:List V->Hp->VK->Prop:=fun xs H Q=>∃ p kvs,xs=[.ref p]/\H p=some (.dK kvs)/\∀ l,H l=none->Q (.ref l) (upd H l (.lst (kvs.map fun q=>kV q.1)))
theorem rL (hc:X.calm=true):eU X (.type "list") Es:=by
 intro pins s σ H xs us Q I r h
 obtain ⟨p,kvs,rfl,hp,q⟩:=h
 obtain ⟨u,rfl,rx⟩:=vals1 r
 cases rx
 obtain ⟨hz,lo,vs,kv,dof⟩:=(show ObjOk X.prog X.w H s.heap p (.dK kvs) from I.hok p _ hp)
 obtain ⟨ep,hat⟩:=dof.dictAt
 have hlen:kvs.length=vs.length:=Paired.length kv
 refine PySem.W.kdl_call (PySem.W.kdl_dict (knd:=aV X.prog X.w) (kvs:=vs) (ep:=ep) lo) (I.ok.hd hc) hat (by rw [<- hlen]; exact hz) fun h' tk acc c' kp e hacc=>?_
 have rv:Vals ((kvs.map (·.1)).map kV) acc.toList:=vg (by rw [Array.length_toList,hacc.1,List.length_map,hlen]) fun j v ej=>by
  obtain ⟨k,x,e1,e2⟩:=hacc.2 j v (by rw [<- Array.getElem?_toList]; exact ej)
  refine ⟨k,?_,e2⟩
  obtain ⟨pv,f1,f2⟩:=fM kv e1
  rw [List.getElem?_map,f1]
  exact congrArg some f2.1
 rw [List.map_map] at rv
 have ob:ObjOk X.prog X.w (upd H s.heap.objs.size (.lst (kvs.map fun q=>kV q.1))) h' s.heap.objs.size (.lst (kvs.map fun q=>kV q.1)):=by
  refine ⟨by rw [List.length_map]; exact hz,acc.toList,c',rv,?_⟩
  rw [Array.toArray_toList]
  exact e
 exact ⟨.ref _,_,I.laid (t' := tk) kp (Nat.le_refl _) ob,rfl,q _ (I.hok.fresh (Nat.le_refl _))⟩
end
end L2
set_option Elab.async false
set_option linter.all false
set_option maxRecDepth 100000
namespace L2
open PySem PySem.Spec PyProof.Rows
section
variable {X:Cx} {pins:List (Addr×Obj)} {σ:St} {H:Hp} {s:Shared} {N:List Str} {ix:List (Option Nat)} {scope:Scope} {fp:List Addr} {tg elt iter cond:Expr} {tc:TT} {pos spos:Pos} {J:It} {it:Addr} {tn:Nat->Heap->Prop} {g:TG} {te:TE} {wi:TI}
end
end L2
set_option Elab.async false
set_option linter.all false
set_option maxRecDepth 100000
set_option maxHeartbeats 4000000
namespace L2
open PySem PySem.Spec PyProof.Rows
open AutoSeq1 (wpAny_loadPart')
section
variable {prog:Program} {w:World} {A:Around} {E:Value->Shared->Prop} {s:Shared}
theorem nY {it t:Addr} {i:Nat} {items:Array Value} {x:Value} {Q:Value->Shared->Prop} (hit:s.heap.IsTupleIter it t i) (ht:s.heap.IsTuple t items) (hx:items[i]?=some x)
  (hQ:∀ h',h'.IsTupleIter it t (i+1)->Heap.SameBut it s.heap h'->Q x { s with heap:=h' }):wpAny (model prog w) A (Builtin.SmallTypes.nextOf (.ref it)) Q E s:=by
 obtain ⟨o,ho,hc,hd⟩:=id hit
 obtain ⟨ol,hol,_,nl,hdl⟩:=ht
 unfold Builtin.SmallTypes.nextOf
 refine wpAny_bind (wpAny_callSpecial?_slot (name:=Str.ofString "__next__") hit.typeIs F.slot_tuple_iterator_next
  (wpAny_call_entry F.slot_tuple_iterator_next hit.typeIs F.entry_tuple_iterator_next ?_ (F.args_tuple_iterator_next_1 _)))
 show wpAny _ _ (field (.ref it) 0>>=_) _ _ s
 refine wpAny_bind (wpAny_field ho hd (x:=.ref t) rfl ?_)
 show wpAny _ _ (if (Value.ref t==Value.none)=true then _ else _) _ _ s
 rw [if_neg (show ¬ ((Value.ref t==Value.none)=true) from Bool.false_ne_true)]
 show wpAny _ _ (field (.ref it) 1>>=_) _ _ s
 refine wpAny_bind (wpAny_field ho hd (x:=.int i 0) rfl ?_)
 show wpAny _ _ (seqItems? (.ref t)>>=_) _ _ s
 refine wpAny_bind (wpAny_seqItems hol hdl ?_)
 simp only [Int.toNat_natCast,hx]
 refine wpAny_bind (wpAny_setField ho hd (by simp) (wpAny_pure ⟨x,rfl,wpAny_pure (hQ _ ?_ (Heap.SameBut.update ..))⟩))
 exact ⟨_,Heap.get?_update_self _ ho (Obj.isFreed_of_fields (Obj.data_mapFields hd _)),(Obj.cls_mapFields ..).trans hc,by
  rw [Obj.data_mapFields hd]; simp [rawInt]⟩
theorem i4 {it t:Addr} {i:Nat} {items:Array Value} {Q:Value->Shared->Prop} (hh:A.handled=none) (hit:s.heap.IsTupleIter it t i) (ht:s.heap.IsTuple t items) (hx:items[i]?=none)
  (hE:∀ h' e,Heap.ExtBut it s.heap h'->(∃ o,h'.get? e=some o/\o.cls=.type "StopIteration")->E (.ref e) { s with heap:=h' }):wpAny (model prog w) A (Builtin.SmallTypes.nextOf (.ref it)) Q E s:=by
 obtain ⟨o,ho,hc,hd⟩:=id hit
 obtain ⟨ol,hol,_,nl,hdl⟩:=ht
 unfold Builtin.SmallTypes.nextOf
 refine wpAny_bind (wpAny_callSpecial?_slot (name:=Str.ofString "__next__") hit.typeIs F.slot_tuple_iterator_next
  (wpAny_call_entry F.slot_tuple_iterator_next hit.typeIs F.entry_tuple_iterator_next ?_ (F.args_tuple_iterator_next_1 _)))
 show wpAny _ _ (field (.ref it) 0>>=_) _ _ s
 refine wpAny_bind (wpAny_field ho hd (x:=.ref t) rfl ?_)
 show wpAny _ _ (if (Value.ref t==Value.none)=true then _ else _) _ _ s
 rw [if_neg (show ¬ ((Value.ref t==Value.none)=true) from Bool.false_ne_true)]
 show wpAny _ _ (field (.ref it) 1>>=_) _ _ s
 refine wpAny_bind (wpAny_field ho hd (x:=.int i 0) rfl ?_)
 show wpAny _ _ (seqItems? (.ref t)>>=_) _ _ s
 refine wpAny_bind (wpAny_seqItems hol hdl ?_)
 simp only [Int.toNat_natCast,hx]
 refine wpAny_bind (wpAny_rule (wpAny_bind (wpAny_setField ho hd (by simp) ?_)))
 show wpAny _ _ (newExc (.type "StopIteration") []>>=_) _ _ _
 refine wpAny_bind ?_
 simp only [newExc,newTuple]
 refine wpAny_bind (wpAny_newObj_type ?_ (by size_fits))
 refine wpAny_bind (m:=firstArgMember _ _) (wpAny_of_eq (a:=Value.none) (by first | rfl | (simp only [firstArgMember]; rfl)) ?_)
 refine wpAny_newObj_type ?_ (by size_fits)
 simp only [raiseNew]
 refine wpAny_bind (wpAny_handled ?_)
 first | rw [show A.in1.handled=none from hh] | rw [hh]
 refine wpAny_bind (wpAny_pure (wpAny_throw ?_))
 exact hE _ _ (((Heap.SameBut.update ..).extBut.push _).push _) ⟨_,Heap.get?_push_size _ rfl,rfl⟩
end
theorem yk {prog:Program} {w:World} {A:Around} (hh:A.handled=none) (it t:Addr) (hne:t≠it) (items:Array Value) :
  Draws prog w A it [it,t] items.size (fun i v=>items[i]?=some v) (fun i h=>h.IsTupleIter it t i/\h.IsTuple t items) where
 live:=fun _ _ st=>let ⟨o,ho,_⟩:=st.1; ⟨o,ho⟩
 frame:=fun _ _ _ st hk=>⟨st.1.at fun o e=>hk it (by simp) o e,st.2.at fun o e=>hk t (by simp) o e⟩
 item:=fun i s Q E hi st hQ=>by
  refine nY st.1 st.2 (x:=items[i]) (by simp [hi]) fun h' hit' hs'=>?_
  exact hQ _ h' s.toks (by simp [hi]) ⟨hit',st.2.at fun o e=>(hs'.2 t hne).trans e⟩ hs'
 done:=fun s Q E st hE=>i4 hh st.1 st.2 (by simp) hE
theorem kA (l:Addr) (items:Array Value) (n:Nat) (dct:Option Addr) (sl:Array (Option Value)) :
  Meets (Builtin.«enumerate.__new__» ⟨[.type "enumerate",.ref l],[]⟩) (fun _ R s=>s.heap.get? l=some { cls:=.type "tuple",dict:=dct,data:=.seq items n,slots:=sl } /\
   R (.ok (.ret (.ref (s.heap.push { cls:=.type "tuple_iterator",data:=.fields #[.ref l,.int 0 0] }).objs.size)))
    { s with heap:=(s.heap.push { cls:=.type "tuple_iterator",data:=.fields #[.ref l,.int 0 0] }).push { cls:=.type "enumerate",data:=.fields #[.none,.bool false,.ref s.heap.objs.size,rawInt 0,.none,.none] } }):=
 .of_wp fun prog w A R s h=>by
  obtain ⟨hp,g,d,tk,os⟩:=s; obtain ⟨hl,h⟩:=h
  have hsub:=sub_enumerate
  have hL:Heap.IsTuple (Shared.heap ⟨hp,g,d,tk,os⟩) l items:=⟨_,hl,rfl,n,rfl⟩
  wp_walk using wpAny_loadPart' hl
  refine wpAny_stack_any fun st=>wpAny_pure ?_
  split
  ·rename_i c _ _ _ _ _
   cases (c==Value.type "enumerate")
   ·wp_walk using wpAny_loadPart' hl,wpAny_pyIter_tuple hL
    exact ⟨_,rfl,h⟩
   ·wp_walk using wpAny_loadPart' hl,wpAny_pyIter_tuple hL
    exact ⟨_,rfl,h⟩
  ·wp_walk using wpAny_loadPart' hl,wpAny_pyIter_tuple hL
   exact ⟨_,rfl,h⟩
theorem j9 {prog:Program} {w:World} {A:Around} {E:Value->Shared->Prop} {s:Shared} {l:Addr} {items:Array Value} {Q:Value->Shared->Prop} (hL:s.heap.IsTuple l items)
  (h:∀ h',IsEnum h' (s.heap.objs.size+1) s.heap.objs.size 0 .none->h'.IsTupleIter s.heap.objs.size l 0->h'.objs.size=s.heap.objs.size+2 ->
   (∀ b o,s.heap.get? b=some o->h'.get? b=some o)->Q (.ref (s.heap.objs.size+1)) { s with heap:=h' }) :
  wpAny (model prog w) A (call (.type "enumerate") [.ref l]) Q E s:=by
 obtain ⟨⟨c,dct,dt,sl⟩,hl,hc,n,hd⟩:=hL
 replace hc:c=.type "tuple" := hc
 replace hd:dt=.seq items n:=hd
 subst hc hd
 refine callType_new F.called_enumerate (by decide) (F.typeCall_enumerate_1 _) (F.newCall_enumerate_1 _) (fun obj=>F.args_object_init_2 obj _) F.entry_enumerate_new
  (kA l items n dct sl) ⟨hl,?_⟩
 have hz:(s.heap.push { cls:=.type "tuple_iterator",data:=.fields #[.ref l,.int 0 0] }).objs.size=s.heap.objs.size+1:=Heap.size_push ..
 show _/\_
 rw [hz]
 have he:IsEnum ((s.heap.push { cls:=.type "tuple_iterator",data:=.fields #[.ref l,.int 0 0] }).push
   { cls:=.type "enumerate",data:=.fields #[.none,.bool false,.ref s.heap.objs.size,rawInt 0,.none,.none] }) (s.heap.objs.size+1) s.heap.objs.size 0 .none:=by
  have:=Heap.get?_push_size (s.heap.push { cls:=.type "tuple_iterator",data:=.fields #[.ref l,.int 0 0] })
   (o:={ cls:=.type "enumerate",data:=.fields #[.none,.bool false,.ref s.heap.objs.size,rawInt 0,.none,.none] }) rfl
  rw [hz] at this; exact this
 refine ⟨⟨_,he,rfl⟩,h _ he ⟨_,Heap.get?_push_of_some _ (Heap.get?_push_size _ rfl),rfl,rfl⟩ (by rw [Heap.size_push,hz]) fun b o x=>Heap.get?_push_of_some _ (Heap.get?_push_of_some _ x)⟩
end L2
set_option Elab.async false
set_option linter.all false
set_option maxRecDepth 100000
set_option maxHeartbeats 4000000
namespace L2
open PySem PySem.Spec PyProof.Rows
section
variable {X:Cx} {pins:List (Addr×Obj)} {σ:St} {H:Hp} {s:Shared} {h':Heap}
theorem Inv.turned2 {t':Nat} {e it:Addr} (I:Inv X pins σ H s) (k:∀ b o,b≠e->b≠it->s.heap.get? b=some o->h'.get? b=some o) (fe:lR X pins H e) (fi:lR X pins H it):Inv X pins σ H { s with heap:=h',toks:=t' }:=by
 have nn:∀ b u,H b=some u->b≠e/\b≠it:=fun b u q=>⟨fun z=>(by rw [z,fe.1] at q; cases q),fun z=>(by rw [z,fi.1] at q; cases q)⟩
 have kk:∀ b o,b∉[e,it]->s.heap.get? b=some o->h'.get? b=some o:=fun b o hc q=>k b o (fun z=>hc (by simp [z])) (fun z=>hc (by simp [z])) q
 refine I.step (g' := s.gens) (d' := s.drawn) (ch:=[e,it]) (fun b hb=>?_) (fun b o _ _ hc q _=>kk b o hc q) (fun b o _ _ hc q _=>⟨o.slots,kk b o hc q⟩) (fun _ _ _ _ n=>n)
  (fun b o hc q=>⟨o,kk b o hc q⟩) (fun _ _ q=>q) (fun _ _ _ q=>q) (fun b ps q=>⟨#[],by rw [q]; simp⟩) (fun m hm=>?_) (fun b u q=>?_) I.bare
 ·have q:b=e\/b=it:=by simpa using hb
  rcases q with rfl | rfl
  ·exact ⟨fe.2.2.2.1,fe.2.1,fe.2.2.2.2.1,fe.2.2.2.2.2⟩
  ·exact ⟨fi.2.2.2.1,fi.2.1,fi.2.2.2.2.1,fi.2.2.2.2.2⟩
 ·obtain ⟨o,es,ep,ho,r⟩:=hm
  exact ⟨o,es,ep,k _ o (Ne.symm fe.2.1) (Ne.symm fi.2.1) ho,r⟩
 ·refine (I.hok b u q).stay (fun c v hc z=>k c v ?_ ?_ z) (fun _ z=>z) fun _ _ z=>z
  ·rcases hc with z | z
   ·rw [z]; exact (nn b u q).1
   ·exact (nn c _ z).1
  ·rcases hc with z | z
   ·rw [z]; exact (nn b u q).2
   ·exact (nn c _ z).2
end
def Ite (K:PySem.W.Frag) (a:Addr):It:=
 ⟨fun i H=>∃ xs x,SqT K H a xs/\xs[i]?=some x,fun i H v H'=>∃ T x,v=.ref T/\H T=none/\H'=upd H T (.tup [.int i,x])/\∀ xs,SqT K H a xs->xs[i]?=some x,fun i H=>∃ xs,SqT K H a xs/\xs.length<=i⟩
theorem zc {P:Program} {w:World} {K:PySem.W.Frag} {elts:List Expr} {x1:_} {pos:Pos} (a e it:Addr):Turn P w K (.Tuple elts x1 pos) (Ite K a) [e,it] e (fun i h=>(∃ old,IsEnum h e it i old)/\h.IsTupleIter it a i) where
 mem:=by simp
 obj:=fun i h st b hb=>by
  have q:b=e\/b=it:=by simpa using hb
  rcases q with rfl | rfl
  ·obtain ⟨⟨old,st⟩,_⟩:=st
   exact ⟨_,st,fun v z=>by
    have z':Data.fields _=Data.cell v:=z
    cases z'⟩
  ·obtain ⟨_,o,e,c,d⟩:=st
   exact ⟨o,e,fun v z=>by rw [d] at z; cases z⟩
 keep:=fun i h h' st k=>⟨let ⟨old,z⟩:=st.1; ⟨old,k e (by simp) _ z⟩,st.2.at fun o z=>k it (by simp) o z⟩
 item:=by
  intro X hP hw hK hc i pins s σ H E I hf st hg
  subst hP hw hK
  obtain ⟨xs,x,hq,hx⟩:=hg
  obtain ⟨its,rv,p,hz⟩:=I.tuple hq
  obtain ⟨u,hu,ru⟩:=rv.get hx
  obtain ⟨⟨old,he⟩,hit⟩:=st
  have p':s.heap.IsTuple a its.toArray:=p
  have fe:=hf e (by simp)
  have fi:=hf it (by simp)
  have ne:e≠it:=fun z=>by
   subst z
   obtain ⟨o,e1,c,d⟩:=hit
   rw [he] at e1
   cases e1
   have c':Value.type "enumerate" = Value.type "tuple_iterator" := c
   injection c' with c'
   exact absurd c' (by decide)
  have nae:a≠e:=fun z=>by
   subst z
   obtain ⟨o,e1,c,d⟩:=p'
   rw [he] at e1
   cases e1
   have c':Value.type "enumerate" = Value.type "tuple" := c
   injection c' with c'
   exact absurd c' (by decide)
  have nai:a≠it:=fun z=>by
   subst z
   obtain ⟨o,e1,c,d⟩:=p'
   obtain ⟨o2,e2,c2,d2⟩:=hit
   rw [e1] at e2
   cases e2
   rw [c] at c2
   injection c2 with c'
   exact absurd c' (by decide)
  have hi:i<its.toArray.size:=by
   have:i<its.length:=(List.getElem?_eq_some_iff.mp hu).1
   simpa using this
  have D:=yk (prog:=X.prog) (w:=X.w) (A:=X.A.in1) (show X.A.in1.handled=none from I.ok.hd hc) it a nai its.toArray
  refine wpAny_pyNext_enum_itemD D he ⟨hit,p'⟩ hi ne (by simp [ne,Ne.symm nae]) fun y h1 tk hy ho st1 hT hsz hk=>?_
  have ey:y=u:=by
   have:its.toArray[i]?=some u:=by simpa using hu
   rw [this] at hy
   exact (Option.some.inj hy).symm
  subst ey
  refine ⟨_,rfl,wpAny_letOwnedTupleGo_enum ho fun h2 he2 hs2=>?_⟩
  have fr:H s.heap.objs.size=none:=I.hok.fresh (Nat.le_refl _)
  have I1:Inv X pins σ (upd H s.heap.objs.size (.tup [.int i,x])) { s with heap:=s.heap.push { cls:=.type "tuple",data:=.seq #[.int i tk,y] },toks:=tk+1 }:=
   I.laid (o:=.tup [.int i,x]) (fun b ob q=>Heap.get?_push_of_some _ q) (Nat.le_refl _) ⟨by show 2<=sizeLine; decide,[.int i tk,y],.cons ⟨tk,rfl⟩ (.cons ru .nil),⟨_,Heap.get?_push_size _ rfl,rfl,_,rfl⟩⟩
  have lt:∀ b∈[e,it],b<s.heap.objs.size:=fun b hb=>by
   have q:b=e\/b=it:=by simpa using hb
   rcases q with rfl | rfl
   ·exact Heap.lt_size he
   ·obtain ⟨o,e1,_⟩:=hit
    exact Heap.lt_size e1
  have f2:∀ b∈[e,it],lR X pins (upd H s.heap.objs.size (.tup [.int i,x])) b:=fun b hb=>by
   refine ⟨?_,(hf b hb).2⟩
   rw [ah (Nat.ne_of_lt (lt b hb))]
   exact (hf b hb).1
  have I2:Inv X pins σ (upd H s.heap.objs.size (.tup [.int i,x])) { s with heap:=h2,toks:=tk+1 }:=by
   refine I1.turned2 (t' := tk+1) (h' := h2) (fun b o b1 b2 q=>?_) (f2 e (by simp)) (f2 it (by simp))
   refine (hs2.2 b b1).trans ?_
   rcases Heap.get?_push_cases (show (s.heap.push { cls:=.type "tuple",data:=.seq #[.int i tk,y] }).get? b=some o from q) with ⟨rfl,rfl⟩ | z
   ·exact hT
   ·exact hk b o b1 b2 z
  refine ⟨.ref s.heap.objs.size,_,I2,rfl,⟨s.heap.objs.size,x,rfl,fr,rfl,fun ys hy=>by rw [I.tuple_inj hy hq]; exact hx⟩,⟨⟨y,?_⟩,?_⟩,fun b hb=>(f2 b hb).1⟩
  ·have:((i+1:Nat):Int)=(i:Int)+1:=by push_cast; rfl
   rw [this]
   exact he2
  ·exact st1.1.at fun o z=>(hs2.2 it (Ne.symm ne)).trans z
 done:=by
  intro X hP hw hK hc i pins s σ H E I hf st hg
  subst hP hw hK
  obtain ⟨xs,hq,hx⟩:=hg
  obtain ⟨its,rv,p,hz⟩:=I.tuple hq
  obtain ⟨⟨old,he⟩,hit⟩:=st
  obtain ⟨f0,f1,f2,f3,f4,f5⟩:=hf it (by simp)
  have p':s.heap.IsTuple a its.toArray:=p
  have hl:=rv.length
  have hT:s.TypeIs (.ref e) "enumerate" := ⟨_,he,rfl⟩
  unfold pyNext
  refine wpAny_bind (wpAny_attempt (wpAny_callSpecial?_slot (name:=Str.ofString "__next__") hT F.slot_enumerate_next
   (wpAny_call_entry F.slot_enumerate_next hT F.entry_enumerate_next ?_ (F.args_enumerate_next_1 _))))
  show wpAny _ _ (field (.ref e) 2>>=_) _ _ _
  refine wpAny_bind (wpAny_field he rfl (x:=.ref it) rfl ?_)
  refine wpAny_bind (i4 (show X.A.in1.handled=none from I.ok.hd hc) hit p' (by simp; omega) fun h' x he' hx'=>?_)
  obtain ⟨o,ho,hcl⟩:=hx'
  refine wpAny_bind (wpAny_isInstance (T := "StopIteration") (b:=true) ⟨o,ho,hcl⟩ isSubtype_stop ?_)
  exact wpAny_pure ⟨rfl,I.turned (t' := s.toks) (fun b o hb z=>he' b o hb z) f0 f1 f3 f4 f5⟩
 self:=fun _ _ _ _ _ st h=>let ⟨_,z⟩:=st.1; wpAny_pyIter_enum z h
section
variable {X:Cx}
def DW (K:PySem.W.Frag) (tl:TA):TI:=fun σ H R=>tl σ H fun vs H1=>∃ a,vs=[.ref a]/\(∃ xs,SqT K H1 a xs)/\R (Ite K a) H1
theorem nA:bootBuiltins "enumerate" = some (.type "enumerate"):=by decide +kernel
theorem B8 {elts:List Expr} {x1:_} {tpos:Pos} {l:Expr} {tl:TA} {p pos:Pos} (hg:Gl X "enumerate") (hm:X.mg "enumerate" = none) (hl:PA X [l] tl) (hs:starEach [l] X.env=[(false,eval l X.env)]:=by rfl) :
  PI X (.Tuple elts x1 tpos) (.Call (.Name "enumerate" p) [l] [] pos) (DW X.K tl):=by
 intro pins s σ H R I h
 refine Call_ (ky I hg hm nA (PyProof.Rows.callWith_type1 (thn (hl pos pins s σ H _ I h) fun us s1 ⟨vs,H1,I1,r1,q1⟩=>?_) hs rfl))
 obtain ⟨a,e,⟨xs,hq⟩,q⟩:=q1
 subst e
 cases r1 with
 | cons r rr =>
  cases rr
  cases r
  obtain ⟨its,rv,p,hz⟩:=I1.tuple hq
  refine j9 (show s1.heap.IsTuple a its.toArray from p) fun h' he hit hsz hk=>?_
  refine wpAny_pyIter_enum he ?_
  refine ⟨s1.heap.objs.size+1,[s1.heap.objs.size+1,s1.heap.objs.size],_,_,H1,rfl,I1.kept (t' := s1.toks) hk,zc a _ s1.heap.objs.size,⟨⟨_,he⟩,hit⟩,fun b hb=>?_,q⟩
  have e:b=s1.heap.objs.size+1\/b=s1.heap.objs.size:=by simpa using hb
  rcases e with rfl | rfl
  ·exact I1.fpOk (Nat.le_succ _) (I1.hok.fresh (Nat.le_succ _))
  ·exact I1.fpOk (Nat.le_refl _) (I1.hok.fresh (Nat.le_refl _))
end
theorem Ai {K:PySem.W.Frag} {a:Addr} {xs:List V} {g:TG} {tb:TS} {D:Ends} {σ:St} {H:Hp} (Pv:Nat->St->Hp->Prop) (h0:Pv 0 σ H) (hl:∀ i σ H,i<=xs.length->Pv i σ H->SqT K H a xs)
  (hs:∀ i x σ H T,xs[i]?=some x->Pv i σ H->H T=none->g (.ref T) σ (upd H T (.tup [.int i,x])) fun σ2 H2=>tb { D with nx:=Pv (i+1),ct:=Pv (i+1),bk:=D.nx } σ2 H2) (hd:∀ σ H,Pv xs.length σ H->D.nx σ H) :
  ∃ W:Nat->Nat->St->Hp->Prop,(∃ m,W 0 m σ H)/\∀ i m σ H,W i m σ H ->
   ((Ite K a).stop i H/\D.nx σ H)\/((Ite K a).go i H/\∃ N:St->Hp->Prop,(∀ σ' H',N σ' H'->∃ m',m'<m/\W (i+1) m' σ' H')/\∀ x H',(Ite K a).yld i H x H'->g x σ H' fun σ2 H2=>tb { D with nx:=N,ct:=N,bk:=D.nx } σ2 H2):=by
 refine ⟨fun i m σ H=>m=xs.length-i/\i<=xs.length/\Pv i σ H,⟨xs.length,by simp,Nat.zero_le _,h0⟩,?_⟩
 rintro i m σ H ⟨rfl,hi,p⟩
 have q:=hl i σ H hi p
 by_cases hlt:i<xs.length
 ·refine .inr ⟨⟨xs,xs[i],q,by simp [hlt]⟩,Pv (i+1),fun σ' H' p'=>⟨xs.length-(i+1),by omega,rfl,hlt,p'⟩,fun x H' y=>?_⟩
  obtain ⟨T,x0,rfl,hT,rfl,y⟩:=y
  exact hs i x0 σ _ T (y xs q) p hT
 ·have e:i=xs.length:=by omega
  subst e
  exact .inl ⟨⟨xs,q,Nat.le_refl _⟩,hd σ H p⟩
end L2
set_option Elab.async false
set_option linter.all false
set_option maxRecDepth 100000
set_option maxHeartbeats 4000000
namespace L2
open PySem PySem.Spec PyProof.Rows
theorem yp {acc:Array Value} {n:Nat} (h:ItemsOf (fun i v=>∃ t,v=.int (0+(i:Int)*1) t) acc n):Vals ((List.range n).map fun i:Nat=>V.int i) acc.toList:=by
 have go:∀ (n:Nat) (us:List Value),us.length=n->(∀ (j:Nat) (v:Value),us[j]?=some v->∃ t,v=Value.int (0+(j:Int)*1) t)->Vals ((List.range n).map fun i:Nat=>V.int i) us:=by
  intro n
  induction n with
  | zero =>
   intro us hl _
   cases us with
   | nil=>exact .nil
   | cons a r=>cases hl
  | succ n ih =>
   intro us hl hv
   have ne:us≠[]:=fun z=>by rw [z] at hl; cases hl
   have e:=List.dropLast_concat_getLast ne
   rw [<- e,List.range_succ,List.map_append]
   have hd:us.dropLast.length=n:=by rw [List.length_dropLast,hl]; rfl
   refine (ih us.dropLast hd fun j v hj=>?_).append (.cons ?_ .nil)
   ·refine hv j v ?_
    have lt:=(List.getElem?_eq_some_iff.mp hj).1
    rw [<- e,List.getElem?_append_left lt]
    exact hj
   ·obtain ⟨t,ht⟩:=hv n (us.getLast ne) (by rw [List.getLast_eq_getElem,List.getElem?_eq_getElem (by omega)]; simp [hl])
    rw [ht]
    exact ⟨t,by rw [Int.zero_add,Int.mul_one]⟩
 exact go n acc.toList (by rw [Array.length_toList,h.1]) fun j v hj=>h.2 j v (by rw [<- Array.getElem?_toList]; exact hj)
section
variable {X:Cx} {a:Expr} {ta:TA} {p p2 pos pos2:Pos}
def CA (ta:TA):TE:=fun σ H Q=>ta σ H fun vs H1=>∃ n:Nat,vs=[.int n]/\n<=sizeLine/\∀ l,H1 l=none->Q (.ref l) (upd H1 l (.lst ((List.range n).map fun i:Nat=>V.int i)))
theorem yR (hc:X.calm=true) (hgl:Gl X "list") (hml:X.mg "list" = none) (hg:Gl X "range") (hm:X.mg "range" = none) (ha:PA X [a] ta)
  (hs:starEach [a] X.env=[(false,eval a X.env)]:=by rfl) (hs2:starEach [.Call (.Name "range" p2) [a] [] pos2] X.env=[(false,eval (.Call (.Name "range" p2) [a] [] pos2) X.env)]:=by rfl) :
  PE X (.Call (.Name "list" p) [.Call (.Name "range" p2) [a] [] pos2] [] pos) (CA ta):=by
 intro pins s σ H Q I h
 refine wpAny_Call_Name_kw (ky I hgl hml nB ?_)
 refine PyProof.Rows.callWith_type1 ?_ hs2 rfl
 rw [hs2]
 refine Calls.spliced_cons ?_
 refine Call_ (ky I hg hm boot_range (PyProof.Rows.callWith_type1 (thn (ha pos2 pins s σ H _ I h) fun us s1 ⟨vs,H1,I1,r1,q1⟩=>?_) hs rfl))
 obtain ⟨n,e,hn,q⟩:=q1
 subst e
 cases r1 with
 | cons r rr =>
  cases rr
  obtain ⟨t,rfl⟩:=r
  have big:sizeLine<=2^24:=by decide
  have big2:((sizeLine:Nat):Int)<2^62:=by decide
  have hn62:(n:Int)<2^62:=by omega
  refine call_range_1 ?_
  refine Calls.spliced_nil ?_
  have sz:(s1.heap.push { cls:=.type "range",data:=.fields #[.int 0 s1.toks,.int n t,.int 1 (s1.toks+1)] }).objs.size=s1.heap.objs.size+1:=Heap.size_push _ _
  refine PySem.call_list_range (s:={ s1 with heap:=s1.heap.push { cls:=.type "range",data:=.fields #[.int 0 s1.toks,.int n t,.int 1 (s1.toks+1)] },toks:=s1.toks+1+1 }) (n:=n) (I1.ok.hd hc) (IsRange.new ..) (small_one (by omega) (by omega) (by omega) hn62)
   (by rw [rangeSize_one]; split <;> omega) (by omega) fun h' tk acc' c' kp e hacc=>?_
  have kp1:∀ b o,s1.heap.get? b=some o->h'.get? b=some o:=fun b o f=>kp b o (Heap.get?_push_of_some _ f)
  have ob:ObjOk X.prog X.w (upd H1 (s1.heap.push { cls:=.type "range",data:=.fields #[.int 0 s1.toks,.int n t,.int 1 (s1.toks+1)] }).objs.size (.lst ((List.range n).map fun i:Nat=>V.int i))) h' (s1.heap.push { cls:=.type "range",data:=.fields #[.int 0 s1.toks,.int n t,.int 1 (s1.toks+1)] }).objs.size (.lst ((List.range n).map fun i:Nat=>V.int i)):=by
   refine ⟨by rw [List.length_map,List.length_range]; exact hn,acc'.toList,c',yp hacc,?_⟩
   exact e
  exact ⟨.ref _,_,I1.laid (t' := tk) kp1 (by rw [sz]; exact Nat.le_succ _) ob,rfl,q _ (I1.hok.fresh (by rw [sz]; exact Nat.le_succ _))⟩
end
structure DefMk (P:Program) (w:World) (K:PySem.W.Frag) (mg:Str->Option Value) (base:Heap) (x:Str) (C:Addr) (k:Nat) (ps:List Str) (sp:Sp):Prop where
 m:mg x=some (.ref C)
 cl:Cls K C
 ex:∃ (f:Addr) (fd:FuncData),Mk K C f/\Binds K fd ps []/\FnOk P w K mg base CX0 k f fd ps sp
theorem Ek {X:Cx} {x:Str} {C:Addr} {j k:Nat} {ps:List Str} {sp:Sp} {p pos:Pos} {e:Expr} {es:List Expr} {t:TA} (G:DefMk X.prog X.w X.K X.mg X.base x C k ps sp) (hr:Room j X.A) (ha:PA X (e :: es) t) (hkj:k+1<=j:=by decide) (hg:Gl X x:=by rfl) (hdb:(x==("__debug__" : Str))=false:=by decide)
  (he:starEach (e :: es) X.env=(false,eval e X.env) :: starEach es X.env:=by rfl) (hpl:(backTo pos (starEach es X.env)).any (·.1)=false:=by rfl):PE X (.Call (.Name x p) (e :: es) [] pos) (DH C sp [] E0 t):=by
 obtain ⟨f,fd,M,hb,F⟩:=G.ex
 exact Dh M F (hr.mono hkj) hg G.m hb .nil BW ha hdb he hpl
structure DefMe (P:Program) (w:World) (K:PySem.W.Frag) (mg:Str->Option Value) (base:Heap) (C:Addr) (m:Str) (k:Nat) (ps:List Str) (sp:Sp):Prop where
 cl:Cls K C
 ex:∃ (f:Addr) (fd:FuncData),Meth K C m f/\Binds K fd ps []/\FnOk P w K mg base CX0 k f fd ps sp
theorem zQ {X:Cx} {m:Str} {C:Addr} {j k:Nat} {ps:List Str} {sp:Sp} {apos pos:Pos} {o e:Expr} {es:List Expr} {ta:TE} {t:TA} {pl:Sem Bool} (G:DefMe X.prog X.w X.K X.mg X.base C m k ps sp) (hr:Room j X.A) (ho:PE X o ta) (ha:PA X (e :: es) t) (hkj:k<=j:=by decide)
  (hst:starEach (e :: es) X.env=(false,eval e X.env) :: starEach es X.env:=by rfl) (hpl:(backTo pos (starEach es X.env)).any (·.1)=false:=by rfl)
  (ht:eval (.Call (.Attribute o m apos) (e :: es) [] pos) X.env=(do
   let ov <- eval o X.env
   standAt apos.atName
   let (f,first) <- holding [ov] (getMethod ov m pl)
   callWith pos f first (backTo pos (starEach (e :: es) X.env)) (backToKw pos (keywordEach [] X.env))):=by rfl) :
  PE X (.Call (.Attribute o m apos) (e :: es) [] pos) (zX C m sp [] E0 ta t):=by
 obtain ⟨f,fd,hm,hb,F⟩:=G.ex
 exact Di ho G.cl hm F (hr.mono hkj) hb .nil BW ha hst hpl ht
end L2
set_option Elab.async false
set_option linter.all false
set_option maxRecDepth 100000
set_option maxHeartbeats 4000000
namespace L2
open PySem PySem.Spec PyProof.Rows
section
variable {prog:Program} {w:World} {A:Around} {E:Value->Shared->Prop} {s:Shared}
structure ZipFar (z TI TO i1 i2:Addr) (fp1 fp2:List Addr):Prop where
 TIz:TI≠z
 TOz:TO≠z
 TITO:TI≠TO
 i1z:i1≠z
 i2z:i2≠z
 TIi1:TI≠i1
 TIi2:TI≠i2
 TOi1:TO≠i1
 TOi2:TO≠i2
 i12:i1≠i2
 z1:z∉fp1
 TO1:TO∉fp1
 i21:i2∉fp1
 z2:z∉fp2
 TO2:TO∉fp2
 i12':i1∉fp2
variable {z TI TO i1 i2:Addr} {fp1 fp2:List Addr} {n1 n2 k:Nat} {P1 P2:Nat->Value->Prop} {St1 St2:Nat->Heap->Prop} {a b:Value}
end
end L2
set_option Elab.async false
set_option linter.all false
set_option maxRecDepth 100000
set_option maxHeartbeats 4000000
namespace L2
open PySem PySem.Spec PyProof.Rows
section
variable {X:Cx} {pins:List (Addr×Obj)} {σ:St} {H:Hp} {s:Shared} {h':Heap}
end
section
variable {X:Cx}
end
end L2
set_option Elab.async false
set_option linter.all false
set_option maxRecDepth 100000
set_option maxHeartbeats 4000000
namespace L2
open PySem PySem.Spec PyProof.Rows
inductive EqN (K:PySem.W.Frag) (H:Hp):V->V->Prop where
 | non:EqN K H .non .non
 | tup {a b:Addr} {ns:List Int} (ha:SqT K H a (ns.map V.int)) (hb:SqT K H b (ns.map V.int)):EqN K H (.ref a) (.ref b)
section
variable {X:Cx} {pins:List (Addr×Obj)} {σ:St} {H:Hp} {s:Shared}
end
end L2
set_option Elab.async false
set_option linter.all false
set_option maxRecDepth 100000
set_option maxHeartbeats 4000000
namespace L2
open PySem PySem.Spec PyProof.Rows
def z5 (K:PySem.W.Frag) (a:Addr):It:=
 ⟨fun i H=>∃ xs x,SqL K H a xs/\xs[i]?=some x,fun i H v H'=>∃ T x,v=.ref T/\H T=none/\H'=upd H T (.tup [.int i,x])/\∀ xs,SqL K H a xs->xs[i]?=some x,fun i H=>∃ xs,SqL K H a xs/\xs.length<=i⟩
theorem zb {P:Program} {w:World} {K:PySem.W.Frag} {elts:List Expr} {x1:_} {pos:Pos} (a e it:Addr):Turn P w K (.Tuple elts x1 pos) (z5 K a) [e,it] e (fun i h=>(∃ old,IsEnum h e it i old)/\h.IsListIter it a i) where
 mem:=by simp
 obj:=fun i h st b hb=>by
  have q:b=e\/b=it:=by simpa using hb
  rcases q with rfl | rfl
  ·obtain ⟨⟨old,st⟩,_⟩:=st
   exact ⟨_,st,fun v z=>by
    have z':Data.fields _=Data.cell v:=z
    cases z'⟩
  ·obtain ⟨_,o,e,c,d⟩:=st
   exact ⟨o,e,fun v z=>by rw [d] at z; cases z⟩
 keep:=fun i h h' st k=>⟨let ⟨old,z⟩:=st.1; ⟨old,k e (by simp) _ z⟩,st.2.at fun o z=>k it (by simp) o z⟩
 item:=by
  intro X hP hw hK hc i pins s σ H E I hf st hg
  subst hP hw hK
  obtain ⟨xs,x,hq,hx⟩:=hg
  obtain ⟨its,rv,p,hz⟩:=I.list hq
  obtain ⟨u,hu,ru⟩:=rv.get hx
  obtain ⟨⟨old,he⟩,hit⟩:=st
  have p':s.heap.IsList a its.toArray:=p.isList
  have fe:=hf e (by simp)
  have fi:=hf it (by simp)
  have ne:e≠it:=fun z=>by
   subst z
   obtain ⟨o,e1,c,d⟩:=hit
   rw [he] at e1
   cases e1
   have c':Value.type "enumerate" = Value.type "list_iterator" := c
   injection c' with c'
   exact absurd c' (by decide)
  have nae:a≠e:=fun z=>by
   subst z
   obtain ⟨o,e1,c,d⟩:=p'
   rw [he] at e1
   cases e1
   have c':Value.type "enumerate" = Value.type "list" := c
   injection c' with c'
   exact absurd c' (by decide)
  have nai:a≠it:=fun z=>by
   subst z
   obtain ⟨o,e1,c,d⟩:=p'
   obtain ⟨o2,e2,c2,d2⟩:=hit
   rw [e1] at e2
   cases e2
   rw [c] at c2
   injection c2 with c'
   exact absurd c' (by decide)
  have hi:i<its.toArray.size:=by
   have:i<its.length:=(List.getElem?_eq_some_iff.mp hu).1
   simpa using this
  have D:=Draws.list (prog:=X.prog) (w:=X.w) (A:=X.A.in1) (show X.A.in1.handled=none from I.ok.hd hc) it a nai its.toArray
  refine wpAny_pyNext_enum_itemD D he ⟨hit,p'⟩ hi ne (by simp [ne,Ne.symm nae]) fun y h1 tk hy ho st1 hT hsz hk=>?_
  have ey:y=u:=by
   have:its.toArray[i]?=some u:=by simpa using hu
   rw [this] at hy
   exact (Option.some.inj hy).symm
  subst ey
  refine ⟨_,rfl,wpAny_letOwnedTupleGo_enum ho fun h2 he2 hs2=>?_⟩
  have fr:H s.heap.objs.size=none:=I.hok.fresh (Nat.le_refl _)
  have I1:Inv X pins σ (upd H s.heap.objs.size (.tup [.int i,x])) { s with heap:=s.heap.push { cls:=.type "tuple",data:=.seq #[.int i tk,y] },toks:=tk+1 }:=
   I.laid (o:=.tup [.int i,x]) (fun b ob q=>Heap.get?_push_of_some _ q) (Nat.le_refl _) ⟨by show 2<=sizeLine; decide,[.int i tk,y],.cons ⟨tk,rfl⟩ (.cons ru .nil),⟨_,Heap.get?_push_size _ rfl,rfl,_,rfl⟩⟩
  have lt:∀ b∈[e,it],b<s.heap.objs.size:=fun b hb=>by
   have q:b=e\/b=it:=by simpa using hb
   rcases q with rfl | rfl
   ·exact Heap.lt_size he
   ·obtain ⟨o,e1,_⟩:=hit
    exact Heap.lt_size e1
  have f2:∀ b∈[e,it],lR X pins (upd H s.heap.objs.size (.tup [.int i,x])) b:=fun b hb=>by
   refine ⟨?_,(hf b hb).2⟩
   rw [ah (Nat.ne_of_lt (lt b hb))]
   exact (hf b hb).1
  have I2:Inv X pins σ (upd H s.heap.objs.size (.tup [.int i,x])) { s with heap:=h2,toks:=tk+1 }:=by
   refine I1.turned2 (t' := tk+1) (h' := h2) (fun b o b1 b2 q=>?_) (f2 e (by simp)) (f2 it (by simp))
   refine (hs2.2 b b1).trans ?_
   rcases Heap.get?_push_cases (show (s.heap.push { cls:=.type "tuple",data:=.seq #[.int i tk,y] }).get? b=some o from q) with ⟨rfl,rfl⟩ | z
   ·exact hT
   ·exact hk b o b1 b2 z
  refine ⟨.ref s.heap.objs.size,_,I2,rfl,⟨s.heap.objs.size,x,rfl,fr,rfl,fun ys hy=>by rw [I.list_inj hy hq]; exact hx⟩,⟨⟨y,?_⟩,?_⟩,fun b hb=>(f2 b hb).1⟩
  ·have:((i+1:Nat):Int)=(i:Int)+1:=by push_cast; rfl
   rw [this]
   exact he2
  ·exact st1.1.at fun o z=>(hs2.2 it (Ne.symm ne)).trans z
 done:=by
  intro X hP hw hK hc i pins s σ H E I hf st hg
  subst hP hw hK
  obtain ⟨xs,hq,hx⟩:=hg
  obtain ⟨its,rv,p,hz⟩:=I.list hq
  obtain ⟨⟨old,he⟩,hit⟩:=st
  obtain ⟨f0,f1,f2,f3,f4,f5⟩:=hf it (by simp)
  have p':s.heap.IsList a its.toArray:=p.isList
  have hl:=rv.length
  have hT:s.TypeIs (.ref e) "enumerate" := ⟨_,he,rfl⟩
  unfold pyNext
  refine wpAny_bind (wpAny_attempt (wpAny_callSpecial?_slot (name:=Str.ofString "__next__") hT F.slot_enumerate_next
   (wpAny_call_entry F.slot_enumerate_next hT F.entry_enumerate_next ?_ (F.args_enumerate_next_1 _))))
  show wpAny _ _ (field (.ref e) 2>>=_) _ _ _
  refine wpAny_bind (wpAny_field he rfl (x:=.ref it) rfl ?_)
  refine wpAny_bind (wpAny_nextOf_list_end (show X.A.in1.handled=none from I.ok.hd hc) hit p' (by simp; omega) fun h' x he' hx'=>?_)
  obtain ⟨o,ho,hcl⟩:=hx'
  refine wpAny_bind (wpAny_isInstance (T := "StopIteration") (b:=true) ⟨o,ho,hcl⟩ isSubtype_stop ?_)
  exact wpAny_pure ⟨rfl,I.turned (t' := s.toks) (fun b o hb z=>he' b o hb z) f0 f1 f3 f4 f5⟩
 self:=fun _ _ _ _ _ st h=>let ⟨_,z⟩:=st.1; wpAny_pyIter_enum z h
section
variable {X:Cx}
def DV (K:PySem.W.Frag) (tl:TA):TI:=fun σ H R=>tl σ H fun vs H1=>∃ a,vs=[.ref a]/\(∃ xs,SqL K H1 a xs)/\R (z5 K a) H1
theorem tu {elts:List Expr} {x1:_} {tpos:Pos} {l:Expr} {tl:TA} {p pos:Pos} (hg:Gl X "enumerate") (hm:X.mg "enumerate" = none) (hl:PA X [l] tl) (hs:starEach [l] X.env=[(false,eval l X.env)]:=by rfl) :
  PI X (.Tuple elts x1 tpos) (.Call (.Name "enumerate" p) [l] [] pos) (DV X.K tl):=by
 intro pins s σ H R I h
 refine Call_ (ky I hg hm nA (PyProof.Rows.callWith_type1 (thn (hl pos pins s σ H _ I h) fun us s1 ⟨vs,H1,I1,r1,q1⟩=>?_) hs rfl))
 obtain ⟨a,e,⟨xs,hq⟩,q⟩:=q1
 subst e
 cases r1 with
 | cons r rr =>
  cases rr
  cases r
  obtain ⟨its,rv,p,hz⟩:=I1.list hq
  refine call_enumerate_list (show s1.heap.IsList a its.toArray from p.isList) fun h' he hit hsz hk=>?_
  refine wpAny_pyIter_enum he ?_
  refine ⟨s1.heap.objs.size+1,[s1.heap.objs.size+1,s1.heap.objs.size],_,_,H1,rfl,I1.kept (t' := s1.toks) hk,zb a _ s1.heap.objs.size,⟨⟨_,he⟩,hit⟩,fun b hb=>?_,q⟩
  have e:b=s1.heap.objs.size+1\/b=s1.heap.objs.size:=by simpa using hb
  rcases e with rfl | rfl
  ·exact I1.fpOk (Nat.le_succ _) (I1.hok.fresh (Nat.le_succ _))
  ·exact I1.fpOk (Nat.le_refl _) (I1.hok.fresh (Nat.le_refl _))
end
theorem vb {K:PySem.W.Frag} {a:Addr} {xs:List V} {g:TG} {tb:TS} {D:Ends} {σ:St} {H:Hp} (Pv:Nat->St->Hp->Prop) (h0:Pv 0 σ H) (hl:∀ i σ H,i<=xs.length->Pv i σ H->SqL K H a xs)
  (hs:∀ i x σ H T,xs[i]?=some x->Pv i σ H->H T=none->g (.ref T) σ (upd H T (.tup [.int i,x])) fun σ2 H2=>tb { D with nx:=Pv (i+1),ct:=Pv (i+1),bk:=D.nx } σ2 H2) (hd:∀ σ H,Pv xs.length σ H->D.nx σ H) :
  ∃ W:Nat->Nat->St->Hp->Prop,(∃ m,W 0 m σ H)/\∀ i m σ H,W i m σ H ->
   ((z5 K a).stop i H/\D.nx σ H)\/((z5 K a).go i H/\∃ N:St->Hp->Prop,(∀ σ' H',N σ' H'->∃ m',m'<m/\W (i+1) m' σ' H')/\∀ x H',(z5 K a).yld i H x H'->g x σ H' fun σ2 H2=>tb { D with nx:=N,ct:=N,bk:=D.nx } σ2 H2):=by
 refine ⟨fun i m σ H=>m=xs.length-i/\i<=xs.length/\Pv i σ H,⟨xs.length,by simp,Nat.zero_le _,h0⟩,?_⟩
 rintro i m σ H ⟨rfl,hi,p⟩
 have q:=hl i σ H hi p
 by_cases hlt:i<xs.length
 ·refine .inr ⟨⟨xs,xs[i],q,by simp [hlt]⟩,Pv (i+1),fun σ' H' p'=>⟨xs.length-(i+1),by omega,rfl,hlt,p'⟩,fun x H' y=>?_⟩
  obtain ⟨T,x0,rfl,hT,rfl,y⟩:=y
  exact hs i x0 σ _ T (y xs q) p hT
 ·have e:i=xs.length:=by omega
  subst e
  exact .inl ⟨⟨xs,q,Nat.le_refl _⟩,hd σ H p⟩
end L2
set_option Elab.async false
set_option linter.all false
set_option maxRecDepth 100000
set_option maxHeartbeats 4000000
namespace L2
open PySem PySem.Spec PyProof.Rows
theorem Ct {B:St} {t u a b:Option V}:((((B.set 0 t).set 1 u).set 0 a).set 1 b)=(B.set 0 a).set 1 b:=by
 rw [List.set_comm u a (l:=B.set 0 t) (by decide:(1:Nat)≠0),List.set_set,List.set_set]
theorem ye {J:It} {n:Nat} {item:Nat->V} {ix:List (Option Nat)} {g:TG} {te:TE} {σ:St} {H:Hp} {Qd:Addr->Hp->Prop} (Pv:Addr->Nat->List V->Hp->Prop)
  (hg:∀ (T:Addr) (σ:St) (H:Hp) (Q:St->Hp->Prop) (i:Int) (x:V),H T=some (.tup [.int i,x])->Q ((σ.set 0 (some (.int i))).set 1 (some x)) H->g (.ref T) σ H Q)
  (h0:∀ D,H D=none->Pv D 0 [] (upd H D (.lst [])))
  (hgo:∀ D i ys H',i<n->Pv D i ys H'->J.go i H'/\∀ x H2,J.yld i H' x H2->∃ T,x=.ref T/\H' T=none/\H2=upd H' T (.tup [.int i,item i]))
  (hst:∀ D ys H',Pv D n ys H'->J.stop n H')
  (hs:∀ D i ys H' T (Q':VK),H D=none->i<n->H' D=some (.lst ys)->Pv D i ys H'->H' T=none->(∀ y H4,H4 D=some (.lst ys)->ys.length<sizeLine->Pv D (i+1) (ys++[y]) (upd H4 D (.lst (ys++[y])))->Q' y H4) ->
   te (((aZ ix σ).set 0 (some (.int i))).set 1 (some (item i))) (upd H' T (.tup [.int i,item i])) Q')
  (hd:∀ D ys H',H D=none->H' D=some (.lst ys)->Pv D n ys H'->Qd D H'):pV J ix g te σ H Qd:=by
 intro D hD
 refine ⟨fun i m σ' H'=>m=n-i/\i<=n/\(σ'=aZ ix σ\/∃ t u,σ'=((aZ ix σ).set 0 t).set 1 u)/\∃ ys,H' D=some (.lst ys)/\Pv D i ys H',⟨n,by simp,Nat.zero_le _,.inl rfl,[],ae,h0 D hD⟩,?_⟩
 rintro i m σ' H' ⟨rfl,hi,hσ,ys,hy,p⟩
 by_cases hlt:i<n
 ·obtain ⟨g1,g2⟩:=hgo D i ys H' hlt p
  refine .inr ⟨g1,fun x H2 y=>?_⟩
  obtain ⟨T,rfl,hT,rfl⟩:=g2 x H2 y
  refine hg T σ' _ _ i (item i) ae ?_
  have es:((σ'.set 0 (some (V.int i))).set 1 (some (item i)))=((aZ ix σ).set 0 (some (V.int i))).set 1 (some (item i)):=by
   rcases hσ with z | ⟨t,u,z⟩
   ·rw [z]
   ·rw [z,Ct]
  show te ((σ'.set 0 (some (V.int i))).set 1 (some (item i))) _ _
  rw [es]
  refine hs D i ys _ T _ hD hlt hy p hT fun y H4 h4 hz p4=>⟨ys,h4,hz,n-(i+1),by omega,rfl,hlt,.inr ⟨_,_,rfl⟩,ys++[y],ae,p4⟩
 ·have e:i=n:=by omega
  subst e
  exact .inl ⟨hst D ys H' p,hd D ys H' hD hy p⟩
end L2
set_option Elab.async false
set_option linter.all false
set_option maxRecDepth 100000
namespace L2
open PySem PySem.Spec PyProof.Rows
section
variable {X:Cx} {pins:List (Addr×Obj)} {σ:St} {H H':Hp} {s:Shared} {h':Heap}
end
theorem zJ {k:Key} {v:Value} (h:pZ k v=true):RelV (kV k) v:=by
 rcases bN h with ⟨n,t,rfl,rfl⟩ | ⟨x,t,rfl,rfl⟩
 ·exact ⟨t,rfl⟩
 ·exact ⟨t,rfl⟩
section
variable {X:Cx}
abbrev nh (v d:Addr):HO:=.ext fun h=>h.IsItemsView v d
def Er:V->List V->Hp->VK->Prop:=fun x vs H Q=>∃ d kvs,x=.ref d/\vs=[]/\H d=some (.dK kvs)/\∀ v,H v=none->Q (.ref v) (upd H v (nh v d))
theorem BE:MtM X "dict.items" Er:=by
 intro pins s σ H x vs v us Q I rx rv h
 obtain ⟨d,kvs,rfl,rfl,hd,q⟩:=h
 cases rx
 have hus:=rv.zero
 subst hus
 obtain ⟨z,lo,vs,kv,dof⟩:=(show ObjOk X.prog X.w H s.heap d (.dK kvs) from I.hok d _ hd)
 refine call_meetsIn PySem.F.slot_dict_items dof.typeIs PySem.F.entry_dict_items (PySem.F.args_dict_items_1 _) (meets_dict_items (aV X.prog X.w) d lo) ⟨⟨vs,dof⟩,?_⟩
 refine ⟨.ref _,_,I.laid (o:=nh s.heap.objs.size d) (t' := s.toks) (fun b o e=>Heap.get?_push_of_some _ e) (Nat.le_refl _) ?_,rfl,q _ (I.hok.fresh (Nat.le_refl _))⟩
 exact ⟨⟨_,Heap.get?_push_size _ rfl,rfl,rfl⟩,⟨_,Heap.get?_push_size _ rfl⟩,fun h1 h2 ⟨o,ho,x⟩ kp=>⟨o,kp o ho,x⟩⟩
end
end L2
set_option Elab.async false
set_option linter.all false
set_option maxRecDepth 100000
namespace L2
open PySem PySem.Spec PyProof.Rows
section
variable {X:Cx}
end
end L2
set_option Elab.async false
set_option linter.all false
set_option maxRecDepth 100000
namespace L2
open PySem PySem.Spec PyProof.Rows
section
variable {X:Cx}
end
end L2
namespace PySem
open PyProof.Rows
namespace F
end F
section
variable {prog:Program} {w:World} {A:Around} {E:Value->Shared->Prop} {s:Shared}
end
end PySem
namespace L2
open PySem PySem.Spec PyProof.Rows
section
variable {X:Cx} {tg:Expr}
end
end L2
set_option Elab.async false
set_option linter.all false
set_option maxRecDepth 100000
set_option maxHeartbeats 4000000
namespace L2
open PySem PySem.Spec PyProof.Rows
section
variable {X:Cx}
end
section
variable {X:Cx}
theorem Dk (K:PySem.W.Frag) {es:List Expr} {k:Nat} {pos:Pos} {t:TGs} {n:Nat} (hc:X.calm=true) (h:PGs X es t) (hK:X.K=K:=by rfl)
  (hn:(assignEach es X.env).length=n:=by rfl) (hst:(assignEach es X.env).findIdx? (·.1)=none:=by rfl):PG X (.Tuple es k pos) (EU K n t):=by
 subst hK
 exact pI hc h hn hst
theorem B3 {m:Str} {C:Addr} {j k:Nat} {ps:List Str} {sp:Sp} {apos pos:Pos} {o:Expr} {ta:TE} {pl:Sem Bool} (G:DefMe X.prog X.w X.K X.mg X.base C m k ps sp) (hr:Room j X.A) (ho:PE X o ta) (hkj:k<=j:=by decide)
  (ht:eval (.Call (.Attribute o m apos) [] [] pos) X.env=(do
   let ov <- eval o X.env
   standAt apos.atName
   let (f,first) <- holding [ov] (getMethod ov m pl)
   callWith pos f first (backTo pos (starEach [] X.env)) (backToKw pos (keywordEach [] X.env))):=by rfl) :
  PE X (.Call (.Attribute o m apos) [] [] pos) (zX C m sp [] E0 ta Dx):=by
 obtain ⟨f,fd,hm,hb,F⟩:=G.ex
 exact B4 ho G.cl hm F (hr.mono hkj) hb .nil BW ht
end
end L2
set_option Elab.async false
set_option linter.all false
set_option maxRecDepth 100000
set_option maxHeartbeats 4000000
namespace L2
open PySem PySem.Spec PyProof.Rows
section
variable {prog:Program} {w:World} {A:Around} {E:Value->Shared->Prop} {s:Shared}
structure ZipFar3 (z TI TO i1 i2 i3:Addr) (fp1 fp2 fp3:List Addr):Prop where
 TIz:TI≠z
 TOz:TO≠z
 TITO:TI≠TO
 i1z:i1≠z
 i2z:i2≠z
 i3z:i3≠z
 TIi1:TI≠i1
 TIi2:TI≠i2
 TIi3:TI≠i3
 TOi1:TO≠i1
 TOi2:TO≠i2
 TOi3:TO≠i3
 z1:z∉fp1
 TO1:TO∉fp1
 i21:i2∉fp1
 i31:i3∉fp1
 z2:z∉fp2
 TO2:TO∉fp2
 i12:i1∉fp2
 i32:i3∉fp2
 z3:z∉fp3
 TO3:TO∉fp3
 i13:i1∉fp3
 i23:i2∉fp3
variable {z TI TO i1 i2 i3:Addr} {fp1 fp2 fp3:List Addr} {n1 n2 n3 k:Nat} {P1 P2 P3:Nat->Value->Prop} {St1 St2 St3:Nat->Heap->Prop} {a b c:Value}
end
section
variable {X:Cx}
end
section
variable {X:Cx}
end
theorem dj {t u:TS} {D:Ends} {σ:St} {H:Hp} (R:St->Hp->Prop) (h1:∀ σ' H',R σ' H'->u D σ' H') (h2:∀ D':Ends,(∀ σ' H',R σ' H'->D'.nx σ' H')->t D' σ H):AN t u D σ H:=
 h2 { D with nx:=u D } h1
theorem kI {X:Cx}:eU X (.builtin "len") (fun xs H Q=>∃ a kvs,xs=[.ref a]/\H a=some (.dK kvs)/\Q (.int kvs.length) H):=by
 intro pins s σ H xs us Q I r h
 obtain ⟨a,kvs,rfl,ha,q⟩:=h
 obtain ⟨u,rfl,rx⟩:=vals1 r
 cases rx
 exact EO I (.inl ha) fun t s' I'=>⟨.int kvs.length,H,I',⟨t,rfl⟩,q⟩
end L2
set_option Elab.async false
set_option linter.all false
set_option maxRecDepth 100000
set_option maxHeartbeats 4000000
namespace L2
open PySem PySem.Spec PyProof.Rows
structure BlkScope1 (NX:List Str) (scX:Scope) (N:List Str) (ix:List (Option Nat)) (sc:Scope) (x:Str):Prop where
 kind:sc.kind=.function
 nd:N.Nodup
 cell:sc.names.lookup x=some .cell
 only:∀ y∈sc.names,y.2=.cell->y.1=x
 lay:∀ n cl,cellsFrom n sc.names cl=(x,n) :: cl
 lays:∀ h,pushCells h sc.names=h.push { cls:=.type "cell",data:=.cell none }
 locs:∀ y∈sc.names,y.2=.local->sc.names.lookup y.1=some .local
 free:∀ y∈sc.names,y.2=.free->scX.names.lookup y.1=some .cell\/scX.names.lookup y.1=some .free
 nofree:∀ y∈sc.names,y.2=.free->y.1≠x
 len:ix.length=N.length
 at_:∀ p∈N.zip ix,∀ i,p.2=some i->NX[i]?=some p.1/\sc.names.lookup p.1=some .free
section
variable {X:Cx} {pins:List (Addr×Obj)} {σ:St} {H:Hp} {s:Shared} {N:List Str} {ix:List (Option Nat)} {scope:Scope} {fp:List Addr} {x:Str}
variable {tg elt iter:Expr} {pos spos:Pos} {J:It} {it:Addr} {tn:Nat->Heap->Prop} {g:TG} {te:TE} {wi:TI}
end
end L2
set_option Elab.async false
set_option linter.all false
set_option maxRecDepth 100000
namespace L2
open PySem PySem.Spec PyProof.Rows
abbrev Rise (xs:Array Nat):Prop:=xs.toList.Pairwise (·<·)
theorem Rise.lt {xs:Array Nat} (r:Rise xs) {i j:Nat} (hi:i<j) (hj:j<xs.size):xs[i]<xs[j]:=by
 have:=List.pairwise_iff_getElem.mp r i j (by simpa using Nat.lt_trans hi hj) (by simpa using hj) hi
 simpa using this
theorem rJ {xs:Array Nat} {j:Nat} (r:Rise xs):∀ (fuel lo hi:Nat),hi-lo<=fuel->lo<=hi->hi<=xs.size->(∀ i (h:i<xs.size),i<lo->xs[i]<j)->(∀ i (h:i<xs.size),hi<=i->j<=xs[i]) ->
  (SetTable.below.go xs j fuel lo hi<=xs.size/\(∀ i (h:i<xs.size),i<SetTable.below.go xs j fuel lo hi->xs[i]<j)/\∀ i (h:i<xs.size),SetTable.below.go xs j fuel lo hi<=i->j<=xs[i])
 | 0,lo,hi,hf,hl,hs,h1,h2=>by
  have e:lo=hi:=by omega
  subst e
  exact ⟨hs,h1,h2⟩
 | fuel+1,lo,hi,hf,hl,hs,h1,h2=>by
  unfold SetTable.below.go
  by_cases c:lo<hi
  ·rw [if_pos c]
   dsimp only
   have hm:(lo+hi) / 2<xs.size:=by omega
   have eg:xs.getD ((lo+hi) / 2) j=xs[(lo+hi) / 2]:=by simp [Array.getD,hm]
   by_cases d:xs.getD ((lo+hi) / 2) j<j
   ·rw [if_pos d]
    refine rJ r fuel _ _ (by omega) (by omega) hs (fun i h hi'=>?_) h2
    rcases Nat.lt_or_ge i ((lo+hi) / 2) with z | z
    ·exact Nat.lt_trans (r.lt z hm) (by rw [eg] at d; exact d)
    ·have e:i=(lo+hi) / 2:=by omega
     subst e
     rw [eg] at d
     exact d
   ·rw [if_neg d]
    refine rJ r fuel _ _ (by omega) (by omega) (by omega) h1 (fun i h hi'=>?_)
    rw [eg] at d
    rcases Nat.lt_or_ge ((lo+hi) / 2) i with z | z
    ·exact Nat.le_trans (Nat.le_of_not_lt d) (Nat.le_of_lt (r.lt z h))
    ·have e:i=(lo+hi) / 2:=by omega
     subst e
     exact Nat.le_of_not_lt d
  ·rw [if_neg c]
   have e:lo=hi:=by omega
   subst e
   exact ⟨hs,h1,h2⟩
theorem AY {xs:Array Nat} (r:Rise xs) (j:Nat):SetTable.below xs j<=xs.size/\(∀ i (h:i<xs.size),i<SetTable.below xs j->xs[i]<j)/\∀ i (h:i<xs.size),SetTable.below xs j<=i->j<=xs[i]:=
 rJ r xs.size 0 xs.size (by omega) (Nat.zero_le _) (Nat.le_refl _) (fun i h z=>by omega) (fun i h z=>by omega)
theorem toList_insertAt {α:Type} (xs:Array α) (p:Nat) (x:α):(SetTable.insertAt xs p x).toList=xs.toList.take p++x :: xs.toList.drop p:=by
 unfold SetTable.insertAt
 simp
 rw [List.take_of_length_le (by simp)]
theorem Rise.put {xs:Array Nat} (r:Rise xs) {j:Nat} (hj:xs[SetTable.below xs j]?≠some j):Rise (SetTable.insertAt xs (SetTable.below xs j) j):=by
 obtain ⟨h0,h1,h2⟩:=AY r j
 unfold Rise
 rw [toList_insertAt,List.pairwise_append]
 have tk:∀ a∈xs.toList.take (SetTable.below xs j),a<j:=fun a ha=>by
  obtain ⟨i,hi,rfl⟩:=List.mem_take_iff_getElem.mp ha
  have:i<SetTable.below xs j/\i<xs.size:=by simp at hi; omega
  simpa using h1 i this.2 this.1
 have dr:∀ b∈xs.toList.drop (SetTable.below xs j),j<b:=fun b hb=>by
  obtain ⟨i,hi,rfl⟩:=List.mem_drop_iff_getElem.mp hb
  have hs:i+SetTable.below xs j<xs.size:=by simpa using hi
  have hle:=h2 (i+SetTable.below xs j) hs (by omega)
  have hb0:SetTable.below xs j<xs.size:=by omega
  have hne:xs[SetTable.below xs j]≠j:=fun z=>hj (by rw [Array.getElem?_eq_getElem hb0,z])
  have h3:=h2 (SetTable.below xs j) hb0 (Nat.le_refl _)
  have:j<xs[i+SetTable.below xs j]:=by
   rcases Nat.eq_zero_or_pos i with z | z
   ·subst z
    simp only [Nat.zero_add]
    omega
   ·have:=r.lt (i:=SetTable.below xs j) (j:=i+SetTable.below xs j) (by omega) hs
    omega
  simpa [Nat.add_comm] using this
 refine ⟨List.Pairwise.sublist (List.take_sublist _ _) r,List.pairwise_cons.mpr ⟨dr,List.Pairwise.sublist (List.drop_sublist _ _) r⟩,fun a ha b hb=>?_⟩
 rcases List.mem_cons.mp hb with e | hb
 ·rw [e]; exact tk a ha
 ·exact Nat.lt_trans (tk a ha) (dr b hb)
theorem yV (n:Nat):Rise (Array.range n):=by
 unfold Rise
 rw [Array.toList_range]
 exact List.pairwise_lt_range
structure TabOk (t:SetTable) (led:Bool):Prop where
 rise:Rise t.place
 nod:t.dummies=#[]
 led:t.led=led
theorem TabOk.standIn {t:SetTable} {led:Bool} (k:TabOk t led) (n:Nat):TabOk (t.standIn n) led:=⟨yV n,rfl,k.led⟩
theorem TabOk.orStandIn {t:SetTable} {led:Bool} (k:TabOk t led) (n:Nat):TabOk (t.orStandIn n) led:=by
 unfold SetTable.orStandIn
 split
 ·exact k
 ·exact k.standIn n
theorem zF (j:Nat):SetTable.has #[] j=false:=by
 unfold SetTable.has
 simp
theorem tF {t:SetTable} {led:Bool} (k:TabOk t led) {h:Int}:∀ (fuel:Nat) (p:SetTable.Probe) (j:Nat) (dm:Option Nat),p.dummy=none->SetTable.probe.go t (fun _=>h+1) h fuel p=some (.empty j dm)->t.slot j=.empty/\dm=none
 | 0,p,j,dm,_,e=>by cases e
 | fuel+1,p,j,dm,hp,e=>by
  unfold SetTable.probe.go at e
  cases hs:t.slot p.j with
  | empty =>
   rw [hs] at e
   cases e
   exact ⟨hs,hp⟩
  | dummy =>
   exfalso
   unfold SetTable.slot at hs
   dsimp only at hs
   split at hs
   ·cases hs
   ·rw [k.nod,zF] at hs
    simp at hs
  | live i =>
   rw [hs] at e
   dsimp only at e
   rw [if_neg (by simp; omega)] at e
   refine tF k fuel _ j dm ?_ e
   unfold SetTable.advance
   split
   ·exact hp
   ·exact hp
theorem Ak {t:SetTable} {led:Bool} (k:TabOk t led) {h:Int} {j:Nat} {b:Bool} (e:t.freeSlot h=some (j,b)):t.place[SetTable.below t.place j]?≠some j/\b=false:=by
 unfold SetTable.freeSlot SetTable.probe at e
 split at e
 ·rename_i j' dm e'
  obtain ⟨h1,rfl⟩:=tF k _ _ _ _ rfl e'
  simp at e
  obtain ⟨rfl,rfl⟩:=e
  refine ⟨fun z=>?_,rfl⟩
  unfold SetTable.slot at h1
  dsimp only at h1
  rw [if_pos (by rw [z]; simp)] at h1
  cases h1
 ·cases e
theorem yt {t:SetTable} {led:Bool} (k:TabOk t led) (es:Array (Int×Value)) (h:Int) (x:Value):TabOk (layNew t es h x).2.1 led:=by
 unfold layNew
 split
 ·rename_i slot wd e
  obtain ⟨hj,rfl⟩:=Ak k e
  have k1:TabOk (t.put slot).1 led:=by
   refine ⟨k.rise.put hj,?_,k.led⟩
   show (if SetTable.has t.dummies slot=true then _ else t.dummies)=#[]
   rw [k.nod,zF]
   rfl
  exact k1.orStandIn _
 ·exact k.standIn _
theorem wC {t:SetTable} {led:Bool} (k:TabOk t led) (es:Array (Int×Value)) (n:Nat):TabOk (relayAll t es n).2.1 led:=by
 unfold relayAll
 split
 ·rename_i t' order e
  dsimp only
  split
  ·unfold SetTable.relaid SetTable.laid at e
   simp only [Option.bind_eq_bind,Option.bind_eq_some_iff] at e
   obtain ⟨owner,_,e⟩:=e
   cases e
   refine ⟨?_,rfl,k.led⟩
   unfold Rise
   dsimp only
   rw [List.map_filterMap]
   refine List.Pairwise.filterMap _ (fun a a' hr b hb b' hb'=>?_) List.pairwise_lt_range
   simp only [Option.map_map,Option.mem_def,Option.map_eq_some_iff,Function.comp] at hb hb'
   obtain ⟨_,_,rfl⟩:=hb
   obtain ⟨_,_,rfl⟩:=hb'
   exact hr
  ·exact k.standIn _
 ·exact k.standIn _
abbrev byT (w:World):Bool:=w.params.followText "set-order"
def CC:Value->Int
 | .int n _=>n
 | _=>0
def SetW (P:Program) (w:World) (h:Heap) (a:Addr) (ns:List Int):Prop:=
 ∃ o es ep t,h.get? a=some o/\o.ExactSet/\o.data=.set es ep t/\ElemsOf (intKind P w) es.toList/\(∀ e∈es.toList,∃ n u,e.2=.int n u)/\(es.toList.map fun e=>CC e.2).Perm ns/\es.size<scanBound/\t.fits es.size=true/\TabOk t (!byT w)
theorem SetW.keep {P:Program} {w:World} {h h':Heap} {a:Addr} {ns:List Int} (x:SetW P w h a ns) (k:∀ o,h.get? a=some o->h'.get? a=some o):SetW P w h' a ns:=by
 obtain ⟨o,es,ep,t,ho,r⟩:=x
 exact ⟨o,es,ep,t,k o ho,r⟩
section
variable {P:Program} {w:World} {A:Around} {E:Value->Shared->Prop} {s:Shared}
theorem Br {k n:Int} {u:Tok}:(intKind P w).is k (.int n u)=decide (k=n):=KeyKind.is_eq_decide (intKind_is P w n u) k
theorem Cy {h:Heap} {a:Addr} {o:Obj} {es es':Array (Int×Value)} {ep:Nat} {t t':SetTable} {ns:List Int} (ho:h.get? a=some o) (hex:o.ExactSet) (hd:o.data=.set es ep t) (hel:ElemsOf (intKind P w) es'.toList)
  (hi:∀ e∈es'.toList,∃ n u,e.2=.int n u) (hp:(es'.toList.map fun e=>CC e.2).Perm ns) (hb:es'.size<scanBound) (hf:t'.fits es'.size=true) (hk:TabOk t' (!byT w)) :
  (h.update a (Obj.putSet es' t')).get? a=some { o with data:=.set es' (ep+1) t' }/\SetW P w (h.update a (Obj.putSet es' t')) a ns:=by
 have hg:(h.update a (Obj.putSet es' t')).get? a=some { o with data:=.set es' (ep+1) t' }:=by
  have q:=Heap.get?_update_self (Obj.putSet es' t') ho (by rw [putSet_of es' t' hd]; rfl)
  rw [putSet_of es' t' hd] at q
  exact q
 exact ⟨hg,_,es',ep+1,t',hg,hex,rfl,hel,hi,hp,hb,hf,hk⟩
theorem zv {g:Bool->Sem Unit} (hg:∀ (b:Bool) (s₁:Shared) (Q':Unit->Shared->Prop),Q' () s₁->wpAny (model P w) A (g b) Q' E s₁) {a:Addr} {o:Obj} {es es1:Array (Int×Value)} {ep:Nat} {t t2:SetTable} {ns:List Int} {R:Option Bool->Shared->Prop} {wd:Bool}
  (ho:s.heap.get? a=some o) (hex:o.ExactSet) (hd:o.data=.set es ep t) (hel:ElemsOf (intKind P w) es1.toList) (hi:∀ e∈es1.toList,∃ n u,e.2=.int n u) (hp:(es1.toList.map fun e=>CC e.2).Perm ns) (hb:es1.size<scanBound)
  (hf:t2.fits es1.size=true) (hk:TabOk t2 (!byT w)) (h:∀ h',Heap.SameBut a s.heap h'->SetW P w h' a ns->R (some true) { s with heap:=h' }) :
  wpAny (model P w) A (do
    storeSet a es1 t2
    if (!wd&&t2.tooFull)=true then do
      g (relayAll t2 es1 (SetTable.grown es1.size)).2.2
      storeSet a (relayAll t2 es1 (SetTable.grown es1.size)).1 (relayAll t2 es1 (SetTable.grown es1.size)).2.1
      pure (some true)
     else pure (some true)) R E s:=by
 refine wpAny_bind (wpAny_storeSet_of ho hd ?_ (fits_of_scanBound hb))
 obtain ⟨ho1,hS1⟩:=Cy (P:=P) (w:=w) ho hex hd hel hi hp hb hf hk
 have sb1:=Heap.SameBut.update s.heap a (Obj.putSet es1 t2)
 split
 ·have rp:=relayAll_perm t2 es1 (SetTable.grown es1.size)
  have rf:=relayAll_fits t2 es1 (SetTable.grown es1.size)
  have rt:=wC hk es1 (SetTable.grown es1.size)
  generalize relayAll t2 es1 (SetTable.grown es1.size)=Rl at rp rf rt ⊢
  obtain ⟨es2,t3,gave⟩:=Rl
  dsimp only at rp rf rt ⊢
  have sz:es2.size=es1.size:=by rw [<- Array.length_toList,rp.length_eq,Array.length_toList]
  have hb2:es2.size<scanBound:=by rw [sz]; exact hb
  refine wpAny_bind (hg _ _ _ ?_)
  refine wpAny_bind (wpAny_storeSet_of ho1 rfl ?_ (fits_of_scanBound hb2))
  obtain ⟨_,hS2⟩:=Cy (P:=P) (w:=w) (ns:=ns) ho1 hex rfl (hel.perm rp) (fun e he=>hi e (rp.mem_iff.mp he)) ((rp.map _).trans hp) hb2 rf rt
  exact wpAny_pure (h _ (sb1.trans (Heap.SameBut.update _ a _)) hS2)
 ·exact wpAny_pure (h _ sb1 hS1)
theorem yX {a:Addr} {ns:List Int} {k:Int} {u:Tok} {Q:Bool->Shared->Prop} (hS:SetW P w s.heap a ns) (hroom:ns.length+1<scanBound)
  (h:∀ h' b,Heap.SameBut a s.heap h'->SetW P w h' a (step_dedup ns k)->Q b { s with heap:=h' }):wpAny (model P w) A (setAddHashed a (.int k u) ((intKind P w).hash k)) Q E s:=by
 obtain ⟨o,es,ep,t,ho,hex,hd,hel,hi,hp,hb,hf,hk⟩:=hS
 have hsz:es.size=ns.length:=by rw [<- hp.length_eq,List.length_map,Array.length_toList]
 have mem:∀ z:Int,z∈ns↔∃ e∈es.toList,(intKind P w).is z e.2=true:=fun z=>by
  rw [<- hp.mem_iff,List.mem_map]
  constructor
  ·rintro ⟨e,he,rfl⟩
   obtain ⟨n,v,e2⟩:=hi e he
   exact ⟨e,he,by rw [e2,Br]; simp [CC]⟩
  ·rintro ⟨e,he,q⟩
   obtain ⟨n,v,e2⟩:=hi e he
   rw [e2,Br] at q
   exact ⟨e,he,by rw [e2]; exact (of_decide_eq_true q).symm⟩
 unfold setAddHashed setAddHashedIn
 refine wpAny_holding (wpAny_bind (wpAny_setState_of ho hd hf ?_))
 dsimp only
 rw [byScan_of (x:=.int k u) rfl hb hel]
 simp only [↓reduceIte]
 unfold setAddByScan
 refine wpAny_bind (wpAny_bind (wpAny_rule ?_))
 refine wpAny_bind (wpAny_setScan_of (intKind_is P w k u) ho hd hf hel ?_)
 cases hr:List.findIdx? (fun e=>(intKind P w).is k e.2) es.toList with
 | some j =>
  dsimp only
  obtain ⟨hj,pj,_⟩:=List.findIdx?_eq_some_iff_getElem.mp hr
  have kin:k∈ns:=(mem k).mpr ⟨es.toList[j],List.getElem_mem hj,pj⟩
  refine wpAny_pure (wpAny_pure ?_)
  have q:=h s.heap false (Heap.SameBut.refl a s.heap) ⟨o,es,ep,t,ho,hex,hd,hel,hi,by
   unfold step_dedup
   rw [if_pos (by simpa using kin)]
   exact hp,hb,hf,hk⟩
  cases s
  exact q
 | none =>
  dsimp only
  have nin:k∉ns:=fun z=>by
   obtain ⟨e,he,q⟩:=(mem k).mp z
   have:=List.findIdx?_eq_none_iff.mp hr e he
   rw [q] at this
   cases this
  have gw:∀ (b:Bool) (s₁:Shared) (Q':Unit->Shared->Prop),Q' () s₁->wpAny (model P w) A (match b with | true=>rule "set.scan.the-table-gave-way" | false=>pure ()) Q' E s₁:=fun b s₁ Q' q=>by
   cases b
   ·exact wpAny_pure q
   ·exact wpAny_rule q
  have lp:=layNew_perm t es ((intKind P w).hash k) (.int k u)
  have lf:=layNew_fits t es ((intKind P w).hash k) (.int k u)
  have lt:=yt hk es ((intKind P w).hash k) (.int k u)
  generalize layNew t es ((intKind P w).hash k) (.int k u)=L at lp lf lt ⊢
  obtain ⟨es1,t1,wd,gave⟩:=L
  dsimp only at lp lf lt ⊢
  rw [Array.toList_push] at lp
  have hel1:ElemsOf (intKind P w) es1.toList:=(hel.push (intKind_is P w k u) rfl).perm lp
  have hi1:∀ e∈es1.toList,∃ n v,e.2=.int n v:=fun e he=>by
   rcases List.mem_append.mp (lp.mem_iff.mp he) with z | z
   ·exact hi e z
   ·rw [List.mem_singleton.mp z]; exact ⟨k,u,rfl⟩
  have hp1:(es1.toList.map fun e=>CC e.2).Perm (step_dedup ns k):=by
   unfold step_dedup
   rw [if_neg (by simpa using nin)]
   refine (lp.map _).trans ?_
   rw [List.map_append]
   exact hp.append (List.Perm.refl _)
  have hb1:es1.size<scanBound:=by rw [<- Array.length_toList,lp.length_eq,List.length_append,Array.length_toList,hsz]; exact hroom
  refine wpAny_bind (gw _ _ _ ?_)
  split
  ·refine wpAny_bind ?_
   rw [hashByValue_scannable 8 (x:=.int k u) rfl]
   refine wpAny_pure ?_
   exact zv (fun b s₁ Q' q=>gw b s₁ Q' q) ho hex hd hel1 hi1 hp1 hb1 lf lt fun h' sb S=>wpAny_pure (h h' true sb S)
  ·refine wpAny_bind (wpAny_pure ?_)
   simp only [↓reduceIte]
   exact zv (fun b s₁ Q' q=>gw b s₁ Q' q) ho hex hd hel1 hi1 hp1 hb1 lf lt fun h' sb S=>wpAny_pure (h h' true sb S)
end
end L2
set_option Elab.async false
set_option linter.all false
set_option maxRecDepth 100000
namespace L2
open PySem PySem.Spec PyProof.Rows
section
variable {P:Program} {w:World} {A:Around} {E:Value->Shared->Prop} {R:Result->Shared->Prop} {I:Addr} {fp wr:List Addr} {G:Array GenState->Array GenState->Prop} {n:Nat} {Pz:Nat->Value->Prop} {St:Nat->Shared->Prop}
theorem wR (W:WalksS P w A.in1 I fp wr G n Pz St) (S:Addr) (hSf:S∉fp) (val:Nat->Int) (hval:∀ i v,Pz i v->∃ t,v=.int (val i) t) (hb:n+1<scanBound) :
  ∀ (k i:Nat) (s:Shared),n-i=k->i<=n->St i s->SetW P w s.heap S (firstMet val i)->(∀ s',Moved (S :: wr) G s s'->SetW P w s'.heap S (firstMet val n)->R (.ok (.ret .none)) s') ->
   codeAny (model P w) A (.builtin "set.update.loop" ⟨[.ref S,.ref I],[]⟩) R s:=by
 have nw:S∉wr:=fun z=>hSf (W.sub _ z)
 have up:∀ b∈wr,b∈S :: wr:=fun b z=>List.mem_cons_of_mem _ z
 intro k
 induction k with
 | zero =>
  intro i s hk hi hst hS hR
  obtain rfl:i=n:=by omega
  refine codeAny_builtin F.entry_set_update_loop ?_
  rw [Around.under_plainId F.plain_set_update_loop _]
  refine wpAny_bind (m:=pyNext (.ref I)) (W.done s _ _ hst fun s' hm=>?_)
  exact wpAny_pure (hR s' (hm.mono up) (hS.keep fun o q=>hm.heap S o nw q))
 | succ k ih =>
  intro i s hk hi hst hS hR
  have hlt:i<n:=by omega
  refine codeAny_builtin F.entry_set_update_loop ?_
  rw [Around.under_plainId F.plain_set_update_loop _]
  refine wpAny_bind (m:=pyNext (.ref I)) (W.item i s _ _ hlt hst fun v s' hP hst' hm=>?_)
  obtain ⟨t,rfl⟩:=hval i v hP
  have hS':SetW P w s'.heap S (firstMet val i):=hS.keep fun o q=>hm.heap S o nw q
  refine wpAny_bind (m:=holding [Value.int (val i) t] (setAdd S (.int (val i) t))) (wpAny_holding ?_)
  unfold setAdd
  refine wpAny_holding (wpAny_bind ((intKind P w).pyHash (k:=val i) (intKind_is _ _ _ _) ?_))
  have room:(firstMet val i).length+1<scanBound:=by
   have:=firstMet_length_le val i
   omega
  refine yX (s:={ s' with toks:=s'.toks+1 }) hS' room fun h' b sb S2=>?_
  rw [<- firstMet_succ] at S2
  refine wpAny_pure ⟨plainId_quiet F.plain_set_update_loop _,ih (i+1) _ (by omega) hlt (W.frame _ s' _ _ hst' (Nat.le_succ _) fun b hb o e=>?_) S2 fun s2 m2 S3=>?_⟩
  ·rw [sb.2 b (fun z:b=S=>hSf (z ▸ hb))]; exact e
  ·refine hR s2 (Moved.trans W.gtrans ((hm.mono up).then_heap (Nat.le_succ _) fun b o hb e=>?_) m2) S3
   rw [sb.2 b (fun z:b=S=>hb (by rw [z]; exact List.mem_cons_self))]; exact e
end
section
variable {P:Program} {w:World} {A:Around} {E:Value->Shared->Prop} {s:Shared}
def cS (w:World):Obj:={ cls:=.type "set",dict:=none,data:=.set #[] 0 (.fresh 0 0 (!byT w)) }
theorem FC (h:Heap) (hg:h.get? a=some (cS w)):SetW P w h a []:=
 ⟨_,#[],0,_,hg,⟨rfl,rfl,rfl⟩,rfl,(fun e he=>by cases he),(fun e he=>by cases he),List.Perm.refl _,by decide,rfl,⟨List.Pairwise.nil,rfl,rfl⟩⟩
theorem z9 (a:Value) {Q₁:Value->Shared->Prop} (h:Q₁ (.ref s.heap.objs.size) { s with heap:=s.heap.push (cS w) }) :
  codeAny (model P w) A (.call (.builtin "set.__new__") ⟨[.type "set",a],[]⟩) (wants Q₁ E) s:=by
 refine codeAny_of_tree ?_
 show wpAny _ A.in1 (do checkBuiltinCall "set.__new__" ⟨[.type "set",a],[]⟩; again (.builtin "set.__new__" ⟨[.type "set",a],[]⟩)) _ _ s
 refine wpAny_bind (wpAny_of_eq (F.newCall_set_1 a) (wpAny_pure ⟨plainId_quiet F.plain_set_new _,codeAny_builtin F.entry_set_new ?_⟩))
 rw [Around.under_plainId F.plain_set_new _]
 unfold Builtin.«set.__new__» Builtin.Frozenset.newClass
 have hsub:=sub_set_self
 obtain ⟨hp,g,d,tk,os⟩:=s
 dsimp only
 wp_walk
 refine wpAny_askSetting (wpAny_pure ?_)
 dsimp only
 simp only [newObj]
 exact wpAny_bind (wpAny_alloc (wpAny_pure (wpAny_pure h)))
set_option maxHeartbeats 3200000 in
theorem z8 {l:Addr} {items:Array Value} {ns:List Int} {Q:Value->Shared->Prop} (hh:A.handled=none) (hl:s.heap.IsList l items) (hi:IntsAre items.toList ns) (hb:items.size+1<scanBound)
  (h:∀ (h':Heap) (tk:Nat),SetW P w h' s.heap.objs.size (firstMet (fun i=>ns.getD i 0) items.size)->(∀ b o,b<s.heap.objs.size->s.heap.get? b=some o->h'.get? b=some o)->Q (.ref s.heap.objs.size) { s with heap:=h',toks:=tk }) :
  wpAny (model P w) A (call (.type "set") [.ref l]) Q E s:=by
 obtain ⟨c,tl,hmro⟩:=F.called_set.mro
 have hmade:=F.called_set.made
 have hsub:=F.called_set.sub
 refine wpAny_call (codeAny_of_tree ?_)
 show wpAny _ _ (callAny (.type "set") _) _ _ _
 refine wpAny_pure ⟨Code.quiet_builtin _ (by decide +kernel),codeAny_builtin F.entry_type_call ?_⟩
 rw [Around.under_plain (weight_type_call_type "set" [.ref l] []) rfl]
 have h1:=F.called_set.notType
 have h2:=F.called_set.canCreate
 have hct:=F.typeCall_set_1 (.ref l)
 repeat (any_goals (first | assumption | wp_step))
 refine codeAny_mono (z9 (.ref l) (E:=E) (Q₁:=fun obj s₁=>obj=.ref s.heap.objs.size/\s₁={ s with heap:=s.heap.push (cS w) }) ⟨rfl,rfl⟩) fun r s₁ hr=>?_
 cases r with
 | error e=>exact hr
 | ok fl =>
  cases fl with
  | ret obj =>
   obtain ⟨rfl,rfl⟩:=hr
   have hS:(s.heap.push (cS w)).get? s.heap.objs.size=some (cS w):=Heap.get?_push_size _ rfl
   have hT:Shared.TypeIs { s with heap:=s.heap.push (cS w) } (.ref s.heap.objs.size) "set" := ⟨_,hS,rfl⟩
   have hli:=F.called_set.init.lookup
   have hbi:=F.called_set.init.bind (.ref s.heap.objs.size)
   repeat (any_goals (first | assumption | wp_step))
   refine codeAny_mono (codeAny_call_builtin (R:=wants (fun r s₂=>r=.none/\∃ h' tk,s₂={ s with heap:=h',toks:=tk }/\SetW P w h' s.heap.objs.size (firstMet (fun i=>ns.getD i 0) items.size) /\
     (∀ b o,b<s.heap.objs.size->s.heap.get? b=some o->h'.get? b=some o)) E) F.called_set.init.plain F.entry_set_init (check_set_init_1 hT ?_)) fun r₂ s₂ hr₂=>?_
   ·obtain ⟨ol,hol,hcl,nl,hdl⟩:=hl
    obtain ⟨ocls,odict,odata,oslots⟩:=ol
    simp only at hcl hdl
    subst hcl; subst hdl
    have hol':(s.heap.push (cS w)).get? l=some { cls:=.type "list",dict:=odict,data:=.seq items nl,slots:=oslots }:=Heap.get?_push_of_some _ hol
    have hsls:=F.sub_list_set
    have hslf:=F.sub_list_frozenset
    have hl1:(s.heap.push (cS w)).IsList l items:=⟨_,hol',rfl,nl,rfl⟩
    have hne:(Value.type "list" == Value.type "dict")=false:=by decide
    have hS0:(s.heap.push (cS w)).get? s.heap.objs.size=some { cls:=.type "set",dict:=none,data:=.set #[] 0 (.fresh 0 0 (!byT w)) }:=hS
    unfold Builtin.«set.__init__» noKeywords Builtin.Frozenset.updateFrom
    generalize hPI:pyIter=PI
    wp_walk
    subst hPI
    refine wpAny_pyIter_list hl1 (wpAny_bind (wpAny_runValue ?_))
    have hlS:l<s.heap.objs.size:=Heap.lt_size hol
    have hh3:A.in1.in1.in1.handled=none:=by simp [hh]
    have neI:l≠(s.heap.push (cS w)).objs.size:=by rw [Heap.size_push]; exact Nat.ne_of_lt (Nat.lt_succ_of_lt hlS)
    have nS:s.heap.objs.size∉[(s.heap.push (cS w)).objs.size,l]:=by
     rw [Heap.size_push]
     simp only [List.mem_cons,List.mem_singleton,List.not_mem_nil,or_false,not_or]
     exact ⟨Nat.ne_of_lt (Nat.lt_succ_self _),Nat.ne_of_gt hlS⟩
    refine wR ((Walks.list hh3 _ l neI items).toS) s.heap.objs.size nS (fun i=>ns.getD i 0) (fun i v hv=>IntsAre.int_at hi i v (by rw [Array.getElem?_toList]; exact hv)) hb (items.size-0) 0 _ (by omega) (Nat.zero_le _)
     ⟨⟨_,Heap.get?_push_size _ rfl,rfl,rfl⟩,(hl1.push _)⟩ ?_ ?_
    ·exact FC (w:=w) _ (Heap.get?_push_of_some _ hS)
    ·rintro ⟨h',g',d',tk',os'⟩ hm hS'
     have eg:g'=s.gens:=hm.gens
     have ed:d'=s.drawn:=hm.drawn
     have eo:os'=s.os:=hm.os
     subst eg ed eo
     refine wpAny_pure ?_
     show wpAny _ _ (ret Value.none) _ _ _
     refine wpAny_pure ⟨rfl,h',tk',rfl,hS',fun b o hb e=>?_⟩
     refine hm.heap b o ?_ (Heap.get?_push_of_some _ (Heap.get?_push_of_some _ e))
     rw [Heap.size_push]
     simp only [List.mem_cons,List.mem_singleton,List.not_mem_nil,or_false,not_or]
     exact ⟨Nat.ne_of_lt hb,Nat.ne_of_lt (Nat.lt_succ_of_lt hb)⟩
   ·cases r₂ with
    | error e=>exact hr₂
    | ok fl₂ =>
     cases fl₂ with
     | ret r =>
      obtain ⟨rfl,h',tk,rfl,hS',hk'⟩:=hr₂
      repeat (any_goals (first | assumption | wp_step))
      exact h _ _ hS' hk'
     | next=>exact hr₂
     | brk=>exact hr₂
     | cont=>exact hr₂
  | next=>exact hr
  | brk=>exact hr
  | cont=>exact hr
end
end L2
set_option Elab.async false
set_option linter.all false
set_option maxRecDepth 100000
namespace L2
open PySem PySem.Spec PyProof.Rows
namespace SF
end SF
def z4 (h:Heap) (I S:Addr) (first:Value) (i n ep:Nat):Prop := ∃ o,h.get? I=some o/\o.cls=.type "set_iterator" /\ o.data=.fields #[first,.int i 0,.ref S,.int n 0,.int ep 0]
def DN (w:World) (es:Array (Int×Value)) (ep:Nat) (t:SetTable) (S T:Addr) (L:List Value) (h:Heap) (i:Nat) (first:Value):Prop:=
 (byT w=true/\(∃ z:Nat,first=.int z 0)/\L=(pickOrder (w.params.setOrder S ep) es).toList.map (·.2)) \/
 (byT w=false/\(t.plain=true\/es.size<=1)/\(∃ z:Nat,first=.int z 0/\SetTable.below t.place z=i)/\L=es.toList.map (·.2)) \/
 (byT w=false/\first=.ref T/\∃ pl:List Nat,pl.Perm (List.range es.size)/\(∃ o e,h.get? T=some o/\o.data=.seq (pl.map fun p:Nat=>Value.int (p:Int) 0).toArray e)/\L=pl.map fun p=>(es.getD p (0,.none)).2)
structure SetSt (w:World) (es:Array (Int×Value)) (ep:Nat) (t:SetTable) (S T I:Addr) (L:List Value) (i:Nat) (h:Heap):Prop where
 set:∃ o,h.get? S=some o/\o.data=.set es ep t
 it:∃ first,z4 h I S first i es.size ep/\DN w es ep t S T L h i first
section
variable {P:Program} {w:World} {A:Around} {E:Value->Shared->Prop} {s:Shared} {es:Array (Int×Value)} {ep:Nat} {t:SetTable} {S T I:Addr} {L:List Value} {i:Nat}
end
end L2
set_option Elab.async false
set_option linter.all false
set_option maxRecDepth 100000
namespace L2
open PySem PySem.Spec PyProof.Rows
namespace SF
end SF
section
variable {P:Program} {w:World} {A:Around} {E:Value->Shared->Prop} {s:Shared} {es:Array (Int×Value)} {ep:Nat} {t:SetTable} {S T I:Addr} {L:List Value}
end
end L2
set_option Elab.async false
set_option linter.all false
set_option maxRecDepth 100000
namespace L2
open PySem PySem.Spec PyProof.Rows
section
variable {P:Program} {w:World} {A:Around} {E:Value->Shared->Prop} {s:Shared} {S:Addr} {ns:List Int}
end
end L2
set_option Elab.async false
set_option linter.all false
set_option maxRecDepth 100000
namespace L2
open PySem PySem.Spec PyProof.Rows
abbrev rE (P:Program) (w:World) (S:Addr) (ns:List Int):HO:=.ext fun h=>SetW P w h S ns
theorem tZ:∀ {ns:List Int} {us:List Value},Vals (ns.map V.int) us->IntsAre us ns
 | [],_,.nil=>.nil
 | n :: r,_,.cons ⟨t,e⟩ z=>by
  subst e
  exact .cons n t (tZ z)
def aA (ns:List Int):List Int:=ns.foldl step_dedup []
theorem uq (ns:List Int):firstMet (fun i=>ns.getD i 0) ns.length=aA ns:=by
 unfold firstMet aA
 congr 1
 refine List.ext_getElem (by simp) fun i h1 h2=>?_
 simp [List.getD,h2]
theorem Ad {s:List Int} {v k:Int}:k∈step_dedup s v↔k∈s\/k=v:=by
 unfold step_dedup
 split
 ·rename_i h
  have hv:v∈s:=by simpa using h
  exact ⟨.inl,fun z=>z.elim id fun e=>e ▸ hv⟩
 ·simp
theorem xa {s:List Int} {v:Int} (h:s.Nodup):(step_dedup s v).Nodup:=by
 unfold step_dedup
 split
 ·exact h
 ·rename_i c
  have hv:v∉s:=by simpa using c
  exact List.nodup_append.mpr ⟨h,by simp,fun a ha b hb e=>hv (by rw [<- List.mem_singleton.mp hb,<- e]; exact ha)⟩
theorem p9:∀ (ns s:List Int) (k:Int),k∈ns.foldl step_dedup s↔k∈s\/k∈ns
 | [],s,k=>by simp
 | n :: r,s,k=>by
  rw [List.foldl_cons,p9 r,Ad,List.mem_cons]
  constructor
  ·rintro ((h | h) | h)
   ·exact .inl h
   ·exact .inr (.inl h)
   ·exact .inr (.inr h)
  ·rintro (h | h | h)
   ·exact .inl (.inl h)
   ·exact .inl (.inr h)
   ·exact .inr h
theorem once_mem {ns:List Int} {k:Int}:k∈aA ns↔k∈ns:=by
 unfold aA
 rw [p9]
 simp
theorem lP:∀ (ns s:List Int),s.Nodup->(ns.foldl step_dedup s).Nodup
 | [],s,h=>h
 | n :: r,s,h=>lP r _ (xa h)
theorem sW (ns:List Int):(aA ns).Nodup:=lP ns [] List.Pairwise.nil
theorem dR:∀ (ns s:List Int),(ns.foldl step_dedup s).length<=s.length+ns.length
 | [],s=>Nat.le_refl _
 | n :: r,s=>by
  refine Nat.le_trans (dR r _) ?_
  have:(step_dedup s n).length<=s.length+1:=by
   unfold step_dedup
   split
   ·exact Nat.le_succ _
   ·rw [List.length_append]; exact Nat.le_refl _
  rw [List.length_cons]
  omega
theorem i7 (ns:List Int):(aA ns).length<=ns.length:=by
 have q:=dR ns []
 unfold aA
 simpa using q
section
variable {X:Cx}
theorem kK (hc:X.calm=true):eU X (.type "set") (fun xs H Q=>∃ (a:Addr) (ns:List Int),xs=[.ref a]/\H a=some (.lst (ns.map V.int))/\ns.length<4000/\∀ S,H S=none->Q (.ref S) (upd H S (rE X.prog X.w S (aA ns)))):=by
 intro pins s σ H xs us Q I r h
 obtain ⟨a,ns,rfl,ha,hz,q⟩:=h
 obtain ⟨u,rfl,rx⟩:=vals1 r
 cases rx
 obtain ⟨_,its,n,rv,hl,e⟩:=I.lstM ha
 have hln:its.length=ns.length:=by rw [<- hl,List.length_map]
 refine z8 (I.ok.hd hc) ⟨_,e,rfl,n,rfl⟩ (ns:=ns) (by simpa using tZ rv) (by simp only [List.size_toArray]; unfold scanBound; omega) fun h' tk hS keep=>?_
 have k2:∀ b o,s.heap.get? b=some o->h'.get? b=some o:=fun b o z=>keep b o (Heap.lt_size z) z
 have hS':SetW X.prog X.w h' s.heap.objs.size (aA ns):=by
  simp only [List.size_toArray] at hS
  rw [hln,uq] at hS
  exact hS
 refine ⟨.ref s.heap.objs.size,_,I.laid (o:=rE X.prog X.w s.heap.objs.size (aA ns)) (t' := tk) k2 (Nat.le_refl _) (show SetW X.prog X.w h' s.heap.objs.size (aA ns)/\(∃ o,h'.get? s.heap.objs.size=some o)/\∀ h1 h2:Heap,SetW X.prog X.w h1 s.heap.objs.size (aA ns)->(∀ o,h1.get? s.heap.objs.size=some o->h2.get? s.heap.objs.size=some o)->SetW X.prog X.w h2 s.heap.objs.size (aA ns) from ⟨hS',?_,fun h1 h2 p kp=>p.keep kp⟩),rfl,q _ (I.hok.fresh (Nat.le_refl _))⟩
 obtain ⟨o,es,ep,t,ho,_⟩:=hS'
 exact ⟨o,ho⟩
end
end L2
set_option Elab.async false
set_option linter.all false
set_option maxRecDepth 100000
namespace PySem
open PyProof.Rows
theorem sq:typeLookup (.type "list") "keys" = pure none:=by rw [typeLookup_type,builtinLookup_eq_fast]; kernel_rfl
theorem kq {prog:Program} {w:World} {A:Around} {E:Value->Shared->Prop} {s:Shared} {a:Addr} {xs:Array Value} {k:Nat} {sl:Array (Option Value)} {Q:Option Value->Shared->Prop}
  (hx:s.heap.get? a=some { cls:=.type "list",dict:=none,data:=.seq xs k,slots:=sl }) (hA:A.handled=none)
  (h:∀ h' tk,(∀ b o,s.heap.get? b=some o->h'.get? b=some o)->Q none { s with heap:=h',toks:=tk }):wpAny (model prog w) A (getAttr? (.ref a) "keys") Q E s:=by
 obtain ⟨hp,g,d,tk,os⟩:=s
 have hT:∀ tk',(⟨hp,g,d,tk',os⟩:Shared).TypeIs (.ref a) "list" := fun _=>⟨_,hx,rfl⟩
 have f1:=sub_AttributeError
 have f3:=F.slot_list_getattribute.lookup
 have f4:=F.slot_list_getattribute.bind (.ref a)
 have f5:=am_list_getattr_none
 have hmiss:=sq
 have hname:(["__module__","__name__","__qualname__","__doc__","__annotations__"]:List Str).contains (Str.ofString "keys")=false:=by decide +kernel
 unfold getAttr? getAttrBy? getAttrBy
 repeat (any_goals (first | assumption | exact hT _ | ((with_reducible show wpAny _ _ (call (Value.builtin "list.__getattribute__") _ _) _ _ _); refine call_meets F.slot_list_getattribute (hT _) am_entry_list_getattribute (F.args_list_getattribute_2 _ _) (meets_getattribute_miss_list a xs k sl (Str.ofString "keys") _ hmiss hname (by decide)) ⟨hx,hA,fun h' tk' e hx'=>?_⟩) | wp_step))
 obtain ⟨t',u',he⟩:=hx'.there
 show wpAny _ _ (getattributeRaised _ _ _ _ _ _ _) _ _ _
 unfold getattributeRaised
 repeat (any_goals (first | assumption | wp_step))
 exact h h' tk' hx'.keeps
section
variable {prog:Program} {w:World} {K:Type} [DecidableEq K] {knd:KeyKind prog w K} {A:Around} {E:Value->Shared->Prop} {s:Shared} {R:Result->Shared->Prop}
theorem cM:entryFor table "dict.update.loop" = some Builtin.«dict.update.loop» := entryFor_of_tree (by kernel_rfl)
theorem bj:plainId "dict.update.loop" = true:=by decide +kernel
def rD (knd:KeyKind prog w K) (h:Heap) (ts:List Addr) (ps:List (K×Value)):Prop := ∀ (j:Nat) (t:Addr) (p:K×Value),ts[j]?=some t->ps[j]?=some p->∃ key,knd.is p.1 key=true/\IsTup h t #[key,p.2]
theorem xY {D I l:Addr} {ts:List Addr} {ps:List (K×Value)} (W:Walks prog w A.in1 I [I,l] [I] ts.length (fun i v=>(ts.map Value.ref).toArray[i]?=some v) (fun i h=>h.IsListIter I l i/\h.IsList l (ts.map Value.ref).toArray))
  (hl:ts.length=ps.length) (hDI:D≠I) (hDl:D≠l) (hDt:∀ t∈ts,t≠D/\t≠I) (hz:ps.length<=sizeLine) :
  ∀ (k i:Nat) (s:Shared) (acc:List (K×Value)),ts.length-i=k->i<=ts.length->(s.heap.IsListIter I l i/\s.heap.IsList l (ts.map Value.ref).toArray)->s.heap.DictOf knd D acc->acc.length<=i->rD knd s.heap ts ps ->
  (∀ h' tk,(∀ b o,b≠D->b≠I->s.heap.get? b=some o->h'.get? b=some o)->h'.DictOf knd D (merged acc (ps.drop i))->R (.ok (.ret .none)) { s with heap:=h',toks:=tk }) ->
  codeAny (model prog w) A (.builtin "dict.update.loop" ⟨[.ref D,.ref I,rawInt (i:Int),.none],[]⟩) R s:=by
 intro k
 induction k with
 | zero =>
  intro i s acc hk hi hst hD hacc hP hR
  have hin:i=ts.length:=by omega
  subst hin
  refine codeAny_builtin cM ?_
  rw [Around.under_plainId bj _]
  show wpAny _ A.in1 (pyNext (.ref I)>>=_) _ _ s
  refine wpAny_bind (W.done s _ _ hst fun h' tk hm=>?_)
  show wpAny _ _ (Builtin.Dict.addKeywords D []>>=_) _ _ _
  refine wpAny_bind (wpAny_of_eq (a:=()) rfl ?_)
  have e:ps.drop ts.length=[]:=by rw [hl,List.drop_length]
  refine wpAny_pure (hR h' tk (fun b o _ hb q=>hm b o (by simpa using hb) q) ?_)
  rw [e]
  exact hD.extBut (b:=I) (fun b o hb q=>hm b o (by simpa using hb) q) hDI
 | succ k ih =>
  intro i s acc hk hi hst hD hacc hP hR
  have hlt:i<ts.length:=by omega
  have hlt2:i<ps.length:=by omega
  refine codeAny_builtin cM ?_
  rw [Around.under_plainId bj _]
  show wpAny _ A.in1 (pyNext (.ref I)>>=_) _ _ s
  refine wpAny_bind (W.item i s _ _ hlt hst fun v h' tk hv hst' hm=>?_)
  have ev:v=.ref ts[i]:=by
   have:(ts.map Value.ref).toArray[i]?=some (.ref ts[i]):=by simp [hlt]
   rw [this] at hv
   exact (Option.some.inj hv).symm
  subst ev
  have keep:∀ b o,b≠I->s.heap.get? b=some o->h'.get? b=some o:=fun b o hb q=>hm b o (by simpa using hb) q
  obtain ⟨key,hkey,ht⟩:=hP i ts[i] ps[i] (List.getElem?_eq_getElem hlt) (List.getElem?_eq_getElem hlt2)
  have tn:=hDt ts[i] (List.getElem_mem hlt)
  have ht':IsTup h' ts[i] #[key,(ps[i]).2]:=ht.extBut (b:=I) keep tn.2
  have hD':h'.DictOf knd D acc:=hD.extBut (b:=I) keep hDI
  obtain ⟨ot,hot,hct,nt,hdt⟩:=id ht'
  try dsimp only
  refine wpAny_bind (wpAny_holding ?_)
  refine wpAny_bind (wpAny_tryCatch ?_)
  unfold Builtin.Dict.pairItems
  refine wpAny_bind (wpAny_typeOf (s:={ s with heap:=h',toks:=tk }) ht'.typeIs ?_)
  rw [if_pos (by decide)]
  refine wpAny_bind (wpAny_seqItems (s:={ s with heap:=h',toks:=tk }) hot hdt ?_)
  refine wpAny_pure ?_
  show wpAny _ _ (holding [key,(ps[i]).2] (dictSet D key (ps[i]).2)) _ _ _
  refine wpAny_holding (wpAny_dictSet_pairs (knd:=knd) (s:={ s with heap:=h',toks:=tk }) hkey hD' (fun h2 hD2 sb2=>?_) (by omega))
  have keep2:∀ b o,b≠D->h'.get? b=some o->h2.get? b=some o:=fun b o hb q=>sb2.extBut b o hb q
  refine wpAny_pure ⟨plainId_quiet bj _,?_⟩
  have ri:rawInt ((i:Int)+1)=rawInt (((i+1:Nat)):Int):=by push_cast; rfl
  rw [ri]
  refine ih (i+1) { s with heap:=h2,toks:=tk+1 } (stored acc (ps[i]).1 (ps[i]).2) (by omega) hlt ⟨hst'.1.at fun o q=>keep2 I o (Ne.symm hDI) q,hst'.2.at fun o q=>keep2 l o (Ne.symm hDl) q⟩ hD2 (by
   have:=stored_length_le acc (ps[i]).1 (ps[i]).2
   omega) (fun j t p h1 h2'=>?_) (fun h3 tk3 kp3 hD3=>?_)
  ·obtain ⟨key',hk',ht''⟩:=hP j t p h1 h2'
   have tn' := hDt t (List.mem_of_getElem? h1)
   exact ⟨key',hk',(ht''.extBut (b:=I) keep tn'.2).extBut (b:=D) keep2 tn'.1⟩
  ·refine hR h3 tk3 (fun b o hb hb2 q=>kp3 b o hb hb2 (keep2 b o hb (keep b o hb2 q))) ?_
   rw [List.drop_eq_getElem_cons hlt2]
   exact hD3
theorem qj {l:Addr} {ts:List Addr} {ps:List (K×Value)} {c:Nat} {Q:Value->Shared->Prop} (hh:A.handled=none) (hL:s.heap.get? l=some { cls:=.type "list",dict:=none,data:=.seq (ts.map Value.ref).toArray c,slots := #[] })
  (hl:ts.length=ps.length) (hP:rD knd s.heap ts ps) (hz:ps.length<=sizeLine)
  (hQ:∀ h' tk,(∀ b o,s.heap.get? b=some o->h'.get? b=some o)->h'.DictOf knd s.heap.objs.size (merged [] ps)->Q (.ref s.heap.objs.size) { s with heap:=h',toks:=tk }) :
  wpAny (model prog w) A (call (.type "dict") [.ref l]) Q E s:=by
 refine callType_codes (Q₁:=fun obj s₁=>obj=.ref s.heap.objs.size/\s₁={ s with heap:=s.heap.push { cls:=.type "dict",data:=.dict #[] } }) F.kt_called_dict (F.kt_typeCall_dict_1 _) F.entry_dict_init (kt_code_dict_new _ ⟨rfl,rfl⟩) ?_
 rintro obj s₁ ⟨rfl,rfl⟩
 have hnew:(s.heap.push { cls:=.type "dict",data:=.dict #[] }).DictOf knd s.heap.objs.size []:=Heap.DictOf.new s.heap
 have hlt:l<s.heap.objs.size:=Heap.lt_size hL
 have hL':(s.heap.push { cls:=.type "dict",data:=.dict #[] }).get? l=some { cls:=.type "list",dict:=none,data:=.seq (ts.map Value.ref).toArray c,slots := #[] }:=Heap.get?_push_of_some _ hL
 refine ⟨hnew.typeIs,F.args_dict_init_2 _ _,?_⟩
 unfold Builtin.«dict.__init__»
 refine wpAny_bind ?_
 unfold Builtin.Dict.selfAndRest
 refine wpAny_bind (wpAny_notOrdered_dict hnew.typeIs ?_)
 show wpAny _ _ (pure (s.heap.objs.size,[Value.ref l])) _ _ _
 refine wpAny_pure ?_
 show wpAny _ _ (Builtin.Dict.updateFrom "dict.__init__" s.heap.objs.size (.ref l) [] .none) _ _ _
 unfold Builtin.Dict.updateFrom
 refine wpAny_bind (wpAny_typeOf (T := "list") ⟨_,hL',rfl⟩ ?_)
 rw [if_pos (by decide)]
 refine wpAny_bind (kq hL' hh fun h1 tk1 kp1=>?_)
 rw [if_pos (by rfl)]
 refine wpAny_bind (wpAny_rule ?_)
 have hL1:=kp1 _ _ hL'
 have il1:Heap.IsList h1 l (ts.map Value.ref).toArray:=⟨_,hL1,rfl,c,rfl⟩
 refine wpAny_bind (wpAny_pyIter_list (s:={ s with heap:=h1,toks:=tk1 }) il1 ?_)
 refine wpAny_pure ⟨plainId_quiet bj _,?_⟩
 have oI:(h1.push { cls:=.type "list_iterator",data:=.fields #[.ref l,.int 0 0] }).get? h1.objs.size=some { cls:=.type "list_iterator",data:=.fields #[.ref l,.int 0 0] }:=Heap.get?_push_size _ rfl
 have l1:l<h1.objs.size:=Heap.lt_size hL1
 have d1:s.heap.objs.size<h1.objs.size:=Heap.lt_size (kp1 _ _ (Heap.get?_push_size s.heap rfl))
 have W:=Walks.list (prog:=prog) (w:=w) (A:=A.in1.in1) hh h1.objs.size l (Nat.ne_of_lt l1) (ts.map Value.ref).toArray
 have sz:(ts.map Value.ref).toArray.size=ts.length:=by simp
 rw [sz] at W
 have kp2:∀ b o,s.heap.get? b=some o->(h1.push { cls:=.type "list_iterator",data:=.fields #[.ref l,.int 0 0] }).get? b=some o:=fun b o q=>Heap.get?_push_of_some _ (kp1 _ _ (Heap.get?_push_of_some _ q))
 refine xY (A:=A.in1) (knd:=knd) (D:=s.heap.objs.size) (ps:=ps) W hl (Nat.ne_of_lt d1) (Nat.ne_of_gt hlt) (fun t ht=>?_) hz ts.length 0 { s with heap:=h1.push { cls:=.type "list_iterator",data:=.fields #[.ref l,.int 0 0] },toks:=tk1 } [] rfl (Nat.zero_le _) ⟨⟨_,oI,rfl,rfl⟩,il1.at fun o q=>Heap.get?_push_of_some _ q⟩ ?_ (Nat.zero_le _) (fun j t p a1 a2=>?_) (fun h3 tk3 kp3 hD3=>?_)
 ·obtain ⟨j,hj⟩:=List.mem_iff_getElem?.mp ht
  have jl:j<ps.length:=by
   rw [<- hl]
   exact (List.getElem?_eq_some_iff.mp hj).1
  obtain ⟨key,_,o,ho,_⟩:=hP j t ps[j] hj (List.getElem?_eq_getElem jl)
  have tl:=Heap.lt_size ho
  exact ⟨Nat.ne_of_lt tl,Nat.ne_of_lt (Nat.lt_trans tl d1)⟩
 ·exact hnew.extBut (b:=h1.objs.size) (fun b o _ q=>Heap.get?_push_of_some _ (kp1 _ _ q)) (Nat.ne_of_lt d1)
 ·obtain ⟨key,hk,ht⟩:=hP j t p a1 a2
  exact ⟨key,hk,ht.keeps kp2⟩
 ·exact ⟨rfl,hQ h3 tk3 (fun b o q=>kp3 b o (Nat.ne_of_lt (Heap.lt_size q)) (Nat.ne_of_lt (Nat.lt_trans (Heap.lt_size q) d1)) (kp2 b o q)) hD3⟩
end
end PySem
namespace L2
open PySem PySem.Spec PyProof.Rows
section
variable {X:Cx}
def PairsV (H:Hp):List Addr->List (Key×V)->Prop:=Paired fun a p=>H a=some (.tup [kV p.1,p.2])
theorem sM {P:Program} {w:World}:∀ {kvs:List (Key×V)} {ts:List Addr} {H:Hp} {h:Heap},PairsV H ts kvs->HOk P w H h->∃ ps:List (Key×Value),KV kvs ps/\ps.length=ts.length/\rD (aV P w) h ts ps
 | [],[],_,_,.nil,_=>⟨[],.nil,rfl,fun j t p h=>by simp at h⟩
 | _,_,_,_,.cons (a:=a) (b:=p) (l₁:=ts) (l₂:=kvs) q t,ok=>by
  obtain ⟨ps,r1,r2,r3⟩:=sM t ok
  obtain ⟨z,its,rv,ht⟩:=ok a _ q
  obtain ⟨u,v,rfl,ru,rv'⟩:=Vals.two rv
  refine ⟨(p.1,v) :: ps,.cons ⟨rfl,rv'⟩ r1,by simp [r2],fun j t' p' h1 h2=>?_⟩
  cases j with
  | zero =>
   simp at h1 h2
   subst h1 h2
   exact ⟨u,lO ru,by simpa using ht⟩
  | succ j=>exact r3 j t' p' (by simpa using h1) (by simpa using h2)
def Ds:List V->Hp->VK->Prop:=fun xs H Q=>∃ l ts kvs,xs=[.ref l]/\H l=some (.lst (ts.map V.ref))/\PairsV H ts kvs/\∀ D,H D=none->Q (.ref D) (upd H D (.dK (cT [] kvs)))
theorem kY:∀ {ts:List Addr} {us:List Value},Vals (ts.map V.ref) us->us=ts.map Value.ref
 | [],_,.nil=>rfl
 | t :: ts,_,.cons r q=>by
  cases r
  rw [List.map_cons,kY q]
theorem j8 (hc:X.calm=true):eU X (.type "dict") Ds:=by
 intro pins s σ H xs us Q I r h
 obtain ⟨l,ts,kvs,rfl,hl,hp,q⟩:=h
 obtain ⟨u,rfl,rx⟩:=vals1 r
 cases rx
 obtain ⟨z,its,n,rv,hln,e⟩:=I.lstM hl
 have ei:=kY rv
 subst ei
 obtain ⟨ps,r1,r2,r3⟩:=sM hp I.hok
 have hlen:kvs.length=ps.length:=Paired.length r1
 have zl:ps.length<=sizeLine:=by
  rw [r2]
  rw [List.length_map] at z
  exact z
 refine qj (knd:=aV X.prog X.w) (I.ok.hd hc) e r2.symm r3 zl fun h' tk kp dd=>?_
 have ob:ObjOk X.prog X.w (upd H s.heap.objs.size (.dK (cT [] kvs))) h' s.heap.objs.size (.dK (cT [] kvs)):=by
  refine rY ?_ (beq_eq_false_iff_ne.mpr (Ne.symm (Nat.ne_of_lt I.big))) (KV.merge r1 .nil) dd
  have:=iK kvs []
  simp only [List.length_nil] at this
  omega
 exact ⟨.ref _,_,I.laid (t' := tk) kp (Nat.le_refl _) ob,rfl,q _ (I.hok.fresh (Nat.le_refl _))⟩
end
section
variable {X:Cx} {pins:List (Addr×Obj)} {σ:St} {H:Hp} {s:Shared} {a:Addr} {z:V} {u r:Value} {A:Around} {E:Value->Shared->Prop} {kvs:List (Key×V)} {k:Key}
theorem vL {Q:Value->Shared->Prop} (I:Inv X pins σ H s) (e:H a=some (.dK kvs)) (hz:kvs.length<sizeLine) (ry:RelV (kV k) u) (rz:RelV z r)
  (h1:∀ v w' s',eR kvs k=some v->Inv X pins σ H s'->RelV v w'->Q w' s') (h2:∀ s',eR kvs k=none->Inv X pins σ (upd H a (.dK (putK kvs k z))) s'->Q r s') :
  wpAny (model X.prog X.w) A (call (.builtin "dict.setdefault") [.ref a,u,r]) Q E s:=by
 obtain ⟨zl,hd,vs,rel,dd⟩:=zB I.hok e
 have rv:=rel.val k
 refine call_meetsIn PySem.F.slot_dict_setdefault dd.typeIs PySem.F.entry_dict_setdefault (PySem.F.args_dict_setdefault_3 _ _ _) (kt_meets_setdefault (aV X.prog X.w) a (lO ry) hd r) ⟨vs,dd,by rw [<- rel.length]; exact zl,fun v hv=>?_,fun hn h' dd' sb=>?_⟩
 ·cases hk:eR kvs k with
  | none=>rw [hk,hv] at rv; exact rv.elim
  | some x =>
   rw [hk,hv] at rv
   exact h1 x v _ hk (I.tok _) rv
 ·have hk:eR kvs k=none:=by
   cases hk:eR kvs k with
   | none=>rfl
   | some x=>rw [hk,hn] at rv; exact rv.elim
  refine h2 _ hk (kL (t' := s.toks+1) I (by rw [e]; trivial) sb ?_ (rY (kvs:=putK kvs k z) (by have:=fK kvs k z; omega) hd (rel.put k rz) dd'))
  obtain ⟨ob,_,_,g,_⟩:=dd'
  exact ⟨ob,g⟩
end
def Fd (td ty tx:TE):TE:=fun σ H Q=>td σ H fun x H1=>∃ a,x=.ref a/\IsD H1 a/\ty σ H1 fun y H2=>tx σ H2 fun z H3=>∃ kvs k,H3 a=some (.dK kvs)/\y=kV k/\kvs.length<sizeLine /\
 (∀ v,eR kvs k=some v->Q v H3)/\(eR kvs k=none->Q z (upd H3 a (.dK (putK kvs k z))))
section
variable {X:Cx} {o e f:Expr} {apos cpos:Pos} {td ty tx:TE}
theorem wo (ho:PE X o td) (he:PE X e ty) (hf:PE X f tx) (m:M2 X o "setdefault" apos e f cpos):PE X (.Call (.Attribute o "setdefault" apos) [e,f] [] cpos) (Fd td ty tx):=by
 intro pins s σ H Q I h
 refine wpAny_Call_method m.base m.few m.line PySem.F.plainAttrs_dict PySem.F.slot_dict_setdefault PySem.F.type_dict_setdefault (thn (ho pins s σ H _ I h) fun u s1 ⟨x,H1,I1,rx,a,ex,d,q1⟩=>?_)
 subst ex
 obtain rfl:u=Value.ref a:=rx
 obtain ⟨t1,t2,_⟩:=yn I1 d
 refine ⟨t1,t2,?_⟩
 rw [m.trees]
 refine Calls.callWith_builtin rfl (Calls.evalArgs_plain (Calls.spliced_cons (thn (he pins s1 σ H1 _ I1 q1) fun iv s2 ⟨y,H2,I2,ry,q2⟩ =>
  Calls.spliced_cons (thn (hf pins s2 σ H2 _ I2 q2) fun fv s3 ⟨z,H3,I3,rz,kvs,k,ea,ey,hz,q3,q4⟩=>Calls.spliced_nil ?_))))
 subst ey
 exact vL I3 ea hz ry rz (fun v w' s' hv I4 rv=>⟨v,H3,I4,rv,q3 v hv⟩) fun s' hn I4=>⟨z,_,I4,rz,q4 hn⟩
end
end L2
set_option Elab.async false
set_option linter.all false
set_option maxRecDepth 100000
namespace L2
open PySem PySem.Spec PyProof.Rows
section
variable {X:Cx} {pins:List (Addr×Obj)} {σ:St} {H:Hp} {s:Shared} {a:Addr} {o:Obj} {kvs:List (Key×V)}
theorem Inv.freeze (I:Inv X pins σ H s) (e:H a=some (.dK kvs)) (ho:s.heap.get? a=some o):Inv X pins σ (upd H a (.frz o (.dK kvs))) s:=by
 have nt:∀ b u,H b=some u->(u=.dK kvs->False)->b≠a:=fun b u q d=>aE q e d
 refine I.un (t' := s.toks) ⟨fun b u q _ _ _=>q,fun b u q _ _ _=>⟨u.slots,q⟩,fun b u q n _=>?_,fun b u q _=>⟨u,q⟩,fun b xs q=>?_,fun b u xs q=>?_,fun b ps q=>⟨#[],?_⟩⟩ (fun b u q=>?_)
 ·rw [ah (fun z=>by rw [z,e] at n; cases n)]; exact n
 ·rw [ah (nt b _ q (by intro z; cases z))]; exact q
 ·rw [ah (nt b _ q (by intro z; cases z))]; exact q
 ·rw [ah (nt b _ q (by intro z; cases z)),q]; simp
 ·by_cases hb:b=a
  ·subst hb
   rw [ae] at q
   cases q
   exact ⟨ho,(I.hok b _ e)⟩
  ·rw [ah hb] at q
   exact (I.hok b u q).stay (fun c v _ z=>z) (fun c z=>by rw [ah (nt c _ z (by intro y; cases y))]; exact z) fun c xs z=>by rw [ah (nt c _ z (by intro y; cases y))]; exact z
end
def nM (o:Obj):Nat:=match o.data with
 | .dict _ ep=>ep
 | _=>0
def Itd (a:Addr) (o:Obj) (kvs:List (Key×V)):It:=
 ⟨fun i H=>i<kvs.length/\H a=some (.frz o (.dK kvs)),fun i H x H'=>H'=H/\∀ p,kvs[i]?=some p->x=kV p.1,fun i H=>kvs.length<=i/\H a=some (.frz o (.dK kvs))⟩
def Iti (a:Addr) (o:Obj) (kvs:List (Key×V)):It:=
 ⟨fun i H=>i<kvs.length/\H a=some (.frz o (.dK kvs)),fun i H x H'=>∃ T p,x=.ref T/\H T=none/\H'=upd H T (.tup [kV p.1,p.2])/\kvs[i]?=some p,fun i H=>kvs.length<=i/\H a=some (.frz o (.dK kvs))⟩
theorem jd {P:Program} {w:World} {H:Hp} {h:Heap} {a:Addr} {o:Obj} {kvs:List (Key×V)} (ok:HOk P w H h) (e:H a=some (.frz o (.dK kvs))):∃ vs,KV kvs vs/\h.DictAt (aV P w) a vs (nM o)/\(a==sysModules)=false/\h.get? a=some o:=by
 obtain ⟨ho,z,lo,vs,rel,ob,es,ep,hg,hx,hd,rest⟩:=ok a _ e
 rw [ho] at hg
 cases hg
 have ee:nM o=ep:=by unfold nM; rw [hd]
 exact ⟨vs,rel,⟨o,es,ho,hx,by rw [ee]; exact hd,rest⟩,lo,ho⟩
theorem AO {P:Program} {w:World} {K:PySem.W.Frag} {tg:Expr} (a it:Addr) (o:Obj) (kvs:List (Key×V)):Turn P w K tg (Itd a o kvs) [it] it (fun i h=>h.IsKeyIter it a i kvs.length (nM o)) where
 mem:=by simp
 obj:=fun i h st b hb=>by
  have e:b=it:=by simpa using hb
  subst e
  obtain ⟨o,e,c,d⟩:=st
  exact ⟨o,e,fun v z=>by rw [d] at z; cases z⟩
 keep:=fun i h h' st k=>by
  obtain ⟨ob,e,r⟩:=st
  exact ⟨ob,k it (by simp) ob e,r⟩
 item:=by
  intro X hP hw hK hc i pins s σ H E I hf st hg
  subst hP hw hK
  obtain ⟨hi,hfz⟩:=hg
  obtain ⟨vs,rel,dat,lo,ho⟩:=jd I.hok hfz
  have hlen:kvs.length=vs.length:=Paired.length rel
  have hv:i<vs.length:=by omega
  obtain ⟨f0,f1,f2,f3,f4,f5⟩:=hf it (by simp)
  rw [hlen] at st
  refine wpAny_pyNext_dict_item (knd:=aV X.prog X.w) st dat (k:=(vs[i]).1) (v:=(vs[i]).2) (List.getElem?_eq_getElem hv) fun key h' hk st' sb=>?_
  have I1:Inv X pins σ H { s with heap:=h' }:=I.turned (t' := s.toks) (fun b o hb e=>(sb.2 b hb).trans e) f0 f1 f3 f4 f5
  obtain ⟨p,e1,e2⟩:=fM rel (List.getElem?_eq_getElem hv)
  rw [<- hlen] at st'
  obtain ⟨ob,e,c,d⟩:=id st'
  refine ⟨key,rfl,zE (s:={ s with heap:=h' }) e c d (by decide) ⟨kV p.1,H,I1,?_,⟨rfl,fun p' hp'=>by rw [e1] at hp'; cases hp'; rfl⟩,st',fun b hb=>(hf b hb).1⟩⟩
  rw [e2.1]
  exact zJ hk
 done:=by
  intro X hP hw hK hc i pins s σ H E I hf st hg
  subst hP hw hK
  obtain ⟨hi,hfz⟩:=hg
  obtain ⟨vs,rel,dat,lo,ho⟩:=jd I.hok hfz
  have hlen:kvs.length=vs.length:=Paired.length rel
  obtain ⟨f0,f1,f2,f3,f4,f5⟩:=hf it (by simp)
  rw [hlen] at st
  exact wpAny_pyNext_dict_end (I.ok.hd hc) st dat (List.getElem?_eq_none (by omega)) fun h' eb=>⟨rfl,I.turned (t' := s.toks) (fun b o hb e=>eb b o hb e) f0 f1 f3 f4 f5⟩
 self:=fun A i s Q E st h=>by
  refine wpAny_pyIter_slot st.typeIs PySem.F.slot_dict_keyiterator_iter (wpAny_call_entry PySem.F.slot_dict_keyiterator_iter st.typeIs PySem.F.entry_dict_keyiterator_iter ?_ (PySem.F.args_dict_keyiterator_iter_1 _))
  show wpAny _ _ (ret (.ref it)) _ _ s
  exact wpAny_pure ⟨_,rfl,"dict_keyiterator",_,st.typeIs,PySem.F.slot_dict_keyiterator_next.lookup,h⟩
section
variable {X:Cx} {tg:Expr}
def EV (tl:TE):TI:=fun σ H R=>tl σ H fun x H1=>∃ a kvs,x=.ref a/\((H1 a=some (.dK kvs)/\∀ o,R (Itd a o kvs) (upd H1 a (.frz o (.dK kvs))))\/∃ o,H1 a=some (.frz o (.dK kvs))/\R (Itd a o kvs) H1)
theorem Dm {l:Expr} {tl:TE} (hl:PE X l tl):PI X tg l (EV tl):=by
 intro pins s σ H R I h
 refine thn (hl pins s σ H _ I h) fun v s1 ⟨x,H1,I1,r1,q1⟩=>?_
 obtain ⟨a,kvs,e,q⟩:=q1
 subst e
 cases r1
 have main:∀ (o:Obj) (H2:Hp),Inv X pins σ H2 s1->H2 a=some (.frz o (.dK kvs))->R (Itd a o kvs) H2->wpAny (model X.prog X.w) X.A (pyIter (.ref a)) (PIE X pins σ tg R) X.xe s1:=fun o H2 I2 e2 q2=>by
  obtain ⟨vs,rel,dat,lo,ho⟩:=jd I2.hok e2
  have hlen:kvs.length=vs.length:=Paired.length rel
  refine wpAny_pyIter_dict lo dat ?_
  refine ⟨s1.heap.objs.size,[s1.heap.objs.size],_,_,H2,rfl,I2.kept (t' := s1.toks) fun b o e=>Heap.get?_push_of_some _ e,AO a _ o kvs,⟨_,Heap.get?_push_size _ rfl,rfl,by rw [hlen]; rfl⟩,fun b hb=>?_,q2⟩
  have e:b=s1.heap.objs.size:=by simpa using hb
  subst e
  exact I2.fpOk (Nat.le_refl _) (I2.hok.fresh (Nat.le_refl _))
 rcases q with ⟨hd,q⟩ | ⟨o,hd,q⟩
 ·obtain ⟨z,lo,vs,rel,ob,es,ep,hg,rest⟩:=I1.hok a _ hd
  exact main ob _ (I1.freeze hd hg) ae (q ob)
 ·exact main o H1 I1 hd q
end
theorem qx:entryFor table "dict_itemiterator.__iter__" = some Builtin.«dict_keyiterator.__iter__» :=
 entryFor_alias (id' := "dict_keyiterator.__iter__") (by kernel_rfl) (by first | rfl | decide +kernel | (unfold String.splitOn; simp +decide [String.splitOnAux])) (by decide +kernel) (by kernel_rfl)
theorem zd {P:Program} {w:World} {K:PySem.W.Frag} {elts:List Expr} {x1:_} {pos:Pos} (a it:Addr) (o:Obj) (kvs:List (Key×V)):Turn P w K (.Tuple elts x1 pos) (Iti a o kvs) [it] it (fun i h=>∃ ok ov,IsItemIter h it a i kvs.length (nM o) ok ov) where
 mem:=by simp
 obj:=fun i h st b hb=>by
  have e:b=it:=by simpa using hb
  subst e
  obtain ⟨ok,ov,st⟩:=st
  exact ⟨_,st,fun v z=>by
   have z':Data.fields _=Data.cell v:=z
   cases z'⟩
 keep:=fun i h h' st k=>by
  obtain ⟨ok,ov,st⟩:=st
  exact ⟨ok,ov,k it (by simp) _ st⟩
 item:=by
  intro X hP hw hK hc i pins s σ H E I hf st hg
  subst hP hw hK
  obtain ⟨hi,hfz⟩:=hg
  obtain ⟨ok,ov,st⟩:=st
  obtain ⟨vs,rel,dat,lo,ho⟩:=jd I.hok hfz
  have hlen:kvs.length=vs.length:=Paired.length rel
  have hv:i<vs.length:=by omega
  obtain ⟨f0,f1,f2,f3,f4,f5⟩:=hf it (by simp)
  rw [hlen] at st
  have itl:it<s.heap.objs.size:=Heap.lt_size st
  refine wpAny_pyNext_items_item (knd:=aV X.prog X.w) st dat (k:=(vs[i]).1) (v:=(vs[i]).2) (List.getElem?_eq_getElem hv) fun key h' hk st' ht hsz kp=>?_
  obtain ⟨p,e1,e2⟩:=fM rel (List.getElem?_eq_getElem hv)
  refine ⟨.ref s.heap.objs.size,rfl,wpAny_letOwnedTupleGo_items (s:={ s with heap:=h' }) st' fun h2 st2 sb2=>?_⟩
  have kp2:∀ b u,s.heap.get? b=some u->b≠it->h2.get? b=some u:=fun b u e hb=>(sb2.2 b hb).trans (kp b u hb e)
  have nT:s.heap.objs.size≠it:=Nat.ne_of_gt itl
  have ht2:h2.get? s.heap.objs.size=some { cls:=.type "tuple",data:=.seq #[key,(vs[i]).2] }:=(sb2.2 _ nT).trans ht
  have fr:H s.heap.objs.size=none:=I.hok.fresh (Nat.le_refl _)
  have fit:lR X pins (upd H s.heap.objs.size (.tup [kV p.1,p.2])) it:=⟨by rw [ah (Ne.symm nT)]; exact f0,f1,f2,f3,f4,f5⟩
  have I0:Inv X pins σ (upd H s.heap.objs.size (.tup [kV p.1,p.2])) { s with heap:=s.heap.push { cls:=.type "tuple",data:=.seq #[key,(vs[i]).2] } }:=
   I.laid (t' := s.toks) (o:=.tup [kV p.1,p.2]) (fun b ob q=>Heap.get?_push_of_some _ q) (Nat.le_refl _) ⟨by show 2<=sizeLine; decide,[key,(vs[i]).2],.cons (by rw [e2.1]; exact zJ hk) (.cons e2.2 .nil),⟨_,Heap.get?_push_size _ rfl,rfl,_,rfl⟩⟩
  have I2:Inv X pins σ (upd H s.heap.objs.size (.tup [kV p.1,p.2])) { s with heap:=h2 }:=by
   refine I0.turned (t' := s.toks) (h' := h2) (fun b ob hb q=>?_) fit.1 fit.2.1 fit.2.2.2.1 fit.2.2.2.2.1 fit.2.2.2.2.2
   rcases Heap.get?_push_cases (show (s.heap.push { cls:=.type "tuple",data:=.seq #[key,(vs[i]).2] }).get? b=some ob from q) with ⟨rfl,rfl⟩ | z
   ·exact ht2
   ·exact kp2 b ob z hb
  refine ⟨.ref s.heap.objs.size,_,I2,rfl,⟨s.heap.objs.size,p,rfl,fr,rfl,e1⟩,⟨_,_,by rw [hlen]; exact st2⟩,fun b hb=>?_⟩
  have e:b=it:=by simpa using hb
  subst e
  exact fit.1
 done:=by
  intro X hP hw hK hc i pins s σ H E I hf st hg
  subst hP hw hK
  obtain ⟨hi,hfz⟩:=hg
  obtain ⟨ok,ov,st⟩:=st
  obtain ⟨vs,rel,dat,lo,ho⟩:=jd I.hok hfz
  have hlen:kvs.length=vs.length:=Paired.length rel
  obtain ⟨f0,f1,f2,f3,f4,f5⟩:=hf it (by simp)
  rw [hlen] at st
  exact wpAny_pyNext_items_end (I.ok.hd hc) st dat (List.getElem?_eq_none (by omega)) fun h' eb=>⟨rfl,I.turned (t' := s.toks) (fun b o hb e=>eb b o hb e) f0 f1 f3 f4 f5⟩
 self:=fun A i s Q E st h=>by
  obtain ⟨ok,ov,st⟩:=st
  have hT:s.TypeIs (.ref it) "dict_itemiterator" := ⟨_,st,rfl⟩
  refine wpAny_pyIter_slot hT PySem.F.slot_dict_itemiterator_iter (wpAny_call_entry PySem.F.slot_dict_itemiterator_iter hT qx ?_ (PySem.F.args_dict_itemiterator_iter_1 _))
  show wpAny _ _ (ret (.ref it)) _ _ s
  exact wpAny_pure ⟨_,rfl,"dict_itemiterator",_,hT,PySem.F.slot_dict_itemiterator_next.lookup,h⟩
section
variable {X:Cx}
def DX (tl:TE):TI:=fun σ H R=>tl σ H fun x H1=>∃ v d kvs,x=.ref v/\H1 v=some (nh v d)/\H1 d=some (.dK kvs)/\∀ o,R (Iti d o kvs) (upd H1 d (.frz o (.dK kvs)))
theorem B9 {elts:List Expr} {x1:_} {tpos:Pos} {l:Expr} {tl:TE} (hl:PE X l tl):PI X (.Tuple elts x1 tpos) l (DX tl):=by
 intro pins s σ H R I h
 refine thn (hl pins s σ H _ I h) fun v s1 ⟨x,H1,I1,r1,q1⟩=>?_
 obtain ⟨v,a,kvs,e,hv,hd,q⟩:=q1
 subst e
 cases r1
 obtain ⟨hview,_,_⟩:=(show ObjOk X.prog X.w H1 s1.heap v (nh v a) from I1.hok v _ hv)
 obtain ⟨z,lo,vs0,rel0,ob,es,ep,hg,rest⟩:=I1.hok a _ hd
 have I2:=I1.freeze hd hg
 obtain ⟨vs,rel,dat,lo2,ho⟩:=jd I2.hok ae
 have hlen:kvs.length=vs.length:=Paired.length rel
 refine wpAny_pyIter_items hview dat ?_
 refine ⟨s1.heap.objs.size,[s1.heap.objs.size],_,_,_,rfl,I2.kept (t' := s1.toks) fun b o e=>Heap.get?_push_of_some _ e,zd a _ ob kvs,⟨_,_,by rw [hlen]; exact Heap.get?_push_size _ rfl⟩,fun b hb=>?_,q ob⟩
 have e:b=s1.heap.objs.size:=by simpa using hb
 subst e
 exact I2.fpOk (Nat.le_refl _) (I2.hok.fresh (Nat.le_refl _))
end
theorem Aj {a:Addr} {o:Obj} {kvs:List (Key×V)} {g:TG} {tb:TS} {D:Ends} {σ:St} {H:Hp} (Pv:Nat->St->Hp->Prop) (h0:Pv 0 σ H) (hl:∀ i σ H,i<=kvs.length->Pv i σ H->H a=some (.frz o (.dK kvs)))
  (hs:∀ i p σ H T,kvs[i]?=some p->Pv i σ H->H T=none->g (.ref T) σ (upd H T (.tup [kV p.1,p.2])) fun σ2 H2=>tb { D with nx:=Pv (i+1),ct:=Pv (i+1),bk:=D.nx } σ2 H2) (hd:∀ σ H,Pv kvs.length σ H->D.nx σ H) :
  ∃ W:Nat->Nat->St->Hp->Prop,(∃ m,W 0 m σ H)/\∀ i m σ H,W i m σ H ->
   ((Iti a o kvs).stop i H/\D.nx σ H)\/((Iti a o kvs).go i H/\∃ N:St->Hp->Prop,(∀ σ' H',N σ' H'->∃ m',m'<m/\W (i+1) m' σ' H')/\∀ x H',(Iti a o kvs).yld i H x H'->g x σ H' fun σ2 H2=>tb { D with nx:=N,ct:=N,bk:=D.nx } σ2 H2):=by
 refine ⟨fun i m σ H=>m=kvs.length-i/\i<=kvs.length/\Pv i σ H,⟨kvs.length,by simp,Nat.zero_le _,h0⟩,?_⟩
 rintro i m σ H ⟨rfl,hi,p⟩
 have q:=hl i σ H hi p
 by_cases hlt:i<kvs.length
 ·refine .inr ⟨⟨hlt,q⟩,Pv (i+1),fun σ' H' p'=>⟨kvs.length-(i+1),by omega,rfl,hlt,p'⟩,fun x H' y=>?_⟩
  obtain ⟨T,pr,rfl,hT,rfl,y⟩:=y
  exact hs i pr σ _ T y p hT
 ·have e:i=kvs.length:=by omega
  subst e
  exact .inl ⟨⟨Nat.le_refl _,q⟩,hd σ H p⟩
end L2
set_option Elab.async false
set_option linter.all false
set_option maxRecDepth 100000
namespace L2
open PySem PySem.Spec PyProof.Rows
section
variable {P:Program} {w:World} {A:Around} {E:Value->Shared->Prop} {s:Shared}
end
end L2
set_option Elab.async false
set_option linter.all false
set_option maxRecDepth 100000
namespace L2
open PySem PySem.Spec PyProof.Rows
section
variable {X:Cx}
end
end L2
set_option Elab.async false
set_option linter.all false
set_option maxRecDepth 100000
namespace PySem
open PyProof.Rows
section
variable {prog:Program} {w:World} {A:Around} {E:Value->Shared->Prop} {s:Shared}
end
end PySem
namespace L2
open PySem PySem.Spec PyProof.Rows
section
variable {X:Cx} {a:Expr} {ta:TA} {p p2 pos pos2:Pos}
end
end L2
namespace L2
open PySem PySem.Spec PyProof.Rows
section
variable {X:Cx} {N:List Str} {scope:Scope} {ix:List (Option Nat)} {elt iter cond tg:Expr} {pos spos:Pos} {te:TE} {g:TG} {wi:TI} {tc:TT}
end
end L2
set_option Elab.async false
set_option linter.all false
set_option maxRecDepth 100000
namespace L2
open PySem PySem.Spec PyProof.Rows
section
variable {X:Cx} {tg:Expr}
end
section
variable {X:Cx} {a b c:Expr} {ta:TA} {p p2 pos pos2:Pos}
end
end L2
set_option Elab.async false
set_option linter.all false
set_option maxRecDepth 100000
set_option maxHeartbeats 4000000
namespace L2
open PySem PySem.Spec PyProof.Rows
end L2
set_option Elab.async false
set_option linter.all false
set_option maxRecDepth 100000
set_option maxHeartbeats 4000000
namespace L2
open PySem PySem.Spec PyProof.Rows
theorem uC (l b:Addr) (items items2:Array Value) (n n2:Nat) (dc:Option Addr) (sl:Array (Option Value)) (h0:¬(!items.isEmpty&&Builtin.List.listTooLong (items.size+items2.size))=true) (h1:items.size<=sizeLine) (h2:items.size+items2.size<=sizeLine+1) :
  Meets (Builtin.«list.extend» ⟨[.ref l,.ref b],[]⟩) (fun _ R s=>s.heap.get? l=some { cls:=.type "list",dict:=none,data:=.seq items n,slots := #[] }/\s.heap.get? b=some { cls:=.type "tuple",dict:=dc,data:=.seq items2 n2,slots:=sl }/\R (.ok (.ret Value.none)) { s with heap:=s.heap.update l (Obj.mapSeq (·++items2)) }):=
 .of_wp fun prog w A R s h=>by
  obtain ⟨hp,g,d,tk,os⟩:=s
  obtain ⟨hl,hb,h⟩:=h
  have f1:=AutoSeq1.idx_int
  have f2:=AutoSeq1.sub_tuple_tuple
  have f3:=AutoSeq1.sub_list_list
  have f4:=AutoSeq1.sub_tuple_list
  have f5:=AutoSeq1.sub_list_tuple
  have hz':(items++items2).size<=sizeLine+1:=by rw [Array.size_append]; exact h2
  wp_walk using (wpAny_updateSeq hl rfl (hz:=h1) (_hz' := hz')),wpAny_loadPart' hl,wpAny_loadPart' hb
  exact ⟨_,rfl,h⟩
section
variable {X:Cx}
def xP:V->List V->Hp->VK->Prop:=fun x vs H Q=>∃ l b xs zs,x=.ref l/\vs=[.ref b]/\H l=some (.lst xs)/\H b=some (.tup zs)/\xs.length+zs.length<=sizeLine/\Q .non (upd H l (.lst (xs++zs)))
theorem yC:MtM X "list.extend" xP:=by
 intro pins s σ H x vs v us Q I rx rv h
 obtain ⟨l,b,xs,zs,rfl,rfl,hH,hB,hz,q⟩:=h
 cases rx
 obtain ⟨u,rfl,ru⟩:=rv.one
 cases ru
 obtain ⟨z,its,n,r,hl,e⟩:=I.lstM hH
 obtain ⟨its2,r2,ht,hz2⟩:=I.tuple (SqT.of (K:=X.K) hB)
 have hl2:=r2.length
 obtain ⟨⟨c,dc,da,sl⟩,e2,c2,n2,d2⟩:=ht
 cases c2
 cases d2
 have hsz:its.toArray.size+its2.toArray.size<=sizeLine:=by rw [List.size_toArray,List.size_toArray]; omega
 have hlong:¬ (!its.toArray.isEmpty&&Builtin.List.listTooLong (its.toArray.size+its2.toArray.size))=true:=by
  rw [xy hsz,Bool.and_false]
  exact Bool.false_ne_true
 refine call_meets F.slot_list_extend ⟨_,e,rfl⟩ F.entry_list_extend (F.args_list_extend_2 _ _)
  (uC l b its.toArray its2.toArray n n2 dc sl hlong (by rw [List.size_toArray]; omega) (by omega)) ⟨e,e2,?_⟩
 refine ⟨.non,_,I.lset (its' := its++its2) hH e (by simp) (r.append r2) ?_,rfl,q⟩
 rw [List.length_append]
 omega
def Cq:V->List V->Hp->VK->Prop:=fun x vs H Q=>zT x vs H Q\/xP x vs H Q
theorem yB:MtM X "list.extend" Cq:=by
 intro pins s σ H x vs v us Q I rx rv h
 rcases h with h | h
 ·exact Ax pins s σ H x vs v us Q I rx rv h
 ·exact yC pins s σ H x vs v us Q I rx rv h
end
end L2
set_option Elab.async false
set_option linter.all false
set_option maxRecDepth 100000
set_option maxHeartbeats 4000000
namespace L2
open PySem PySem.Spec PyProof.Rows
theorem Aa {a:Addr} {o:Obj} {kvs:List (Key×V)} {ix:List (Option Nat)} {te:TE} {σ:St} {H:Hp} {Qd:Addr->Hp->Prop} (Pv:Addr->Nat->List V->Hp->Prop)
  (h0:∀ D,H D=none->Pv D 0 [] (upd H D (.lst [])))
  (hl:∀ D i ys H',i<=kvs.length->Pv D i ys H'->H' a=some (.frz o (.dK kvs)))
  (hs:∀ D i p ys H' (Q':VK),H D=none->kvs[i]?=some p->H' D=some (.lst ys)->Pv D i ys H'->(∀ y H4,H4 D=some (.lst ys)->ys.length<sizeLine->Pv D (i+1) (ys++[y]) (upd H4 D (.lst (ys++[y])))->Q' y H4) ->
   te ((aZ ix σ).set 0 (some (kV p.1))) H' Q')
  (hd:∀ D ys H',H D=none->H' D=some (.lst ys)->Pv D kvs.length ys H'->Qd D H'):pV (Itd a o kvs) ix (bW 0) te σ H Qd:=by
 intro D hD
 refine ⟨fun i m σ' H'=>m=kvs.length-i/\i<=kvs.length/\(σ'=aZ ix σ\/∃ t,σ'=(aZ ix σ).set 0 t)/\∃ ys,H' D=some (.lst ys)/\Pv D i ys H',⟨kvs.length,by simp,Nat.zero_le _,.inl rfl,[],ae,h0 D hD⟩,?_⟩
 rintro i m σ' H' ⟨rfl,hi,hσ,ys,hy,p⟩
 have q:=hl D i ys H' hi p
 by_cases hlt:i<kvs.length
 ·refine .inr ⟨⟨hlt,q⟩,fun x H2 y=>?_⟩
  obtain ⟨e1,e2⟩:=y
  subst e1
  have ex:=e2 kvs[i] (List.getElem?_eq_getElem hlt)
  subst ex
  have es:σ'.set 0 (some (kV (kvs[i]).1))=(aZ ix σ).set 0 (some (kV (kvs[i]).1)):=by
   rcases hσ with z | ⟨t,z⟩
   ·rw [z]
   ·rw [z,List.set_set]
  show te (σ'.set 0 (some (kV (kvs[i]).1))) _ _
  rw [es]
  refine hs D i kvs[i] ys _ _ hD (List.getElem?_eq_getElem hlt) hy p fun y H4 h4 hz p4=>⟨ys,h4,hz,kvs.length-(i+1),by omega,rfl,hlt,.inr ⟨_,rfl⟩,ys++[y],ae,p4⟩
 ·have e:i=kvs.length:=by omega
  subst e
  exact .inl ⟨⟨Nat.le_refl _,q⟩,hd D ys H' hD hy p⟩
end L2
set_option Elab.async false
set_option linter.all false
set_option maxRecDepth 100000
set_option maxHeartbeats 4000000
namespace PySem
open PyProof.Rows
section
variable {prog:Program} {w:World} {K:Type} [DecidableEq K] {knd:KeyKind prog w K} {A:Around} {E:Value->Shared->Prop} {s:Shared} {R:Result->Shared->Prop}
theorem IsTupleKey.there {h h':Heap} {ks:List K} {a:Addr} (x:IsTupleKey knd h ks a) (k:∀ o,h.get? a=some o->h'.get? a=some o):IsTupleKey knd h' ks a:=let ⟨o,it,n,ho,r⟩:=x; ⟨o,it,n,k _ ho,r⟩
def oH (knd:KeyKind prog w K) (h:Heap) (ts:List Addr) (ps:List (List K×Addr×Value)):Prop := ∀ (j:Nat) (t:Addr) (p:List K×Addr×Value),ts[j]?=some t->ps[j]?=some p->IsTupleKey knd h p.1 p.2.1/\IsTup h t #[.ref p.2.1,p.2.2]
def rj (xs ps:List (List K×Addr×Value)):List (List K×Addr×Value):=ps.foldl (fun acc p=>storedH acc p.1 p.2.1 p.2.2) xs
theorem rX {h h':Heap} {D:Addr} {xs:List (List K×Addr×Value)} (x:h.DictOfH (tupleKind knd) D xs) (hD:∀ o,h.get? D=some o->h'.get? D=some o) (hk:∀ p∈xs,∀ o,h.get? p.2.1=some o->h'.get? p.2.1=some o):h'.DictOfH (tupleKind knd) D xs:=by
 obtain ⟨o,es,ep,ho,hc,hd,he,his,hn⟩:=x
 exact ⟨o,es,ep,hD _ ho,hc,hd,he,fun p hp=>IsTupleKey.there (his p hp) (hk p hp),hn⟩
theorem xX (xs:List (List K×Addr×Value)) (k:List K) (a:Addr) (v:Value):(storedH xs k a v).length<=xs.length+1:=by
 unfold storedH
 split
 ·rw [List.length_map]; omega
 ·rw [List.length_append]; exact Nat.le_refl _
theorem jD {h:Heap} {ks:List K} {a I l:Addr} {i:Nat} (x:IsTupleKey knd h ks a) (y:h.IsListIter I l i):a≠I:=by
 rintro rfl
 obtain ⟨o,_,_,ho,hc,_⟩:=x
 obtain ⟨o',ho',hc',_⟩:=y
 rw [ho] at ho'
 cases ho'
 rw [hc] at hc'
 exact absurd (Value.type.inj hc') (by decide)
theorem wQ {D I l:Addr} {ts:List Addr} {ps:List (List K×Addr×Value)} (hu:A.units+1<cLine) (W:Walks prog w A.in1 I [I,l] [I] ts.length (fun i v=>(ts.map Value.ref).toArray[i]?=some v) (fun i h=>h.IsListIter I l i/\h.IsList l (ts.map Value.ref).toArray))
  (hl:ts.length=ps.length) (hDI:D≠I) (hDl:D≠l) (hDt:∀ t∈ts,t≠D/\t≠I) (hz:ps.length<=sizeLine) :
  ∀ (k i:Nat) (s:Shared) (acc:List (List K×Addr×Value)),ts.length-i=k->i<=ts.length->(s.heap.IsListIter I l i/\s.heap.IsList l (ts.map Value.ref).toArray)->s.heap.DictOfH (tupleKind knd) D acc->acc.length<=i->oH knd s.heap ts ps ->
  (∀ h' tk,(∀ b o,b≠D->b≠I->s.heap.get? b=some o->h'.get? b=some o)->h'.DictOfH (tupleKind knd) D (rj acc (ps.drop i))->R (.ok (.ret .none)) { s with heap:=h',toks:=tk }) ->
  codeAny (model prog w) A (.builtin "dict.update.loop" ⟨[.ref D,.ref I,rawInt (i:Int),.none],[]⟩) R s:=by
 intro k
 induction k with
 | zero =>
  intro i s acc hk hi hst hD hacc hP hR
  have hin:i=ts.length:=by omega
  subst hin
  refine codeAny_builtin cM ?_
  rw [Around.under_plainId bj _]
  show wpAny _ A.in1 (pyNext (.ref I)>>=_) _ _ s
  refine wpAny_bind (W.done s _ _ hst fun h' tk hm=>?_)
  show wpAny _ _ (Builtin.Dict.addKeywords D []>>=_) _ _ _
  refine wpAny_bind (wpAny_of_eq (a:=()) rfl ?_)
  have e:ps.drop ts.length=[]:=by rw [hl,List.drop_length]
  refine wpAny_pure (hR h' tk (fun b o _ hb q=>hm b o (by simpa using hb) q) ?_)
  rw [e]
  obtain ⟨_,_,_,_,_,_,_,his,_⟩:=id hD
  exact rX hD (fun o q=>hm D o (by simpa using hDI) q) fun p hp o q=>hm _ o (by simpa using jD (his p hp) hst.1) q
 | succ k ih =>
  intro i s acc hk hi hst hD hacc hP hR
  have hlt:i<ts.length:=by omega
  have hlt2:i<ps.length:=by omega
  refine codeAny_builtin cM ?_
  rw [Around.under_plainId bj _]
  show wpAny _ A.in1 (pyNext (.ref I)>>=_) _ _ s
  refine wpAny_bind (W.item i s _ _ hlt hst fun v h' tk hv hst' hm=>?_)
  have ev:v=.ref ts[i]:=by
   have:(ts.map Value.ref).toArray[i]?=some (.ref ts[i]):=by simp [hlt]
   rw [this] at hv
   exact (Option.some.inj hv).symm
  subst ev
  have keep:∀ b o,b≠I->s.heap.get? b=some o->h'.get? b=some o:=fun b o hb q=>hm b o (by simpa using hb) q
  have keyN:∀ {ks:List K} {a:Addr},IsTupleKey knd s.heap ks a->IsTupleKey knd h' ks a:=fun x=>x.there fun o q=>keep _ o (jD x hst.1) q
  obtain ⟨hkey,ht⟩:=hP i ts[i] ps[i] (List.getElem?_eq_getElem hlt) (List.getElem?_eq_getElem hlt2)
  have tn:=hDt ts[i] (List.getElem_mem hlt)
  have ht':IsTup h' ts[i] #[.ref (ps[i]).2.1,(ps[i]).2.2]:=ht.extBut (b:=I) keep tn.2
  have hD':h'.DictOfH (tupleKind knd) D acc:=by
   obtain ⟨_,_,_,_,_,_,_,his,_⟩:=id hD
   exact rX hD (fun o q=>keep D o hDI q) fun p hp o q=>keep _ o (jD (his p hp) hst.1) q
  obtain ⟨ot,hot,hct,nt,hdt⟩:=id ht'
  try dsimp only
  refine wpAny_bind (wpAny_holding ?_)
  refine wpAny_bind (wpAny_tryCatch ?_)
  unfold Builtin.Dict.pairItems
  refine wpAny_bind (wpAny_typeOf (s:={ s with heap:=h',toks:=tk }) ht'.typeIs ?_)
  rw [if_pos (by decide)]
  refine wpAny_bind (wpAny_seqItems (s:={ s with heap:=h',toks:=tk }) hot hdt ?_)
  refine wpAny_pure ?_
  show wpAny _ _ (holding [.ref (ps[i]).2.1,(ps[i]).2.2] (dictSet D (.ref (ps[i]).2.1) (ps[i]).2.2)) _ _ _
  refine wpAny_holding (wpAny_dictSet_heap (knd:=tupleKind knd) (k:=(ps[i]).1) (s:={ s with heap:=h',toks:=tk }) hu (keyN hkey) hD' (fun h2 hD2 sb2=>?_) (by omega))
  have keep2:∀ b o,b≠D->h'.get? b=some o->h2.get? b=some o:=fun b o hb q=>sb2.extBut b o hb q
  refine wpAny_pure ⟨plainId_quiet bj _,?_⟩
  have ri:rawInt ((i:Int)+1)=rawInt (((i+1:Nat)):Int):=by push_cast; rfl
  rw [ri]
  have keyD:∀ {ks:List K} {a:Addr},IsTupleKey knd s.heap ks a->a≠D:=fun x z=>by
   obtain ⟨o,_,_,ho,_,hd,_⟩:=x
   obtain ⟨o',_,_,ho',_,hd',_⟩:=hD
   rw [z,ho'] at ho
   cases ho
   rw [hd'] at hd
   cases hd
  refine ih (i+1) { s with heap:=h2,toks:=_ } (storedH acc (ps[i]).1 (ps[i]).2.1 (ps[i]).2.2) (by omega) hlt ⟨hst'.1.at fun o q=>keep2 I o (Ne.symm hDI) q,hst'.2.at fun o q=>keep2 l o (Ne.symm hDl) q⟩ hD2 (by
   have:=xX acc (ps[i]).1 (ps[i]).2.1 (ps[i]).2.2
   omega) (fun j t p h1 h2'=>?_) (fun h3 tk3 kp3 hD3=>?_)
  ·obtain ⟨hk',ht''⟩:=hP j t p h1 h2'
   have tn' := hDt t (List.mem_of_getElem? h1)
   exact ⟨(keyN hk').there fun o q=>keep2 _ o (keyD hk') q,(ht''.extBut (b:=I) keep tn'.2).extBut (b:=D) keep2 tn'.1⟩
  ·refine hR h3 tk3 (fun b o hb hb2 q=>kp3 b o hb hb2 (keep2 b o hb (keep b o hb2 q))) ?_
   rw [List.drop_eq_getElem_cons hlt2]
   exact hD3
theorem oQ {l:Addr} {ts:List Addr} {ps:List (List K×Addr×Value)} {c:Nat} {Q:Value->Shared->Prop} (hu:A.units+2<cLine) (hh:A.handled=none) (hL:s.heap.get? l=some { cls:=.type "list",dict:=none,data:=.seq (ts.map Value.ref).toArray c,slots := #[] })
  (hl:ts.length=ps.length) (hP:oH knd s.heap ts ps) (hz:ps.length<=sizeLine)
  (hQ:∀ h' tk,(∀ b o,s.heap.get? b=some o->h'.get? b=some o)->h'.DictOfH (tupleKind knd) s.heap.objs.size (rj [] ps)->Q (.ref s.heap.objs.size) { s with heap:=h',toks:=tk }) :
  wpAny (model prog w) A (call (.type "dict") [.ref l]) Q E s:=by
 refine callType_codes (Q₁:=fun obj s₁=>obj=.ref s.heap.objs.size/\s₁={ s with heap:=s.heap.push { cls:=.type "dict",data:=.dict #[] } }) F.kt_called_dict (F.kt_typeCall_dict_1 _) F.entry_dict_init (kt_code_dict_new _ ⟨rfl,rfl⟩) ?_
 rintro obj s₁ ⟨rfl,rfl⟩
 have hnew:(s.heap.push { cls:=.type "dict",data:=.dict #[] }).DictOfH (tupleKind knd) s.heap.objs.size []:=Heap.DictOfH.new s.heap
 have hnewT:({ s with heap:=s.heap.push { cls:=.type "dict",data:=.dict #[] } }:Shared).TypeIs (.ref s.heap.objs.size) "dict" := ⟨_,Heap.get?_push_size s.heap rfl,rfl⟩
 have hlt:l<s.heap.objs.size:=Heap.lt_size hL
 have hL':(s.heap.push { cls:=.type "dict",data:=.dict #[] }).get? l=some { cls:=.type "list",dict:=none,data:=.seq (ts.map Value.ref).toArray c,slots := #[] }:=Heap.get?_push_of_some _ hL
 refine ⟨hnewT,F.args_dict_init_2 _ _,?_⟩
 unfold Builtin.«dict.__init__»
 refine wpAny_bind ?_
 unfold Builtin.Dict.selfAndRest
 refine wpAny_bind (wpAny_notOrdered_dict hnewT ?_)
 show wpAny _ _ (pure (s.heap.objs.size,[Value.ref l])) _ _ _
 refine wpAny_pure ?_
 show wpAny _ _ (Builtin.Dict.updateFrom "dict.__init__" s.heap.objs.size (.ref l) [] .none) _ _ _
 unfold Builtin.Dict.updateFrom
 refine wpAny_bind (wpAny_typeOf (T := "list") ⟨_,hL',rfl⟩ ?_)
 rw [if_pos (by decide)]
 refine wpAny_bind (kq hL' hh fun h1 tk1 kp1=>?_)
 rw [if_pos (by rfl)]
 refine wpAny_bind (wpAny_rule ?_)
 have hL1:=kp1 _ _ hL'
 have il1:Heap.IsList h1 l (ts.map Value.ref).toArray:=⟨_,hL1,rfl,c,rfl⟩
 refine wpAny_bind (wpAny_pyIter_list (s:={ s with heap:=h1,toks:=tk1 }) il1 ?_)
 refine wpAny_pure ⟨plainId_quiet bj _,?_⟩
 have oI:(h1.push { cls:=.type "list_iterator",data:=.fields #[.ref l,.int 0 0] }).get? h1.objs.size=some { cls:=.type "list_iterator",data:=.fields #[.ref l,.int 0 0] }:=Heap.get?_push_size _ rfl
 have l1:l<h1.objs.size:=Heap.lt_size hL1
 have d1:s.heap.objs.size<h1.objs.size:=Heap.lt_size (kp1 _ _ (Heap.get?_push_size s.heap rfl))
 have W:=Walks.list (prog:=prog) (w:=w) (A:=A.in1.in1) hh h1.objs.size l (Nat.ne_of_lt l1) (ts.map Value.ref).toArray
 have sz:(ts.map Value.ref).toArray.size=ts.length:=by simp
 rw [sz] at W
 have kp2:∀ b o,s.heap.get? b=some o->(h1.push { cls:=.type "list_iterator",data:=.fields #[.ref l,.int 0 0] }).get? b=some o:=fun b o q=>Heap.get?_push_of_some _ (kp1 _ _ (Heap.get?_push_of_some _ q))
 refine wQ (A:=A.in1) (knd:=knd) (D:=s.heap.objs.size) (ps:=ps) (by show A.units+1+1<cLine; exact hu) W hl (Nat.ne_of_lt d1) (Nat.ne_of_gt hlt) (fun t ht=>?_) hz ts.length 0 { s with heap:=h1.push { cls:=.type "list_iterator",data:=.fields #[.ref l,.int 0 0] },toks:=tk1 } [] rfl (Nat.zero_le _) ⟨⟨_,oI,rfl,rfl⟩,il1.at fun o q=>Heap.get?_push_of_some _ q⟩ ?_ (Nat.zero_le _) (fun j t p a1 a2=>?_) fun h3 tk3 kp3 hD3=>?_
 ·obtain ⟨j,hj⟩:=List.mem_iff_getElem?.mp ht
  have jl:j<ps.length:=by
   rw [<- hl]
   exact (List.getElem?_eq_some_iff.mp hj).1
  obtain ⟨_,o,ho,_⟩:=hP j t ps[j] hj (List.getElem?_eq_getElem jl)
  have tl:=Heap.lt_size ho
  exact ⟨Nat.ne_of_lt tl,Nat.ne_of_lt (Nat.lt_trans tl d1)⟩
 ·exact rX hnew (fun o q=>Heap.get?_push_of_some _ (kp1 _ _ q)) fun p hp=>by cases hp
 ·obtain ⟨hk,ht⟩:=hP j t p a1 a2
  exact ⟨hk.there fun o q=>kp2 _ o q,ht.keeps kp2⟩
 ·exact ⟨rfl,hQ h3 tk3 (fun b o q=>kp3 b o (Nat.ne_of_lt (Heap.lt_size q)) (Nat.ne_of_lt (Nat.lt_trans (Heap.lt_size q) d1)) (kp2 b o q)) hD3⟩
end
end PySem
namespace L2
open PySem PySem.Spec PyProof.Rows
section
variable {X:Cx}
def x8 (H:Hp):List Addr->List (List Key×V)->Prop:=Paired fun t p=>∃ b,H t=some (.tup [.ref b,p.2])/\H b=some (.tup (p.1.map kV))
theorem p8 {P:Program} {w:World}:∀ {kvs:List (List Key×V)} {ts:List Addr} {H:Hp} {h:Heap},x8 H ts kvs->HOk P w H h->∃ ps:List (List Key×Addr×Value),KT H kvs ps/\ps.length=ts.length/\oH (aV P w) h ts ps
 | [],[],_,_,.nil,_=>⟨[],.nil,rfl,fun j t p h=>by simp at h⟩
 | _,_,_,_,.cons (a:=a) (b:=p) (l₁:=ts) (l₂:=kvs) q t,ok=>by
  obtain ⟨ps,r1,r2,r3⟩:=p8 t ok
  obtain ⟨b,qa,qb⟩:=q
  obtain ⟨z,its,rv,ht⟩:=ok a _ qa
  obtain ⟨u,v,rfl,ru,rv'⟩:=Vals.two rv
  cases (show u=Value.ref b from ru)
  refine ⟨(p.1,b,v) :: ps,.cons ⟨rfl,qb,rv'⟩ r1,by simp [r2],fun j t' p' h1 h2=>?_⟩
  cases j with
  | zero =>
   simp at h1 h2
   subst h1 h2
   exact ⟨mF ok qb,by simpa using ht⟩
  | succ j=>exact r3 j t' p' (by simpa using h1) (by simpa using h2)
def fX (acc kvs:List (List Key×V)):List (List Key×V):=kvs.foldl (fun a p=>putK a p.1 p.2) acc
theorem iL:∀ (kvs acc:List (List Key×V)),(fX acc kvs).length<=acc.length+kvs.length
 | [],acc=>Nat.le_refl _
 | p :: kvs,acc=>by
  have h1:=iL kvs (putK acc p.1 p.2)
  have h2:=fK acc p.1 p.2
  show (fX (putK acc p.1 p.2) kvs).length<=_
  rw [List.length_cons]
  omega
theorem KT.merge {H:Hp}:∀ {kvs:List (List Key×V)} {ps:List (List Key×Addr×Value)} {acc:List (List Key×V)} {xs:List (List Key×Addr×Value)},KT H kvs ps->KT H acc xs->KT H (fX acc kvs) (rj xs ps)
 | [],[],_,_,.nil,r=>r
 | p :: kvs,q :: ps,acc,xs,.cons h t,r=>by
  obtain ⟨e,hb,rv⟩:=h
  have s:=r.put p.1 hb rv
  rw [e] at s
  have i:=KT.merge t s
  show KT H (fX (putK acc p.1 p.2) kvs) (rj (storedH xs q.1 q.2.1 q.2.2) ps)
  rw [e]
  exact i
def Cp:List V->Hp->VK->Prop:=fun xs H Q=>∃ l ts kvs,xs=[.ref l]/\H l=some (.lst (ts.map V.ref))/\x8 H ts kvs/\∀ D,H D=none->Q (.ref D) (upd H D (.dT (fX [] kvs)))
theorem vG (hc:X.calm=true) (hu:X.A.units+2<cLine):eU X (.type "dict") Cp:=by
 intro pins s σ H xs us Q I r h
 obtain ⟨l,ts,kvs,rfl,hl,hp,q⟩:=h
 obtain ⟨u,rfl,rx⟩:=vals1 r
 cases rx
 obtain ⟨z,its,n,rv,hln,e⟩:=I.lstM hl
 have ei:=kY rv
 subst ei
 obtain ⟨ps,r1,r2,r3⟩:=p8 hp I.hok
 have hlen:kvs.length=ps.length:=Paired.length r1
 have zl:ps.length<=sizeLine:=by
  rw [r2]
  rw [List.length_map] at z
  exact z
 refine oQ (knd:=aV X.prog X.w) hu (I.ok.hd hc) e r2.symm r3 zl fun h' tk kp dd=>?_
 have ob:ObjOk X.prog X.w (upd H s.heap.objs.size (.dT (fX [] kvs))) h' s.heap.objs.size (.dT (fX [] kvs)):=by
  obtain ⟨o,es,ep,h1,h2,h3,h4,_,h5⟩:=dd
  refine ⟨?_,beq_eq_false_iff_ne.mpr (Ne.symm (Nat.ne_of_lt I.big)),_,(KT.merge r1 .nil).keeps fun c ys ec=>?_,o,es,ep,h1,h2,h3,h4,h5⟩
  ·have:=iL kvs []
   simp only [List.length_nil] at this
   omega
  ·rw [ah (au ec (I.hok.fresh (Nat.le_refl _)))]
   exact ec
 exact ⟨.ref _,_,I.laid (t' := tk) kp (Nat.le_refl _) ob,rfl,q _ (I.hok.fresh (Nat.le_refl _))⟩
end
theorem Bp {A:Around} {k:Nat} (hr:Room k A):A.units+2<cLine:=by
 have:=hr.un
 omega
end L2
set_option Elab.async false
set_option linter.all false
set_option maxRecDepth 100000
set_option maxHeartbeats 4000000
namespace PySem
section
variable {prog:Program} {w:World} {A:Around} {E:Value->Shared->Prop} {s:Shared}
def RawD (h:Heap) (d:Addr) (es:Array DictEntry) (ep:Nat):Prop := ∃ o,h.get? d=some o/\o.ExactDict/\o.data=.dict es ep
theorem RawD.ty {d:Addr} {es:Array DictEntry} {ep:Nat} (x:RawD s.heap d es ep):s.TypeIs (.ref d) "dict" := let ⟨o,h1,h2,_⟩:=x; ⟨o,h1,h2.1⟩
theorem RawD.to {h h':Heap} {d:Addr} {es:Array DictEntry} {ep:Nat} (x:RawD h d es ep) (k:∀ o,h.get? d=some o->h'.get? d=some o):RawD h' d es ep:=let ⟨o,h1,r⟩:=x; ⟨o,k _ h1,r⟩
theorem Bt {d:Addr} {es:Array DictEntry} {ep:Nat} {Q:Value->Shared->Prop} (lo:(d==sysModules)=false) (x:RawD s.heap d es ep)
  (q:Q (.ref s.heap.objs.size) { s with heap:=s.heap.push { cls:=.type "dict_keyiterator",data:=.fields #[.ref d,.int 0 0,.int es.size 0,.int ep 0] } }):wpAny (model prog w) A (pyIter (.ref d)) Q E s:=by
 have ty:=x.ty
 obtain ⟨ob,g1,g2,g3⟩:=x
 refine wpAny_pyIter_slot ty F.slot_dict_iter (wpAny_call_entry F.slot_dict_iter ty F.entry_dict_iter ?_ (F.args_dict_iter_1 _))
 unfold Builtin.«dict.__iter__» Builtin.Dict.dictSlotNone
 refine wpAny_bind (wpAny_bind (wpAny_notOrdered_dict ty ?_))
 show wpAny _ _ (pure (Value.ref d)) _ _ s
 refine wpAny_pure ?_
 show wpAny _ _ (Builtin.Dict.showsAll d>>=_) _ _ s
 unfold Builtin.Dict.showsAll
 rw [if_neg (fun z=>by rw [lo] at z; cases z)]
 refine wpAny_bind (wpAny_pure (wpAny_bind (wpAny_dictEntries g1 g3 (wpAny_bind (wpAny_dictEpoch g1 g3 ?_)))))
 refine wpAny_bind (wpAny_newObj_type (wpAny_pure ⟨_,rfl,"dict_keyiterator",_,⟨_,Heap.get?_push_size _ rfl,rfl⟩,F.slot_dict_keyiterator_next.lookup,?_⟩))
 simpa [rawInt] using q
theorem BH {it d:Addr} {i ep:Nat} {es:Array DictEntry} {Q:Option Value->Shared->Prop} (y:s.heap.IsKeyIter it d i es.size ep) (x:RawD s.heap d es ep) (hi:i<es.size)
  (q:∀ h',h'.IsKeyIter it d (i+1) es.size ep->Heap.SameBut it s.heap h'->Q (some es[i].key) { s with heap:=h' }):wpAny (model prog w) A (pyNext (.ref it)) Q E s:=by
 have ty:=y.typeIs
 obtain ⟨oi,i1,i2,i3⟩:=id y
 obtain ⟨ob,g1,g2,g3⟩:=x
 unfold pyNext
 refine wpAny_bind (wpAny_attempt (wpAny_callSpecial?_slot (name:=Str.ofString "__next__") ty F.slot_dict_keyiterator_next (wpAny_call_entry F.slot_dict_keyiterator_next ty F.entry_dict_keyiterator_next ?_ (F.args_dict_keyiterator_next_1 _))))
 refine wpAny_bind (wpAny_pure (wpAny_bind (wpAny_bind ?_)))
 first | refine wpAny_bind (wpAny_typeNameOfWhole_keyiter ty (wpAny_pure ?_)) | refine wpAny_bind (wpAny_typeNameOf_keyiter ty (wpAny_pure ?_))
 refine wpAny_bind (wpAny_fieldsOf i1 i3 ?_)
 have own:Builtin.Dict_items.ownsTuple "dict_keyiterator" = false:=by decide
 simp only [own,Bool.false_eq_true,if_false]
 show wpAny _ _ (if (Value.ref d==Value.none)=true then _ else _) _ _ s
 rw [if_neg (by intro z; cases z)]
 refine wpAny_bind (wpAny_pure (wpAny_bind (wpAny_dictEntries g1 g3 ?_)))
 rw [if_neg (by simp)]
 refine wpAny_bind (wpAny_pure (wpAny_bind (wpAny_dictEpoch g1 g3 ?_)))
 rw [if_neg (by simp)]
 refine wpAny_pure ?_
 simp only [show ¬ ((i:Int)<0) from by omega,if_false,Int.toNat_natCast,Array.getElem?_eq_getElem hi]
 refine wpAny_bind ?_
 first | refine wpAny_bind (wpAny_typeNameOfWhole_keyiter ty (wpAny_pure ?_)) | refine wpAny_bind (wpAny_typeNameOf_keyiter ty (wpAny_pure ?_))
 refine wpAny_bind (wpAny_isOneOf_keyiter ty ?_)
 show wpAny _ _ (setField (.ref it) 1 (rawInt ((i:Int)+1))>>=_) _ _ s
 refine wpAny_bind (wpAny_setField i1 i3 (by simp) ?_)
 have y2:(s.heap.update it (Obj.mapFields (·.setIfInBounds 1 (rawInt ((i:Int)+1))))).IsKeyIter it d (i+1) es.size ep:=⟨_,Heap.get?_update_self _ i1 (Obj.isFreed_of_fields (Obj.data_mapFields i3 _)),(Obj.cls_mapFields ..).trans i2,by rw [Obj.data_mapFields i3]; simp [rawInt]⟩
 refine wpAny_bind (wpAny_holding (wpAny_bind (wpAny_isOneOf_keyiter (s:={ s with heap:=s.heap.update it (Obj.mapFields (·.setIfInBounds 1 (rawInt ((i:Int)+1)))) }) y2.typeIs ?_)))
 show wpAny _ _ (pure es[i].key) _ _ _
 exact wpAny_pure (wpAny_pure ⟨_,rfl,wpAny_pure (q _ y2 (Heap.SameBut.update ..))⟩)
theorem CV {it d:Addr} {ep:Nat} {es:Array DictEntry} {Q:Option Value->Shared->Prop} (hh:A.handled=none) (y:s.heap.IsKeyIter it d es.size es.size ep) (x:RawD s.heap d es ep)
  (q:∀ h',Heap.ExtBut it s.heap h'->Q none { s with heap:=h' }):wpAny (model prog w) A (pyNext (.ref it)) Q E s:=by
 have ty:=y.typeIs
 obtain ⟨oi,i1,i2,i3⟩:=id y
 obtain ⟨ob,g1,g2,g3⟩:=x
 unfold pyNext
 refine wpAny_bind (wpAny_attempt (wpAny_callSpecial?_slot (name:=Str.ofString "__next__") ty F.slot_dict_keyiterator_next (wpAny_call_entry F.slot_dict_keyiterator_next ty F.entry_dict_keyiterator_next ?_ (F.args_dict_keyiterator_next_1 _))))
 refine wpAny_bind (wpAny_pure (wpAny_bind (wpAny_bind ?_)))
 first | refine wpAny_bind (wpAny_typeNameOfWhole_keyiter ty (wpAny_pure ?_)) | refine wpAny_bind (wpAny_typeNameOf_keyiter ty (wpAny_pure ?_))
 refine wpAny_bind (wpAny_fieldsOf i1 i3 ?_)
 have own:Builtin.Dict_items.ownsTuple "dict_keyiterator" = false:=by decide
 simp only [own,Bool.false_eq_true,if_false]
 show wpAny _ _ (if (Value.ref d==Value.none)=true then _ else _) _ _ s
 rw [if_neg (by intro z; cases z)]
 refine wpAny_bind (wpAny_pure (wpAny_bind (wpAny_dictEntries g1 g3 ?_)))
 rw [if_neg (by simp)]
 refine wpAny_bind (wpAny_pure (wpAny_bind (wpAny_dictEpoch g1 g3 ?_)))
 rw [if_neg (by simp)]
 refine wpAny_pure ?_
 simp only [show ¬ ((es.size:Int)<0) from by omega,if_false,Int.toNat_natCast,Array.getElem?_eq_none (Nat.le_refl es.size)]
 refine wpAny_bind ?_
 first | refine wpAny_bind (wpAny_typeNameOfWhole_keyiter ty (wpAny_pure ?_)) | refine wpAny_bind (wpAny_typeNameOf_keyiter ty (wpAny_pure ?_))
 show wpAny _ _ (setField (.ref it) 0 .none>>=_) _ _ s
 refine wpAny_bind (wpAny_setField i1 i3 (by simp) ?_)
 show wpAny _ _ (newExc (.type "StopIteration") []>>=_) _ _ _
 refine wpAny_bind ?_
 simp only [newExc,newTuple]
 refine wpAny_bind (wpAny_newObj_type (wpAny_bind (m:=firstArgMember _ _) (wpAny_of_eq (a:=Value.none) (by first | rfl | (simp only [firstArgMember]; rfl)) (wpAny_newObj_type ?_ (by size_fits)))) (by size_fits))
 simp only [raiseNew]
 refine wpAny_bind (wpAny_handled ?_)
 rw [show A.in1.handled=none from hh]
 refine (wpAny_bind (wpAny_pure (wpAny_throw ?fin)))
 refine (wpAny_bind (wpAny_isInstance (T := "StopIteration") (b:=true) ⟨_,(Heap.get?_push_size _ rfl),rfl⟩ isSubtype_stop ?_))
 exact wpAny_pure (q _ (((Heap.SameBut.update ..).extBut.push _).push _))
theorem AS (hh:A.handled=none) (I d:Addr) (ne:d≠I) (es:Array DictEntry) (ep:Nat) :
  Walks prog w A I [I,d] [I] es.size (fun i v=>∃ hi:i<es.size,v=es[i].key) (fun i h=>h.IsKeyIter I d i es.size ep/\RawD h d es ep) where
 sub:=fun b hb=>by simp at hb; simp [hb]
 frame:=fun _ _ _ st hk=>⟨st.1.at fun o e=>hk I (by simp) o e,st.2.to fun o e=>hk d (by simp) o e⟩
 item:=fun i s Q E hi st hQ=>BH st.1 st.2 hi fun h' y2 sb=>hQ _ h' s.toks ⟨hi,rfl⟩ ⟨y2,st.2.to fun o e=>sb.extBut d o ne e⟩ fun b o hb e=>sb.extBut b o (fun h=>hb (by simp [h])) e
 done:=fun s Q E st hQ=>CV hh st.1 st.2 fun h' he=>hQ h' s.toks fun b o hb e=>he b o (fun h=>hb (by simp [h])) e
 self:=fun _ _ _ _ st hQ=>wpAny_pyIter_keyiter st.1 hQ
end
theorem PySem.W.kdl_raw {prog:Program} {w:World} {d:Addr} {es:Array DictEntry} {ep:Nat} (lo:(d==sysModules)=false):PySem.W.KdlSrc prog w "dict" d d es.size (fun i v=>∃ hi:i<es.size,v=es[i].key) (fun h=>RawD h d es ep) where
 type:=fun _ x=>x.ty
 there:=fun _ x=>let ⟨_,h1,_⟩:=x; ⟨Heap.lt_size h1,Heap.lt_size h1⟩
 keep:=fun _ _ x hk=>x.to fun o e=>hk d (.inl rfl) o e
 notList:=by decide
 notTuple:=by decide
 hint:=fun _ _ _ _ x hq=>PySem.W.kdl_hint_dict x.ty hq
 iter:=fun _ s hh x=>⟨_,_,(fun _ _ q=>Bt lo x q),AS hh _ d (let ⟨_,h1,_⟩:=x; Nat.ne_of_lt (Heap.lt_size h1)) es ep,⟨⟨_,Heap.get?_push_size _ rfl,rfl,rfl⟩,x.to fun o e=>Heap.get?_push_of_some _ e⟩⟩
end PySem
namespace L2
open PySem PySem.Spec PyProof.Rows
section
variable {X:Cx}
def zr (H:Hp):List Addr->List (List Key×V)->Prop:=Paired fun b p=>H b=some (.tup (p.1.map kV))
theorem KT.keys {H:Hp}:∀ {kvs:List (List Key×V)} {xs:List (List Key×Addr×Value)},KT H kvs xs->zr H (xs.map fun q=>q.2.1) kvs
 | [],[],.nil=>.nil
 | _ :: _,_ :: _,.cons h t=>.cons h.2.1 (KT.keys t)
def Et:List V->Hp->VK->Prop:=fun xs H Q=>∃ p kvs,xs=[.ref p]/\H p=some (.dT kvs)/\∀ l bs,H l=none->zr H bs kvs->Q (.ref l) (upd H l (.lst (bs.map V.ref)))
theorem yb (hc:X.calm=true):eU X (.type "list") Et:=by
 intro pins s σ H xs us Q I r h
 obtain ⟨p,kvs,rfl,hp,q⟩:=h
 obtain ⟨u,rfl,rx⟩:=vals1 r
 cases rx
 obtain ⟨hz,lo,xs,kt,o,es,ep,h1,h2,h3,h4,h5⟩:=(show ObjOk X.prog X.w H s.heap p (.dT kvs) from I.hok p _ hp)
 have hlen:kvs.length=xs.length:=Paired.length kt
 have sz:es.size=xs.length:=by
  have:=congrArg List.length h4
  rw [List.length_map] at this
  simpa using this
 refine PySem.W.kdl_call (PySem.W.kdl_raw (es:=es) (ep:=ep) lo) (I.ok.hd hc) ⟨o,h1,h2,h3⟩ (by rw [sz,<- hlen]; exact hz) fun h' tk acc c' kp e hacc=>?_
 have ea:acc.toList=(xs.map fun q=>q.2.1).map Value.ref:=by
  refine List.ext_getElem? fun j=>?_
  rcases Nat.lt_or_ge j es.size with hj | hj
  ·have hja:j<acc.size:=by rw [hacc.1]; exact hj
   obtain ⟨hi,ev⟩:=hacc.2 j acc[j] (Array.getElem?_eq_getElem hja)
   have ek:es[j]=entryOfKey (tupleKind (aV X.prog X.w)) (xs[j]'(by rw [<- sz]; exact hj)):=by
    have:=congrArg (fun l=>l[j]?) h4
    simp only [Array.getElem?_toList,List.getElem?_map] at this
    rw [Array.getElem?_eq_getElem hj,List.getElem?_eq_getElem (by rw [<- sz]; exact hj)] at this
    exact Option.some.inj this
   rw [Array.getElem?_toList,Array.getElem?_eq_getElem hja,ev,ek,List.getElem?_map,List.getElem?_map,List.getElem?_eq_getElem (by rw [<- sz]; exact hj)]
   rfl
  ·rw [List.getElem?_eq_none (by rw [Array.length_toList,hacc.1]; exact hj),List.getElem?_eq_none (by rw [List.length_map,List.length_map,<- sz]; exact hj)]
 have rv:∀ bs:List Addr,Vals (bs.map V.ref) (bs.map Value.ref):=fun bs=>by
  induction bs with
  | nil=>exact .nil
  | cons b bs ih=>exact .cons rfl ih
 have ob:ObjOk X.prog X.w (upd H s.heap.objs.size (.lst ((xs.map fun q=>q.2.1).map V.ref))) h' s.heap.objs.size (.lst ((xs.map fun q=>q.2.1).map V.ref)):=by
  refine ⟨by rw [List.length_map,List.length_map,<- hlen]; exact hz,acc.toList,c',by rw [ea]; exact rv _,?_⟩
  rw [Array.toArray_toList]
  exact e
 exact ⟨.ref _,_,I.laid (t' := tk) kp (Nat.le_refl _) ob,rfl,q _ _ (I.hok.fresh (Nat.le_refl _)) (KT.keys kt)⟩
end
end L2
set_option Elab.async false
set_option linter.all false
set_option maxRecDepth 100000
set_option maxHeartbeats 4000000
namespace L2
open PySem PySem.Spec PyProof.Rows
theorem yf {K:PySem.W.Frag} {a:Addr} {xs:List V} {ix:List (Option Nat)} {g:TG} {te:TE} {σ:St} {H:Hp} {Qd:Addr->Hp->Prop} (Pv:Addr->Nat->List V->Hp->Prop)
  (hg:∀ (T:Addr) (σ:St) (H:Hp) (Q:St->Hp->Prop) (i:Int) (x:V),H T=some (.tup [.int i,x])->Q ((σ.set 0 (some (.int i))).set 1 (some x)) H->g (.ref T) σ H Q)
  (h0:∀ D,H D=none->Pv D 0 [] (upd H D (.lst [])))
  (hl:∀ D i ys H',i<=xs.length->Pv D i ys H'->SqL K H' a xs)
  (hs:∀ D i x ys H' T (Q':VK),H D=none->xs[i]?=some x->H' D=some (.lst ys)->Pv D i ys H'->H' T=none->(∀ y H4,H4 D=some (.lst ys)->ys.length<sizeLine->Pv D (i+1) (ys++[y]) (upd H4 D (.lst (ys++[y])))->Q' y H4) ->
   te (((aZ ix σ).set 0 (some (.int i))).set 1 (some x)) (upd H' T (.tup [.int i,x])) Q')
  (hd:∀ D ys H',H D=none->H' D=some (.lst ys)->Pv D xs.length ys H'->Qd D H'):pV (z5 K a) ix g te σ H Qd:=by
 refine ye (n:=xs.length) (item:=fun i=>xs.getD i .non) Pv hg h0 (fun D i ys H' hi p=>?_) (fun D ys H' p=>⟨xs,hl D _ ys H' (Nat.le_refl _) p,Nat.le_refl _⟩) (fun D i ys H' T Q' hD hi hy p hT k=>?_) hd
 ·have q:=hl D i ys H' (Nat.le_of_lt hi) p
  refine ⟨⟨xs,xs[i],q,List.getElem?_eq_getElem hi⟩,fun x H2 y=>?_⟩
  obtain ⟨T,x0,rfl,hT,rfl,y⟩:=y
  have e:=y xs q
  refine ⟨T,rfl,hT,?_⟩
  show _=upd H' T (.tup [.int i,xs.getD i .non])
  rw [List.getD_eq_getElem?_getD,e]
  rfl
 ·have e:xs.getD i .non=xs[i]:=by rw [List.getD_eq_getElem?_getD,List.getElem?_eq_getElem hi]; rfl
  show te (((aZ ix σ).set 0 (some (.int i))).set 1 (some (xs.getD i .non))) (upd H' T (.tup [.int i,xs.getD i .non])) Q'
  rw [e]
  exact hs D i xs[i] ys H' T Q' hD (List.getElem?_eq_getElem hi) hy p hT k
theorem FnOk.or {P:Program} {w:World} {K:PySem.W.Frag} {mg:Str->Option Value} {base:Heap} {CX:CXT} {k:Nat} {f:Addr} {fd:FuncData} {ps:List Str} {sp sp':Sp} (F:FnOk P w K mg base CX k f fd ps sp) (F':FnOk P w K mg base CX k f fd ps sp') :
  FnOk P w K mg base CX k f fd ps (fun vs H Q E=>sp vs H Q E\/sp' vs H Q E):=
 ⟨fun vs H Q E q=>q.elim (F.len vs H Q E) (F'.len vs H Q E),fun A outer s H args us vs Q E hr he hb hv hs=>hs.elim (F.run A outer s H args us vs Q E hr he hb hv) (F'.run A outer s H args us vs Q E hr he hb hv)⟩
end L2
set_option Elab.async false
set_option linter.all false
set_option maxRecDepth 100000
set_option maxHeartbeats 4000000
namespace L2
open PySem PySem.Spec PyProof.Rows
def EqD (K:PySem.W.Frag) (H:Hp):Nat->V->V->Prop
 | 0,x,y=>∃ i:Int,x=.int i/\y=.int i
 | n+1,x,y=>(∃ i:Int,x=.int i/\y=.int i)\/∃ a b xs ys,x=.ref a/\y=.ref b/\SqT K H a xs/\SqT K H b ys/\Paired (EqD K H n) xs ys
theorem vl {α β:Type} {F:α->β->Prop}:∀ {xs:List α} {ys:List β} {j:Nat} (h1:j<xs.length) (h2:j<ys.length),Paired F xs ys->F xs[j] ys[j]
 | _,_,j,h1,_,.nil=>absurd h1 (Nat.not_lt_zero _)
 | _,_,0,_,_,.cons a _=>a
 | _,_,j+1,h1,h2,.cons _ t=>vl (j:=j) (by simpa using h1) (by simpa using h2) t
section
variable {X:Cx} {pins:List (Addr×Obj)} {σ:St} {H:Hp} {s:Shared}
theorem zC {A:Around} {i:Int} {u v:Value} (ru:RelV (.int i) u) (rv:RelV (.int i) v):SeqAt.EqAt A s u v true:=by
 obtain ⟨t,rfl⟩:=(show ∃ t,u=Value.int i t from ru)
 obtain ⟨t',rfl⟩:=(show ∃ t,v=Value.int i t from rv)
 have z:=SeqAt.EqAt.int_int (A:=A) (s:=s) i t i t'
 rw [beq_self_eq_true] at z
 exact z
theorem zD {n:Nat} (ih:∀ {A:Around} {x y:V} {u v:Value},A.units+n<cLine->EqD X.K H n x y->RelV x u->RelV y v->SeqAt.EqAt A s u v true) {A:Around} {a b:Addr} {xs ys:List V} (I:Inv X pins σ H s) (hu:A.units+(n+1)<cLine) (ha:SqT X.K H a xs) (hb:SqT X.K H b ys) (p:Paired (EqD X.K H n) xs ys):SeqAt.RcAt A s (.ref a) (.ref b) true:=by
 obtain ⟨its,r1,p1,_⟩:=I.tuple ha
 obtain ⟨jts,r2,p2,_⟩:=I.tuple hb
 have l1:=r1.length
 have l2:=r2.length
 have l3:=p.length
 have q:=SeqAt.RcAt.tuples (A:=A) (e:=fun _=>true) p1 p2 (by omega) fun j h1 h2=>by
  have j1:j<xs.length:=by simp at h1; omega
  have j2:j<ys.length:=by omega
  obtain ⟨u1,e1,q1⟩:=r1.get (i:=j) (x:=xs[j]) (by simp [j1])
  obtain ⟨u2,e2,q2⟩:=r2.get (i:=j) (x:=ys[j]) (by simp [j2])
  have g1:its.toArray[j]=u1:=by
   have:=(List.getElem?_eq_some_iff.mp e1).2
   simpa using this
  have g2:jts.toArray[j]=u2:=by
   have:=(List.getElem?_eq_some_iff.mp e2).2
   simpa using this
  rw [g1,g2]
  exact ih (show A.units+1+n<cLine by omega) (vl j1 j2 p) q1 q2
 have e:((List.range (min its.toArray.size jts.toArray.size)).all (fun _=>true)&&its.toArray.size==jts.toArray.size)=true:=by
  simp
  omega
 rw [e] at q
 exact q
theorem EqD.at (I:Inv X pins σ H s):∀ (n:Nat) {A:Around} {x y:V} {u v:Value},A.units+n<cLine->EqD X.K H n x y->RelV x u->RelV y v->SeqAt.EqAt A s u v true
 | 0,A,x,y,u,v,_,h,ru,rv=>by
  obtain ⟨i,rfl,rfl⟩:=h
  exact zC ru rv
 | n+1,A,x,y,u,v,hu,h,ru,rv=>by
  rcases h with ⟨i,rfl,rfl⟩ | ⟨a,b,xs,ys,rfl,rfl,ha,hb,p⟩
  ·exact zC ru rv
  ·cases ru
   cases rv
   by_cases e:a=b
   ·subst e; exact SeqAt.EqAt.same _
   ·exact SeqAt.EqAt.of_refs e (zD (fun {A x y u v} h1 h2 h3 h4=>EqD.at I n h1 h2 h3 h4) I hu ha hb p)
theorem Ei (n:Nat) (hu:X.A.units+(n+1)<cLine):OpR X (compareOp .Eq) (fun x y H Q=>∃ a b xs ys,x=.ref a/\y=.ref b/\SqT X.K H a xs/\SqT X.K H b ys/\Paired (EqD X.K H n) xs ys/\Q (.bl true) H):=by
 intro pins s σ H x y v u Q I r1 r2 h
 obtain ⟨a,b,xs,ys,rfl,rfl,ha,hb,e,q⟩:=h
 cases r1
 cases r2
 exact zD (fun {A x y u v} h1 h2 h3 h4=>EqD.at I n h1 h2 h3 h4) I hu ha hb e X.prog X.w X.xe _ ⟨.bl true,H,I,rfl,q⟩
end
theorem DU {A:Around} {k:Nat} (hr:Room k A):A.units+3<cLine:=by
 have:=hr.un
 omega
end L2
set_option Elab.async false
set_option linter.all false
set_option maxRecDepth 100000
set_option maxHeartbeats 4000000
namespace L2
open PySem PySem.Spec PyProof.Rows
section
variable {X:Cx} {pins:List (Addr×Obj)} {σ:St} {H:Hp} {s:Shared}
open Classical in
noncomputable def isR (H:Hp) (ns:List Int) (u:Value):Bool:=decide (∃ b,u=Value.ref b/\H b=some (.tup (ns.map V.int)))
end
end L2
set_option Elab.async false
set_option linter.all false
set_option maxRecDepth 100000
set_option maxHeartbeats 4000000
namespace L2
open PySem PySem.Spec PyProof.Rows
section
variable {X:Cx}
end
end L2
set_option Elab.async false
set_option linter.all false
set_option maxRecDepth 100000
set_option maxHeartbeats 4000000
namespace L2
open PySem PySem.Spec PyProof.Rows
section
variable {X:Cx} {pins:List (Addr×Obj)} {σ:St} {H:Hp} {s:Shared} {a:Addr} {o:Obj} {kvs:List (List Key×V)}
end
section
variable {X:Cx} {tg:Expr}
end
end L2
set_option Elab.async false
set_option linter.all false
set_option maxRecDepth 100000
set_option maxHeartbeats 4000000
namespace L2
open PySem PySem.Spec PyProof.Rows
end L2
set_option Elab.async false
set_option linter.all false
set_option maxRecDepth 100000
namespace PySem
theorem uD {prog:Program} {w:World} (d:Addr) (n:Nat) (hd:(d==sysModules)=false) :
  MeetsIn prog w (Builtin.«dict.__len__» { pos:=[Value.ref d] }) fun _ R s=>(∃ o es ep,s.heap.get? d=some o/\o.data=Data.dict es ep/\es.size=n)/\R (.ok (.ret (Value.int (n:Int) s.toks))) { s with toks:=s.toks+1 }:=
 MeetsIn.of_wp fun A R s ⟨⟨o,es,ep,h1,h2,h3⟩,h⟩=>by
  show wpAny (model prog w) A.in1 (do
   let n1 <- dictSize d
   let n2 <- Builtin.Dict.pendingCount d
   retInt ((n1:Int)+(n2:Int))) _ _ _
  refine wpAny_bind (wpAny_bind (wpAny_dictEntries h1 h2 (wpAny_pure (wpAny_bind (wpAny_pendingCount_other hd (wpAny_ret_mkInt ?_))))))
  rw [Nat.add_zero,h3]
  exact h
theorem C4 {prog:Program} {w:World} {A:Around} {E:Value->Shared->Prop} {s:Shared} {d:Addr} {n:Nat} {Q:Value->Shared->Prop} (hd:(d==sysModules)=false) (ty:s.TypeIs (.ref d) "dict")
  (hx:∃ o es ep,s.heap.get? d=some o/\o.data=Data.dict es ep/\es.size=n) (hfit:(n:Int)<2^63) (h:Q (Value.int (n:Int) (s.toks+1)) { s with toks:=s.toks+1+1 }) :
  wpAny (model prog w) A (call (Value.builtin "len") [Value.ref d]) Q E s:=by
 refine Calls.call_function_entry kind_len plain_len entry_len (args_len1 (Value.ref d)) ?_
 show wpAny _ _ _ _ _ _
 refine wpAny_bind (wpAny_pure (wpAny_bind (wpAny_callSpecial?_slot ty F.slot_dict_len (call_meetsIn F.slot_dict_len ty F.entry_dict_len (F.args_dict_len_1 _) (uD d n hd) ⟨hx,?_⟩))))
 show wpAny _ _ _ _ _ _
 refine wpAny_bind (wpAny_holding (wpAny_pure (wpAny_bind (wpAny_letGo ?_))))
 show wpAny _ _ (if _ then _ else _) _ _ _
 rw [if_neg (by omega)]
 show wpAny _ _ (if _ then _ else _) _ _ _
 rw [if_neg (by omega)]
 exact wpAny_bind (wpAny_mkInt (wpAny_pure ⟨_,rfl,h⟩))
end PySem
namespace L2
open PySem PySem.Spec PyProof.Rows
end L2
set_option Elab.async false
set_option linter.all false
set_option maxRecDepth 100000
set_option maxHeartbeats 4000000
namespace L2
open PySem PySem.Spec PyProof.Rows
section
variable {X:Cx}
end
end L2
set_option Elab.async false
set_option linter.all false
set_option maxRecDepth 100000
set_option maxHeartbeats 4000000
namespace PySem
section
variable {prog:Program} {w:World} {A:Around} {E:Value->Shared->Prop} {s:Shared}
theorem vn {n:Nat} {a:Addr} {o:Obj} {items:Array Value} {m:Nat} {Q:Bool->Shared->Prop} (hT:s.TypeIs (.ref a) "tuple") (ho:s.heap.get? a=some o) (hd:o.data=.seq items m)
  (hq:∀ y∈items.toList,∀ Q:Bool->Shared->Prop,Q true s->wpAny (model prog w) A (eqIsQuiet n y) Q E s) (h:Q true s):wpAny (model prog w) A (eqIsQuiet (n+1) (.ref a)) Q E s:=by
 rw [eqIsQuiet.eq_def]
 refine wpAny_bind (wpAny_specialOf hT F.slot_tuple_eq.lookup ?_)
 refine wpAny_bind (wpAny_isInstance hT isSubtype_tuple_tuple ?_)
 simp only [Bool.not_true,Bool.false_eq_true,if_false]
 refine wpAny_bind (wpAny_seqItems ho hd ?_)
 refine wpAny_bind ?_
 show wpAny _ _ (forIn items _ _) _ _ _
 rw [<- Array.forIn_toList]
 refine wpAny_forIn_list _ (fun rest r s'=>r.fst=none/\s'=s/\∀ y∈rest,y∈items.toList) _ ?_ ?_ _ _ ⟨rfl,rfl,fun y hy=>hy⟩
 ·rintro v rest ⟨r1,r2⟩ s' ⟨hr,rfl,hall⟩
  refine wpAny_bind (hq v (hall v List.mem_cons_self) _ ?_)
  simp only [Bool.not_true,Bool.false_eq_true,if_false]
  exact wpAny_pure ⟨rfl,rfl,fun y hy=>hall y (List.mem_cons_of_mem _ hy)⟩
 ·rintro ⟨r1,r2⟩ s' ⟨hr,rfl,_⟩
  cases (show r1=none from hr)
  exact wpAny_pure h
theorem zj {i:Int} {Q:Int->Shared->Prop} (h:Q (reduceHash i) s):wpAny (model prog w) A (pyHashByItsType.reduced i) Q E s:=by
 unfold pyHashByItsType.reduced
 unfold reduceHash at h
 by_cases c:(decide (-2^63<=i)&&decide (i<2^63))=true
 ·rw [if_pos c]
  rw [if_pos c] at h
  exact wpAny_pure h
 ·rw [if_neg c]
  rw [if_neg c] at h
  exact wpAny_bind (wpAny_rule (wpAny_pure h))
theorem Am {a:Addr} {o:Obj} {m:Nat} {u v:Value} {hu hv:Int} {du dv:Nat} {Q:Int->Shared->Prop} (hr:A.units<cLine) (hT:s.TypeIs (.ref a) "tuple") (ho:s.heap.get? a=some o) (hd:o.data=.seq #[u,v] m)
  (h1:∀ (E:Value->Shared->Prop) (t:Nat) (Q:Int->Shared->Prop),Q hu { s with toks:=t+du }->wpAny (model prog w) A.in1 (pyHash u) Q E { s with toks:=t }) (h2:∀ (E:Value->Shared->Prop) (t:Nat) (Q:Int->Shared->Prop),Q hv { s with toks:=t+dv }->wpAny (model prog w) A.in1 (pyHash v) Q E { s with toks:=t })
  (h:Q (reduceHash (Builtin.Tuple.tupleHashOf [hu,hv])) { s with toks:=s.toks+(du+dv+1) }):wpAny (model prog w) A (pyHash (.ref a)) Q E s:=by
 show wpAny _ _ (pyHashByItsType (.ref a)) _ _ _
 unfold pyHashByItsType
 refine wpAny_bind (wpAny_cRoomFor_or (.inr hr) (wpAny_bind (wpAny_specialOf hT F.slot_tuple_hash.lookup ?_)))
 rw [if_neg (by rw [beq_builtin_none "tuple.__hash__"]; exact Bool.false_ne_true)]
 refine wpAny_bind (wpAny_specialOf hT F.slot_tuple_hash.lookup ?_)
 refine wpAny_bind (wpAny_callSpecialIfBoundUnlessNone?_slot hT F.slot_tuple_hash (wpAny_call_entry F.slot_tuple_hash hT F.entry_tuple_hash ?_ (F.args_tuple_hash_1 _)))
 show wpAny (model prog w) A.in1 (do
  let xs <- Builtin.Tuple.tupleItemsOf (.ref a)
  let hs <- forIn xs #[] fun x hs=>do
   let i <- pyHash x
   pure (ForInStep.yield (hs.push i))
  retInt (Builtin.Tuple.tupleHashOf hs.toList)) _ _ _
 refine wpAny_bind (wpAny_tupleItemsOf ho hd (wpAny_bind ?_))
 rw [<- Array.forIn_toList]
 simp only [List.forIn_cons,List.forIn_nil]
 refine wpAny_bind (wpAny_bind (h1 _ s.toks _ (wpAny_pure ?_)))
 refine wpAny_bind (wpAny_bind (h2 _ _ _ (wpAny_pure (wpAny_pure ?_))))
 refine wpAny_ret_mkInt ?_
 have e:s.toks+du+dv+1=s.toks+(du+dv+1):=by omega
 show wpAny _ _ (pyHashByItsType.reduced _) _ _ { s with toks:=s.toks+du+dv+1 }
 rw [e]
 exact zj h
end
end PySem
namespace L2
open PySem PySem.Spec PyProof.Rows
theorem xh {P:Program} {w:World}:∀ {ns:List Int} {its:List Value},IntsAre its ns->PySem.ItemsAre (intKind P w) ns its
 | _,_,.nil=>.nil
 | _,_,.cons n t r=>.cons (intKind_is P w n t) (xh r)
def IsNKey (h:Heap) (k:Int×List Int) (a:Addr):Prop := ∃ (t:Tok) (c:Addr) (its:List Value),h.IsTuple a #[.int k.1 t,.ref c]/\h.IsTuple c its.toArray/\IntsAre its k.2
theorem IsNKey.tk {P:Program} {w:World} {h:Heap} {c:Addr} {its:List Value} {ns:List Int} (p:h.IsTuple c its.toArray) (q:IntsAre its ns):IsTupleKey (intKind P w) h ns c:=by
 obtain ⟨o,h1,h2,n,h3⟩:=p
 exact ⟨o,its.toArray,n,h1,h2,h3,by simpa using xh q⟩
theorem kX {h:Heap} {a:Addr} {xs ys:Array Value} (p:h.IsTuple a xs) (q:h.IsTuple a ys):xs=ys:=by
 obtain ⟨o,h1,_,n,h3⟩:=p
 obtain ⟨o',h1',_,n',h3'⟩:=q
 rw [h1] at h1'
 cases h1'
 rw [h3] at h3'
 cases h3'
 rfl
theorem qd {h h':Heap} {a d:Addr} {xs:Array Value} {o:Obj} {es:Array DictEntry} {ep:Nat} (p:h.IsTuple a xs) (ho:h.get? d=some o) (hd:o.data=Data.dict es ep) (hs:Heap.SameBut d h h'):h'.IsTuple a xs:=by
 obtain ⟨o',h1,h2,n,h3⟩:=p
 have ne:a≠d:=fun z=>by
  subst z
  rw [h1] at ho
  cases ho
  rw [h3] at hd
  cases hd
 exact ⟨o',(hs.2 a ne).trans h1,h2,n,h3⟩
theorem se:∀ {its:List Value} {ns ms:List Int},IntsAre its ns->IntsAre its ms->ns=ms
 | _,_,_,.nil,.nil=>rfl
 | _,_,_,.cons n t r,.cons _ _ r'=>by rw [se r r']
theorem Bq {its:List Value} {ns:List Int} (h:IntsAre its ns):∀ y∈its,carriedByValue y=true:=by
 induction h with
 | nil=>intro y hy; cases hy
 | cons n t r ih =>
  intro y hy
  rcases List.mem_cons.mp hy with rfl | z
  ·rfl
  ·exact ih y z
theorem vo {P:Program} {w:World} {A:Around} {E:Value->Shared->Prop} {s:Shared} {n:Nat} {y:Value} (hy:carriedByValue y=true) (Q:Bool->Shared->Prop) (h:Q true s):wpAny (model P w) A (eqIsQuiet n y) Q E s:=by
 rw [eqIsQuiet_byValue n hy]
 exact wpAny_pure h
theorem C8 {A:Around} {s:Shared} {x y:Int×List Int} {a b:Addr} (hr:A.units+1<cLine) (hx:IsNKey s.heap x a) (hy:IsNKey s.heap y b):SeqAt.EqAt A s (.ref a) (.ref b) (decide (x=y)):=by
 obtain ⟨t,c,its,p1,p2,p3⟩:=hx
 obtain ⟨t',c',its',q1,q2,q3⟩:=hy
 by_cases e:a=b
 ·subst e
  have z:=kX p1 q1
  have z1:x.1=y.1/\c=c' := by
   have:=congrArg Array.toList z
   simp only [List.cons.injEq,Value.int.injEq,Value.ref.injEq,and_true] at this
   exact ⟨this.1.1,this.2⟩
  obtain ⟨z1,rfl⟩:=z1
  have z2:=kX p2 q2
  have z3:its=its' := by simpa using congrArg Array.toList z2
  subst z3
  rw [decide_eq_true (Prod.ext z1 (se p3 q3))]
  exact SeqAt.EqAt.same _
 ·have tup:SeqAt.EqAt A.in1 s (.ref c) (.ref c') (decide (x.2=y.2)):=fun prog w E Q h=>wpAny_eqBool_tuple (knd:=intKind prog w) (by show A.units+1<cLine; exact hr) (IsNKey.tk p2 p3) (IsNKey.tk q2 q3) h
  have z:=SeqAt.RcAt.tuples (A:=A) (e:=fun j=>if j=0 then x.1==y.1 else decide (x.2=y.2)) p1 q1 (by omega) fun j h1 h2=>by
   have:j<2:=h1
   match j,this with
   | 0,_=>exact SeqAt.EqAt.int_int _ _ _ _
   | 1,_=>exact tup
  have e2:((List.range (min (#[Value.int x.1 t,Value.ref c]).size (#[Value.int y.1 t',Value.ref c']).size)).all (fun j=>if j=0 then x.1==y.1 else decide (x.2=y.2))&&(#[Value.int x.1 t,Value.ref c]).size==(#[Value.int y.1 t',Value.ref c']).size)=decide (x=y):=by
   show (((x.1==y.1)&&(decide (x.2=y.2)&&true))&&true)=decide (x=y)
   rw [Bool.and_true,Bool.and_true]
   by_cases c1:x.1=y.1
   ·by_cases c2:x.2=y.2
    ·rw [decide_eq_true c2,decide_eq_true (Prod.ext c1 c2),c1,beq_self_eq_true]; rfl
    ·rw [decide_eq_false c2,Bool.and_false,decide_eq_false (show ¬ x=y from fun z=>c2 (by rw [z]))]
   ·rw [beq_false_of_ne c1,Bool.false_and,decide_eq_false (show ¬ x=y from fun z=>c1 (by rw [z]))]
  rw [e2] at z
  exact SeqAt.EqAt.of_refs e z
def xw (P:Program) (w:World):HeapKind P w (Int×List Int) where
 is:=IsNKey
 hash:=fun k=>reduceHash (Builtin.Tuple.tupleHashOf [(intKind P w).hash k.1,tupleKeyHash (intKind P w) k.2])
 draws:=fun k=>1+(k.2.length+1)+1
 room:=fun A=>A.units+1<cLine
 inj:=fun {h a x y} hx hy=>by
  obtain ⟨t,c,its,p1,p2,p3⟩:=hx
  obtain ⟨t',c',its',q1,q2,q3⟩:=hy
  have z:=kX p1 q1
  have z1:x.1=y.1/\c=c' := by
   have:=congrArg Array.toList z
   simp only [List.cons.injEq,Value.int.injEq,Value.ref.injEq,and_true] at this
   exact ⟨this.1.1,this.2⟩
  obtain ⟨z1,rfl⟩:=z1
  have z2:=kX p2 q2
  have z3:its=its' := by simpa using congrArg Array.toList z2
  subst z3
  exact Prod.ext z1 (se p3 q3)
 keeps:=fun {h h' k a d o es ep} x ho hd hs=>by
  obtain ⟨t,c,its,p1,p2,p3⟩:=x
  exact ⟨t,c,its,qd p1 ho hd hs,qd p2 ho hd hs,p3⟩
 pyHash:=fun {A E s k a Q} hr hk h=>by
  obtain ⟨t,c,its,p1,p2,p3⟩:=hk
  have hT:s.TypeIs (.ref a) "tuple" := by obtain ⟨o,h1,h2,_⟩:=p1; exact ⟨o,h1,h2⟩
  obtain ⟨o,h1,h2,m,h3⟩:=p1
  refine Am (du:=1) (dv:=k.2.length+1) (by omega) hT h1 h3 (fun E t' Q hq=>(intKind P w).pyHash (intKind_is P w k.1 t) hq) (fun E t' Q hq=>wpAny_pyHash_tuple (knd:=intKind P w) (s:={ s with toks:=t' }) (by show A.units+1<cLine; exact hr) (IsNKey.tk p2 p3) hq) h
 eqBool:=fun {A E s x y a b Q} hr hx hy h=>C8 hr hx hy P w E Q h
 quiet:=fun {A E s k a Q} hk h=>by
  obtain ⟨t,c,its,p1,p2,p3⟩:=hk
  obtain ⟨o,h1,h2,m,h3⟩:=p1
  obtain ⟨o',g1,g2,m',g3⟩:=p2
  refine vn (n:=7) ⟨o,h1,h2⟩ h1 h3 (fun y hy Q hq=>?_) h
  have hy':y=.int k.1 t\/y=.ref c:=by simpa using hy
  rcases hy' with rfl | rfl
  ·exact vo rfl Q hq
  ·exact vn (n:=6) ⟨o',g1,g2⟩ g1 g3 (fun y hy Q hq=>vo (Bq p3 y (by simpa using hy)) Q hq) hq
end L2
set_option Elab.async false
set_option linter.all false
set_option maxRecDepth 100000
set_option maxHeartbeats 4000000
namespace L2
open PySem PySem.Spec PyProof.Rows
abbrev NK:=Int×List Int
def NumV:Nat->List (NK×Addr)->List (NK×Addr×Value)->Prop
 | _,[],xs=>xs=[]
 | n,p :: ks,xs=>∃ t xs',xs=(p.1,p.2,.int n t) :: xs'/\NumV (n+1) ks xs'
theorem NumV.snoc {k:NK} {b:Addr} {t:Tok}:∀ {ks:List (NK×Addr)} {n:Nat} {xs:List (NK×Addr×Value)},NumV n ks xs->NumV n (ks++[(k,b)]) (xs++[(k,b,.int ((n+ks.length:Nat):Int) t)])
 | [],n,xs,h=>by
  cases (show xs=[] from h)
  exact ⟨t,[],rfl,rfl⟩
 | p :: ks,n,xs,h=>by
  obtain ⟨t',xs',rfl,h'⟩:=h
  refine ⟨t',_,rfl,?_⟩
  have:=NumV.snoc (k:=k) (b:=b) (t:=t) h'
  rw [show n+1+ks.length=n+(p :: ks).length by rw [List.length_cons]; omega] at this
  exact this
theorem NumV.keys:∀ {ks:List (NK×Addr)} {n:Nat} {xs:List (NK×Addr×Value)},NumV n ks xs->xs.map (fun x=>(x.1,x.2.1))=ks
 | [],n,xs,h=>by cases (show xs=[] from h); rfl
 | p :: ks,n,xs,h=>by
  obtain ⟨t',xs',rfl,h'⟩:=h
  rw [List.map_cons,NumV.keys h']
theorem NumV.none {k:NK}:∀ {ks:List (NK×Addr)} {n:Nat} {xs:List (NK×Addr×Value)},NumV n ks xs->k∉ks.map (·.1)->atKey xs k=none
 | [],n,xs,h,_=>by cases (show xs=[] from h); rfl
 | p :: ks,n,xs,h,hk=>by
  obtain ⟨t',xs',rfl,h'⟩:=h
  have ih:=NumV.none h' (k:=k) fun z=>hk (List.mem_cons_of_mem _ z)
  unfold atKey at ih ⊢
  rw [List.find?_cons_of_neg (by simpa using fun z=>hk (by rw [<- z]; exact List.mem_cons_self))]
  exact ih
theorem NumV.there {k:NK}:∀ {ks:List (NK×Addr)} {n j:Nat} {xs:List (NK×Addr×Value)},NumV n ks xs->(ks.map (·.1)).Nodup->(ks.map (·.1))[j]?=some k->∃ b t,atKey xs k=some (b,.int ((n+j:Nat):Int) t)
 | [],n,j,xs,h,_,hk=>by cases hk
 | p :: ks,n,0,xs,h,nd,hk=>by
  obtain ⟨t',xs',rfl,h'⟩:=h
  cases (show some p.1=some k from hk)
  refine ⟨p.2,t',?_⟩
  unfold atKey
  rw [List.find?_cons_of_pos (by simp)]
  rfl
 | p :: ks,n,j+1,xs,h,nd,hk=>by
  obtain ⟨t',xs',rfl,h'⟩:=h
  have nd' := List.nodup_cons.mp nd
  have hk':(ks.map (·.1))[j]?=some k:=hk
  obtain ⟨b,t,e⟩:=NumV.there h' nd'.2 hk'
  refine ⟨b,t,?_⟩
  unfold atKey at e ⊢
  rw [List.find?_cons_of_neg (by simpa using fun z=>nd'.1 (by show p.1∈_; rw [z]; exact List.mem_of_getElem? hk')),e]
  congr 3
  omega
def NDictH (P:Program) (w:World) (d:Addr) (ks:List (NK×Addr)) (h:Heap):Prop:=(d==sysModules)=false/\ks.length<=sizeLine/\(ks.map (·.1)).Nodup/\∃ xs o es ep,NumV 0 ks xs/\h.get? d=some o/\o.ExactDict/\o.data=.dict es ep/\es.toList=xs.map (entryOfKey (xw P w))
abbrev gx (P:Program) (w:World) (d:Addr) (ks:List (NK×Addr)):HO:=.ext (NDictH P w d ks)
theorem NDictH.ok {P:Program} {w:World} {H:Hp} {h:Heap} {d:Addr} {ks:List (NK×Addr)} (x:NDictH P w d ks h):ObjOk P w H h d (gx P w d ks):=
 ⟨x,let ⟨_,_,_,xs,o,es,ep,_,h1,_⟩:=x; ⟨o,h1⟩,fun h1 h2 y k=>let ⟨a1,a2,a3,xs,o,es,ep,a4,a5,a6,a7,a8⟩:=y; ⟨a1,a2,a3,xs,o,es,ep,a4,k o a5,a6,a7,a8⟩⟩
def NKeyAt (H:Hp) (k:NK) (b:Addr):Prop := ∃ c,H b=some (.tup [.int k.1,.ref c])/\H c=some (.tup (k.2.map V.int))
def NKeys (H:Hp) (ks:List (NK×Addr)):Prop := ∀ p∈ks,NKeyAt H p.1 p.2
theorem NKeyAt.same {H H':Hp} {k:NK} {b:Addr} (h:NKeyAt H k b) (s:∀ b xs,H b=some (.tup xs)->H' b=some (.tup xs)):NKeyAt H' k b:=let ⟨c,e1,e2⟩:=h; ⟨c,s _ _ e1,s _ _ e2⟩
theorem NKeys.same {H H':Hp} {ks:List (NK×Addr)} (h:NKeys H ks) (s:∀ b xs,H b=some (.tup xs)->H' b=some (.tup xs)):NKeys H' ks:=fun p hp=>(h p hp).same s
theorem NKeyAt.is {P:Program} {w:World} {H:Hp} {h:Heap} {k:NK} {b:Addr} (ok:HOk P w H h) (x:NKeyAt H k b):IsNKey h k b:=by
 obtain ⟨c,e1,e2⟩:=x
 obtain ⟨_,its,r,p⟩:=(show ObjOk P w H h b (.tup [.int k.1,.ref c]) from ok b _ e1)
 obtain ⟨_,jts,r2,p2⟩:=(show ObjOk P w H h c (.tup (k.2.map V.int)) from ok c _ e2)
 obtain ⟨t,e⟩:∃ t,its=[.int k.1 t,.ref c]:=by
  cases r with
  | cons r1 r' =>
   cases r' with
   | cons r2 r3 =>
    cases r3
    obtain ⟨t,rfl⟩:=r1
    cases r2
    exact ⟨t,rfl⟩
 subst e
 exact ⟨t,c,jts,p,p2,tZ r2⟩
section
variable {X:Cx} {pins:List (Addr×Obj)} {σ:St} {H:Hp} {s:Shared} {d:Addr} {ks:List (NK×Addr)}
theorem BG (I:Inv X pins σ H s) (e:H d=some (gx X.prog X.w d ks)) (hk:NKeys H ks):(d==sysModules)=false/\ks.length<=sizeLine/\(ks.map (·.1)).Nodup/\∃ xs,NumV 0 ks xs/\s.heap.DictOfH (xw X.prog X.w) d xs:=by
 obtain ⟨⟨a1,a2,a3,xs,o,es,ep,a4,a5,a6,a7,a8⟩,_⟩:=(show ObjOk X.prog X.w H s.heap d (gx X.prog X.w d ks) from I.hok d _ e)
 have ek:=a4.keys
 refine ⟨a1,a2,a3,xs,a4,o,es,ep,a5,a6,a7,a8,fun x hx=>?_,?_⟩
 ·exact (hk (x.1,x.2.1) (by rw [<- ek]; exact List.mem_map.mpr ⟨x,hx,rfl⟩)).is I.hok
 ·have:xs.map (fun x=>x.1)=ks.map (·.1):=by rw [<- ek,List.map_map]; rfl
  rw [this]
  exact a3
end
def Ey (P:Program) (w:World):TE:=fun _ H Q=>∀ p,H p=none->Q (.ref p) (upd H p (gx P w p []))
def Dw (P:Program) (w:World) (ty td:TE):TE:=fun σ H Q=>ty σ H fun y H1=>td σ H1 fun x H2=>∃ d b k ks,x=.ref d/\y=.ref b/\H2 d=some (gx P w d ks)/\NKeys H2 ks/\NKeyAt H2 k b/\Q (.bl (!decide (k∈ks.map (·.1)))) H2
def Fh (P:Program) (w:World) (td ty:TE):TE:=fun σ H Q=>td σ H fun x H1=>ty σ H1 fun y H2=>∃ d b k ks j,x=.ref d/\y=.ref b/\H2 d=some (gx P w d ks)/\NKeys H2 ks/\NKeyAt H2 k b/\(ks.map (·.1))[j]?=some k/\Q (.int (j:Nat)) H2
def E8 (P:Program) (w:World) (td ty tv:TE):TS:=fun D σ H=>tv σ H fun v H1=>td σ H1 fun x H2=>ty σ H2 fun y H3=>∃ d b k ks,x=.ref d/\y=.ref b/\v=.int ks.length/\H3 d=some (gx P w d ks)/\NKeys H3 ks/\NKeyAt H3 k b/\k∉ks.map (·.1)/\ks.length<sizeLine/\D.nx σ (upd H3 d (gx P w d (ks++[(k,b)])))
section
variable {X:Cx} {pos pos':Pos} {o i value:Expr} {td ty tv:TE}
theorem B2:PE X (.Dict [] [] pos) (Ey X.prog X.w):=fun pins s σ H Q I h =>
 wpAny_Dict_empty ⟨.ref s.heap.objs.size,_,I.laid (a:=s.heap.objs.size) (o:=gx X.prog X.w s.heap.objs.size []) (t' := s.toks) (fun _ _ q=>Heap.get?_push_of_some _ q) (Nat.le_refl _) (NDictH.ok ⟨beq_eq_false_iff_ne.mpr (Ne.symm (Nat.ne_of_lt I.big)),Nat.zero_le _,List.nodup_nil,[],_,#[],0,rfl,Heap.get?_push_size _ rfl,⟨rfl,rfl,rfl⟩,rfl,rfl⟩),rfl,h _ (I.hok.fresh (Nat.le_refl _))⟩
theorem AJ (hu:X.A.units+2<cLine) (hi:PE X i ty) (ho:PE X o td):PC X .NotIn i o (Dw X.prog X.w ty td):=by
 intro pins s σ H Q I h
 refine thn (hi pins s σ H _ I h) fun iv s1 ⟨y,H1,I1,ry,q1⟩=>thn (ho pins s1 σ H1 _ I1 q1) fun u s2 ⟨x,H2,I2,rx,d,b,k,ks,ex,ey,e,hk,hb,q2⟩=>?_
 subst ex ey
 obtain rfl:u=Value.ref d:=rx
 obtain rfl:iv=Value.ref b:=ry
 obtain ⟨a1,a2,a3,xs,nv,dd⟩:=BG I2 e hk
 refine wpAny_notIn_heap (knd:=xw X.prog X.w) (show X.A.units+1+1<cLine by omega) (hb.is I2.hok) a1 dd ⟨.bl (!decide (k∈ks.map (·.1))),H2,I2.tok _,?_,q2⟩
 by_cases c:k∈ks.map (·.1)
 ·obtain ⟨j,hj,ej⟩:=List.getElem_of_mem c
  obtain ⟨b',t,e'⟩:=nv.there a3 (j:=j) (by rw [List.getElem?_eq_getElem hj,ej])
  rw [e',decide_eq_true c]
  rfl
 ·rw [nv.none c,decide_eq_false c]
  rfl
theorem Dj (hu:X.A.units+2<cLine) (ho:PE X o td) (hi:PE X i ty) (hs:DK i):PE X (.Subscript o i pos) (Fh X.prog X.w td ty):=by
 intro pins s σ H Q I h
 refine zW PySem.F.slot_dict_getitem.lookup hs (thn (ho pins s σ H _ I h) fun u s1 ⟨x,H1,I1,rx,q1⟩=>thn (hi pins s1 σ H1 _ I1 q1) fun iv s2 ⟨y,H2,I2,ry,d,b,k,ks,j,ex,ey,e,hk,hb,hj,q2⟩=>?_)
 subst ex ey
 obtain rfl:u=Value.ref d:=rx
 obtain rfl:iv=Value.ref b:=ry
 obtain ⟨a1,a2,a3,xs,nv,dd⟩:=BG I2 e hk
 obtain ⟨b',t,e'⟩:=nv.there a3 hj
 refine ⟨dd.typeIs,wpAny_getItem_heap (knd:=xw X.prog X.w) (show X.A.units+1+1<cLine by omega) (hb.is I2.hok) dd e' ⟨.int (j:Nat),H2,I2.tok _,?_,q2⟩⟩
 rw [Nat.zero_add]
 exact ⟨t,rfl⟩
theorem Dp (hu:X.A.units+2<cLine) (ho:PE X o td) (hi:PE X i ty) (hv:PE X value tv) (hs:swapsWith value (some (.Subscript o i pos')) pos.line X.env=pure false) :
  PS X (.Assign [.Subscript o i pos'] value pos) (E8 X.prog X.w td ty tv):=by
 intro pins s σ H D I h
 refine wpAny_Assign_Subscript (thn (hv pins s σ H _ I h) fun r s1 ⟨v,H1,I1,rv,q1⟩=>thn (ho pins s1 σ H1 _ I1 q1) fun u s2 ⟨x,H2,I2,rx,q2⟩=>thn (hi pins s2 σ H2 _ I2 q2) fun iv s3 ⟨y,H3,I3,ry,d,b,k,ks,ex,ey,ev,e,hk,hb,nk,hl,q3⟩=>?_) hs
 subst ex ey ev
 obtain rfl:u=Value.ref d:=rx
 obtain rfl:iv=Value.ref b:=ry
 obtain ⟨t,rfl⟩:=(show ∃ t,r=Value.int ks.length t from rv)
 obtain ⟨a1,a2,a3,xs,nv,dd⟩:=BG I3 e hk
 have hz:xs.length<=sizeLine:=by
  have:=congrArg List.length nv.keys
  rw [List.length_map] at this
  omega
 refine wpAny_setItem_heap (knd:=xw X.prog X.w) (hsz:=hz) (show X.A.units+1+1<cLine by omega) (hb.is I3.hok) dd fun h' dd' hsb=>⟨σ,_,?_,q3⟩
 have est:storedH xs k b (.int ks.length t)=xs++[(k,b,.int ks.length t)]:=by
  unfold storedH
  rw [nv.none nk]
  rfl
 rw [est] at dd'
 obtain ⟨o',es,ep,g1,g2,g3,g4,_,_⟩:=dd'
 have nv' := nv.snoc (k:=k) (b:=b) (t:=t)
 rw [Nat.zero_add] at nv'
 refine kL I3 (by rw [e]; exact True.intro) hsb ⟨o',g1⟩ (NDictH.ok ⟨a1,by rw [List.length_append]; exact hl,?_,_,o',es,ep,nv',g1,g2,g3,g4⟩)
 rw [List.map_append]
 exact List.nodup_append.mpr ⟨a3,List.nodup_cons.mpr ⟨by simp,List.nodup_nil⟩,fun a ha c hc z=>nk (by have e1:c=k:=List.mem_singleton.mp hc; rw [<- e1,<- z]; exact ha)⟩
theorem z7:eU X (.builtin "len") (fun xs H Q=>∃ d ks,xs=[.ref d]/\H d=some (gx X.prog X.w d ks)/\Q (.int ks.length) H):=by
 intro pins s σ H xs us Q I r h
 obtain ⟨d,ks,rfl,hd,q⟩:=h
 obtain ⟨u,rfl,rx⟩:=vals1 r
 cases rx
 obtain ⟨⟨a1,a2,a3,xs,o,es,ep,nv,h1,h2,h3,h4⟩,_⟩:=(show ObjOk X.prog X.w H s.heap d (gx X.prog X.w d ks) from I.hok d _ hd)
 have sz:es.size=ks.length:=by
  have e1:=congrArg List.length h4
  have e2:=congrArg List.length nv.keys
  rw [List.length_map] at e1 e2
  rw [<- e2,<- e1,Array.length_toList]
 exact C4 a1 ⟨o,h1,h2.1⟩ ⟨o,es,ep,h1,h3,sz⟩ (by rw [sizeLine_eq] at a2; omega) ⟨.int ks.length,H,I.tok _,⟨_,rfl⟩,q⟩
theorem kJ:eU X (.builtin "len") (fun xs H Q=>∃ (S:Addr) (ns:List Int),xs=[.ref S]/\H S=some (rE X.prog X.w S ns)/\Q (.int ns.length) H):=by
 intro pins s σ H xs us Q I r h
 obtain ⟨S,ns,rfl,hS,q⟩:=h
 obtain ⟨u,rfl,rx⟩:=vals1 r
 cases rx
 obtain ⟨⟨o,es,ep,t,h1,h2,h3,h4,h5,h6,h7,h8,h9⟩,_⟩:=(show ObjOk X.prog X.w H s.heap S (rE X.prog X.w S ns) from I.hok S _ hS)
 have sz:es.size=ns.length:=by
  have:=h6.length_eq
  rw [List.length_map,Array.length_toList] at this
  exact this
 refine call_len_set h1 h2 h3 h8 ?_ ⟨.int ns.length,H,I.tok _,⟨s.toks+1,by rw [sz]⟩,q⟩
 have:es.size<2^63:=Nat.lt_of_lt_of_le h7 (by decide)
 omega
def DD (K:PySem.W.Frag):List V->Hp->VK->Prop:=fun xs H Q=>∃ (a C p:Addr) (ds:List Addr) (b:Bool),xs=[.ref a,.ref p]/\H a=some (.ext (ExAt a C))/\XCls K C/\H p=some (.tup (ds.map V.ref))/\PySem.W.kitAny K (.ref C) (ds.map Value.ref)=some b/\Q (.bl b) H
theorem z6:eU X (.builtin "isinstance") (DD X.K):=by
 intro pins s σ H xs us Q I r h
 obtain ⟨a,C,p,ds,b,rfl,ha,cl,hp,e,q⟩:=h
 obtain ⟨u,v,rfl,ru,rv⟩:=r.two
 cases (show u=Value.ref a from ru)
 cases (show v=Value.ref p from rv)
 obtain ⟨px,_⟩:=(show ObjOk X.prog X.w H s.heap a (.ext (ExAt a C)) from I.hok a _ ha)
 obtain ⟨_,its,r2,o,h1,h2,n,h3⟩:=(show ObjOk X.prog X.w H s.heap p (.tup (ds.map V.ref)) from I.hok p _ hp)
 have ei:=kY r2
 subst ei
 obtain ⟨oc,od,dt,sl⟩:=o
 simp only at h2 h3
 subst h2 h3
 exact PySem.W.kia_tup (xk cl) I.kIn px h1 e (fun z=>nomatch z) fun tk=>⟨.bl b,H,I.tok tk,rfl,q⟩
end
end L2
set_option Elab.async false
set_option linter.all false
set_option maxRecDepth 100000
set_option maxHeartbeats 8000000
namespace My
open PySem L2
abbrev LL:=List (List Int)
abbrev LI:=List Int
abbrev OV:=Option V
theorem gi_ {α:Type} {l:List α} {i:Nat} {a:α} (h:l[i]?=some a):∃ h:i<l.length,l[i]=a:=List.getElem?_eq_some_iff.mp h
theorem mq_ {α:Type} {l:List α} {i:Nat} {a:α} (h:l[i]?=some a):a∈l:=List.mem_of_getElem? h
theorem ma_ {α:Type} {a:α} {s t:List α}:a∈s++t↔a∈s\/a∈t:=List.mem_append
theorem lm_ {α β:Type} {f:α->β} {l:List α}:(l.map f).length=l.length:=List.length_map f
theorem qT_ {K:PySem.W.Frag} {H:Hp} {a:Addr} {xs:List V} (h:H a=some (.tup xs)):SqT K H a xs:=SqT.of h
theorem qL_ {K:PySem.W.Frag} {H:Hp} {a:Addr} {xs:List V} (h:H a=some (.lst xs)):SqL K H a xs:=SqL.of h
def top (i:Nat):Stmt:=PySem.Challenge.pw_figuretell_k25_widened.main.body.getD i (.Pass ⟨0,0,0,0⟩)
abbrev fy:Stmt:=top 12
abbrev cf:Stmt:=top 15
abbrev ij:Stmt:=top 17
abbrev bL:Stmt:=top 18
abbrev cH:Stmt:=top 19
abbrev bq:Stmt:=top 20
abbrev gi:Stmt:=top 21
abbrev cw:Stmt:=top 24
abbrev c8:Stmt:=top 26
abbrev cK:Stmt:=top 28
abbrev c7:Stmt:=top 29
abbrev dS:Stmt:=top 30
abbrev bO:Stmt:=top 31
abbrev c6:Stmt:=top 32
abbrev dU:Stmt:=top 33
abbrev cu:Stmt:=top 34
abbrev bQ:Stmt:=top 35
abbrev cc:Stmt:=top 36
abbrev cj:Stmt:=top 37
abbrev cL:Stmt:=top 38
abbrev cb:Stmt:=top 39
abbrev oy:Stmt:=top 40
abbrev a9:Stmt:=inClass (top 22) 0
abbrev b8:Stmt:=inClass (top 22) 1
abbrev bc:Stmt:=inClass (top 22) 2
abbrev b9:Stmt:=inClass (top 22) 3
abbrev bu:Stmt:=inClass (top 22) 4
abbrev bP:Stmt:=inClass (top 22) 5
theorem nO {c A B:Prop} [Decidable c] (h1:c->A) (h2:¬ c->B):if decide c=true then A else B:=EY (fun h=>h1 (of_decide_eq_true h)) fun h=>h2 fun z=>h (decide_eq_true z)
theorem sh {c A B:Prop} [Decidable c] (h1:¬ c->A) (h2:c->B):if (!decide c)=true then A else B:=EY (fun h=>h1 fun z=>by rw [decide_eq_true z] at h; cases h) fun h=>h2 (Decidable.byContradiction fun z=>h (by rw [decide_eq_false z]; rfl))
theorem ur {a b:Int} {A B:Prop} (h1:a=b->A) (h2:a≠b->B):if decide (V.int a=V.int b)=true then A else B:=nO (fun h=>h1 (V.int.inj h)) fun h=>h2 fun z=>h (congrArg V.int z)
theorem wb {a b m n:Int} (a0:0<=a) (a1:a<=m) (b0:0<=b) (b1:b<=n):0<=a*b/\a*b<=m*n:=⟨Int.mul_nonneg a0 b0,Int.mul_le_mul a1 b1 b0 (Int.le_trans a0 a1)⟩
theorem ft {a b:Int} (h:0<b):0<=a%b/\a%b<b:=⟨Int.emod_nonneg a (by omega),Int.emod_lt_of_pos a h⟩
theorem CT {t u:TS} {D:Ends} {σ:St} {H:Hp} (R:St->Hp->Prop) (h2:∀ σ' H',R σ' H'->u D σ' H') (h1:(∀ σ' H',R σ' H'->u D σ' H')->AN t u D σ H):AN t u D σ H:=h1 h2
theorem dj {t u:TS} {D:Ends} {σ:St} {H:Hp} (R:St->Hp->Prop) (h1:∀ σ' H',R σ' H'->u D σ' H') (h2:∀ D':Ends,(∀ σ' H',R σ' H'->D'.nx σ' H')->t D' σ H):AN t u D σ H:=h2 { D with nx:=u D } h1
theorem aw {H H':Hp} {p:Addr} {o:HO} (h:Same H H') (hp:H p=none):Same H (upd H' p o):=fun b u e=>by rw [ah (au e hp)]; exact h b u e
theorem fu {x:Int} (h:0<=x):∃ n:Nat,x=(n:Int):=⟨x.toNat,by omega⟩
theorem getD_at {α:Type} {xs:List α} {i:Nat} {d:α} (h:i<xs.length):xs.getD i d=xs[i]:=by simp [h]
theorem bS {ns:LI} {k:Int} (h0:0<=k) (h:k<(ns.length:Int)):atI (ns.map V.int) k=some (.int (ns.getD k.toNat 0)):=by
 have hk:k.toNat<ns.length:=by omega
 have ek:k=((k.toNat:Nat):Int):=by omega
 have q:atI (ns.map V.int) ((k.toNat:Nat):Int)=some (.int ns[k.toNat]):=nz (by rw [List.getElem?_map,List.getElem?_eq_getElem hk] <;> rfl)
 rw [<- ek] at q
 rw [q,getD_at hk]
theorem d6 {ras:List Addr} {k:Int} {ra:Addr} (h0:0<=k) (h:ras[k.toNat]?=some ra):atI (ras.map V.ref) k=some (.ref ra):=by
 have ek:k=((k.toNat:Nat):Int):=by omega
 have q:atI (ras.map V.ref) ((k.toNat:Nat):Int)=some (.ref ra):=nz (by rw [List.getElem?_map,h] <;> rfl)
 rw [<- ek] at q
 exact q
theorem bz {ns:LI} {i:Nat} {y:V} (h:(ns.map V.int)[i]?=some y):∃ z,y=V.int z/\ns[i]?=some z:=by
 rw [List.getElem?_map] at h
 cases e:ns[i]? with
 | none=>rw [e] at h; cases h
 | some z=>rw [e] at h; exact ⟨z,(Option.some.inj h).symm,rfl⟩
theorem dz (K:PySem.W.Frag):PySem.W.kitOne K (.type "tuple") (.type "tuple")=some true:=by with_unfolding_all rfl
def stepI (rows:LL) (h f:Int):Int:=(rows.getD h.toNat []).getD f.toNat 0
def aP (rows:LL) (row:LI) (h:Int):Int:=row.foldl (stepI rows) h
structure RowsOk (many wide:Nat) (rows:LL):Prop where
 len:rows.length=many
 row:∀ r∈rows,r.length=wide
 val:∀ r∈rows,∀ v∈r,0<=v/\v<(many:Int)
theorem cx {many wide:Nat} {rows:LL} {h f:Int} (R:RowsOk many wide rows) (h0:0<=h) (h1:h<many) (f0:0<=f) (f1:f<wide):0<=stepI rows h f/\stepI rows h f<many:=by
 have l1:h.toNat<rows.length:=by rw [R.len]; omega
 have l2:f.toNat<rows[h.toNat].length:=by rw [R.row _ (List.getElem_mem l1)]; omega
 unfold stepI
 rw [getD_at l1,getD_at l2]
 exact R.val _ (List.getElem_mem l1) _ (List.getElem_mem l2)
theorem kC {many wide:Nat} {rows:LL} (R:RowsOk many wide rows):∀ {ns:LI} {h:Int},(∀ f∈ns,0<=f/\f<(wide:Int))->0<=h->h<many->0<=aP rows ns h/\aP rows ns h<many
 | [],h,_,h0,h1=>⟨h0,h1⟩
 | f :: r,h,hf,h0,h1=>by
  obtain ⟨a,b⟩:=cx R h0 h1 (hf f List.mem_cons_self).1 (hf f List.mem_cons_self).2
  exact kC (ns:=r) R (fun g hg=>hf g (List.mem_cons_of_mem _ hg)) a b
theorem eS (rows:LL) (xs ys:LI) (h:Int):aP rows (xs++ys) h=aP rows ys (aP rows xs h):=by
 unfold aP
 rw [List.foldl_append]
def RowsAt (H:Hp):List Addr->LL->Prop:=Paired fun a r=>H a=some (.tup (r.map V.int))
theorem RowsAt.length {H:Hp} {ras:List Addr} {rows:LL} (h:RowsAt H ras rows):ras.length=rows.length:=Paired.length h
theorem RowsAt.get:∀ {H:Hp} {ras:List Addr} {rows:LL} {i:Nat},RowsAt H ras rows->(h:i<rows.length)->∃ ra,ras[i]?=some ra/\H ra=some (.tup (rows[i].map V.int))
 | _,_,_,_,.nil,h=>by simp at h
 | _,_,_,0,.cons (a:=a) r _,_=>⟨a,rfl,r⟩
 | _,_,_,i+1,.cons _ t,h=>by
  obtain ⟨ra,h1,h2⟩:=RowsAt.get (i:=i) t (by simpa using h)
  exact ⟨ra,by simpa using h1,by simpa using h2⟩
theorem RowsAt.same {H H':Hp} {ras:List Addr} {rows:LL} (h:RowsAt H ras rows) (s:∀ b xs,H b=some (.tup xs)->H' b=some (.tup xs)):RowsAt H' ras rows:=Paired.mapP h fun _ _ q=>s _ _ q
theorem RowsAt.snoc:∀ {H:Hp} {ras:List Addr} {rows:LL} {a:Addr} {r:LI},RowsAt H ras rows->H a=some (.tup (r.map V.int))->RowsAt H (ras++[a]) (rows++[r])
 | _,_,_,_,_,.nil,h=>.cons h .nil
 | _,_,_,_,_,.cons q t,h=>.cons q (RowsAt.snoc t h)
structure MachAt (H:Hp) (m r g:Addr) (wide:Nat) (rows:LL) (signs:LI):Prop where
 tup:H m=some (.tup [.int wide,.ref r,.ref g])
 rows:∃ ras,H r=some (.tup (ras.map V.ref))/\RowsAt H ras rows
 sgn:H g=some (.tup (signs.map V.int))
theorem MachAt.same {H H':Hp} {m r g:Addr} {wide:Nat} {rows:LL} {signs:LI} (M:MachAt H m r g wide rows signs) (s:∀ b xs,H b=some (.tup xs)->H' b=some (.tup xs)):MachAt H' m r g wide rows signs:=by
 obtain ⟨h1,⟨ras,h2,h3⟩,h4⟩:=M
 exact ⟨s _ _ h1,⟨ras,s _ _ h2,h3.same s⟩,s _ _ h4⟩
theorem xQ {H:Hp} {ras:List Addr} {rows:LL} {many wide:Nat} {h f:Int} (A:RowsAt H ras rows) (R:RowsOk many wide rows) (h0:0<=h) (h1:h<many) (f0:0<=f) (f1:f<wide) :
  ∃ (ra:Addr) (r:LI),atI (ras.map V.ref) h=some (.ref ra)/\H ra=some (.tup (r.map V.int))/\atI (r.map V.int) f=some (.int (stepI rows h f)):=by
 have l1:h.toNat<rows.length:=by rw [R.len]; omega
 have l2:rows[h.toNat].length=wide:=R.row _ (List.getElem_mem l1)
 obtain ⟨ra,e1,e2⟩:=A.get l1
 refine ⟨ra,rows[h.toNat],d6 h0 e1,e2,?_⟩
 rw [bS f0 (by rw [l2]; exact f1)]
 unfold stepI
 rw [getD_at l1]
end My
set_option Elab.async false
set_option linter.all false
set_option maxRecDepth 100000
set_option maxHeartbeats 8000000
namespace My
open PySem L2
def bI (rows:LL) (ρ:Int->Int) (qs:LI):LL:=qs.map fun q=>(rows.getD q.toNat []).map ρ
def bK (signs qs:LI):LI:=qs.map fun q=>signs.getD q.toNat 0
def EJ (H:Hp) (D:Addr) (many:Nat) (rows:LL) (qs:LI) (ρ:Int->Int):Prop := ∃ kvs,H D=some (.dK kvs)/\∀ q∈qs,∀ t∈rows.getD q.toNat [],eR kvs (Sum.inl t)=some (.int (ρ t))
def EK (H:Hp) (D:Addr) (many:Nat) (rows:LL) (qs:LI) (ρ:Int->Int):Prop := ∃ ns:LI,H D=some (.lst (ns.map V.int))/\∀ q∈qs,∀ t∈rows.getD q.toNat [],(0<=t/\t<(ns.length:Int))/\ρ t=ns.getD t.toNat 0
def rC (K:PySem.W.Frag) (Num:Hp->Addr->Nat->LL->LI->(Int->Int)->Prop):Sp:=fun vs H Q _=>∃ (m kl D r g:Addr) (many wide:Nat) (rows:LL) (signs qs:LI) (ρ:Int->Int),vs=[.ref m,.ref kl,.ref D]/\MachAt H m r g wide rows signs/\RowsOk many wide rows/\signs.length=many/\(many<=1000/\wide<=1000) /\
 H kl=some (.lst (qs.map V.int))/\qs.length<=1000/\(∀ q∈qs,0<=q/\q<(many:Int))/\Num H D many rows qs ρ /\
 ∀ (m' r' g':Addr) (H':Hp),Same H H'->MachAt H' m' r' g' wide (bI rows ρ qs) (bK signs qs)->Q (.ref m') H'
theorem RowsAt.kept {H:Hp} {ras:List Addr} {rows:LL} {q:Int} {many wide:Nat} (A:RowsAt H ras rows) (R:RowsOk many wide rows) (h0:0<=q) (h1:q<(many:Int)):∃ ra,atI (ras.map V.ref) q=some (.ref ra)/\H ra=some (.tup ((rows.getD q.toNat []).map V.int))/\(rows.getD q.toNat []).length=wide:=by
 have l:q.toNat<rows.length:=by rw [R.len]; omega
 obtain ⟨ra,e1,e2⟩:=A.get l
 refine ⟨ra,?_,by rw [getD_at l]; exact e2,by rw [getD_at l]; exact R.row _ (List.getElem_mem l)⟩
 have q':atI (ras.map V.ref) ((q.toNat:Nat):Int)=some (.ref ra):=nz (by rw [List.getElem?_map,e1]; rfl)
 rw [Int.toNat_of_nonneg h0] at q'
 exact q'
section
variable {P:Program} {w:World} {K:PySem.W.Frag} {mg:Str->Option Value} {base:Heap} {f:Addr} {fd:FuncData} {dV:Value}
theorem sc_with_rooms:FnScope ["machine","kept","numbers","rows","signs","kept_rows","here"] ["machine","kept","numbers"] (ak bL):=⟨rfl,rfl,rfl,by decide +kernel,rfl,by decide +kernel,by decide +kernel⟩
theorem bk_with_rooms_0:BlkScope ["machine","kept","numbers","rows","signs","kept_rows","here"] (ak bL) ["there","numbers"] [none,some 2] { kind:=ScopeKind.function,names:=[(".0",NameKind.local),("there",NameKind.local),("numbers",NameKind.free)],isGenerator:=false,isCoroutine:=false,more:=[] }:=⟨rfl,by decide +kernel,by decide +kernel,by decide +kernel,by decide +kernel,rfl,by decide +kernel⟩
theorem bk_with_rooms_1:BlkScope ["machine","kept","numbers","rows","signs","kept_rows","here"] (ak bL) ["here","signs"] [none,some 4] { kind:=ScopeKind.function,names:=[(".0",NameKind.local),("here",NameKind.local),("signs",NameKind.free)],isGenerator:=false,isCoroutine:=false,more:=[] }:=⟨rfl,by decide +kernel,by decide +kernel,by decide +kernel,by decide +kernel,rfl,by decide +kernel⟩
theorem AG (F:FunD K "with_rooms" "with_rooms" bL dV f fd) (aQ:mg "tuple" = none):FnOk P w K mg base CX0 1 f fd ["machine","kept","numbers"] (rC K EJ):=by
 refine F.ok sc_with_rooms (fun vs H Q E h=>?_) (fun cdv A outer s H vs Q E hr h=>?_)
 ·obtain ⟨m,kl,D,r,g,many,wide,rows,signs,qs,ρ,rfl,_⟩:=h
  rfl
 obtain ⟨m,kl,D,r,g,many,wide,rows,signs,qs,ρ,rfl,M,R,lsg,⟨n1,w1⟩,hkl,lq,hqs,⟨kvs,hD,hv⟩,k⟩:=h
 obtain ⟨hm,⟨ras,hr',hA⟩,hg⟩:=M
 have hu:=ko hr
 refine ⟨_,(ar (ay (i:=3) sc_with_rooms.nd rfl (Or.inl rfl) (aN aM (pv 0) ao (fun _ _=>rfl)))
   (ar (ay (i:=4) sc_with_rooms.nd rfl (Or.inr rfl) (aN aM (pv 0) ao (fun _ _=>rfl)))
   (ar (ay (i:=5) sc_with_rooms.nd rfl (Or.inl rfl) (eP af))
   (ar (bR PassesOwn.never rfl (cF (pv 1)) (az (i:=6) sc_with_rooms.nd rfl (Or.inl rfl)) (av (bV (i8 PySem.F.plainAttrs_list PySem.F.slot_list_append PySem.F.type_list_append b7 (pv 5) (aa (aO aX (by rfl) aQ bM (aa (c0 rfl bk_with_rooms_0 (gY (aN aM (pv 3) (pv 6) (fun _ _=>rfl))) (fun _ _ _ _=>(az (i:=0) bk_with_rooms_0.nd rfl (Or.inl rfl))) (fun _ _ _ _=>(zP hu (pv 1) (pv 0) (fun _ _=>rfl)))) af)) af)))))
   (av (aU (bF (aa (aN aM (pv 0) ao (fun _ _=>rfl)) (aa (aO aX (by rfl) aQ bM (aa (pv 5) af)) (aa (aO aX (by rfl) aQ bM (aa (c0 rfl bk_with_rooms_1 (cF (pv 1)) (fun _ _ _ _=>(az (i:=0) bk_with_rooms_1.nd rfl (Or.inl rfl))) (fun _ _ _ _=>(aN (qZ K) (pv 1) (pv 0) (fun _ _=>rfl)))) af)) af)))))))))),?_⟩
 refine ⟨_,rfl,m,_,_,_,rfl,rfl,qT_ hm,rfl,?_⟩
 refine ⟨_,rfl,m,_,_,_,rfl,rfl,qT_ hm,rfl,?_⟩
 refine ⟨(by show 0<=sizeLine; decide),fun L hL=>?_⟩
 have sL:=aj hL (HO.lst [])
 try dsimp only [bW,cU]
 refine dj (t:=pT _ _ _) (fun σ' H'=>∃ (as:List Addr) (v:OV),σ'=[some (.ref m),some (.ref kl),some (.ref D),some (.ref r),some (.ref g),some (.ref L),v]/\Same H H'/\H' L=some (.lst (as.map V.ref))/\RowsAt H' as (bI rows ρ qs)) ?_ (fun D' nxt=>?_)
 rotate_left
 ·refine ⟨_,rfl,kl,rfl,⟨_,qL_ (sL _ _ hkl)⟩,?_⟩
  refine fJ (K:=K) (xs:=qs.map V.int) (fun i σ' H'=>∃ (as:List Addr) (v:OV),σ'=[some (.ref m),some (.ref kl),some (.ref D),some (.ref r),some (.ref g),some (.ref L),v]/\Same H H'/\H' L=some (.lst (as.map V.ref))/\RowsAt H' as (bI rows ρ (qs.take i))) ⟨[],none,rfl,sL,ae,.nil⟩ (fun i σ' H' _ ⟨_,_,_,e,_⟩=>qL_ (e _ _ hkl)) ?_ ?_
  ·rintro i y σ' H3 hi ⟨as,v,rfl,s3,hL3,A3⟩
   obtain ⟨z,rfl,hz⟩:=bz hi
   have zm:=mq_ hz
   have li:=(gi_ hz).1
   obtain ⟨z0,z1⟩:=hqs z zm
   obtain ⟨ra,e1,e2,e3⟩:=hA.kept R z0 z1
   have la:as.length=i:=by rw [A3.length]; unfold bI; rw [lm_,List.length_take]; omega
   refine ⟨_,rfl,.inl ⟨rfl,_,qL_ hL3⟩,_,rfl,_,rfl,r,_,_,_,rfl,rfl,qT_ (s3 _ _ hr'),e1,ra,rfl,⟨_,qT_ (s3 _ _ e2)⟩,?_⟩
   refine ke (K:=K) (xs:=(rows.getD z.toNat []).map V.int) (fun D j ys H'=>Same H3 H'/\ys=(((rows.getD z.toNat []).take j).map ρ).map V.int) (fun D hD=>⟨aj hD _,rfl⟩) (fun D j ys H' _ ⟨e,_⟩=>qT_ (e _ _ (s3 _ _ e2))) ?_ ?_
   ·rintro T j y ys H4 Q' hT hj hy ⟨s4,rfl⟩ k'
    obtain ⟨t,rfl,ht⟩:=bz hj
    have tm:=mq_ ht
    have lj:=(gi_ ht).1
    have s34:=s3.trans s4
    have dg:DGet H4 D (.int t) (some (.int (ρ t))):=by
     rw [<- hv z zm t tm]
     exact DGet.k (k:=Sum.inl t) (s34 _ _ hD)
    refine ⟨_,rfl,_,rfl,D,_,rfl,dg,k' _ _ hy (ax (by rw [lm_,lm_,List.length_take]; omega)) ⟨aw s4 hT,?_⟩⟩
    rw [List.take_add_one,ht,List.map_append,List.map_append]
    rfl
   ·rintro T ys H4 hT hy ⟨s4,rfl⟩
    rw [lm_,List.take_length] at hy
    refine ⟨T,_,rfl,.inl ⟨qL_ hy,fun t ht=>?_⟩⟩
    have hL4:=s4 _ _ hL3
    have nL:L≠t:=au hL4 ht
    refine ⟨L,_,_,rfl,rfl,by rw [ah nL]; exact hL4,ax (by rw [lm_]; omega),?_⟩
    have sT:∀ b xs,H3 b=some (.tup xs)->(upd (upd H4 t (.tup (((rows.getD z.toNat []).map ρ).map V.int))) L (.lst (as.map V.ref++[V.ref t]))) b=some (.tup xs):=fun b xs e=>by
     have e4:=s4 _ _ e
     rw [ah (aE e4 hL4 (by intro z; cases z)),ah (au e4 ht)]
     exact e4
    refine ⟨as++[t],_,rfl,aw (aw (s3.trans s4) ((s3.trans s4).free ht)) hL,by rw [ae,List.map_append]; rfl,?_⟩
    have ek:bI rows ρ (qs.take (i+1))=bI rows ρ (qs.take i)++[(rows.getD z.toNat []).map ρ]:=by
     unfold bI
     rw [List.take_add_one,hz,List.map_append]
     rfl
    rw [ek]
    exact RowsAt.snoc (A3.same sT) (by rw [ah (Ne.symm nL),ae])
  ·rintro σ' H3 ⟨as,v,rfl,s3,hL3,A3⟩
   rw [lm_,List.take_length] at A3
   exact nxt _ _ ⟨as,v,rfl,s3,hL3,A3⟩
 rintro σ' H1 ⟨as,v,rfl,s1,hL1,A1⟩
 refine ⟨_,rfl,m,_,_,_,rfl,rfl,qT_ (s1 _ _ hm),rfl,_,rfl,L,_,rfl,.inl ⟨qL_ hL1,fun rt hrt=>?_⟩⟩
 have s2:=aj hrt (HO.tup (as.map V.ref))
 have s12:=s1.trans s2
 refine ⟨_,rfl,kl,rfl,⟨_,qL_ (s12 _ _ hkl)⟩,?_⟩
 refine fc (K:=K) (xs:=qs.map V.int) (fun D j ys H'=>Same (upd H1 rt (HO.tup (as.map V.ref))) H'/\ys=(bK signs (qs.take j)).map V.int) (fun D hD=>⟨aj hD _,rfl⟩) (fun D j ys H' _ ⟨e,_⟩=>qL_ (e _ _ (s12 _ _ hkl))) ?_ ?_
 ·rintro T j y ys H4 Q' hT hj hy ⟨s4,rfl⟩ k'
  obtain ⟨z,rfl,hz⟩:=bz hj
  have li:=(gi_ hz).1
  obtain ⟨z0,z1⟩:=hqs z (mq_ hz)
  refine ⟨_,rfl,_,rfl,g,_,_,_,rfl,rfl,qT_ ((s12.trans s4) _ _ hg),bS z0 (by omega),k' _ _ hy (ax (by unfold bK; rw [lm_,lm_,List.length_take]; omega)) ⟨aw s4 hT,?_⟩⟩
  unfold bK
  rw [List.take_add_one,hz,List.map_append,List.map_append]
  rfl
 rintro G ys H4 hG hy ⟨s4,rfl⟩
 rw [lm_,List.take_length] at hy
 refine ⟨G,_,rfl,.inl ⟨qL_ hy,fun gt hgt=>⟨(by show 3<=sizeLine; decide),fun mm hmm=>?_⟩⟩⟩
 have s5:=aj hgt (HO.tup ((bK signs qs).map V.int))
 have s6:=aj hmm (HO.tup [V.int wide,V.ref rt,V.ref gt])
 have s56:=s5.trans s6
 exact k mm rt gt _ (s12.trans (s4.trans s56)) ⟨ae,⟨as,(s4.trans s56) _ _ ae,A1.same fun b zs e=>(s2.trans (s4.trans s56)) _ _ e⟩,s6 _ _ ae⟩
theorem AH (F:FunD K "with_rooms" "with_rooms" bL dV f fd) (aQ:mg "tuple" = none):FnOk P w K mg base CX0 1 f fd ["machine","kept","numbers"] (rC K EK):=by
 refine F.ok sc_with_rooms (fun vs H Q E h=>?_) (fun cdv A outer s H vs Q E hr h=>?_)
 ·obtain ⟨m,kl,D,r,g,many,wide,rows,signs,qs,ρ,rfl,_⟩:=h
  rfl
 obtain ⟨m,kl,D,r,g,many,wide,rows,signs,qs,ρ,rfl,M,R,lsg,⟨n1,w1⟩,hkl,lq,hqs,⟨nl,hD,hv⟩,k⟩:=h
 obtain ⟨hm,⟨ras,hr',hA⟩,hg⟩:=M
 have hu:=ko hr
 refine ⟨_,(ar (ay (i:=3) sc_with_rooms.nd rfl (Or.inl rfl) (aN aM (pv 0) ao (fun _ _=>rfl)))
   (ar (ay (i:=4) sc_with_rooms.nd rfl (Or.inr rfl) (aN aM (pv 0) ao (fun _ _=>rfl)))
   (ar (ay (i:=5) sc_with_rooms.nd rfl (Or.inl rfl) (eP af))
   (ar (bR PassesOwn.never rfl (cF (pv 1)) (az (i:=6) sc_with_rooms.nd rfl (Or.inl rfl)) (av (bV (i8 PySem.F.plainAttrs_list PySem.F.slot_list_append PySem.F.type_list_append b7 (pv 5) (aa (aO aX (by rfl) aQ bM (aa (c0 rfl bk_with_rooms_0 (gY (aN aM (pv 3) (pv 6) (fun _ _=>rfl))) (fun _ _ _ _=>(az (i:=0) bk_with_rooms_0.nd rfl (Or.inl rfl))) (fun _ _ _ _=>(aN (xi K) (pv 1) (pv 0) (fun _ _=>rfl)))) af)) af)))))
   (av (aU (bF (aa (aN aM (pv 0) ao (fun _ _=>rfl)) (aa (aO aX (by rfl) aQ bM (aa (pv 5) af)) (aa (aO aX (by rfl) aQ bM (aa (c0 rfl bk_with_rooms_1 (cF (pv 1)) (fun _ _ _ _=>(az (i:=0) bk_with_rooms_1.nd rfl (Or.inl rfl))) (fun _ _ _ _=>(aN (qZ K) (pv 1) (pv 0) (fun _ _=>rfl)))) af)) af)))))))))),?_⟩
 refine ⟨_,rfl,m,_,_,_,rfl,rfl,qT_ hm,rfl,?_⟩
 refine ⟨_,rfl,m,_,_,_,rfl,rfl,qT_ hm,rfl,?_⟩
 refine ⟨(by show 0<=sizeLine; decide),fun L hL=>?_⟩
 have sL:=aj hL (HO.lst [])
 try dsimp only [bW,cU]
 refine dj (t:=pT _ _ _) (fun σ' H'=>∃ (as:List Addr) (v:OV),σ'=[some (.ref m),some (.ref kl),some (.ref D),some (.ref r),some (.ref g),some (.ref L),v]/\Same H H'/\H' L=some (.lst (as.map V.ref))/\RowsAt H' as (bI rows ρ qs)) ?_ (fun D' nxt=>?_)
 rotate_left
 ·refine ⟨_,rfl,kl,rfl,⟨_,qL_ (sL _ _ hkl)⟩,?_⟩
  refine fJ (K:=K) (xs:=qs.map V.int) (fun i σ' H'=>∃ (as:List Addr) (v:OV),σ'=[some (.ref m),some (.ref kl),some (.ref D),some (.ref r),some (.ref g),some (.ref L),v]/\Same H H'/\H' L=some (.lst (as.map V.ref))/\RowsAt H' as (bI rows ρ (qs.take i))) ⟨[],none,rfl,sL,ae,.nil⟩ (fun i σ' H' _ ⟨_,_,_,e,_⟩=>qL_ (e _ _ hkl)) ?_ ?_
  ·rintro i y σ' H3 hi ⟨as,v,rfl,s3,hL3,A3⟩
   obtain ⟨z,rfl,hz⟩:=bz hi
   have zm:=mq_ hz
   have li:=(gi_ hz).1
   obtain ⟨z0,z1⟩:=hqs z zm
   obtain ⟨ra,e1,e2,e3⟩:=hA.kept R z0 z1
   have la:as.length=i:=by rw [A3.length]; unfold bI; rw [lm_,List.length_take]; omega
   refine ⟨_,rfl,.inl ⟨rfl,_,qL_ hL3⟩,_,rfl,_,rfl,r,_,_,_,rfl,rfl,qT_ (s3 _ _ hr'),e1,ra,rfl,⟨_,qT_ (s3 _ _ e2)⟩,?_⟩
   refine ke (K:=K) (xs:=(rows.getD z.toNat []).map V.int) (fun D j ys H'=>Same H3 H'/\ys=(((rows.getD z.toNat []).take j).map ρ).map V.int) (fun D hD=>⟨aj hD _,rfl⟩) (fun D j ys H' _ ⟨e,_⟩=>qT_ (e _ _ (s3 _ _ e2))) ?_ ?_
   ·rintro T j y ys H4 Q' hT hj hy ⟨s4,rfl⟩ k'
    obtain ⟨t,rfl,ht⟩:=bz hj
    have tm:=mq_ ht
    have lj:=(gi_ ht).1
    have s34:=s3.trans s4
    obtain ⟨⟨t0,t1⟩,et⟩:=hv z zm t tm
    have at':atI (nl.map V.int) t=some (.int (ρ t)):=by rw [et]; exact bS t0 t1
    refine ⟨_,rfl,_,rfl,D,_,_,_,rfl,rfl,qL_ (s34 _ _ hD),at',k' _ _ hy (ax (by rw [lm_,lm_,List.length_take]; omega)) ⟨aw s4 hT,?_⟩⟩
    rw [List.take_add_one,ht,List.map_append,List.map_append]
    rfl
   ·rintro T ys H4 hT hy ⟨s4,rfl⟩
    rw [lm_,List.take_length] at hy
    refine ⟨T,_,rfl,.inl ⟨qL_ hy,fun t ht=>?_⟩⟩
    have hL4:=s4 _ _ hL3
    have nL:L≠t:=au hL4 ht
    refine ⟨L,_,_,rfl,rfl,by rw [ah nL]; exact hL4,ax (by rw [lm_]; omega),?_⟩
    have sT:∀ b xs,H3 b=some (.tup xs)->(upd (upd H4 t (.tup (((rows.getD z.toNat []).map ρ).map V.int))) L (.lst (as.map V.ref++[V.ref t]))) b=some (.tup xs):=fun b xs e=>by
     have e4:=s4 _ _ e
     rw [ah (aE e4 hL4 (by intro z; cases z)),ah (au e4 ht)]
     exact e4
    refine ⟨as++[t],_,rfl,aw (aw (s3.trans s4) ((s3.trans s4).free ht)) hL,by rw [ae,List.map_append]; rfl,?_⟩
    have ek:bI rows ρ (qs.take (i+1))=bI rows ρ (qs.take i)++[(rows.getD z.toNat []).map ρ]:=by
     unfold bI
     rw [List.take_add_one,hz,List.map_append]
     rfl
    rw [ek]
    exact RowsAt.snoc (A3.same sT) (by rw [ah (Ne.symm nL),ae])
  ·rintro σ' H3 ⟨as,v,rfl,s3,hL3,A3⟩
   rw [lm_,List.take_length] at A3
   exact nxt _ _ ⟨as,v,rfl,s3,hL3,A3⟩
 rintro σ' H1 ⟨as,v,rfl,s1,hL1,A1⟩
 refine ⟨_,rfl,m,_,_,_,rfl,rfl,qT_ (s1 _ _ hm),rfl,_,rfl,L,_,rfl,.inl ⟨qL_ hL1,fun rt hrt=>?_⟩⟩
 have s2:=aj hrt (HO.tup (as.map V.ref))
 have s12:=s1.trans s2
 refine ⟨_,rfl,kl,rfl,⟨_,qL_ (s12 _ _ hkl)⟩,?_⟩
 refine fc (K:=K) (xs:=qs.map V.int) (fun D j ys H'=>Same (upd H1 rt (HO.tup (as.map V.ref))) H'/\ys=(bK signs (qs.take j)).map V.int) (fun D hD=>⟨aj hD _,rfl⟩) (fun D j ys H' _ ⟨e,_⟩=>qL_ (e _ _ (s12 _ _ hkl))) ?_ ?_
 ·rintro T j y ys H4 Q' hT hj hy ⟨s4,rfl⟩ k'
  obtain ⟨z,rfl,hz⟩:=bz hj
  have li:=(gi_ hz).1
  obtain ⟨z0,z1⟩:=hqs z (mq_ hz)
  refine ⟨_,rfl,_,rfl,g,_,_,_,rfl,rfl,qT_ ((s12.trans s4) _ _ hg),bS z0 (by omega),k' _ _ hy (ax (by unfold bK; rw [lm_,lm_,List.length_take]; omega)) ⟨aw s4 hT,?_⟩⟩
  unfold bK
  rw [List.take_add_one,hz,List.map_append,List.map_append]
  rfl
 rintro G ys H4 hG hy ⟨s4,rfl⟩
 rw [lm_,List.take_length] at hy
 refine ⟨G,_,rfl,.inl ⟨qL_ hy,fun gt hgt=>⟨(by show 3<=sizeLine; decide),fun mm hmm=>?_⟩⟩⟩
 have s5:=aj hgt (HO.tup ((bK signs qs).map V.int))
 have s6:=aj hmm (HO.tup [V.int wide,V.ref rt,V.ref gt])
 have s56:=s5.trans s6
 exact k mm rt gt _ (s12.trans (s4.trans s56)) ⟨ae,⟨as,(s4.trans s56) _ _ ae,A1.same fun b zs e=>(s2.trans (s4.trans s56)) _ _ e⟩,s6 _ _ ae⟩
end
theorem vh {α:Type} (p:α->Bool):∀ l:List α,l.length=(l.filter p).length+(l.filter fun x=>!p x).length
 | []=>rfl
 | x :: l=>by
  have ih:=vh p l
  cases e:p x
  ·rw [List.filter_cons_of_neg (by rw [e]; decide),List.filter_cons_of_pos (by rw [e]; rfl),List.length_cons,List.length_cons]
   omega
  ·rw [List.filter_cons_of_pos e,List.filter_cons_of_neg (by rw [e]; decide),List.length_cons,List.length_cons]
   omega
theorem b4:∀ (many:Nat) {ks:LI},ks.Nodup->(∀ q∈ks,0<=q/\q<(many:Int))->ks.length<=many
 | 0,ks,_,h=>by
  cases ks with
  | nil=>exact Nat.le_refl _
  | cons q r=>have:=h q List.mem_cons_self; omega
 | many+1,ks,nd,h=>by
  have e:(ks.filter fun q=>decide (q≠(many:Int))).length<=many:=b4 many (nd.filter _) fun q hq=>by
   have h1:=h q (List.mem_filter.mp hq).1
   have h2:q≠(many:Int):=of_decide_eq_true (List.mem_filter.mp hq).2
   omega
  have c:(ks.filter fun q=>!decide (q≠(many:Int))).length<=1:=by
   have nd2:=nd.filter fun q=>!decide (q≠(many:Int))
   have al:∀ q∈ks.filter (fun q=>!decide (q≠(many:Int))),q=(many:Int):=fun q hq=>by
    have:=(List.mem_filter.mp hq).2
    simpa using this
   match hm:ks.filter (fun q=>!decide (q≠(many:Int))),nd2,al with
   | [],_,_=>exact Nat.zero_le _
   | [x],_,_=>exact Nat.le_refl _
   | x :: y :: r,nd2,al =>
    have h1:=al x List.mem_cons_self
    have h2:=al y (List.mem_cons_of_mem _ List.mem_cons_self)
    rw [h1,h2] at nd2
    exact absurd List.mem_cons_self (List.nodup_cons.mp nd2).1
  have t:=vh (fun q=>decide (q≠(many:Int))) ks
  omega
def kvT (ks:LI):List (Key×V):=ks.map fun q=>(Sum.inl q,V.bl true)
theorem rh (ks:LI) (q:Int):(eR (kvT ks) (Sum.inl q)).isSome=decide (q∈ks):=by
 induction ks with
 | nil=>rfl
 | cons k r ih =>
  by_cases e:k=q
  ·subst e
   rw [show kvT (k :: r)=(Sum.inl k,V.bl true) :: kvT r from rfl,je rfl]
   simp
  ·rw [show kvT (k :: r)=(Sum.inl k,V.bl true) :: kvT r from rfl,hU (fun z=>e (Sum.inl.inj z)),ih]
   simp [Ne.symm e]
theorem rg {ks:LI} {q:Int} (h:q∉ks):putK (kvT ks) (Sum.inl q) (V.bl true)=kvT (ks++[q]):=by
 unfold putK
 rw [if_neg (by
  intro z
  obtain ⟨p,hp,e⟩:=List.any_eq_true.mp z
  obtain ⟨k,hk,rfl⟩:=List.mem_map.mp hp
  have:=Sum.inl.inj (of_decide_eq_true e)
  exact h (this ▸ hk))]
 unfold kvT
 rw [List.map_append]
 rfl
def kvL (es:List (Int×Addr)):List (Key×V):=es.map fun e=>(Sum.inl e.1,V.ref e.2)
theorem xn:∀ {es:List (Int×Addr)} {q:Int},q∉es.map Prod.fst->eR (kvL es) (Sum.inl q)=none
 | [],_,_=>rfl
 | e :: es,q,h=>by
  rw [show kvL (e :: es)=(Sum.inl e.1,V.ref e.2) :: kvL es from rfl,hU (fun z=>h (by rw [<- Sum.inl.inj z]; exact List.mem_cons_self))]
  exact xn fun z=>h (List.mem_cons_of_mem _ z)
theorem sr:∀ {es:List (Int×Addr)} {q:Int} {a:Addr} {j:Nat},(es.map Prod.fst).Nodup->es[j]?=some (q,a)->eR (kvL es) (Sum.inl q)=some (V.ref a)
 | [],_,_,_,_,h=>by cases h
 | e :: es,q,a,0,_,h=>by
  cases h
  exact je rfl
 | e :: es,q,a,j+1,nd,h=>by
  have nd' := List.nodup_cons.mp (show (e.1 :: es.map Prod.fst).Nodup from nd)
  have h':es[j]?=some (q,a):=h
  rw [show kvL (e :: es)=(Sum.inl e.1,V.ref e.2) :: kvL es from rfl,hU (fun z=>nd'.1 (by
   have:e.1=q:=Sum.inl.inj z
   rw [this]
   exact List.mem_map.mpr ⟨(q,a),mq_ h',rfl⟩))]
  exact sr nd'.2 h'
theorem C2 {es:List (Int×Addr)} {q:Int} {a:Addr} (h:q∉es.map Prod.fst):putK (kvL es) (Sum.inl q) (V.ref a)=kvL (es++[(q,a)]):=by
 unfold putK
 rw [if_neg (by
  intro z
  obtain ⟨p,hp,e⟩:=List.any_eq_true.mp z
  obtain ⟨k,hk,rfl⟩:=List.mem_map.mp hp
  have:=Sum.inl.inj (of_decide_eq_true e)
  exact h (this ▸ List.mem_map.mpr ⟨k,hk,rfl⟩))]
 unfold kvL
 rw [List.map_append]
 rfl
theorem snoc_cases {α:Type} {xs:List α} {y z:α} {j:Nat} (h:(xs++[y])[j]?=some z):xs[j]?=some z\/(j=xs.length/\z=y):=by
 rcases Nat.lt_or_ge j xs.length with q | q
 ·rw [List.getElem?_append_left q] at h
  exact .inl h
 ·rw [List.getElem?_append_right q] at h
  rcases Nat.lt_or_ge (j-xs.length) 1 with p | p
  ·have e:j=xs.length:=by omega
   subst e
   rw [Nat.sub_self] at h
   exact .inr ⟨rfl,(Option.some.inj h).symm⟩
  ·rw [List.getElem?_eq_none (by simpa using p)] at h
   cases h
theorem PairsV.same {H H':Hp} {ts:List Addr} {kvs:List (Key×V)} (h:PairsV H ts kvs) (s:∀ b xs,H b=some (.tup xs)->H' b=some (.tup xs)):PairsV H' ts kvs:=Paired.mapP h fun _ _ q=>s _ _ q
theorem xt:∀ {gs ks:LI},(ks++gs).Nodup->cT (kvT ks) (kvT gs)=kvT (ks++gs)
 | [],ks,_=>by rw [List.append_nil]; rfl
 | g :: gs,ks,nd=>by
  have hg:g∉ks:=fun z=>(List.nodup_append.mp nd).2.2 g z g List.mem_cons_self rfl
  show cT (putK (kvT ks) (Sum.inl g) (V.bl true)) (kvT gs)=_
  rw [rg hg,xt (by rw [List.append_assoc]; exact nd),List.append_assoc]
  rfl
theorem vk {gs:LI} (nd:gs.Nodup):cT [] (kvT gs)=kvT gs:=xt (ks:=[]) nd
structure BackOk (H0 H:Hp) (B:Addr) (es:List (Int×Addr)) (P:Int->LI->Prop):Prop where
 at_:H B=some (.dK (kvL es))
 nd:(es.map Prod.fst).Nodup
 nd2:(es.map Prod.snd).Nodup
 fresh:∀ e∈es,H0 e.2=none
 lst:∀ e∈es,∃ ls:LI,H e.2=some (.lst (ls.map V.int))/\P e.1 ls
 non:∀ q,q∉es.map Prod.fst->P q []
theorem BackOk.get {H0 H:Hp} {B:Addr} {es:List (Int×Addr)} {P:Int->LI->Prop} (b:BackOk H0 H B es P) {q:Int} {v:V} (h:eR (kvL es) (Sum.inl q)=some v):∃ la ls,v=.ref la/\(q,la)∈es/\H la=some (.lst (ls.map V.int))/\P q ls:=by
 have hm:q∈es.map Prod.fst:=Classical.byContradiction fun z=>by rw [xn z] at h; cases h
 obtain ⟨e,he,rfl⟩:=List.mem_map.mp hm
 obtain ⟨j,hj⟩:=List.mem_iff_getElem?.mp he
 have:=sr b.nd (q:=e.1) (a:=e.2) hj
 rw [this] at h
 obtain ⟨ls,h1,h2⟩:=b.lst e he
 exact ⟨e.2,ls,(Option.some.inj h).symm,he,h1,h2⟩
theorem CY {es:List (Int×Addr)} (nd:(es.map Prod.fst).Nodup) {e e':Int×Addr} (h:e∈es) (h':e'∈es) (q:e.1=e'.1):e=e' := by
 obtain ⟨i,hi,ei⟩:=List.getElem_of_mem h
 obtain ⟨j,hj,ej⟩:=List.getElem_of_mem h'
 have:(es.map Prod.fst)[i]'(by simpa using hi)=(es.map Prod.fst)[j]'(by simpa using hj):=by simp [ei,ej,q]
 have:=(List.getElem_inj nd).mp this
 subst this
 rw [<- ei,<- ej]
theorem Du {es:List (Int×Addr)} (nd:(es.map Prod.snd).Nodup) {e e':Int×Addr} (h:e∈es) (h':e'∈es) (q:e.2=e'.2):e=e' := by
 obtain ⟨i,hi,ei⟩:=List.getElem_of_mem h
 obtain ⟨j,hj,ej⟩:=List.getElem_of_mem h'
 have:(es.map Prod.snd)[i]'(by simpa using hi)=(es.map Prod.snd)[j]'(by simpa using hj):=by simp [ei,ej,q]
 have:=(List.getElem_inj nd).mp this
 subst this
 rw [<- ei,<- ej]
theorem BackOk.old {H0 H:Hp} {B la:Addr} {es:List (Int×Addr)} {P P':Int->LI->Prop} {q h:Int} {ls:LI} (b:BackOk H0 H B es P) (hm:(q,la)∈es) (hla:H la=some (.lst (ls.map V.int))) (hp:P' q (ls++[h])) (ho:∀ p ls,p≠q->P p ls->P' p ls) :
  BackOk H0 (upd H la (.lst (ls.map V.int++[.int h]))) B es P' where
 at_:=by rw [ah (aE b.at_ hla (by intro z; cases z))]; exact b.at_
 nd:=b.nd
 nd2:=b.nd2
 fresh:=b.fresh
 lst:=fun e he=>by
  by_cases c:e.2=la
  ·have:=Du b.nd2 he hm c
   subst this
   exact ⟨ls++[h],by rw [ae,List.map_append]; rfl,hp⟩
  ·obtain ⟨ms,h1,h2⟩:=b.lst e he
   refine ⟨ms,by rw [ah c]; exact h1,ho _ _ (fun z=>c ?_) h2⟩
   have:=CY b.nd he hm z
   rw [this]
 non:=fun p hp'=>ho p [] (fun z=>hp' (by rw [z]; exact List.mem_map.mpr ⟨_,hm,rfl⟩)) (b.non p hp')
theorem BackOk.new {H0 H:Hp} {B L:Addr} {es:List (Int×Addr)} {P P':Int->LI->Prop} {q h:Int} (b:BackOk H0 H B es P) (hq:q∉es.map Prod.fst) (hL:H L=some (.lst [])) (fL:H0 L=none) (nL:∀ e∈es,e.2≠L) (hp:P' q [h]) (ho:∀ p ls,p≠q->P p ls->P' p ls) :
  BackOk H0 (upd (upd H B (.dK (putK (kvL es) (Sum.inl q) (.ref L)))) L (.lst [.int h])) B (es++[(q,L)]) P' where
 at_:=by rw [ah (aE b.at_ hL (by intro z; cases z)),ae,C2 hq]
 nd:=by rw [List.map_append]; exact nX b.nd hq
 nd2:=by
  rw [List.map_append]
  refine nX b.nd2 fun z=>?_
  obtain ⟨e,he,e2⟩:=List.mem_map.mp z
  exact nL e he e2
 fresh:=fun e he=>by
  rcases ma_.mp he with z | z
  ·exact b.fresh e z
  ·rw [List.mem_singleton.mp z]; exact fL
 lst:=fun e he=>by
  rcases ma_.mp he with z | z
  ·obtain ⟨ms,h1,h2⟩:=b.lst e z
   refine ⟨ms,by rw [ah (nL e z),ah (aE h1 b.at_ (by intro z; cases z))]; exact h1,ho _ _ (fun y=>hq ?_) h2⟩
   rw [<- y]
   exact List.mem_map.mpr ⟨e,z,rfl⟩
  ·rw [List.mem_singleton.mp z]
   exact ⟨[h],by rw [ae]; rfl,hp⟩
 non:=fun p hp'=>by
  rw [List.map_append] at hp'
  exact ho p [] (fun z=>hp' (by rw [z]; exact List.mem_append_right _ List.mem_cons_self)) (b.non p fun z=>hp' (List.mem_append_left _ z))
theorem BackOk.keep {H0 H H':Hp} {B:Addr} {es:List (Int×Addr)} {P:Int->LI->Prop} (b:BackOk H0 H B es P) (hB:H' B=H B) (hl:∀ e∈es,H' e.2=H e.2):BackOk H0 H' B es P where
 at_:=by rw [hB]; exact b.at_
 nd:=b.nd
 nd2:=b.nd2
 fresh:=b.fresh
 lst:=fun e he=>by rw [hl e he]; exact b.lst e he
 non:=b.non
theorem BackOk.same {H0 H H':Hp} {B:Addr} {es:List (Int×Addr)} {P:Int->LI->Prop} (b:BackOk H0 H B es P) (s:Same H H'):BackOk H0 H' B es P where
 at_:=s _ _ b.at_
 nd:=b.nd
 nd2:=b.nd2
 fresh:=b.fresh
 lst:=fun e he=>by
  obtain ⟨ls,h1,h2⟩:=b.lst e he
  exact ⟨ls,s _ _ h1,h2⟩
 non:=b.non
def nG (rows:LL) (wide:Nat):LL:=(List.range wide).map fun f=>rows.map fun r=>r.getD f 0
def y7 (K:PySem.W.Frag):Sp:=fun vs H Q _=>∃ (m r g:Addr) (many wide:Nat) (rows:LL) (signs:LI),vs=[.ref m]/\MachAt H m r g wide rows signs/\RowsOk many wide rows/\(many<=1000/\wide<=1000) /\
 ∀ (l:Addr) (cs:List Addr) (H':Hp),Same H H'->H' l=some (.lst (cs.map V.ref))->RowsAt H' cs (nG rows wide)->Q (.ref l) H'
def ck (col:LI) (q:Int):LI:=((List.range col.length).filter fun i=>decide (col.getD i 0=q)).map fun i:Nat=>(i:Int)
theorem xK (col:LI) (q:Int):(ck col q).length<=col.length:=by
 unfold ck
 rw [lm_]
 exact Nat.le_trans (List.length_filter_le _ _) (by simp)
theorem pL (col:LI) (t q:Int):ck (col++[t]) q=ck col q++(if t=q then [(col.length:Int)] else []):=by
 unfold ck
 rw [List.length_append,List.length_singleton,List.range_succ,List.filter_append,List.map_append]
 congr 1
 ·congr 1
  refine List.filter_congr fun i hi=>?_
  have l:=List.mem_range.mp hi
  rw [List.getD_eq_getElem?_getD,List.getD_eq_getElem?_getD,List.getElem?_append_left l]
 ·have e:(col++[t]).getD col.length 0=t:=by rw [List.getD_eq_getElem?_getD,List.getElem?_append_right (Nat.le_refl _),Nat.sub_self]; rfl
  by_cases c:t=q
  ·rw [if_pos c,List.filter_cons_of_pos (by rw [e]; exact decide_eq_true c)]; rfl
  ·rw [if_neg c,List.filter_cons_of_neg (by rw [e,decide_eq_false c]; decide)]; rfl
theorem preI_mem {col:LI} {q x:Int}:x∈ck col q↔(0<=x/\x<(col.length:Int))/\col.getD x.toNat 0=q:=by
 unfold ck
 rw [List.mem_map]
 constructor
 ·rintro ⟨i,hi,rfl⟩
  have h:=List.mem_filter.mp hi
  have h1:=List.mem_range.mp h.1
  exact ⟨⟨by omega,by omega⟩,by rw [Int.toNat_natCast]; exact of_decide_eq_true h.2⟩
 ·rintro ⟨⟨h0,h1⟩,h2⟩
  exact ⟨x.toNat,List.mem_filter.mpr ⟨List.mem_range.mpr (by omega),decide_eq_true h2⟩,by omega⟩
def wH (K:PySem.W.Frag):Sp:=fun vs H Q _=>∃ (c:Addr) (many:Nat) (col:LI),vs=[.ref c]/\H c=some (.tup (col.map V.int))/\col.length<=1000/\many<=1000/\(∀ t∈col,0<=t/\t<(many:Int)) /\
 ∀ (B:Addr) (es:List (Int×Addr)) (H':Hp),Same H H'->H B=none->BackOk H H' B es (fun q ls=>ls=ck col q)->Q (.ref B) H'
section
variable {P:Program} {w:World} {K:PySem.W.Frag} {mg:Str->Option Value} {base:Heap} {f:Addr} {fd:FuncData} {dV:Value}
theorem sc_columns_of:FnScope ["machine","rows","columns","figure"] ["machine"] (ak cH):=⟨rfl,rfl,rfl,by decide +kernel,rfl,by decide +kernel,by decide +kernel⟩
theorem bk_columns_of_0:BlkScope ["machine","rows","columns","figure"] (ak cH) ["row","figure"] [none,some 3] { kind:=ScopeKind.function,names:=[(".0",NameKind.local),("row",NameKind.local),("figure",NameKind.free)],isGenerator:=false,isCoroutine:=false,more:=[] }:=⟨rfl,by decide +kernel,by decide +kernel,by decide +kernel,by decide +kernel,rfl,by decide +kernel⟩
theorem sc_back_of:FnScope ["column","back","here","there"] ["column"] (ak gi):=⟨rfl,rfl,rfl,by decide +kernel,rfl,by decide +kernel,by decide +kernel⟩
theorem Dc (F:FunD K "columns_of" "columns_of" cH dV f fd) (aW:mg "range" = none) (aQ:mg "tuple" = none):FnOk P w K mg base CX0 1 f fd ["machine"] (y7 K):=by
 refine F.ok sc_columns_of (fun vs H Q E h=>?_) (fun cdv A outer s H vs Q E hr h=>?_)
 ·obtain ⟨m,r,g,many,wide,rows,signs,rfl,_⟩:=h
  rfl
 obtain ⟨m,r,g,many,wide,rows,signs,rfl,M,R,⟨n1,w1⟩,k⟩:=h
 obtain ⟨hm,⟨ras,hr',hA⟩,hg⟩:=M
 refine ⟨_,(ar (ay (i:=1) sc_columns_of.nd rfl (Or.inl rfl) (aN aM (pv 0) ao (fun _ _=>rfl)))
   (ar (ay (i:=2) sc_columns_of.nd rfl (Or.inl rfl) (eP af))
   (ar (bR PassesOwn.never rfl (cq rfl aW (aa (aN aM (pv 0) ao (fun _ _=>rfl)) af)) (az (i:=3) sc_columns_of.nd rfl (Or.inr rfl)) (av (bV (i8 PySem.F.plainAttrs_list PySem.F.slot_list_append PySem.F.type_list_append b7 (pv 2) (aa (aO aX (by rfl) aQ bM (aa (c0 rfl bk_columns_of_0 (gY (pv 1)) (fun _ _ _ _=>(az (i:=0) bk_columns_of_0.nd rfl (Or.inl rfl))) (fun _ _ _ _=>(aN (qZ K) (pv 0) (pv 1) (fun _ _=>rfl)))) af)) af)))))
   (av (aU (pv 2)))))),?_⟩
 refine ⟨_,rfl,m,_,_,_,rfl,rfl,qT_ hm,rfl,?_⟩
 refine ⟨(by show 0<=sizeLine; decide),fun L hL=>?_⟩
 have sL:=aj hL (HO.lst [])
 refine ⟨_,rfl,m,_,_,_,rfl,rfl,qT_ (sL _ _ hm),rfl,_,rfl,by omega,by omega,?_⟩
 refine fj (fun i σ' H'=>∃ (as:List Addr) (v:OV),σ'=[some (.ref m),some (.ref r),some (.ref L),v]/\Same H H'/\H' L=some (.lst (as.map V.ref))/\RowsAt H' as ((List.range i).map fun f=>rows.map fun r=>r.getD f 0)) ⟨[],none,rfl,sL,ae,.nil⟩ ?_ ?_
 ·rintro i σ' H3 hi ⟨as,v,rfl,s3,hL3,A3⟩
  rw [Int.toNat_natCast] at hi
  have la:as.length=i:=by rw [A3.length,lm_,List.length_range]
  have z0:(0:Int)+(i:Int)=(i:Int):=Int.zero_add _
  refine ⟨_,rfl,.inl ⟨rfl,_,qL_ hL3⟩,_,rfl,r,rfl,⟨_,qT_ (s3 _ _ hr')⟩,?_⟩
  refine ke (K:=K) (xs:=ras.map V.ref) (fun D j ys H'=>Same H3 H'/\ys=((rows.take j).map fun r=>r.getD i 0).map V.int) (fun D hD=>⟨aj hD _,rfl⟩) (fun D j ys H' _ ⟨e,_⟩=>qT_ (e _ _ (s3 _ _ hr'))) ?_ ?_
  ·rintro T j y ys H4 Q' hT hj hy ⟨s4,rfl⟩ k'
   have jl:j<rows.length:=by
    have:=(gi_ hj).1
    rw [lm_,hA.length] at this
    exact this
   obtain ⟨ra,e1,e2⟩:=hA.get jl
   have ey:y=.ref ra:=by rw [List.getElem?_map,e1] at hj; exact (Option.some.inj hj).symm
   subst ey
   have lr:=R.len
   have lrow:rows[j].length=wide:=R.row _ (List.getElem_mem jl)
   have at1:atI (rows[j].map V.int) (0+(i:Int))=some (.int (rows[j].getD i 0)):=by
    rw [z0,bS (by omega) (by omega),Int.toNat_natCast]
   refine ⟨_,rfl,_,rfl,ra,_,_,_,rfl,rfl,qT_ ((s3.trans s4) _ _ e2),at1,k' _ _ hy (ax (by rw [lm_,lm_,List.length_take]; omega)) ⟨aw s4 hT,?_⟩⟩
   rw [List.take_add_one,List.getElem?_eq_getElem jl,List.map_append,List.map_append]
   rfl
  ·rintro T ys H4 hT hy ⟨s4,rfl⟩
   rw [lm_,hA.length,List.take_length] at hy
   refine ⟨T,_,rfl,.inl ⟨qL_ hy,fun t ht=>?_⟩⟩
   have hL4:=s4 _ _ hL3
   have nL:L≠t:=au hL4 ht
   refine ⟨L,_,_,rfl,rfl,by rw [ah nL]; exact hL4,ax (by rw [lm_]; omega),?_⟩
   have sT:∀ b xs,H3 b=some (.tup xs)->(upd (upd H4 t (.tup ((rows.map fun r=>r.getD i 0).map V.int))) L (.lst (as.map V.ref++[V.ref t]))) b=some (.tup xs):=fun b xs e=>by
    have e4:=s4 _ _ e
    rw [ah (aE e4 hL4 (by intro z; cases z)),ah (au e4 ht)]
    exact e4
   refine ⟨as++[t],_,rfl,aw (aw (s3.trans s4) ((s3.trans s4).free ht)) hL,by rw [ae,List.map_append]; rfl,?_⟩
   rw [List.range_succ,List.map_append]
   exact RowsAt.snoc (A3.same sT) (by rw [ah (Ne.symm nL),ae])
 ·rintro σ' H3 ⟨as,v,rfl,s3,hL3,A3⟩
  rw [Int.toNat_natCast] at A3
  exact ⟨_,rfl,k L as _ s3 hL3 A3⟩
theorem BL (F:FunD K "back_of" "back_of" gi dV f fd) (bZ:mg "enumerate" = none):FnOk P w K mg base CX0 1 f fd ["column"] (wH K):=by
 refine F.ok sc_back_of (fun vs H Q E h=>?_) (fun cdv A outer s H vs Q E hr h=>?_)
 ·obtain ⟨c,many,col,rfl,_⟩:=h
  rfl
 obtain ⟨c,many,col,rfl,hc,lc,n1,hcol,k⟩:=h
 have hu:=ko hr
 refine ⟨_,(ar (ay (i:=1) sc_back_of.nd rfl (Or.inl rfl) kB)
   (ar (bR PassesOwn.never rfl (B8 rfl bZ (aa (pv 0) af)) (pI rfl (cI (az (i:=2) sc_back_of.nd rfl (Or.inl rfl)) (cI (az (i:=3) sc_back_of.nd rfl (Or.inl rfl)) kS))) (av (bV (i8 PySem.F.plainAttrs_list PySem.F.slot_list_append PySem.F.type_list_append b7 (wo (pv 1) (pv 3) (eP af) ⟨rfl,rfl,rfl,rfl⟩) (aa (pv 2) af)))))
   (av (aU (pv 1))))),?_⟩
 refine fun B hB=>?_
 have s0:=aj hB (HO.dK [])
 have b0:BackOk H (upd H B (.dK [])) B [] (fun q ls=>ls=ck (col.take 0) q):=⟨ae,List.Pairwise.nil,List.Pairwise.nil,(fun e h=>by cases h),(fun e h=>by cases h),fun q _=>rfl⟩
 refine ⟨_,rfl,c,rfl,⟨_,qT_ (s0 _ _ hc)⟩,Ai (K:=K) (xs:=col.map V.int) (fun i σ' H'=>∃ (es:List (Int×Addr)) (v1 v2:OV),σ'=[some (.ref c),some (.ref B),v1,v2]/\Same H H'/\(∀ e∈es,0<=e.1/\e.1<(many:Int))/\BackOk H H' B es (fun q ls=>ls=ck (col.take i) q))
  ⟨[],none,none,rfl,s0,(fun e h=>by cases h),b0⟩ (fun i σ' H' _ ⟨_,_,_,_,e,_⟩=>qT_ (e _ _ hc)) ?_ ?_⟩
 ·rintro i y σ' H1 T hi ⟨es,v1,v2,rfl,s1,kr,b1⟩ hT
  obtain ⟨t,rfl,ht⟩:=bz hi
  have il:=(gi_ ht).1
  have stq:=hcol t (mq_ ht)
  have sT:=aj hT (HO.tup [V.int i,V.int t])
  obtain ⟨H2,eH2⟩:∃ H2,upd H1 T (HO.tup [V.int i,V.int t])=H2:=⟨_,rfl⟩
  have hT2:H2 T=some (.tup [V.int i,V.int t]):=by rw [<- eH2]; exact ae
  rw [eH2] at sT ⊢
  have s2:=s1.trans sT
  have b2:=b1.same sT
  refine ⟨T,_,rfl,qT_ hT2,rfl,_,_,rfl,_,_,rfl,rfl,?_⟩
  refine ⟨_,rfl,B,rfl,.inl ⟨_,.inl b2.at_⟩,_,rfl,(by show 0<=sizeLine; decide),fun L hL=>?_⟩
  have sL:=aj hL (HO.lst [])
  have b3:=b2.same sL
  have nL:∀ e∈es,e.2≠L:=fun e he z=>by
   obtain ⟨ls,h1,_⟩:=b2.lst e he
   rw [z,hL] at h1
   cases h1
  have nLB:B≠L:=au b2.at_ hL
  have fL:H L=none:=s2.free hL
  have few:=b4 many b3.nd (fun q hq=>by
   obtain ⟨e,he,rfl⟩:=List.mem_map.mp hq
   exact kr e he)
  rw [lm_] at few
  have len:(kvL es).length<sizeLine:=ax (by unfold kvL; rw [lm_]; omega)
  have et:col.take (i+1)=col.take i++[t]:=by rw [List.take_add_one,ht]; rfl
  have ln:(col.take i).length=i:=by rw [List.length_take]; omega
  have oth:∀ (p:Int) (ls:LI),p≠t->ls=ck (col.take i) p->ls=ck (col.take (i+1)) p:=fun p ls np z=>by
   rw [et,pL,if_neg (Ne.symm np),List.append_nil]
   exact z
  have grow:∀ ls:LI,ls=ck (col.take i) t->ls++[(i:Int)]=ck (col.take (i+1)) t:=fun ls z=>by
   rw [et,pL,if_pos rfl,ln,z]
  refine ⟨_,Sum.inl t,b3.at_,rfl,len,fun v hv=>?_,fun hn=>?_⟩
  ·obtain ⟨la,ls,rfl,hm,hla,hp⟩:=b3.get hv
   have pl:=xK (col.take i) t
   have lz:(ls.map V.int).length<sizeLine:=ax (by rw [lm_,hp]; omega)
   refine ⟨.inl ⟨rfl,_,qL_ hla⟩,_,rfl,la,_,_,rfl,rfl,hla,lz,?_⟩
   exact ⟨es,_,_,rfl,aw (s2.trans sL) (b2.fresh _ hm),kr,b3.old hm hla (grow ls hp) oth⟩
  ·have hq:t∉es.map Prod.fst:=fun z=>by
    obtain ⟨e,he,ee⟩:=List.mem_map.mp z
    obtain ⟨jj,hjj⟩:=List.mem_iff_getElem?.mp he
    have:=sr b3.nd (q:=e.1) (a:=e.2) hjj
    rw [ee,hn] at this
    cases this
   have hL3:(upd (upd H2 L (HO.lst [])) B (HO.dK (putK (kvL es) (Sum.inl t) (V.ref L)))) L=some (.lst []):=by rw [ah (Ne.symm nLB),ae]
   refine ⟨.inl ⟨rfl,_,qL_ hL3⟩,_,rfl,L,_,_,rfl,rfl,hL3,(by show 0<sizeLine; decide),?_⟩
   refine ⟨es++[(t,L)],_,_,rfl,aw (aw (s2.trans sL) hB) fL,fun e he=>?_,b3.new hq ae fL nL (grow [] (b3.non _ hq)) oth⟩
   rcases ma_.mp he with z | z
   ·exact kr e z
   ·rw [List.mem_singleton.mp z]; exact stq
 ·rintro σ' H1 ⟨es,v1,v2,rfl,s1,kr,b1⟩
  rw [lm_,List.take_length] at b1
  exact ⟨_,rfl,k B es _ s1 hB b1⟩
end
structure PCls (K:PySem.W.Frag) (C:Addr):Prop where
 cl:Cls K C
 ng:NoAttr K C "group_of"
 nm:NoAttr K C "members"
 nw:NoAttr K C "waiting"
 ni:NoAttr K C "is_waiting"
structure PtAt (H:Hp) (C x go ms wt iw:Addr):Prop where
 ob:∃ dx:Addr,H x=some (.ins C dx [("group_of",.ref go),("members",.ref ms),("waiting",.ref wt),("is_waiting",.ref iw)])
theorem PtAt.same {H H':Hp} {C x go ms wt iw:Addr} (h:PtAt H C x go ms wt iw) (s:Same H H'):PtAt H' C x go ms wt iw:=by
 obtain ⟨dx,h1⟩:=h.ob
 exact ⟨dx,s _ _ h1⟩
def tR (K:PySem.W.Frag) (C:Addr):Sp:=fun vs H Q _=>∃ (x go ms wt iw:Addr) (gs:LI) (ds:List Addr),vs=[.ref x]/\PtAt H C x go ms wt iw/\H go=some (.lst (gs.map V.int))/\H ms=some (.lst (ds.map V.ref))/\Q (.bl (decide (ds.length=gs.length))) H
def y8 (C:Addr):Sp:=fun vs H Q _=>∃ (x go ms wt iw:Addr) (n:Int) (ws ks:LI),vs=[.ref x,.int n]/\PtAt H C x go ms wt iw/\H wt=some (.lst (ws.map V.int))/\H iw=some (.dK (kvT ks))/\ks.Nodup/\ws.length<=1000/\ks.length<=1000 /\
 Q .non (upd (upd H wt (.lst ((ws++[n]).map V.int))) iw (.dK (kvT (if n∈ks then ks else ks++[n]))))
theorem xo (ks:LI) (g:Int):rZ (kvT ks) (Sum.inl g)=kvT (ks.filter fun k=>decide (k≠g)):=by
 unfold rZ kvT
 rw [List.filter_map]
 congr 1
 refine List.filter_congr fun k _=>?_
 by_cases c:k=g
 ·subst c
  simp
 ·have:(Sum.inl k:Key)≠Sum.inl g:=fun z=>c (Sum.inl.inj z)
  simp [c,this]
theorem Bx (ks:LI):(kvT ks).map (fun kv=>kV kv.1)=ks.map V.int:=by
 unfold kvT
 rw [List.map_map]
 rfl
def wK (C:Addr):Sp:=fun vs H Q _=>∃ (x go ms wt iw da:Addr) (g:Int) (ws ks mem:LI) (ds:List Addr),vs=[.ref x]/\PtAt H C x go ms wt iw/\H wt=some (.lst ((ws++[g]).map V.int))/\H iw=some (.dK (kvT ks))/\g∈ks/\H ms=some (.lst (ds.map V.ref))/\0<=g/\ds[g.toNat]?=some da/\ms≠wt/\H da=some (.dK (kvT mem))/\da≠iw/\mem.length<=1000 /\
 ∀ l,H l=none->Q (.ref l) (upd (upd (upd H wt (.lst (ws.map V.int))) iw (.dK (kvT (ks.filter fun k=>decide (k≠g))))) l (.lst (mem.map V.int)))
section
variable {P:Program} {w:World} {K:PySem.W.Frag} {mg:Str->Option Value} {base:Heap} {f:Addr} {fd:FuncData} {dV:Value} {C:Addr}
theorem oz:FnScope ["self"] ["self"] (ak b8):=⟨rfl,rfl,rfl,by decide +kernel,rfl,by decide +kernel,by decide +kernel⟩
theorem mZ:FnScope ["self","group"] ["self","group"] (ak bP):=⟨rfl,rfl,rfl,by decide +kernel,rfl,by decide +kernel,by decide +kernel⟩
theorem sc_Parted_next_splitter:FnScope ["self","group"] ["self"] (ak bc):=⟨rfl,rfl,rfl,by decide +kernel,rfl,by decide +kernel,by decide +kernel⟩
theorem Az (F:FunD K "is_done" "Parted.is_done" b8 dV f fd) (pc:PCls K C) (aY:mg "len" = none):FnOk P w K mg base CX0 1 f fd ["self"] (tR K C):=by
 refine F.ok oz (fun vs H Q E h=>?_) (fun cdv A outer s H vs Q E hr h=>?_)
 ·obtain ⟨x,go,ms,wt,iw,gs,ds,rfl,_⟩:=h
  rfl
 obtain ⟨x,go,ms,wt,iw,gs,ds,rfl,⟨dx,hx⟩,hgo,hms,q⟩:=h
 refine ⟨_,(av (aU (oh jU (aB aF (by rfl) aY bD (aa (df (pv 0) rfl) af)) (aB aF (by rfl) aY bD (aa (df (pv 0) rfl) af)) (bJ _)))),?_⟩
 refine ⟨_,rfl,x,C,dx,_,_,rfl,hx,pc.cl,pc.nm,rfl,ms,_,rfl,.inl (qL_ hms),_,rfl,x,C,dx,_,_,rfl,hx,pc.cl,pc.ng,rfl,go,_,rfl,.inl (qL_ hgo),rfl,?_⟩
 rw [lm_,lm_]
 have e:decide (V.int (ds.length:Int)=V.int (gs.length:Int))=decide (ds.length=gs.length):=decide_eq_decide.mpr ⟨fun h=>by have:=V.int.inj h; omega,fun h=>by rw [h]⟩
 rw [e]
 exact q
theorem yO (F:FunD K "wait_for" "Parted.wait_for" bP dV f fd) (pc:PCls K C):FnOk P w K mg base CX0 1 f fd ["self","group"] (y8 C):=by
 refine F.ok mZ (fun vs H Q E h=>?_) (fun cdv A outer s H vs Q E hr h=>?_)
 ·obtain ⟨x,go,ms,wt,iw,n,ws,ks,rfl,_⟩:=h
  rfl
 obtain ⟨x,go,ms,wt,iw,n,ws,ks,rfl,⟨dx,hx⟩,hwt,hiw,nd,l1,l2,q⟩:=h
 have hu:=ko hr
 refine ⟨_,(ar (bV (i8 PySem.F.plainAttrs_list PySem.F.slot_list_append PySem.F.type_list_append b7 (df (pv 0) rfl) (aa (pv 1) af)))
   (av (rq hu (df (pv 0) rfl) (pv 1) dq rfl))),?_⟩
 have nx:x≠wt:=aE hx hwt (by intro z; cases z)
 have ni:iw≠wt:=aE hiw hwt (by intro z; cases z)
 refine ⟨_,rfl,x,C,dx,_,_,rfl,hx,pc.cl,pc.nw,rfl,.inl ⟨rfl,_,qL_ hwt⟩,_,rfl,wt,_,_,rfl,rfl,hwt,ax (by rw [lm_]; exact l1),?_⟩
 refine ⟨_,rfl,x,C,dx,_,_,rfl,by rw [ah nx]; exact hx,pc.cl,pc.ni,rfl,_,rfl,iw,_,rfl,DPut.k (k:=Sum.inl n) (by rw [ah ni]; exact hiw) (ax (by unfold kvT; rw [lm_]; exact l2)),?_⟩
 have e:putK (kvT ks) (Sum.inl n) (V.bl true)=kvT (if n∈ks then ks else ks++[n]):=by
  by_cases c:n∈ks
  ·rw [if_pos c]
   unfold putK
   rw [if_pos (show ((kvT ks).any fun kv=>decide (kv.fst=Sum.inl n))=true from List.any_eq_true.mpr ⟨(Sum.inl n,V.bl true),List.mem_map.mpr ⟨n,c,rfl⟩,by simp⟩)]
   refine (List.map_congr_left fun kv hk=>?_).trans (List.map_id _)
   obtain ⟨k,_,rfl⟩:=List.mem_map.mp hk
   show (if (Sum.inl k:Key)=Sum.inl n then ((Sum.inl k:Key),V.bl true) else (Sum.inl k,V.bl true))=(Sum.inl k,V.bl true)
   split <;> rfl
  ·rw [if_neg c]
   exact rg c
 rw [e]
 rw [List.map_append] at q
 exact q
theorem BO (F:FunD K "next_splitter" "Parted.next_splitter" bc dV f fd) (pc:PCls K C) (dJ:mg "list" = none):FnOk P w K mg base CX0 1 f fd ["self"] (wK C):=by
 refine F.ok sc_Parted_next_splitter (fun vs H Q E h=>?_) (fun cdv A outer s H vs Q E hr h=>?_)
 ·obtain ⟨x,go,ms,wt,iw,da,g,ws,ks,mem,ds,rfl,_⟩:=h
  rfl
 obtain ⟨x,go,ms,wt,iw,da,g,ws,ks,mem,ds,rfl,⟨dx,hx⟩,hwt,hiw,gk,hms,g0,hda0,nmw,hda,ndi,lm,q⟩:=h
 have hu:=ko hr
 refine ⟨_,(ar (ay (i:=1) sc_Parted_next_splitter.nd rfl (Or.inl rfl) (BX PySem.F.plainAttrs_list PySem.F.slot_list_pop PySem.F.type_list_pop Ec (df (pv 0) rfl)))
   (ar (bV (xH (df (pv 0) rfl) (pv 1) ⟨rfl,rfl,rfl,rfl⟩))
   (av (aU (aO (rL rfl) (by rfl) dJ nB (aa (aN cX (df (pv 0) rfl) (pv 1) (fun _ _=>rfl)) af)))))),?_⟩
 have nx:x≠wt:=aE hx hwt (by intro z; cases z)
 have nxi:x≠iw:=aE hx hiw (by intro z; cases z)
 have ni:iw≠wt:=aE hiw hwt (by intro z; cases z)
 have nmi:ms≠iw:=aE hms hiw (by intro z; cases z)
 have ndw:da≠wt:=aE hda hwt (by intro z; cases z)
 have last:((ws++[g]).map V.int)[((ws++[g]).map V.int).length-1]?=some (.int g):=by
  rw [lm_,List.length_append,List.length_singleton,Nat.add_sub_cancel,List.getElem?_map,List.getElem?_append_right (Nat.le_refl _),Nat.sub_self]
  rfl
 have dl:((ws++[g]).map V.int).dropLast=ws.map V.int:=by rw [List.map_append]; exact List.dropLast_concat
 obtain ⟨v,hv⟩:∃ v,eR (kvT ks) (Sum.inl g)=some v:=by
  have h:=rh ks g
  rw [decide_eq_true gk] at h
  exact Option.isSome_iff_exists.mp h
 have at':atI (ds.map V.ref) g=some (.ref da):=by
  have q':atI (ds.map V.ref) ((g.toNat:Nat):Int)=some (.ref da):=nz (by rw [List.getElem?_map,hda0]; rfl)
  rw [Int.toNat_of_nonneg g0] at q'
  exact q'
 refine ⟨_,rfl,x,C,dx,_,_,rfl,hx,pc.cl,pc.nw,rfl,.inl ⟨rfl,_,qL_ hwt⟩,wt,_,_,rfl,rfl,hwt,last,?_⟩
 rw [dl]
 have hx1:(upd H wt (HO.lst (ws.map V.int))) x=_:=(ah nx).trans hx
 have hiw1:(upd H wt (HO.lst (ws.map V.int))) iw=_:=(ah ni).trans hiw
 refine ⟨_,rfl,x,C,dx,_,_,rfl,hx1,pc.cl,pc.ni,rfl,iw,rfl,.inl ⟨_,.inl hiw1⟩,_,rfl,kvT ks,Sum.inl g,v,hiw1,rfl,hv,?_⟩
 rw [xo]
 refine ⟨_,rfl,x,C,dx,_,_,rfl,(ah nxi).trans hx1,pc.cl,pc.nm,rfl,_,rfl,ms,_,_,_,rfl,rfl,qL_ ((ah nmi).trans ((ah nmw).trans hms)),at',da,_,rfl,(ah ndi).trans ((ah ndw).trans hda),fun l hl=>?_⟩
 rw [Bx]
 refine q l ?_
 by_cases c1:l=iw
 ·rw [c1,ae] at hl
  cases hl
 ·rw [ah c1] at hl
  by_cases c2:l=wt
  ·rw [c2,ae] at hl
   cases hl
  ·rw [ah c2] at hl
   exact hl
end
def setG (gs done:LI) (n:Int):LI:=done.foldl (fun g q=>g.set q.toNat n) gs
def outF (mem done:LI):LI:=mem.filter fun q=>decide (q∉done)
theorem xU (gs:LI) (n:Int):∀ done:LI,(setG gs done n).length=gs.length:=fun done=>by
 unfold setG
 induction done generalizing gs with
 | nil=>rfl
 | cons q r ih=>rw [List.foldl_cons,ih,List.length_set]
theorem AM (gs done:LI) (q n:Int):setG gs (done++[q]) n=(setG gs done n).set q.toNat n:=by
 unfold setG
 rw [List.foldl_append]
 rfl
theorem AI (mem done:LI) (q:Int):(outF mem done).filter (fun k=>decide (k≠q))=outF mem (done++[q]):=by
 unfold outF
 rw [List.filter_filter]
 refine List.filter_congr fun k _=>?_
 by_cases c:k=q
 ·subst c
  simp
 ·simp [c]
def wM (K:PySem.W.Frag) (C:Addr):Sp:=fun vs H Q _=>∃ (x go ms wt iw da il:Addr) (g:Int) (gs ws ks mem ins:LI) (ds:List Addr),vs=[.ref x,.int g,.ref il]/\PtAt H C x go ms wt iw/\H go=some (.lst (gs.map V.int))/\H ms=some (.lst (ds.map V.ref))/\H wt=some (.lst (ws.map V.int))/\H iw=some (.dK (kvT ks))/\ks.Nodup/\(ws.length<=1000/\ks.length<=1000/\ds.length<1000/\ins.length<=1000) /\
 0<=g/\ds[g.toNat]?=some da/\H da=some (.dK (kvT mem))/\H il=some (.lst (ins.map V.int))/\ins.Nodup/\(∀ q∈ins,q∈mem/\0<=q/\q<(gs.length:Int))/\(go≠ms/\go≠wt/\go≠il/\ms≠wt/\ms≠il/\wt≠il/\da≠iw) /\
 ∀ (E:Addr) (nw:Int) (H':Hp),H E=none->H' E=some (.dK (kvT ins))->H' ms=some (.lst ((ds++[E]).map V.ref))->H' da=some (.dK (kvT (outF mem ins)))->H' go=some (.lst ((setG gs ins (ds.length:Int)).map V.int))->H' wt=some (.lst ((ws++[nw]).map V.int))->H' iw=some (.dK (kvT (if nw∈ks then ks else ks++[nw]))) ->
  ((g∈ks\/ins.length<=(outF mem ins).length)->nw=(ds.length:Int))->(¬ (g∈ks\/ins.length<=(outF mem ins).length)->nw=g)->(∀ c u,c≠go->c≠ms->c≠da->c≠wt->c≠iw->H c=some u->H' c=some u)->Q .non H'
theorem C0 {n z:Nat} (h:z<n):ixN n (z:Int)=some z:=by
 unfold ixN
 rw [if_pos (by omega),if_pos (by omega),Int.toNat_natCast]
section
variable {P:Program} {w:World} {K:PySem.W.Frag} {mg:Str->Option Value} {base:Heap} {f:Addr} {fd:FuncData} {dV:Value} {C:Addr}
theorem sc_Parted_split_off:FnScope ["self","group","inside","fresh","outside","here"] ["self","group","inside"] (ak bu):=⟨rfl,rfl,rfl,by decide +kernel,rfl,by decide +kernel,by decide +kernel⟩
theorem bk_Parted_split_off_0:BlkScope ["self","group","inside","fresh","outside","here"] (ak bu) ["here"] [none] { kind:=ScopeKind.function,names:=[(".0",NameKind.local),("here",NameKind.local)],isGenerator:=false,isCoroutine:=false,more:=[] }:=⟨rfl,by decide +kernel,by decide +kernel,by decide +kernel,by decide +kernel,rfl,by decide +kernel⟩
theorem BR (F:FunD K "split_off" "Parted.split_off" bu dV f fd) (pc:PCls K C) (hX:DefMe P w K mg base C "wait_for" 1 ["self","group"] (y8 C)) (aY:mg "len" = none) (fY:mg "dict" = none):FnOk P w K mg base CX0 2 f fd ["self","group","inside"] (wM K C):=by
 refine F.ok sc_Parted_split_off (fun vs H Q E h=>?_) (fun cdv A outer s H vs Q E hr h=>?_)
 ·obtain ⟨x,go,ms,wt,iw,da,il,g,gs,ws,ks,mem,ins,ds,rfl,_⟩:=h
  rfl
 obtain ⟨x,go,ms,wt,iw,da,il,g,gs,ws,ks,mem,ins,ds,rfl,⟨dx,hx⟩,hgo,hms,hwt,hiw,ndk,⟨lw,lk,ld,li⟩,g0,hda0,hda,hil,ndi,hins,⟨n1,n2,n3,n4,n5,n6,n7⟩,k⟩:=h
 have hu:=ko hr
 refine ⟨_,(ar (ay (i:=3) sc_Parted_split_off.nd rfl (Or.inl rfl) (aB aF (by rfl) aY bD (aa (df (pv 0) rfl) af)))
   (ar (ay (i:=4) sc_Parted_split_off.nd rfl (Or.inl rfl) (aN cX (df (pv 0) rfl) (pv 1) (fun _ _=>rfl)))
   (ar (bR PassesOwn.never rfl (cF (pv 2)) (az (i:=5) sc_Parted_split_off.nd rfl (Or.inl rfl)) (ar (bV (xH (pv 4) (pv 5) ⟨rfl,rfl,rfl,rfl⟩))
   (av (Cd (pv 3) (En (df (pv 0) rfl) (pv 5) set_list)))))
   (ar (bV (i8 PySem.F.plainAttrs_list PySem.F.slot_list_append PySem.F.type_list_append b7 (df (pv 0) rfl) (aa (aO (j8 rfl) (by rfl) fY qX (aa (c0 rfl bk_Parted_split_off_0 (cF (pv 2)) (fun _ _ _ _=>(az (i:=0) bk_Parted_split_off_0.nd rfl (Or.inl rfl))) (fun _ _ _ _=>(bF (aa (pv 0) (aa dq af))))) af)) af)))
   (av (cJ (PW.pt (lQ (wz (Ej hu (pv 1) (df (pv 0) rfl)) (by with_unfolding_all rfl)) (mY (bC E1 (aB aF (by rfl) aY bD (aa (pv 2) af)) (aB kI (by rfl) aY bD (aa (pv 4) af)) (bJ _))))) (av (bV (zQ hX hr (pv 0) (aa (pv 3) af)))) (av (bV (zQ hX hr (pv 0) (aa (pv 1) af)))))))))),?_⟩
 have o0:outF mem []=mem:=List.filter_eq_self.mpr fun _ _=>by simp
 have nxg:x≠go:=aE hx hgo (by intro z; cases z)
 have nxd:x≠da:=aE hx hda (by intro z; cases z)
 have ngd:go≠da:=aE hgo hda (by intro z; cases z)
 have at':atI (ds.map V.ref) g=some (.ref da):=by
  have q':atI (ds.map V.ref) ((g.toNat:Nat):Int)=some (.ref da):=nz (by rw [List.getElem?_map,hda0]; rfl)
  rw [Int.toNat_of_nonneg g0] at q'
  exact q'
 refine ⟨_,rfl,x,C,dx,_,_,rfl,hx,pc.cl,pc.nm,rfl,ms,_,rfl,.inl (qL_ hms),?_⟩
 rw [lm_]
 refine ⟨_,rfl,x,C,dx,_,_,rfl,hx,pc.cl,pc.nm,rfl,_,rfl,ms,_,_,_,rfl,rfl,qL_ hms,at',?_⟩
 try dsimp only [bW,cU]
 refine dj (t:=pT _ _ _) (fun σ' H'=>∃ v:OV,σ'=[some (.ref x),some (.int g),some (.ref il),some (.int (ds.length:Int)),some (.ref da),v]/\H' da=some (.dK (kvT (outF mem ins)))/\H' go=some (.lst ((setG gs ins (ds.length:Int)).map V.int))/\∀ c u,c≠go->c≠da->H c=some u->H' c=some u) ?_ (fun D' nxt=>?_)
 rotate_left
 ·refine ⟨_,rfl,il,rfl,⟨_,qL_ hil⟩,?_⟩
  refine fJ (K:=K) (xs:=ins.map V.int) (fun i σ' H'=>∃ v:OV,σ'=[some (.ref x),some (.int g),some (.ref il),some (.int (ds.length:Int)),some (.ref da),v]/\H' da=some (.dK (kvT (outF mem (ins.take i))))/\H' go=some (.lst ((setG gs (ins.take i) (ds.length:Int)).map V.int))/\∀ c u,c≠go->c≠da->H c=some u->H' c=some u) ⟨none,rfl,by rw [List.take_zero,o0]; exact hda,hgo,fun _ _ _ _ e=>e⟩ (fun i σ' H' _ ⟨_,_,_,_,e⟩=>qL_ (e _ _ (Ne.symm n3) (aE hil hda (by intro z; cases z)) hil)) ?_ ?_
  ·rintro i y σ' H3 hi ⟨v,rfl,hd3,hg3,kp3⟩
   obtain ⟨q,rfl,hq⟩:=bz hi
   have qm:=hins q (mq_ hq)
   have qo:q∈outF mem (ins.take i):=by
    refine List.mem_filter.mpr ⟨qm.1,decide_eq_true fun z=>?_⟩
    obtain ⟨j,hj,ej⟩:=List.getElem_of_mem z
    rw [List.length_take] at hj
    rw [List.getElem_take] at ej
    have ql:=gi_ hq
    have:=(List.getElem_inj ndi).mp (ej.trans ql.2.symm)
    omega
   obtain ⟨vv,hvv⟩:∃ v,eR (kvT (outF mem (ins.take i))) (Sum.inl q)=some v:=by
    have h:=rh (outF mem (ins.take i)) q
    rw [decide_eq_true qo] at h
    exact Option.isSome_iff_exists.mp h
   have et:ins.take (i+1)=ins.take i++[q]:=by rw [List.take_add_one,hq]; rfl
   refine ⟨_,rfl,da,rfl,.inl ⟨_,.inl hd3⟩,_,rfl,_,Sum.inl q,vv,hd3,rfl,hvv,?_⟩
   rw [xo,AI,<- et]
   have hx3:=kp3 _ _ nxg nxd hx
   refine ⟨_,rfl,_,rfl,x,C,dx,_,_,rfl,(ah nxd).trans hx3,pc.cl,pc.ng,rfl,_,rfl,go,_,q,q.toNat,rfl,rfl,(ah ngd).trans hg3,?_,?_⟩
   ·rw [lm_,xU]
    have:=C0 (n:=gs.length) (z:=q.toNat) (by omega)
    rw [Int.toNat_of_nonneg qm.2.1] at this
    exact this
   ·refine ⟨_,rfl,by rw [ah (Ne.symm ngd),ae],?_,fun c u c1 c2 e=>by rw [ah c1,ah c2]; exact kp3 c u c1 c2 e⟩
    rw [ae,et,AM,List.map_set]
  ·rintro σ' H3 ⟨v,rfl,hd3,hg3,kp3⟩
   rw [lm_,List.take_length] at hd3 hg3
   exact nxt _ _ ⟨v,rfl,hd3,hg3,kp3⟩
 rintro σ' H1 ⟨v,rfl,hd1,hg1,kp1⟩
 have hx1:=kp1 _ _ nxg nxd hx
 have hms1:=kp1 _ _ (Ne.symm n1) (aE hms hda (by intro z; cases z)) hms
 have hil1:=kp1 _ _ (Ne.symm n3) (aE hil hda (by intro z; cases z)) hil
 refine ⟨_,rfl,x,C,dx,_,_,rfl,hx1,pc.cl,pc.nm,rfl,.inl ⟨rfl,_,qL_ hms1⟩,_,rfl,il,rfl,⟨_,qL_ hil1⟩,?_⟩
 refine fc (K:=K) (xs:=ins.map V.int) (fun D i ys H'=>Same H1 H'/\∃ ts,ys=ts.map V.ref/\PairsV H' ts (kvT (ins.take i))) (fun D hD=>⟨aj hD _,[],rfl,.nil⟩) (fun D i ys H' _ ⟨e,_⟩=>qL_ (e _ _ hil1)) ?_ ?_
 ·rintro D i y ys H' Q' hD hi hy ⟨hs,ts,rfl,pv⟩ k'
  obtain ⟨q,rfl,hq⟩:=bz hi
  have il':i<ins.length:=(gi_ hq).1
  refine ⟨_,rfl,(by show 2<=sizeLine; decide),fun T hT=>?_⟩
  have sT:=aj hT (HO.tup [V.int q,V.bl true])
  have nD:D≠T:=au hy hT
  have lts:ts.length=i:=by
   rw [Paired.length pv]
   unfold kvT
   rw [lm_,List.length_take]
   omega
  have hyT:(upd H' T (HO.tup [V.int q,V.bl true])) D=some (.lst (ts.map V.ref)):=by rw [ah nD]; exact hy
  refine k' _ _ hyT (ax (by rw [lm_]; omega)) ⟨aw (aw hs (hs.free hT)) hD,ts++[T],by rw [List.map_append]; rfl,?_⟩
  rw [List.take_add_one,hq]
  have up:∀ b xs,(upd H' T (HO.tup [V.int q,V.bl true])) b=some (.tup xs)->(upd (upd H' T (HO.tup [V.int q,V.bl true])) D (.lst (ts.map V.ref++[V.ref T]))) b=some (.tup xs):=fun b xs e=>by
   rw [ah (aE e hyT (by intro z; cases z))]; exact e
  show PairsV _ _ (kvT (ins.take i++[q]))
  unfold kvT
  rw [List.map_append]
  exact Paired.snoc (PairsV.same pv fun b xs e=>up b xs (sT _ _ e)) (up _ _ ae)
 rintro L ys H2 fL hL ⟨s2,ts,rfl,pv⟩
 rw [lm_,List.take_length] at pv
 refine ⟨L,ts,_,rfl,hL,pv,fun N hN=>?_⟩
 rw [vk ndi]
 have s3:=s2.trans (aj hN (HO.dK (kvT ins)))
 obtain ⟨H3,eH3⟩:∃ H3,upd H2 N (HO.dK (kvT ins))=H3:=⟨_,rfl⟩
 have hN3:H3 N=some (.dK (kvT ins)):=by rw [<- eH3]; exact ae
 rw [eH3] at s3 ⊢
 have fN:H1 N=none:=s2.free hN
 have hms3:=s3 _ _ hms1
 have nxm:x≠ms:=aE hx hms (by intro z; cases z)
 refine ⟨ms,_,_,rfl,rfl,hms3,ax (by rw [lm_]; omega),?_⟩
 have nNm:N≠ms:=aE hN3 hms3 (by intro z; cases z)
 have nxi:x≠iw:=aE hx hiw (by intro z; cases z)
 have nim:iw≠ms:=aE hiw hms (by intro z; cases z)
 have ndm:da≠ms:=aE hda hms (by intro z; cases z)
 obtain ⟨H4,eH4⟩:∃ H4,upd H3 ms (HO.lst (ds.map V.ref++[V.ref N]))=H4:=⟨_,rfl⟩
 have kp4:∀ c u,c≠ms->H1 c=some u->H4 c=some u:=fun c u c1 e=>by rw [<- eH4,ah c1]; exact s3 _ _ e
 have hms4:H4 ms=some (.lst ((ds++[N]).map V.ref)):=by rw [<- eH4,ae,List.map_append]; rfl
 have hN4:H4 N=some (.dK (kvT ins)):=by rw [<- eH4,ah nNm]; exact hN3
 have hx4:=kp4 _ _ nxm hx1
 have hiw4:=kp4 _ _ nim (kp1 _ _ (aE hiw hgo (by intro z; cases z)) (Ne.symm n7) hiw)
 have hwt4:=kp4 _ _ (Ne.symm n4) (kp1 _ _ (Ne.symm n2) (aE hwt hda (by intro z; cases z)) hwt)
 have hda4:=kp4 _ _ ndm hd1
 have hgo4:=kp4 _ _ n1 hg1
 have hil4:=kp4 _ _ (Ne.symm n5) hil1
 rw [eH4]
 have niw:iw≠wt:=aE hiw hwt (by intro z; cases z)
 have lo:(kvT (outF mem ins)).length=(outF mem ins).length:=by unfold kvT; rw [lm_]
 have fN0:H N=none:=by
  cases e:H N with
  | none=>rfl
  | some u =>
   have z1:N=go\/N=da:=Classical.byContradiction fun z=>by
    have:=kp1 N u (fun a=>z (.inl a)) (fun a=>z (.inr a)) e
    rw [fN] at this
    cases this
   rcases z1 with z | z
   ·rw [z,hg1] at fN; cases fN
   ·rw [z,hd1] at fN; cases fN
 have fin:∀ nw:Int,((g∈ks\/ins.length<=(outF mem ins).length)->nw=(ds.length:Int))->(¬ (g∈ks\/ins.length<=(outF mem ins).length)->nw=g)->Q .non (upd (upd H4 wt (.lst ((ws++[nw]).map V.int))) iw (.dK (kvT (if nw∈ks then ks else ks++[nw])))):=fun nw h1 h2=>by
  have nNw:N≠wt:=aE hN4 hwt4 (by intro z; cases z)
  have nNi:N≠iw:=fun z=>by rw [z,hiw] at fN0; cases fN0
  refine k N nw _ fN0 ?_ ?_ ?_ ?_ ?_ ae h1 h2 fun c u c1 c2 c3 c4 c5 e=>?_
  ·rw [ah nNi,ah nNw]; exact hN4
  ·rw [ah (Ne.symm nim),ah n4]; exact hms4
  ·rw [ah n7,ah (aE hda hwt (by intro z; cases z))]; exact hda4
  ·rw [ah (aE hgo hiw (by intro z; cases z)),ah n2]; exact hgo4
  ·rw [ah (Ne.symm niw),ae]
  ·rw [ah c5,ah c4]; exact kp4 _ _ c2 (kp1 c u c1 c3 e)
 refine ⟨_,rfl,_,rfl,x,C,dx,_,_,rfl,hx4,pc.cl,pc.ni,rfl,iw,_,rfl,DGet.k (k:=Sum.inl g) hiw4,_,rfl,?_⟩
 rw [rh]
 have yes:(g∈ks\/ins.length<=(outF mem ins).length)->Q .non (upd (upd H4 wt (.lst ((ws++[(ds.length:Int)]).map V.int))) iw (.dK (kvT (if (ds.length:Int)∈ks then ks else ks++[(ds.length:Int)])))):=fun h=>fin _ (fun _=>rfl) (fun n=>absurd h n)
 refine nO (fun c=>?_) (fun c=>?_)
 ·exact uu ⟨_,rfl,x,dx,_,rfl,hx4,rfl,_,rfl,x,go,ms,wt,iw,(ds.length:Int),ws,ks,rfl,⟨dx,hx4⟩,hwt4,hiw4,ndk,lw,lk,yes (.inl c)⟩
 ·refine ⟨_,rfl,il,_,rfl,.inl (qL_ hil4),_,rfl,da,_,rfl,hda4,_,_,rfl,rfl,_,rfl,nO (fun c2=>?_) (fun c2=>?_)⟩
  ·rw [lm_,lo] at c2
   exact ⟨_,rfl,x,dx,_,rfl,hx4,rfl,_,rfl,x,go,ms,wt,iw,(ds.length:Int),ws,ks,rfl,⟨dx,hx4⟩,hwt4,hiw4,ndk,lw,lk,yes (.inr (by omega))⟩
  ·rw [lm_,lo] at c2
   exact ⟨_,rfl,x,dx,_,rfl,hx4,rfl,_,rfl,x,go,ms,wt,iw,g,ws,ks,rfl,⟨dx,hx4⟩,hwt4,hiw4,ndk,lw,lk,fin g (fun h=>absurd h (fun z=>by
    rcases z with z | z
    ·exact c z
    ·exact c2 (by omega))) (fun _=>rfl)⟩
end
def aq (many:Nat) (q:Int):Prop:=0<=q/\q<(many:Int)
structure Likes (many:Nat) (cols:List (Int->Int)) (sg:Int->Int) (R:Int->Int->Prop):Prop where
 sgn:∀ x y,R x y->sg x=sg y
 led:∀ x y,R x y->∀ c∈cols,R (c x) (c y)
structure Hop (many:Nat) (cols:List (Int->Int)) (sg:Int->Int) (R:Int->Int->Prop) (grp:Int->Int) (W:Int->Prop):Prop where
 coarse:∀ x y,aq many x->aq many y->R x y->grp x=grp y
 signs:∀ x y,aq many x->aq many y->grp x=grp y->sg x=sg y
 cong:∀ x y,aq many x->aq many y->grp x=grp y->∀ c∈cols,grp (c x)=grp (c y)\/W (grp (c x))\/W (grp (c y))
structure HopS (many:Nat) (cols:List (Int->Int)) (sg:Int->Int) (R:Int->Int->Prop) (grp:Int->Int) (W:Int->Prop) (S:Int->Prop) (k:Nat):Prop where
 coarse:∀ x y,aq many x->aq many y->R x y->grp x=grp y
 signs:∀ x y,aq many x->aq many y->grp x=grp y->sg x=sg y
 whole:∀ x y,aq many x->aq many y->R x y->S x->S y
 cong:∀ x y,aq many x->aq many y->grp x=grp y->∀ (j:Nat) (c:Int->Int),cols[j]?=some c ->
  grp (c x)=grp (c y)\/W (grp (c x))\/W (grp (c y))\/(k<=j/\((S (c x)/\¬ S (c y))\/(S (c y)/\¬ S (c x))))
section
variable {many:Nat} {cols:List (Int->Int)} {sg:Int->Int} {R:Int->Int->Prop} {grp:Int->Int} {W S:Int->Prop} {k:Nat}
theorem Hop.pop (h:Hop many cols sg R grp W) (hc:∀ x,aq many x->∀ c∈cols,aq many (c x)) (s:Int):HopS many cols sg R grp (fun g=>W g/\g≠s) (fun q=>grp q=s) 0 where
 coarse:=h.coarse
 signs:=h.signs
 whole:=fun x y hx hy r e=>(h.coarse x y hx hy r).symm.trans e
 cong:=fun x y hx hy e j c hj=>by
  have cm:=mq_ hj
  rcases Classical.em (grp (c x)=grp (c y)) with q | q
  ·exact .inl q
  rcases Classical.em (grp (c x)=s) with a | a
  ·exact .inr (.inr (.inr ⟨Nat.zero_le _,.inl ⟨a,fun b=>q (a.trans b.symm)⟩⟩))
  rcases Classical.em (grp (c y)=s) with b | b
  ·exact .inr (.inr (.inr ⟨Nat.zero_le _,.inr ⟨b,a⟩⟩))
  rcases h.cong x y hx hy e c cm with z | z | z
  ·exact .inl z
  ·exact .inr (.inl ⟨z,a⟩)
  ·exact .inr (.inr (.inl ⟨z,b⟩))
theorem HopS.done (h:HopS many cols sg R grp W S cols.length):Hop many cols sg R grp W where
 coarse:=h.coarse
 signs:=h.signs
 cong:=fun x y hx hy e c cm=>by
  obtain ⟨j,hj⟩:=List.mem_iff_getElem?.mp cm
  rcases h.cong x y hx hy e j c hj with z | z | z | ⟨z,_⟩
  ·exact .inl z
  ·exact .inr (.inl z)
  ·exact .inr (.inr z)
  ·have:=(gi_ hj).1
   omega
theorem HopS.split (h:HopS many cols sg R grp W S k) (sym:∀ x y,R x y->R y x) (hc:∀ x,aq many x->∀ c∈cols,aq many (c x)) {L:Int->Prop} {b n:Int} {W':Int->Prop}
  (hL:∀ x y,aq many x->aq many y->R x y->L x->L y) (nn:∀ x,aq many x->grp x≠n)
  (w1:∀ g,W g->W' g) (w2:W b->W' n) (w3:W' n\/W' b) {grp':Int->Int} (g1:∀ x,aq many x->grp x=b->L x->grp' x=n) (g2:∀ x,aq many x->¬ (grp x=b/\L x)->grp' x=grp x) :
  HopS many cols sg R grp' W' S k:=by
 have back:∀ x y,aq many x->aq many y->grp' x=grp' y->grp x=grp y/\(grp x=b->(L x↔L y)):=fun x y hx hy e=>by
  rcases Classical.em (grp x=b/\L x) with q | q
  ·rcases Classical.em (grp y=b/\L y) with p | p
   ·exact ⟨q.1.trans p.1.symm,fun _=>⟨fun _=>p.2,fun _=>q.2⟩⟩
   ·rw [g1 x hx q.1 q.2,g2 y hy p] at e
    exact absurd e.symm (nn y hy)
  ·rcases Classical.em (grp y=b/\L y) with p | p
   ·rw [g2 x hx q,g1 y hy p.1 p.2] at e
    exact absurd e (nn x hx)
   ·rw [g2 x hx q,g2 y hy p] at e
    exact ⟨e,fun eb=>⟨fun lx=>absurd ⟨eb,lx⟩ q,fun ly=>absurd ⟨e.symm.trans eb,ly⟩ p⟩⟩
 have wait:∀ x,aq many x->W (grp x)->W' (grp' x):=fun x hx w=>by
  rcases Classical.em (grp x=b/\L x) with q | q
  ·rw [g1 x hx q.1 q.2]
   exact w2 (q.1 ▸ w)
  ·rw [g2 x hx q]
   exact w1 _ w
 refine ⟨fun x y hx hy r=>?_,fun x y hx hy e=>h.signs x y hx hy (back x y hx hy e).1,h.whole,fun x y hx hy e j c hj=>?_⟩
 ·have e:=h.coarse x y hx hy r
  rcases Classical.em (grp x=b/\L x) with q | q
  ·rw [g1 x hx q.1 q.2,g1 y hy (e.symm.trans q.1) (hL x y hx hy r q.2)]
  ·have p:¬ (grp y=b/\L y):=fun p=>q ⟨e.trans p.1,hL y x hy hx (sym x y r) p.2⟩
   rw [g2 x hx q,g2 y hy p,e]
 ·have cm:=mq_ hj
  have hcx:=hc x hx c cm
  have hcy:=hc y hy c cm
  rcases h.cong x y hx hy (back x y hx hy e).1 j c hj with z | z | z | z
  ·rcases Classical.em (grp (c x)=b/\L (c x)) with q | q
   ·rcases Classical.em (grp (c y)=b/\L (c y)) with p | p
    ·exact .inl (by rw [g1 _ hcx q.1 q.2,g1 _ hcy p.1 p.2])
    ·have ex:=g1 _ hcx q.1 q.2
     have ey:=g2 _ hcy p
     rcases w3 with a | a
     ·exact .inr (.inl (by rw [ex]; exact a))
     ·exact .inr (.inr (.inl (by rw [ey,<- z,q.1]; exact a)))
   ·rcases Classical.em (grp (c y)=b/\L (c y)) with p | p
    ·have ex:=g2 _ hcx q
     have ey:=g1 _ hcy p.1 p.2
     rcases w3 with a | a
     ·exact .inr (.inr (.inl (by rw [ey]; exact a)))
     ·exact .inr (.inl (by rw [ex,z,p.1]; exact a))
    ·exact .inl (by rw [g2 _ hcx q,g2 _ hcy p,z])
  ·exact .inr (.inl (wait _ hcx z))
  ·exact .inr (.inr (.inl (wait _ hcy z)))
  ·exact .inr (.inr (.inr z))
theorem HopS.next (h:HopS many cols sg R grp W S k) {c:Int->Int} (hk:cols[k]?=some c) (hn:∀ x y,aq many x->aq many y->grp x=grp y->S (c x)->S (c y)):HopS many cols sg R grp W S (k+1) where
 coarse:=h.coarse
 signs:=h.signs
 whole:=h.whole
 cong:=fun x y hx hy e j c' hj=>by
  rcases h.cong x y hx hy e j c' hj with z | z | z | ⟨kj,z⟩
  ·exact .inl z
  ·exact .inr (.inl z)
  ·exact .inr (.inr (.inl z))
  ·rcases Nat.lt_or_ge k j with l | l
   ·exact .inr (.inr (.inr ⟨l,z⟩))
   ·have ej:j=k:=by omega
    subst ej
    rw [hk] at hj
    cases hj
    rcases z with ⟨a,b⟩ | ⟨a,b⟩
    ·exact absurd (hn x y hx hy e a) b
    ·exact absurd (hn y x hy hx e.symm a) b
theorem Hop.stable (h:Hop many cols sg R grp W) (hw:∀ x,aq many x->¬ W (grp x)) (hc:∀ x,aq many x->∀ c∈cols,aq many (c x)):∀ x y,aq many x->aq many y->grp x=grp y->∀ c∈cols,grp (c x)=grp (c y):=fun x y hx hy e c cm=>by
 rcases h.cong x y hx hy e c cm with z | z | z
 ·exact z
 ·exact absurd z (hw _ (hc x hx c cm))
 ·exact absurd z (hw _ (hc y hy c cm))
theorem Hop.single (inj:∀ x y,aq many x->aq many y->grp x=grp y->x=y):∀ x y,aq many x->aq many y->grp x=grp y->∀ c∈cols,grp (c x)=grp (c y):=fun x y hx hy e c _=>by rw [inj x y hx hy e]
end
theorem Hop.start {many:Nat} {cols:List (Int->Int)} {sg:Int->Int} {R:Int->Int->Prop} (l:Likes many cols sg R) {grp:Int->Int} {W:Int->Prop} (hg:∀ x y,aq many x->aq many y->(grp x=grp y↔sg x=sg y)) (hw:∀ x,aq many x->W (grp x)) (hc:∀ x,aq many x->∀ c∈cols,aq many (c x)):Hop many cols sg R grp W where
 coarse:=fun x y hx hy r=>(hg x y hx hy).mpr (l.sgn x y r)
 signs:=fun x y hx hy e=>(hg x y hx hy).mp e
 cong:=fun x y hx hy _ c cm=>.inr (.inl (hw _ (hc x hx c cm)))
theorem fx:∀ {xs ys:LI},xs.Nodup->(∀ x∈xs,x∈ys)->xs.length<=ys.length
 | [],_,_,_=>Nat.zero_le _
 | x :: xs,ys,nd,h=>by
  have n:=List.nodup_cons.mp nd
  have m:=h x List.mem_cons_self
  have i:=fx (xs:=xs) (ys:=ys.erase x) n.2 fun y hy=>by
   have e:y≠x:=fun z=>n.1 (z ▸ hy)
   exact (List.mem_erase_of_ne e).mpr (h y (List.mem_cons_of_mem _ hy))
  rw [List.length_erase_of_mem m] at i
  have:=List.length_pos_of_mem m
  rw [List.length_cons]
  omega
theorem yE {xs ys:LI} (nd:xs.Nodup) (h:∀ x∈xs,x∈ys) (l:ys.length<=xs.length):∀ y∈ys,y∈xs:=fun y hy=>Classical.byContradiction fun z=>by
 have:=fx (xs:=y :: xs) (ys:=ys) (List.nodup_cons.mpr ⟨z,nd⟩) fun q hq=>by
  rcases List.mem_cons.mp hq with r | r
  ·rw [r]; exact hy
  ·exact h q r
 rw [List.length_cons] at this
 omega
theorem xS {n:Int}:∀ {done gs:LI} {x:Nat},x<gs.length->(∀ q∈done,0<=q)->(setG gs done n).getD x 0=if (x:Int)∈done then n else gs.getD x 0
 | [],gs,x,_,_=>by rw [if_neg (by simp)]; rfl
 | q :: r,gs,x,hx,h=>by
  have ih:=xS (gs:=gs.set q.toNat n) (n:=n) (done:=r) (x:=x) (by rw [List.length_set]; exact hx) fun p hp=>h p (List.mem_cons_of_mem _ hp)
  show (setG (gs.set q.toNat n) r n).getD x 0=_
  rw [ih]
  have q0:=h q List.mem_cons_self
  by_cases c:(x:Int)∈r
  ·rw [if_pos c,if_pos (List.mem_cons_of_mem _ c)]
  ·rw [if_neg c]
   by_cases d:(x:Int)=q
   ·rw [if_pos (by rw [d]; exact List.mem_cons_self)]
    have e:q.toNat=x:=by omega
    rw [e,List.getD_eq_getElem?_getD,List.getElem?_set_self hx]
    rfl
   ·rw [if_neg (fun z=>(List.mem_cons.mp z).elim d c)]
    have e:q.toNat≠x:=by omega
    rw [List.getD_eq_getElem?_getD,List.getElem?_set_ne e,List.getD_eq_getElem?_getD]
def aR (gs:LI) (q:Int):Int:=gs.getD q.toNat 0
theorem xT {gs ins:LI} {n q:Int} (h0:0<=q) (h1:q<(gs.length:Int)) (hi:∀ p∈ins,0<=p):aR (setG gs ins n) q=if q∈ins then n else aR gs q:=by
 have h:=xS (n:=n) (done:=ins) (gs:=gs) (x:=q.toNat) (by omega) hi
 rw [Int.toNat_of_nonneg h0] at h
 exact h
structure PtS (H:Hp) (C x go ms wt iw:Addr) (many:Nat) (gs:LI) (ds:List Addr) (ws:LI):Prop where
 pt:PtAt H C x go ms wt iw
 go_:H go=some (.lst (gs.map V.int))
 ms_:H ms=some (.lst (ds.map V.ref))
 wt_:H wt=some (.lst (ws.map V.int))
 iw_:H iw=some (.dK (kvT ws))
 lg:gs.length=many
 val:∀ q,aq many q->0<=aR gs q/\aR gs q<(ds.length:Int)
 mem:∀ (i:Nat) (da:Addr),ds[i]?=some da->∃ mem:LI,H da=some (.dK (kvT mem))/\mem.Nodup/\mem≠[]/\∀ q,q∈mem↔aq many q/\aR gs q=(i:Int)
 dn:ds.Nodup
 ndi:iw∉ds
 n1:go≠ms
 n2:go≠wt
 n3:ms≠wt
 wn:ws.Nodup
 wv:∀ g∈ws,0<=g/\g<(ds.length:Int)
section
variable {H H':Hp} {C x go ms wt iw:Addr} {many:Nat} {gs ws:LI} {ds:List Addr}
theorem PtS.at_ (h:PtS H C x go ms wt iw many gs ds ws) {d:Addr} (hd:d∈ds):∃ mem:LI,H d=some (.dK (kvT mem)):=by
 obtain ⟨i,hi⟩:=List.mem_iff_getElem?.mp hd
 obtain ⟨mem,h1,_⟩:=h.mem i d hi
 exact ⟨mem,h1⟩
theorem PtS.same (h:PtS H C x go ms wt iw many gs ds ws) (s:Same H H'):PtS H' C x go ms wt iw many gs ds ws:=
 ⟨h.pt.same s,s _ _ h.go_,s _ _ h.ms_,s _ _ h.wt_,s _ _ h.iw_,h.lg,h.val,fun i da hi=>by
  obtain ⟨mem,h1,h2⟩:=h.mem i da hi
  exact ⟨mem,s _ _ h1,h2⟩,h.dn,h.ndi,h.n1,h.n2,h.n3,h.wn,h.wv⟩
theorem PtS.few (h:PtS H C x go ms wt iw many gs ds ws):ds.length<=many:=by
 have t:=fx (xs:=(List.range ds.length).map fun i:Nat=>(i:Int)) (ys:=gs) (List.pairwise_map.mpr (List.nodup_range.imp fun {a b} n z=>n (by
  have z':(a:Int)=(b:Int):=z
  omega))) (fun g hg=>by
  obtain ⟨i,hi,rfl⟩:=List.mem_map.mp hg
  have il:=List.mem_range.mp hi
  obtain ⟨mem,_,_,ne,iff⟩:=h.mem i _ (List.getElem?_eq_getElem il)
  obtain ⟨q,r,rfl⟩:=List.exists_cons_of_ne_nil ne
  obtain ⟨⟨q0,q1⟩,e⟩:=(iff q).mp List.mem_cons_self
  have l:q.toNat<gs.length:=by rw [h.lg]; omega
  unfold aR at e
  rw [getD_at l] at e
  rw [<- e]
  exact List.getElem_mem l)
 rw [lm_,List.length_range,h.lg] at t
 exact t
theorem PtS.wfew (h:PtS H C x go ms wt iw many gs ds ws):ws.length<=ds.length:=b4 ds.length h.wn h.wv
theorem PtS.split {da E:Addr} {mem ins:LI} {g nw:Int} (h:PtS H C x go ms wt iw many gs ds ws) (g0:0<=g) (hda0:ds[g.toNat]?=some da) (hda:H da=some (.dK (kvT mem))) (hm:∀ q,q∈mem↔aq many q/\aR gs q=g) (nm:mem.Nodup)
  (ndi:ins.Nodup) (hin:∀ q∈ins,q∈mem) (hne:ins≠[]) (lt:ins.length<mem.length) (fE:H E=none) (hE:H' E=some (.dK (kvT ins))) (hms:H' ms=some (.lst ((ds++[E]).map V.ref))) (hd':H' da=some (.dK (kvT (outF mem ins))))
  (hgo:H' go=some (.lst ((setG gs ins (ds.length:Int)).map V.int))) (hwt:H' wt=some (.lst ((ws++[nw]).map V.int))) (hiw:H' iw=some (.dK (kvT (if nw∈ws then ws else ws++[nw])))) (hnw:nw∉ws) (nwv:nw=(ds.length:Int)\/nw=g)
  (kp:∀ c u,c≠go->c≠ms->c≠da->c≠wt->c≠iw->H c=some u->H' c=some u):PtS H' C x go ms wt iw many (setG gs ins (ds.length:Int)) (ds++[E]) (ws++[nw]):=by
 have gl:g.toNat<ds.length:=(gi_ hda0).1
 have ip:∀ p∈ins,0<=p:=fun p hp=>((hm p).mp (hin p hp)).1.1
 have gr:∀ q,aq many q->aR (setG gs ins (ds.length:Int)) q=if q∈ins then (ds.length:Int) else aR gs q:=fun q hq=>xT hq.1 (by rw [h.lg]; exact hq.2) ip
 have eE:E∉ds:=fun z=>by
  obtain ⟨m,hm⟩:=h.at_ z
  rw [fE] at hm
  cases hm
 obtain ⟨dx,hx⟩:=h.pt.ob
 refine ⟨⟨dx,kp _ _ (aE hx h.go_ (by intro z; cases z)) (aE hx h.ms_ (by intro z; cases z)) (aE hx hda (by intro z; cases z)) (aE hx h.wt_ (by intro z; cases z)) (aE hx h.iw_ (by intro z; cases z)) hx⟩,hgo,hms,hwt,by rw [if_neg hnw] at hiw; exact hiw,by rw [xU]; exact h.lg,fun q hq=>?_,fun i d hi=>?_,?_,?_,h.n1,h.n2,h.n3,nX h.wn hnw,fun p hp=>?_⟩
 ·rw [gr q hq,List.length_append,List.length_singleton]
  have v:=h.val q hq
  split <;> omega
 ·rcases snoc_cases hi with hi | ⟨rfl,rfl⟩
  ·have il:=(gi_ hi).1
   by_cases c:d=da
   ·subst c
    have ei:i=g.toNat:=by
     have e1:=(gi_ hi).2
     have e2:=(gi_ hda0).2
     exact (List.getElem_inj h.dn).mp (e1.trans e2.symm)
    refine ⟨outF mem ins,hd',nm.filter _,fun z=>?_,fun q=>?_⟩
    ·have all:∀ q∈mem,q∈ins:=fun q hq=>Classical.byContradiction fun n=>by
      have:q∈outF mem ins:=List.mem_filter.mpr ⟨hq,decide_eq_true n⟩
      rw [z] at this
      cases this
     have:=fx nm all
     omega
    ·unfold outF
     rw [List.mem_filter,hm,ei,Int.toNat_of_nonneg g0]
     constructor
     ·rintro ⟨⟨h1,h2⟩,h3⟩
      exact ⟨h1,by rw [gr q h1,if_neg (of_decide_eq_true h3)]; exact h2⟩
     ·rintro ⟨h1,h2⟩
      rw [gr q h1] at h2
      by_cases n:q∈ins
      ·rw [if_pos n] at h2
       omega
      ·rw [if_neg n] at h2
       exact ⟨⟨h1,h2⟩,decide_eq_true n⟩
   ·obtain ⟨m2,h1,h2,h3,h4⟩:=h.mem i d hi
    refine ⟨m2,kp _ _ (aE h1 h.go_ (by intro z; cases z)) (aE h1 h.ms_ (by intro z; cases z)) c (aE h1 h.wt_ (by intro z; cases z)) (fun z=>h.ndi (z ▸ mq_ hi)) h1,h2,h3,fun q=>?_⟩
    have ni:(i:Int)≠g:=fun z=>by
     have e:i=g.toNat:=by omega
     rw [e,hda0] at hi
     exact c (Option.some.inj hi).symm
    rw [h4]
    refine and_congr_right fun hq=>?_
    rw [gr q hq]
    by_cases n:q∈ins
    ·have e:=((hm q).mp (hin q n)).2
     rw [if_pos n,e]
     constructor <;> intro z <;> omega
    ·rw [if_neg n]
  ·refine ⟨ins,hE,ndi,hne,fun q=>?_⟩
   constructor
   ·intro hq
    have r:=((hm q).mp (hin q hq)).1
    exact ⟨r,by rw [gr q r,if_pos hq]⟩
   ·rintro ⟨hq,e⟩
    rw [gr q hq] at e
    by_cases n:q∈ins
    ·exact n
    ·rw [if_neg n] at e
     have:=h.val q hq
     omega
 ·refine List.nodup_append.mpr ⟨h.dn,List.nodup_cons.mpr ⟨by simp,List.nodup_nil⟩,fun a ha b hb=>?_⟩
  rw [List.mem_singleton.mp hb]
  exact fun z=>eE (z ▸ ha)
 ·intro z
  rcases ma_.mp z with z | z
  ·exact h.ndi z
  ·have e:=List.mem_singleton.mp z
   rw [<- e,h.iw_] at fE
   cases fE
 ·rw [List.length_append,List.length_singleton]
  rcases ma_.mp hp with z | z
  ·have:=h.wv p z
   omega
  ·rw [List.mem_singleton.mp z]
   rcases nwv with e | e <;> omega
end
def CN (many:Nat) (L gs:LI) (n:Nat) (ws gs' ws':LI):Prop := ∃ b nw:Int,ws'=ws++[nw]/\(nw=(n:Int)\/nw=b)/\(b∈ws->nw=(n:Int))/\(∀ q,aq many q->aR gs q=b->q∈L->aR gs' q=(n:Int))/\(∀ q,aq many q->¬ (aR gs q=b/\q∈L)->aR gs' q=aR gs q)
def tU (C:Addr):Sp:=fun vs H Q _=>∃ (x go ms wt iw ll:Addr) (many:Nat) (gs ws L:LI) (ds:List Addr) (J:LI->Nat->LI->Prop),vs=[.ref x,.ref ll]/\PtS H C x go ms wt iw many gs ds ws/\many<1000/\H ll=some (.lst (L.map V.int))/\(ll≠go/\ll≠ms/\ll≠wt)/\L.Nodup/\(∀ q∈L,aq many q)/\J gs ds.length ws /\
 (∀ gs n ws gs' ws',J gs n ws->(∀ q,aq many q->0<=aR gs q/\aR gs q<(n:Int))->CN many L gs n ws gs' ws'->J gs' (n+1) ws') /\
 ∀ (H':Hp) (gs' ws':LI) (more:List Addr),PtS H' C x go ms wt iw many gs' (ds++more) ws'->J gs' (ds++more).length ws'->(∀ a b,aq many a->aq many b->aR gs' a=aR gs' b->a∈L->b∈L)->(∀ d∈more,H d=none)->(∀ c u,c≠go->c≠ms->c≠wt->c≠iw->c∉ds->H c=some u->H' c=some u)->Q .non H'
section
variable {P:Program} {w:World} {K:PySem.W.Frag} {mg:Str->Option Value} {base:Heap} {f:Addr} {fd:FuncData} {dV:Value} {C:Addr}
theorem sc_Parted_part_by:FnScope ["self","leading","touched","here","group","inside"] ["self","leading"] (ak b9):=⟨rfl,rfl,rfl,by decide +kernel,rfl,by decide +kernel,by decide +kernel⟩
theorem AE (F:FunD K "part_by" "Parted.part_by" b9 dV f fd) (pc:PCls K C) (jf:DefMe P w K mg base C "split_off" 2 ["self","group","inside"] (wM K C)) (aY:mg "len" = none):FnOk P w K mg base CX0 3 f fd ["self","leading"] (tU C):=by
 refine F.ok sc_Parted_part_by (fun vs H Q E h=>?_) (fun cdv A outer s H vs Q E hr h=>?_)
 ·obtain ⟨x,go,ms,wt,iw,ll,many,gs,ws,L,ds,J,rfl,_⟩:=h
  rfl
 obtain ⟨x,go,ms,wt,iw,ll,many,gs,ws,L,ds,J,rfl,S,n1000,hll,⟨l1,l2,l3⟩,ndL,hL,j0,jst,k⟩:=h
 have hu:=ko hr
 obtain ⟨dx,hx⟩:=S.pt.ob
 have fewL:L.length<=many:=b4 many ndL hL
 have fewD:=S.few
 refine ⟨_,(ar (ay (i:=2) sc_Parted_part_by.nd rfl (Or.inl rfl) kB)
   (ar (bR PassesOwn.never rfl (cF (pv 1)) (az (i:=3) sc_Parted_part_by.nd rfl (Or.inl rfl)) (av (bV (i8 PySem.F.plainAttrs_list PySem.F.slot_list_append PySem.F.type_list_append b7 (wo (pv 2) (aN cX (df (pv 0) rfl) (pv 3) (fun _ _=>rfl)) (eP af) ⟨rfl,rfl,rfl,rfl⟩) (aa (pv 3) af)))))
   (av (bR PassesOwn.never rfl (B9 (BX PySem.F.plainAttrs_dict PySem.F.slot_dict_items PySem.F.type_dict_items BE (pv 2))) (pI rfl (cI (az (i:=4) sc_Parted_part_by.nd rfl (Or.inl rfl)) (cI (az (i:=5) sc_Parted_part_by.nd rfl (Or.inl rfl)) kS))) (av (cJ (bC zN (aB aF (by rfl) aY bD (aa (pv 5) af)) (aB kI (by rfl) aY bD (aa (aN cX (df (pv 0) rfl) (pv 4) (fun _ _=>rfl)) af)) (bJ _)) (av (bV (zQ jf hr (pv 0) (aa (pv 4) (aa (pv 5) af))))) bA)))))),?_⟩
 refine fun B hB=>?_
 have s0:=aj hB (HO.dK [])
 try dsimp only [bW,cU]
 refine dj (t:=pT _ _ _) (fun σ' H'=>∃ (es:List (Int×Addr)) (v:OV),σ'=[some (.ref x),some (.ref ll),some (.ref B),v,none,none]/\Same H H'/\BackOk H H' B es (fun q ls=>ls=L.filter fun h=>decide (aR gs h=q))/\∀ e∈es,∃ h∈L,aR gs h=e.1) ?_ (fun D' nxt=>?_)
 rotate_left
 ·have b0:BackOk H (upd H B (.dK [])) B [] (fun q ls=>ls=(L.take 0).filter fun h=>decide (aR gs h=q)):=⟨ae,List.Pairwise.nil,List.Pairwise.nil,(fun e h=>by cases h),(fun e h=>by cases h),fun q _=>rfl⟩
  refine ⟨_,rfl,ll,rfl,⟨_,qL_ (s0 _ _ hll)⟩,?_⟩
  refine fJ (K:=K) (xs:=L.map V.int) (fun i σ' H'=>∃ (es:List (Int×Addr)) (v:OV),σ'=[some (.ref x),some (.ref ll),some (.ref B),v,none,none]/\Same H H'/\BackOk H H' B es (fun q ls=>ls=(L.take i).filter fun h=>decide (aR gs h=q))/\∀ e∈es,∃ h∈L,aR gs h=e.1) ⟨[],none,rfl,s0,b0,fun e h=>by cases h⟩ (fun i σ' H' _ ⟨_,_,_,e,_⟩=>qL_ (e _ _ hll)) ?_ ?_
  ·rintro i y σ' H2 hi ⟨es,v,rfl,s2,b2,kr⟩
   obtain ⟨h,rfl,hh⟩:=bz hi
   have hm:=mq_ hh
   have il:=(gi_ hh).1
   have hin:=hL h hm
   have gv:=S.val h hin
   have at':atI (gs.map V.int) h=some (.int (aR gs h)):=bS hin.1 (by rw [S.lg]; exact hin.2)
   refine ⟨_,rfl,B,rfl,.inl ⟨_,.inl b2.at_⟩,_,rfl,x,C,dx,_,_,rfl,s2 _ _ hx,pc.cl,pc.ng,rfl,_,rfl,go,_,_,_,rfl,rfl,qL_ (s2 _ _ S.go_),at',(by show 0<=sizeLine; decide),fun La hLa=>?_⟩
   have sL:=aj hLa (HO.lst [])
   have b3:=b2.same sL
   have nL:∀ e∈es,e.2≠La:=fun e he z=>by
    obtain ⟨ls,h1,_⟩:=b2.lst e he
    rw [z,hLa] at h1
    cases h1
   have nLB:B≠La:=au b2.at_ hLa
   have fL:H La=none:=s2.free hLa
   have few:=b4 ds.length b3.nd (fun q hq=>by
    obtain ⟨e,he,rfl⟩:=List.mem_map.mp hq
    obtain ⟨p,hp,ep⟩:=kr e he
    rw [<- ep]
    exact S.val p (hL p hp))
   rw [lm_] at few
   have len:(kvL es).length<sizeLine:=ax (by unfold kvL; rw [lm_]; omega)
   have et:L.take (i+1)=L.take i++[h]:=by rw [List.take_add_one,hh]; rfl
   have oth:∀ (p:Int) (ls:LI),p≠aR gs h->(ls=(L.take i).filter fun h=>decide (aR gs h=p))->ls=(L.take (i+1)).filter fun h=>decide (aR gs h=p):=fun p ls np z=>by
    rw [et,List.filter_append,List.filter_cons_of_neg (by rw [decide_eq_false (Ne.symm np)]; decide),List.filter_nil,List.append_nil]
    exact z
   have grow:∀ ls:LI,(ls=(L.take i).filter fun q=>decide (aR gs q=aR gs h))->ls++[h]=(L.take (i+1)).filter fun q=>decide (aR gs q=aR gs h):=fun ls z=>by
    have e1:[h].filter (fun q=>decide (aR gs q=aR gs h))=[h]:=by simp
    rw [et,List.filter_append,e1,z]
   refine ⟨_,Sum.inl (aR gs h),b3.at_,rfl,len,fun v hv=>?_,fun hn=>?_⟩
   ·obtain ⟨la,ls,rfl,hme,hla,hp⟩:=b3.get hv
    have pl:ls.length<=i:=by
     rw [hp]
     exact Nat.le_trans (List.length_filter_le _ _) (by rw [List.length_take]; omega)
    have lz:(ls.map V.int).length<sizeLine:=ax (by rw [lm_]; omega)
    refine ⟨.inl ⟨rfl,_,qL_ hla⟩,_,rfl,la,_,_,rfl,rfl,hla,lz,?_⟩
    exact ⟨es,_,rfl,aw (s2.trans sL) (b2.fresh _ hme),b3.old hme hla (grow ls hp) oth,kr⟩
   ·have hq:aR gs h∉es.map Prod.fst:=fun z=>by
     obtain ⟨e,he,ee⟩:=List.mem_map.mp z
     obtain ⟨jj,hjj⟩:=List.mem_iff_getElem?.mp he
     have:=sr b3.nd (q:=e.1) (a:=e.2) hjj
     rw [ee,hn] at this
     cases this
    have hL3:(upd (upd H2 La (HO.lst [])) B (HO.dK (putK (kvL es) (Sum.inl (aR gs h)) (V.ref La)))) La=some (.lst []):=by rw [ah (Ne.symm nLB),ae]
    refine ⟨.inl ⟨rfl,_,qL_ hL3⟩,_,rfl,La,_,_,rfl,rfl,hL3,(by show 0<sizeLine; decide),?_⟩
    refine ⟨es++[(aR gs h,La)],_,rfl,aw (aw (s2.trans sL) hB) fL,b3.new hq ae fL nL (grow [] (b3.non _ hq)) oth,fun e he=>?_⟩
    rcases ma_.mp he with z | z
    ·exact kr e z
    ·rw [List.mem_singleton.mp z]
     exact ⟨h,hm,rfl⟩
  ·rintro σ' H1 ⟨es,v,rfl,s1,b1,kr⟩
   rw [lm_,List.take_length] at b1
   exact nxt _ _ ⟨es,v,rfl,s1,b1,kr⟩
 rintro σ' H1 ⟨es,v,rfl,s1,b1,kr⟩
 refine ⟨_,rfl,.inr (.inr (.inl ⟨rfl,.inl ⟨_,b1.at_⟩⟩)),B,_,rfl,rfl,b1.at_,fun vw hvw=>?_⟩
 have nBv:B≠vw:=au b1.at_ hvw
 refine ⟨vw,B,kvL es,rfl,ae,by rw [ah nBv]; exact b1.at_,fun o=>?_⟩
 have fvw:H vw=none:=s1.free hvw
 obtain ⟨H2,eH2⟩:∃ H2,upd (upd H1 vw (nh vw B)) B (.frz o (.dK (kvL es)))=H2:=⟨_,rfl⟩
 have s2:Same H H2:=by rw [<- eH2]; exact aw (aw s1 fvw) hB
 have hB2:H2 B=some (.frz o (.dK (kvL es))):=by rw [<- eH2,ae]
 have ls2:∀ e∈es,H2 e.2=some (.lst ((L.filter fun h=>decide (aR gs h=e.1)).map V.int)):=fun e he=>by
  obtain ⟨ls,h1,h2⟩:=b1.lst e he
  rw [<- eH2,ah (aE h1 b1.at_ (by intro z; cases z)),ah (au h1 hvw),h1,h2]
 rw [eH2]
 have ndk:=b1.nd
 have lk:(kvL es).length=es.length:=by unfold kvL; rw [lm_]
 refine Aj (o:=o) (kvs:=kvL es) (fun i σ' H'=>∃ (gs' ws':LI) (more:List Addr) (v1 v2 v3:OV),σ'=[some (.ref x),some (.ref ll),some (.ref B),v1,v2,v3]/\PtS H' C x go ms wt iw many gs' (ds++more) ws'/\J gs' (ds++more).length ws'/\(∀ d∈more,H d=none)/\H' B=some (.frz o (.dK (kvL es))) /\
   (∀ e∈es,H' e.2=some (.lst ((L.filter fun h=>decide (aR gs h=e.1)).map V.int)))/\(∀ c u,c≠go->c≠ms->c≠wt->c≠iw->c∉ds->H c=some u->H' c=some u)/\(∀ q,aq many q->aR gs q∉(es.take i).map Prod.fst->aR gs' q=aR gs q) /\
   (∀ a b,aq many a->aq many b->aR gs' a=aR gs' b->aR gs a=aR gs b/\(aR gs a∈(es.take i).map Prod.fst->(a∈L↔b∈L))))
  ⟨gs,ws,[],v,none,none,rfl,by rw [List.append_nil]; exact S.same s2,by rw [List.append_nil]; exact j0,(fun d hd=>by cases hd),hB2,ls2,(fun c u _ _ _ _ _ e=>s2 _ _ e),(fun _ _ _=>rfl),fun a b _ _ e=>⟨e,fun z=>by rw [List.take_zero] at z; cases z⟩⟩
  (fun i σ' H' _ ⟨_,_,_,_,_,_,_,_,_,_,e,_⟩=>e) ?_ ?_
 ·rintro i p σ' H3 T hi ⟨gs',ws',more,v1,v2,v3,rfl,S3,j3,fm,hB3,ls3,kp3,ga,gb⟩ hT
  obtain ⟨e,he,rfl⟩:∃ e,es[i]?=some e/\p=(Sum.inl e.1,V.ref e.2):=by
   unfold kvL at hi
   rw [List.getElem?_map] at hi
   obtain ⟨e,h1,h2⟩:=Option.map_eq_some_iff.mp hi
   exact ⟨e,h1,h2.symm⟩
  obtain ⟨b,il⟩:=e
  have hme:=mq_ he
  have ilt:i<es.length:=(gi_ he).1
  have sT:=aj hT (HO.tup [V.int b,V.ref il])
  refine ⟨T,_,rfl,qT_ ae,rfl,_,_,rfl,_,_,rfl,rfl,?_⟩
  obtain ⟨H4,eH4⟩:∃ H4,upd H3 T (HO.tup [V.int b,V.ref il])=H4:=⟨_,rfl⟩
  have sT':Same H3 H4:=by rw [<- eH4]; exact sT
  have eH4':upd H3 T (HO.tup [kV (Sum.inl b),V.ref il])=H4:=eH4
  try rw [eH4]
  try rw [eH4']
  have S4:=S3.same sT'
  obtain ⟨dx4,hx4⟩:=S4.pt.ob
  obtain ⟨h0,h0m,e0⟩:=kr _ hme
  have bv:=S.val h0 (hL h0 h0m)
  rw [e0] at bv
  have bl:b.toNat<ds.length:=by omega
  have hda0:(ds++more)[b.toNat]?=some ds[b.toNat]:=by rw [List.getElem?_append_left bl,List.getElem?_eq_getElem bl]
  obtain ⟨da,eda⟩:∃ da,ds[b.toNat]=da:=⟨_,rfl⟩
  rw [eda] at hda0
  obtain ⟨mem,hda,ndm,nem,hm⟩:=S4.mem b.toNat da hda0
  rw [Int.toNat_of_nonneg bv.1] at hm
  have at':atI ((ds++more).map V.ref) b=some (.ref da):=d6 bv.1 hda0
  have hil4:=sT' _ _ (ls3 _ hme)
  obtain ⟨ins,eins⟩:∃ ins,(L.filter fun h=>decide (aR gs h=b))=ins:=⟨_,rfl⟩
  have hil:H4 il=some (.lst (ins.map V.int)):=by rw [<- eins]; exact hil4
  have insm:∀ q,q∈ins↔q∈L/\aR gs q=b:=fun q=>by
   rw [<- eins,List.mem_filter]
   exact and_congr_right fun _=>⟨of_decide_eq_true,decide_eq_true⟩
  have notyet:b∉(es.take i).map Prod.fst:=fun z=>by
   obtain ⟨e,h1,h2⟩:=List.mem_map.mp z
   obtain ⟨j,hj,ej⟩:=List.getElem_of_mem h1
   rw [List.length_take] at hj
   rw [List.getElem_take] at ej
   have e2:=(gi_ he).2
   have:(es.map Prod.fst)[j]'(by rw [lm_]; omega)=(es.map Prod.fst)[i]'(by rw [lm_]; omega):=by
    rw [List.getElem_map,List.getElem_map,ej,e2]
    exact h2
   have:=(List.getElem_inj ndk).mp this
   omega
  have insub:∀ q∈ins,q∈mem:=fun q hq=>by
   have h1:=(insm q).mp hq
   refine (hm q).mpr ⟨hL q h1.1,?_⟩
   rw [ga q (hL q h1.1) (by rw [h1.2]; exact notyet),h1.2]
  have ndins:ins.Nodup:=by rw [<- eins]; exact ndL.filter _
  have neins:ins≠[]:=fun z=>by
   have:=(insm h0).mpr ⟨h0m,e0⟩
   rw [z] at this
   cases this
  have etk:(es.take (i+1)).map Prod.fst=(es.take i).map Prod.fst++[b]:=by rw [List.take_add_one,he,List.map_append]; rfl
  have lkm:(kvT mem).length=mem.length:=by unfold kvT; rw [lm_]
  have ngo:=S4.go_
  have nms:=S4.ms_
  have nwt:=S4.wt_
  have fil:H il=none:=b1.fresh _ hme
  have g1:go≠il:=fun z=>by rw [<- z,S.go_] at fil; cases fil
  have g2:ms≠il:=fun z=>by rw [<- z,S.ms_] at fil; cases fil
  have g3:wt≠il:=fun z=>by rw [<- z,S.wt_] at fil; cases fil
  have fewN:=S4.few
  have fewW:=S4.wfew
  have fewM:mem.length<=many:=b4 many ndm fun q hq=>((hm q).mp hq).1
  have fewI:ins.length<=mem.length:=fx ndins insub
  refine ⟨_,rfl,il,_,rfl,.inl (qL_ hil),_,rfl,x,C,dx4,_,_,rfl,hx4,pc.cl,pc.nm,rfl,_,rfl,ms,_,_,_,rfl,rfl,qL_ nms,at',da,_,rfl,hda,_,_,rfl,rfl,_,rfl,nO (fun c=>?_) (fun c=>?_)⟩
  ·rw [lm_,lkm] at c
   have lt:ins.length<mem.length:=by omega
   have dsn:(ds++more).length<1000:=by omega
   refine ⟨_,rfl,x,dx4,_,rfl,hx4,rfl,_,rfl,_,rfl,x,go,ms,wt,iw,da,il,b,gs',ws',ws',mem,ins,ds++more,rfl,⟨dx4,hx4⟩,ngo,nms,nwt,S4.iw_,S4.wn,⟨by omega,by omega,dsn,by omega⟩,bv.1,hda0,hda,hil,ndins,fun q hq=>?_,⟨S4.n1,S4.n2,g1,S4.n3,g2,g3,fun z=>S4.ndi (z ▸ mq_ hda0)⟩,fun E nw H5 fE hE hms5 hda5 hgo5 hwt5 hiw5 hy hn kp5=>?_⟩
   ·have h1:=(hm q).mp (insub q hq)
    exact ⟨insub q hq,h1.1.1,by rw [S4.lg]; exact h1.1.2⟩
   ·have nwv:nw=((ds++more).length:Int)\/nw=b:=by
     by_cases z:b∈ws'\/ins.length<=(outF mem ins).length
     ·exact .inl (hy z)
     ·exact .inr (hn z)
    have nww:nw∉ws' := fun z=>by
     by_cases y:b∈ws'\/ins.length<=(outF mem ins).length
     ·have:=S4.wv nw z
      rw [hy y] at this
      omega
     ·rw [hn y] at z
      exact y (.inl z)
    have S5:=S4.split bv.1 hda0 hda hm ndm ndins insub neins lt fE hE hms5 hda5 hgo5 hwt5 hiw5 nww nwv kp5
    have ip:∀ p∈ins,0<=p:=fun p hp=>((hm p).mp (insub p hp)).1.1
    have gr:∀ q,aq many q->aR (setG gs' ins ((ds++more).length:Int)) q=if q∈ins then ((ds++more).length:Int) else aR gs' q:=fun q hq=>xT hq.1 (by rw [S4.lg]; exact hq.2) ip
    have gh0:aR gs' h0=b:=by rw [ga h0 (hL h0 h0m) (by rw [e0]; exact notyet),e0]
    have inb:∀ q,aq many q->(q∈ins↔aR gs' q=b/\q∈L):=fun q hq =>
     ⟨fun z=>⟨((hm q).mp (insub q z)).2,((insm q).mp z).1⟩,fun z=>(insm q).mpr ⟨z.2,by
      rw [(gb q h0 hq (hL h0 h0m) (z.1.trans gh0.symm)).1]
      exact e0⟩⟩
    have fE0:H E=none:=by
     cases e:H E with
     | none=>rfl
     | some u =>
      have:=sT' _ _ (kp3 E u (fun z=>by rw [z,ngo] at fE; cases fE) (fun z=>by rw [z,nms] at fE; cases fE) (fun z=>by rw [z,nwt] at fE; cases fE) (fun z=>by rw [z,S4.iw_] at fE; cases fE) (fun z=>by
       obtain ⟨m,hm⟩:=S4.at_ (List.mem_append_left _ z)
       rw [fE] at hm
       cases hm) e)
      rw [fE] at this
      cases this
    have hB4:=sT' _ _ hB3
    have dam:da∈ds:=eda ▸ List.getElem_mem bl
    refine ⟨setG gs' ins ((ds++more).length:Int),ws'++[nw],more++[E],_,_,_,rfl,by rw [<- List.append_assoc]; exact S5,?_,fun d hd=>?_,kp5 _ _ (aE hB4 ngo (by intro z; cases z)) (aE hB4 nms (by intro z; cases z)) (aE hB4 hda (by intro z; cases z)) (aE hB4 nwt (by intro z; cases z)) (aE hB4 S4.iw_ (by intro z; cases z)) hB4,fun e he=>?_,fun c u c1 c2 c3 c4 c5 e=>kp5 c u c1 c2 (fun z=>c5 (z ▸ dam)) c3 c4 (sT' _ _ (kp3 c u c1 c2 c3 c4 c5 e)),fun q hq nq=>?_,fun a c ha hc e=>?_⟩
    ·have el:(ds++(more++[E])).length=(ds++more).length+1:=by simp only [List.length_append,List.length_singleton]; omega
     rw [el]
     exact jst gs' _ ws' _ _ j3 S4.val ⟨b,nw,rfl,nwv,fun z=>hy (.inl z),fun q hq e hl=>by rw [gr q hq,if_pos ((inb q hq).mpr ⟨e,hl⟩)],fun q hq n=>by rw [gr q hq,if_neg fun z=>n ((inb q hq).mp z)]⟩
    ·rcases ma_.mp hd with z | z
     ·exact fm d z
     ·rw [List.mem_singleton.mp z]; exact fE0
    ·have fe:=b1.fresh e he
     have he4:=sT' _ _ (ls3 e he)
     exact kp5 _ _ (fun z=>by rw [z,S.go_] at fe; cases fe) (fun z=>by rw [z,S.ms_] at fe; cases fe) (aE he4 hda (by intro z; cases z)) (fun z=>by rw [z,S.wt_] at fe; cases fe) (aE he4 S4.iw_ (by intro z; cases z)) he4
    ·rw [etk] at nq
     rw [gr q hq,if_neg fun z=>nq (List.mem_append_right _ (by rw [((insm q).mp z).2]; exact List.mem_cons_self))]
     exact ga q hq fun z=>nq (List.mem_append_left _ z)
    ·rw [gr a ha,gr c hc] at e
     by_cases ai:a∈ins
     ·by_cases ci:c∈ins
      ·have h1:=(insm a).mp ai
       have h2:=(insm c).mp ci
       exact ⟨h1.2.trans h2.2.symm,fun _=>⟨fun _=>h2.1,fun _=>h1.1⟩⟩
      ·rw [if_pos ai,if_neg ci] at e
       have:=S4.val c hc
       omega
     ·by_cases ci:c∈ins
      ·rw [if_neg ai,if_pos ci] at e
       have:=S4.val a ha
       omega
      ·rw [if_neg ai,if_neg ci] at e
       have g:=gb a c ha hc e
       refine ⟨g.1,fun z=>?_⟩
       rw [etk] at z
       rcases ma_.mp z with z | z
       ·exact g.2 z
       ·have za:=List.mem_singleton.mp z
        exact ⟨fun h=>absurd ((insm a).mpr ⟨h,za⟩) ai,fun h=>absurd ((insm c).mpr ⟨h,g.1.symm.trans za⟩) ci⟩
  ·rw [lm_,lkm] at c
   have all:=yE ndins insub (by omega)
   refine ⟨gs',ws',more,_,_,_,rfl,S4,j3,fm,sT' _ _ hB3,(fun e he=>sT' _ _ (ls3 e he)),(fun c u c1 c2 c3 c4 c5 e=>sT' _ _ (kp3 c u c1 c2 c3 c4 c5 e)),fun q hq nq=>?_,fun a c ha hc e=>?_⟩
   ·rw [etk] at nq
    exact ga q hq fun z=>nq (List.mem_append_left _ z)
   ·have g:=gb a c ha hc e
    refine ⟨g.1,fun z=>?_⟩
    rw [etk] at z
    rcases ma_.mp z with z | z
    ·exact g.2 z
    ·have za:=List.mem_singleton.mp z
     have inL:∀ q,aq many q->aR gs q=b->q∈L:=fun q hq eq=>((insm q).mp (all q ((hm q).mpr ⟨hq,by rw [ga q hq (by rw [eq]; exact notyet),eq]⟩))).1
     exact ⟨fun _=>inL c hc (g.1.symm.trans za),fun _=>inL a ha za⟩
 ·rintro σ' H' ⟨gs',ws',more,v1,v2,v3,rfl,S3,j3,fm,hB3,ls3,kp3,ga,gb⟩
  rw [lk,List.take_length] at gb
  refine k H' gs' ws' more S3 j3 (fun a b ha hb e hm=>?_) fm kp3
  have g:=gb a b ha hb e
  refine (g.2 (Classical.byContradiction fun z=>?_)).mp hm
  have:=b1.non _ z
  have h2:a∈L.filter fun h=>decide (aR gs h=aR gs a):=List.mem_filter.mpr ⟨hm,decide_eq_true rfl⟩
  rw [<- this] at h2
  cases h2
end
def Reach (wide:Nat) (rows:LL) (q:Int):Prop := ∃ row:LI,(∀ f∈row,0<=f/\f<(wide:Int))/\aP rows row 0=q
theorem Reach.zero {wide:Nat} {rows:LL}:Reach wide rows 0:=⟨[],(fun f h=>by cases h),rfl⟩
theorem Reach.step {wide:Nat} {rows:LL} {q f:Int} (h:Reach wide rows q) (f0:0<=f) (f1:f<(wide:Int)):Reach wide rows (stepI rows q f):=by
 obtain ⟨row,hr,rfl⟩:=h
 refine ⟨row++[f],fun g hg=>?_,by rw [eS]; rfl⟩
 rcases ma_.mp hg with z | z
 ·exact hr g z
 ·rw [List.mem_singleton.mp z]; exact ⟨f0,f1⟩
theorem Reach.of {wide:Nat} {rows:LL} {S:Int->Prop} (h0:S 0) (hs:∀ q,S q->∀ f,0<=f->f<(wide:Int)->S (stepI rows q f)) {q:Int} (h:Reach wide rows q):S q:=by
 obtain ⟨row,hr,rfl⟩:=h
 have go:∀ (row:LI) (p:Int),(∀ f∈row,0<=f/\f<(wide:Int))->S p->S (aP rows row p):=by
  intro row
  induction row with
  | nil=>intro p _ hp; exact hp
  | cons f r ih=>intro p hr hp; exact ih (stepI rows p f) (fun g hg=>hr g (List.mem_cons_of_mem _ hg)) (hs p hp f (hr f List.mem_cons_self).1 (hr f List.mem_cons_self).2)
 exact go row 0 hr h0
def cy (s:LI) (x:Int):LI:=if x∈s then s else s++[x]
def c9 (rows:LL) (s:LI) (q:Int):LI:=(rows.getD q.toNat []).foldl cy s
theorem Cj {s:LI} {x y:Int} (h:y∈s):y∈cy s x:=by
 unfold cy
 split
 ·exact h
 ·exact List.mem_append_left _ h
theorem Ci (s:LI) (x:Int):x∈cy s x:=by
 unfold cy
 split
 ·assumption
 ·exact List.mem_append_right _ List.mem_cons_self
theorem mW:∀ (xs:LI) {s:LI} {y:Int},y∈s->y∈xs.foldl cy s
 | [],_,_,h=>h
 | x :: xs,_,_,h=>mW xs (Cj h)
theorem tG:∀ (xs:LI) {s:LI} {y:Int},y∈xs->y∈xs.foldl cy s
 | [],_,_,h=>by cases h
 | x :: xs,s,y,h=>by
  rcases List.mem_cons.mp h with rfl | h
  ·exact mW xs (Ci s y)
  ·exact tG xs h
theorem kN (rows:LL):∀ (qs:LI) {s:LI} {y:Int},y∈s->y∈qs.foldl (c9 rows) s
 | [],_,_,h=>h
 | q :: qs,_,_,h=>kN rows qs (mW _ h)
theorem iY (rows:LL):∀ (qs:LI) {s:LI} {q y:Int},q∈qs->y∈rows.getD q.toNat []->y∈qs.foldl (c9 rows) s
 | [],_,_,_,h,_=>by cases h
 | p :: qs,s,q,y,h,hy=>by
  rcases List.mem_cons.mp h with rfl | h
  ·exact kN rows qs (tG _ hy)
  ·exact iY rows qs h hy
structure Bfs (many wide:Nat) (rows:LL) (qs:LI):Prop where
 eq:qs=qs.foldl (c9 rows) [0]
 nd:qs.Nodup
 inr:∀ q∈qs,0<=q/\q<(many:Int)
 re:∀ q,q∈qs↔Reach wide rows q
def pQ (K:PySem.W.Frag):Sp:=fun vs H Q _=>∃ (m r g:Addr) (many wide:Nat) (rows:LL) (signs:LI),vs=[.ref m,.int 0]/\MachAt H m r g wide rows signs/\RowsOk many wide rows/\(1<=many/\many<=1000) /\
 ∀ (l:Addr) (H':Hp) (qs:LI),Same H H'->H' l=some (.lst (qs.map V.int))->Bfs many wide rows qs->Q (.ref l) H'
structure Found (many wide:Nat) (rows:LL) (dn ks:LI):Prop where
 eq:ks=dn.foldl (c9 rows) [0]
 nd:ks.Nodup
 inr:∀ q∈ks,0<=q/\q<(many:Int)
 re:∀ q∈ks,Reach wide rows q
structure Part (many wide:Nat) (rows:LL) (dn:LI) (xs:LI) (ks:LI):Prop where
 eq:ks=xs.foldl cy (dn.foldl (c9 rows) [0])
 nd:ks.Nodup
 inr:∀ q∈ks,0<=q/\q<(many:Int)
 re:∀ q∈ks,Reach wide rows q
theorem Part.put {many wide:Nat} {rows:LL} {dn xs ks:LI} {q:Int} (F:Part many wide rows dn xs ks) (h:q∉ks) (q0:0<=q) (q1:q<(many:Int)) (r:Reach wide rows q):Part many wide rows dn (xs++[q]) (ks++[q]) where
 eq:=by
  rw [List.foldl_append,<- F.eq]
  show _=cy ks q
  unfold cy
  rw [if_neg h]
 nd:=List.nodup_append.mpr ⟨F.nd,by simp,fun a ha b hb e=>h (by rw [<- List.mem_singleton.mp hb,<- e]; exact ha)⟩
 inr:=fun p hp=>by
  rcases ma_.mp hp with z | z
  ·exact F.inr p z
  ·rw [List.mem_singleton.mp z]; exact ⟨q0,q1⟩
 re:=fun p hp=>by
  rcases ma_.mp hp with z | z
  ·exact F.re p z
  ·rw [List.mem_singleton.mp z]; exact r
theorem Part.old {many wide:Nat} {rows:LL} {dn xs ks:LI} {q:Int} (F:Part many wide rows dn xs ks) (h:q∈ks):Part many wide rows dn (xs++[q]) ks where
 eq:=by
  rw [List.foldl_append,<- F.eq]
  show _=cy ks q
  unfold cy
  rw [if_pos h]
 nd:=F.nd
 inr:=F.inr
 re:=F.re
section
variable {P:Program} {w:World} {K:PySem.W.Frag} {mg:Str->Option Value} {base:Heap} {f:Addr} {fd:FuncData} {dV:Value}
theorem sc_reached_rooms:FnScope ["machine","start","rows","reached","level","fresh","here","there"] ["machine","start"] (ak cf):=⟨rfl,rfl,rfl,by decide +kernel,rfl,by decide +kernel,by decide +kernel⟩
theorem yM (F:FunD K "reached_rooms" "reached_rooms" cf dV f fd) (dJ:mg "list" = none):FnOk P w K mg base CX0 1 f fd ["machine","start"] (pQ K):=by
 refine F.ok sc_reached_rooms (fun vs H Q E h=>?_) (fun cdv A outer s H vs Q E hr h=>?_)
 ·obtain ⟨m,r,g,many,wide,rows,signs,rfl,_⟩:=h
  rfl
 obtain ⟨m,r,g,many,wide,rows,signs,rfl,M,R,⟨n0,n1⟩,k⟩:=h
 obtain ⟨ras,hr',hA⟩:=M.rows
 have hu:=ko hr
 refine ⟨_,(ar (ay (i:=2) sc_reached_rooms.nd rfl (Or.inl rfl) (aN aM (pv 0) ao (fun _ _=>rfl)))
   (ar (ay (i:=3) sc_reached_rooms.nd rfl (Or.inl rfl) (Dg (Cc (pv 1) dq Dn) rfl rfl (by intro z; cases z) (by decide)))
   (ar (ay (i:=4) sc_reached_rooms.nd rfl (Or.inl rfl) (eP (aa (pv 1) af)))
   (ar (xM PassesOwn.never (xN (pv 4) (fun _=>rfl)) (ar (ay (i:=5) sc_reached_rooms.nd rfl (Or.inl rfl) (eP af))
   (ar (bR PassesOwn.never rfl (cF (pv 4)) (az (i:=6) sc_reached_rooms.nd rfl (Or.inl rfl)) (av (bR PassesOwn.never rfl (gY (aN aM (pv 2) (pv 6) (fun _ _=>rfl))) (az (i:=7) sc_reached_rooms.nd rfl (Or.inl rfl)) (av (cJ (wz (vm hu (pv 7) (pv 3)) (by with_unfolding_all rfl)) (ar (rq hu (pv 3) (pv 7) dq rfl)
   (av (bV (i8 PySem.F.plainAttrs_list PySem.F.slot_list_append PySem.F.type_list_append b7 (pv 5) (aa (pv 7) af))))) bA)))))
   (av (ay (i:=4) sc_reached_rooms.nd rfl (Or.inl rfl) (pv 5))))))
   (av (aU (aO (rL rfl) (by rfl) dJ nB (aa (pv 3) af)))))))),?_⟩
 refine ⟨_,rfl,m,_,_,_,rfl,rfl,qT_ M.tup,rfl,?_⟩
 refine fun D hD=>⟨_,rfl,ae,[(Sum.inl 0,V.bl true)],rfl,by show 1<=15; decide,?_⟩
 rw [zY]
 have sD:=aj hD (HO.dK (kvT [0]))
 refine ⟨_,rfl,(by show 1<=sizeLine; decide),fun W hW=>?_⟩
 have hWD:W≠D:=fun z=>by rw [z,ae] at hW; cases hW
 have hW0:H W=none:=by rw [ah hWD] at hW; exact hW
 try dsimp only [bW]
 refine CT (t:=wO _ _) (fun σ' H'=>∃ (ks:LI) (W:Addr) (v0 v1 v2:OV),σ'=[some (.ref m),some (.int 0),some (.ref r),some (.ref D),some (.ref W),v0,v1,v2]/\Same H H'/\H' D=some (.dK (kvT ks))/\Found many wide rows ks ks) ?_ (fun nxt=>?_)
 rotate_left
 ·refine zZ (fun mm σ' H'=>∃ (dn lv:LI) (W:Addr) (v0 v1 v2:OV),mm=2*(many-(dn++lv).length)+lv.length/\σ'=[some (.ref m),some (.int 0),some (.ref r),some (.ref D),some (.ref W),v0,v1,v2]/\Same H H'/\H' D=some (.dK (kvT (dn++lv)))/\W≠D/\H' W=some (.lst (lv.map V.int))/\Found many wide rows dn (dn++lv))
   ⟨_,[],[0],W,none,none,none,rfl,rfl,sD.trans (aj hW _),by rw [ah (Ne.symm hWD),ae]; rfl,hWD,ae,?_⟩ ?_
  ·refine ⟨rfl,by simp,fun q hq=>by rw [List.nil_append] at hq; rw [List.mem_singleton.mp hq]; omega,fun q hq=>by rw [List.nil_append] at hq; rw [List.mem_singleton.mp hq]; exact Reach.zero⟩
  rintro mm σ' H1 ⟨dn,lv,W,v0,v1,v2,rfl,rfl,s1,hD1,hWD,hW1,FD⟩
  by_cases en:lv=[]
  ·subst en
   refine ⟨_,rfl,_,.inl ⟨_,qL_ hW1,rfl⟩,lA ?_⟩
   rw [List.append_nil] at hD1 FD
   exact nxt _ _ ⟨dn,W,v0,v1,v2,rfl,s1,hD1,FD⟩
  refine ⟨_,rfl,_,.inl ⟨_,qL_ hW1,rfl⟩,?_⟩
  have ne:(!(lv.map V.int).isEmpty)=true:=by
   cases lv with
   | nil=>exact absurd rfl en
   | cons x r=>rfl
  rw [ne]
  have kl:=b4 many FD.nd FD.inr
  have lv1:1<=lv.length:=by
   cases lv with
   | nil=>exact absurd rfl en
   | cons x r=>exact Nat.succ_le_succ (Nat.zero_le _)
  rw [List.length_append] at kl
  refine uu ⟨fun σ' H'=>∃ m',m'<2*(many-(dn++lv).length)+lv.length/\∃ (dn lv:LI) (W:Addr) (v0 v1 v2:OV),m'=2*(many-(dn++lv).length)+lv.length/\σ'=[some (.ref m),some (.int 0),some (.ref r),some (.ref D),some (.ref W),v0,v1,v2]/\Same H H'/\H' D=some (.dK (kvT (dn++lv)))/\W≠D/\H' W=some (.lst (lv.map V.int))/\Found many wide rows dn (dn++lv),fun σ' H' h=>h,?_⟩
  refine ⟨(by show 0<=sizeLine; decide),fun N hN=>?_⟩
  have hND:N≠D:=fun z=>by rw [z,hD1] at hN; cases hN
  have hNW:N≠W:=fun z=>by rw [z,hW1] at hN; cases hN
  have hN0:H N=none:=s1.free hN
  try dsimp only [bW]
  refine ⟨_,rfl,W,rfl,⟨_,qL_ (by rw [ah (Ne.symm hNW)]; exact hW1)⟩,fJ (K:=K) (xs:=lv.map V.int) (fun i σ' H'=>∃ (fr:LI) (v1 v2:OV),
    σ'=[some (.ref m),some (.int 0),some (.ref r),some (.ref D),some (.ref W),some (.ref N),v1,v2]/\Same H H'/\H' D=some (.dK (kvT (dn++lv++fr)))/\H' W=some (.lst (lv.map V.int))/\H' N=some (.lst (fr.map V.int))/\Found many wide rows (dn++lv.take i) (dn++lv++fr))
   ⟨[],v1,v2,rfl,s1.trans (aj hN _),by rw [ah (Ne.symm hND),List.append_nil]; exact hD1,by rw [ah (Ne.symm hNW)]; exact hW1,ae,by rw [List.take_zero,List.append_nil,List.append_nil]; exact FD⟩ (fun i σ' H' _ ⟨_,_,_,_,_,_,e,_⟩=>qL_ e) ?_ ?_⟩
  ·rintro i x σ' H2 hi ⟨fr,v1,v2,rfl,s2,hD2,hW2,hN2,F2⟩
   obtain ⟨here,rfl,hz⟩:=bz hi
   have hil:i<lv.length:=(gi_ hz).1
   have hk:here∈dn++lv++fr:=List.mem_append_left _ (List.mem_append_right _ (mq_ hz))
   have hh:=F2.inr here hk
   have hre:=F2.re here hk
   have l1:here.toNat<rows.length:=by rw [R.len]; omega
   obtain ⟨ra,e1,e2⟩:=hA.get l1
   have lr:rows[here.toNat].length=wide:=R.row _ (List.getElem_mem l1)
   refine ⟨_,rfl,_,rfl,r,_,_,_,rfl,rfl,qT_ (s2 _ _ hr'),d6 hh.1 e1,ra,rfl,⟨_,qT_ (s2 _ _ e2)⟩,kM (K:=K) (xs:=rows[here.toNat].map V.int) (fun j σ' H'=>∃ (fr:LI) (v:OV),
     σ'=[some (.ref m),some (.int 0),some (.ref r),some (.ref D),some (.ref W),some (.ref N),some (.int here),v]/\Same H H'/\H' D=some (.dK (kvT (dn++lv++fr)))/\H' W=some (.lst (lv.map V.int))/\H' N=some (.lst (fr.map V.int))/\Part many wide rows (dn++lv.take i) (rows[here.toNat].take j) (dn++lv++fr))
    ⟨fr,v2,rfl,s2,hD2,hW2,hN2,⟨F2.eq,F2.nd,F2.inr,F2.re⟩⟩ (fun i σ' H' _ ⟨_,_,_,e,_⟩=>qT_ (e _ _ e2)) ?_ ?_⟩
   ·rintro j x σ' H3 hj ⟨fr,v,rfl,s3,hD3,hW3,hN3,F3⟩
    obtain ⟨z,rfl,hz⟩:=bz hj
    have hjl:j<rows[here.toNat].length:=(gi_ hz).1
    have zin:=R.val _ (List.getElem_mem l1) z (mq_ hz)
    have kl3:=b4 many F3.nd F3.inr
    rw [List.length_append,List.length_append] at kl3
    have stp:stepI rows here (j:Int)=z:=by
     unfold stepI
     rw [getD_at l1,Int.toNat_natCast,getD_at hjl]
     exact (gi_ hz).2
    have tk:rows[here.toNat].take (j+1)=rows[here.toNat].take j++[z]:=by rw [List.take_add_one,hz]; rfl
    refine ⟨_,rfl,_,rfl,D,_,rfl,DGet.k (k:=Sum.inl z) hD3,_,rfl,?_⟩
    rw [rh]
    refine sh (fun c=>?_) (fun c=>?_)
    ·refine ⟨_,rfl,_,rfl,D,_,rfl,DPut.k (k:=Sum.inl z) hD3 (ax (by unfold kvT; rw [lm_,List.length_append,List.length_append]; omega)),?_⟩
     rw [rg c]
     have hN4:(upd H3 D (HO.dK (kvT (dn++lv++fr++[z])))) N=some (.lst (fr.map V.int)):=by rw [ah hND]; exact hN3
     refine ⟨_,rfl,.inl ⟨rfl,_,qL_ hN4⟩,_,rfl,N,_,_,rfl,rfl,hN4,Nat.lt_of_le_of_lt (show _<=2000 by rw [lm_]; omega) (by decide),?_⟩
     have F4:=F3.put c zin.1 zin.2 (by rw [<- stp]; exact hre.step (by omega) (by omega))
     refine ⟨fr++[z],_,rfl,aw (aw s3 hD) hN0,?_,?_,?_,?_⟩
     ·rw [ah (Ne.symm hND),ae,List.append_assoc]
     ·rw [ah (Ne.symm hNW),ah hWD]; exact hW3
     ·rw [ae,List.map_append]; rfl
     ·rw [tk,<- List.append_assoc]; exact F4
    ·refine ⟨fr,_,rfl,s3,hD3,hW3,hN3,?_⟩
     rw [tk]
     exact F3.old c
   ·rintro σ' H3 ⟨fr,v,rfl,s3,hD3,hW3,hN3,F3⟩
    rw [lm_,List.take_length] at F3
    refine ⟨fr,_,_,rfl,s3,hD3,hW3,hN3,⟨?_,F3.nd,F3.inr,F3.re⟩⟩
    have e9:dn++lv.take (i+1)=(dn++lv.take i)++[here]:=by rw [List.take_add_one,hz,List.append_assoc]; rfl
    rw [F3.eq,e9,List.foldl_append (l:=dn++lv.take i)]
    show _=c9 rows _ here
    unfold c9
    rw [getD_at l1]
  ·rintro σ' H3 ⟨fr,v1,v2,rfl,s3,hD3,hW3,hN3,F3⟩
   rw [lm_,List.take_length] at F3
   have kl3:=b4 many F3.nd F3.inr
   rw [List.length_append,List.length_append] at kl3
   refine ⟨_,rfl,_,?_,dn++lv,fr,N,_,_,_,rfl,rfl,s3,hD3,hND,hN3,F3⟩
   rw [List.length_append,List.length_append]
   omega
 rintro σ' H1 ⟨ks,W,v0,v1,v2,rfl,s1,hD1,FD⟩
 refine ⟨_,rfl,D,_,rfl,hD1,fun l hl=>?_⟩
 have e:(kvT ks).map (fun q=>kV q.1)=ks.map V.int:=by
  unfold kvT
  rw [List.map_map]
  rfl
 rw [e]
 have z0:(0:Int)∈ks:=by rw [FD.eq]; exact kN rows ks List.mem_cons_self
 refine k l _ ks (s1.trans (aj hl _)) ae ⟨FD.eq,FD.nd,FD.inr,fun q=>⟨FD.re q,fun h=>?_⟩⟩
 refine Reach.of (S:=fun q=>q∈ks) z0 (fun p hp f f0 f1=>?_) h
 have hp' := FD.inr p hp
 have l1:p.toNat<rows.length:=by rw [R.len]; omega
 have lr:rows[p.toNat].length=wide:=R.row _ (List.getElem_mem l1)
 have hf:f.toNat<rows[p.toNat].length:=by omega
 rw [FD.eq]
 refine iY rows ks hp ?_
 unfold stepI
 rw [getD_at l1,getD_at hf]
 exact List.getElem_mem hf
end
def sgn (signs:LI) (x:Int):Int:=signs.getD x.toNat 0
def InF (wide:Nat) (v:LI):Prop := ∀ f∈v,0<=f/\f<(wide:Int)
def Agree (rows:LL) (wide:Nat) (signs:LI) (n:Nat) (a b:Int):Prop := ∀ v,InF wide v->v.length<=n->sgn signs (aP rows v a)=sgn signs (aP rows v b)
theorem Agree.up {rows:LL} {wide:Nat} {signs:LI} {n:Nat} {a b:Int} (h0:sgn signs a=sgn signs b) (h:∀ f:Nat,f<wide->Agree rows wide signs n (stepI rows a f) (stepI rows b f)):Agree rows wide signs (n+1) a b:=by
 intro v h1 h2
 cases v with
 | nil=>exact h0
 | cons f v =>
  have hf:=h1 f List.mem_cons_self
  have q:=h f.toNat (by omega) v (fun g hg=>h1 g (List.mem_cons_of_mem _ hg)) (by rw [List.length_cons] at h2; omega)
  rw [Int.toNat_of_nonneg hf.1] at q
  exact q
def AllAg (rows:LL) (wide:Nat) (signs:LI) (x y:Int):Prop := ∀ n,Agree rows wide signs n x y
theorem AllAg.sgn {rows:LL} {wide:Nat} {signs:LI} {x y:Int} (h:AllAg rows wide signs x y):My.sgn signs x=My.sgn signs y:=h 0 [] (fun f hf=>by cases hf) (Nat.le_refl 0)
theorem AllAg.led {rows:LL} {wide:Nat} {signs:LI} {x y:Int} (h:AllAg rows wide signs x y) {f:Nat} (hf:f<wide):AllAg rows wide signs (stepI rows x f) (stepI rows y f):=fun n v h1 h2=>by
 refine h (n+1) ((f:Int) :: v) (fun g hg=>?_) (by rw [List.length_cons]; omega)
 rcases List.mem_cons.mp hg with z | z
 ·rw [z]
  exact ⟨by omega,by omega⟩
 ·exact h1 g z
def gL (c:LI) (q:Int):Int:=c.getD q.toNat 0
structure ColsOk (many wide:Nat) (rows cols:LL):Prop where
 of:∀ c∈cols,∃ f:Nat,f<wide/\∀ q,aq many q->gL c q=stepI rows q f
 all:∀ f:Nat,f<wide->∃ c∈cols,∀ q,aq many q->gL c q=stepI rows q f
theorem ColsOk.room {many wide:Nat} {rows cols:LL} (C:ColsOk many wide rows cols) (R:RowsOk many wide rows):∀ x,aq many x->∀ c∈cols.map gL,aq many (c x):=fun x hx c hc=>by
 obtain ⟨l,hl,rfl⟩:=List.mem_map.mp hc
 obtain ⟨f,hf,e⟩:=C.of l hl
 rw [e x hx]
 exact cx R hx.1 hx.2 (by omega) (by omega)
theorem ColsOk.likes {many wide:Nat} {rows cols:LL} {signs:LI} (C:ColsOk many wide rows cols) (R:RowsOk many wide rows):Likes many (cols.map gL) (My.sgn signs) (fun x y=>aq many x/\aq many y/\AllAg rows wide signs x y) where
 sgn:=fun x y h=>h.2.2.sgn
 led:=fun x y h c hc=>by
  have h1:=C.room R x h.1 c hc
  have h2:=C.room R y h.2.1 c hc
  refine ⟨h1,h2,?_⟩
  obtain ⟨l,hl,rfl⟩:=List.mem_map.mp hc
  obtain ⟨f,hf,e⟩:=C.of l hl
  rw [e x h.1,e y h.2.1]
  exact h.2.2.led hf
theorem zG {many wide:Nat} {rows cols:LL} {signs:LI} {grp:Int->Int} {W:Int->Prop} (C:ColsOk many wide rows cols) (R:RowsOk many wide rows)
  (h:Hop many (cols.map gL) (My.sgn signs) (fun x y=>aq many x/\aq many y/\AllAg rows wide signs x y) grp W) (st:∀ x y,aq many x->aq many y->grp x=grp y->∀ c∈cols.map gL,grp (c x)=grp (c y)) {x y:Int} (hx:aq many x) (hy:aq many y) :
  grp x=grp y↔AllAg rows wide signs x y:=by
 refine ⟨fun e n=>?_,fun a=>h.coarse x y hx hy ⟨hx,hy,a⟩⟩
 induction n generalizing x y with
 | zero =>
  intro v _ h2
  have:v=[]:=List.eq_nil_of_length_eq_zero (by omega)
  rw [this]
  exact h.signs x y hx hy e
 | succ n ih =>
  refine Agree.up (h.signs x y hx hy e) fun f hf=>?_
  obtain ⟨c,hc,ec⟩:=C.all f hf
  have hm:gL c∈cols.map gL:=List.mem_map.mpr ⟨c,hc,rfl⟩
  have q:=st x y hx hy e _ hm
  rw [ec x hx,ec y hy] at q
  exact ih (cx R hx.1 hx.2 (by omega) (by omega)) (cx R hy.1 hy.2 (by omega) (by omega)) q
def aC:Nat->LI->Option Nat
 | m,[]=>some m
 | m,t :: r=>if t=(m:Int) then aC (m+1) r else if t<(m:Int) then aC m r else none
def bg:Nat->Nat->LL->Option Nat
 | _,m,[]=>some m
 | q,m,r :: rs=>if q<m then (aC m r).bind fun m'=>bg (q+1) m' rs else none
def InOrder (rows:LL):Prop:=bg 0 1 rows=some rows.length
def Tells (wide:Nat) (rows rows':LL) (signs signs':LI) (a b:Int):Prop := ∀ v,InF wide v->sgn signs (aP rows v a)=sgn signs' (aP rows' v b)
def Apart (wide:Nat) (rows:LL) (signs:LI):Prop := ∀ a b,aq rows.length a->aq rows.length b->AllAg rows wide signs a b->a=b
section
variable {wide:Nat} {rows rows':LL} {signs signs':LI}
theorem Tells.led {a b:Int} (h:Tells wide rows rows' signs signs' a b) {f:Nat} (hf:f<wide):Tells wide rows rows' signs signs' (stepI rows a f) (stepI rows' b f):=fun v hv =>
 h ((f:Int) :: v) fun g hg=>by
  rcases List.mem_cons.mp hg with z | z
  ·rw [z]
   exact ⟨by omega,by omega⟩
  ·exact hv g z
theorem Tells.left {a b c:Int} (h:Tells wide rows rows' signs signs' a c) (h':Tells wide rows rows' signs signs' b c):AllAg rows wide signs a b:=fun n v hv _=>(h v hv).trans (h' v hv).symm
theorem Tells.right {a b c:Int} (h:Tells wide rows rows' signs signs' c a) (h':Tells wide rows rows' signs signs' c b):AllAg rows' wide signs' a b:=fun n v hv _=>(h v hv).symm.trans (h' v hv)
theorem tJ (A:Apart wide rows signs) (A':Apart wide rows' signs'):∀ {r r':LI} {m m1 m2:Nat},r.length=r'.length->(∀ i:Nat,i<m->Tells wide rows rows' signs signs' i i)->(m<=rows.length/\m<=rows'.length) ->
  (∀ (j:Nat) (t t':Int),r[j]?=some t->r'[j]?=some t'->aq rows.length t/\aq rows'.length t'/\Tells wide rows rows' signs signs' t t')->aC m r=some m1->aC m r'=some m2 ->
  r=r'/\m1=m2/\(∀ i:Nat,i<m1->Tells wide rows rows' signs signs' i i)/\m1<=rows.length/\m1<=rows'.length
 | [],[],m,m1,m2,_,hB,hm,_,h1,h2=>by
  cases h1
  cases h2
  exact ⟨rfl,rfl,hB,hm.1,hm.2⟩
 | [],t' :: r',_,_,_,hl,_,_,_,_,_=>by cases hl
 | t :: r,[],_,_,_,hl,_,_,_,_,_=>by cases hl
 | t :: r,t' :: r',m,m1,m2,hl,hB,hm,hT,h1,h2=>by
  obtain ⟨ht,ht',tt⟩:=hT 0 t t' rfl rfl
  have hl':r.length=r'.length:=Nat.succ.inj hl
  have hT':∀ (j:Nat) (u u':Int),r[j]?=some u->r'[j]?=some u'->aq rows.length u/\aq rows'.length u'/\Tells wide rows rows' signs signs' u u' := fun j u u' a b=>hT (j+1) u u' a b
  have low:∀ {x:Int},0<=x->x<(m:Int)->∃ i:Nat,i<m/\x=(i:Int):=fun h0 h1=>⟨_,by omega,(Int.toNat_of_nonneg h0).symm⟩
  have h1':(if t=(m:Int) then aC (m+1) r else if t<(m:Int) then aC m r else none)=some m1:=h1
  have h2':(if t'=(m:Int) then aC (m+1) r' else if t'<(m:Int) then aC m r' else none)=some m2:=h2
  by_cases c:t=(m:Int)
  ·by_cases c':t'=(m:Int)
   ·rw [if_pos c] at h1'
    rw [if_pos c'] at h2'
    have hB':∀ i:Nat,i<m+1->Tells wide rows rows' signs signs' i i:=fun i hi=>by
     rcases Nat.lt_or_ge i m with z | z
     ·exact hB i z
     ·have:i=m:=by omega
      rw [this,<- c]
      rw [c'] at tt
      rw [c]
      rw [c] at tt
      exact tt
    obtain ⟨e1,e2⟩:=tJ A A' hl' hB' ⟨by have:=ht.2; omega,by have:=ht'.2; omega⟩ hT' h1' h2'
    exact ⟨by rw [c,c',e1],e2⟩
   ·rw [if_neg c'] at h2'
    by_cases d:t'<(m:Int)
    ·obtain ⟨i,hi,rfl⟩:=low ht'.1 d
     have:=A t (i:Int) ht ⟨by omega,by omega⟩ (tt.left (hB i hi))
     omega
    ·rw [if_neg d] at h2'
     cases h2'
  ·rw [if_neg c] at h1'
   by_cases d:t<(m:Int)
   ·rw [if_pos d] at h1'
    obtain ⟨i,hi,rfl⟩:=low ht.1 d
    have e:=A' t' (i:Int) ht' ⟨by omega,by omega⟩ (tt.right (hB i hi))
    subst e
    rw [if_neg (by omega),if_pos d] at h2'
    obtain ⟨e1,e2⟩:=tJ A A' hl' hB hm hT' h1' h2'
    exact ⟨by rw [e1],e2⟩
   ·rw [if_neg d] at h1'
    cases h1'
theorem vp (A:Apart wide rows signs) (A':Apart wide rows' signs') (R:RowsOk rows.length wide rows) (R':RowsOk rows'.length wide rows'):∀ {rs rs':LL} {q m:Nat},rs=rows.drop q->rs'=rows'.drop q->q<=rows.length->q<=rows'.length ->
  (∀ i:Nat,i<m->Tells wide rows rows' signs signs' i i)->(m<=rows.length/\m<=rows'.length)->bg q m rs=some rows.length->bg q m rs'=some rows'.length->rs=rs'/\rows.length=rows'.length/\∀ i:Nat,i<rows.length->Tells wide rows rows' signs signs' i i
 | [],[],q,m,_,_,_,_,hB,_,h1,h2=>by
  have e1:m=rows.length:=Option.some.inj h1
  have e2:m=rows'.length:=Option.some.inj h2
  exact ⟨rfl,e1.symm.trans e2,fun i hi=>hB i (by omega)⟩
 | [],r' :: rs',q,m,e,_,hq,_,_,_,h1,h2=>by
  have e1:m=rows.length:=Option.some.inj h1
  have hl:rows.length<=q:=List.drop_eq_nil_iff.mp e.symm
  have h2':(if q<m then (aC m r').bind fun m'=>bg (q+1) m' rs' else none)=some rows'.length:=h2
  rw [if_neg (by omega)] at h2'
  cases h2'
 | r :: rs,[],q,m,_,e,_,hq,_,_,h1,h2=>by
  have e1:m=rows'.length:=Option.some.inj h2
  have hl:rows'.length<=q:=List.drop_eq_nil_iff.mp e.symm
  have h1':(if q<m then (aC m r).bind fun m'=>bg (q+1) m' rs else none)=some rows.length:=h1
  rw [if_neg (by omega)] at h1'
  cases h1'
 | r :: rs,r' :: rs',q,m,e,e',hq,hq',hB,hm,h1,h2=>by
  have h1':(if q<m then (aC m r).bind fun m'=>bg (q+1) m' rs else none)=some rows.length:=h1
  have h2':(if q<m then (aC m r').bind fun m'=>bg (q+1) m' rs' else none)=some rows'.length:=h2
  by_cases c:q<m
  ·rw [if_pos c] at h1' h2'
   have l1:q<rows.length:=by omega
   have l2:q<rows'.length:=by omega
   have d1:=List.drop_eq_getElem_cons l1
   have d2:=List.drop_eq_getElem_cons l2
   rw [d1] at e
   rw [d2] at e'
   injection e with er es
   injection e' with er' es'
   cases o1:aC m r with
   | none=>rw [o1] at h1'; cases h1'
   | some m1 =>
    cases o2:aC m r' with
    | none=>rw [o2] at h2'; cases h2'
    | some m2 =>
     rw [o1] at h1'
     rw [o2] at h2'
     have hr:=R.row _ (List.getElem_mem l1)
     have hr' := R'.row _ (List.getElem_mem l2)
     have key:∀ (j:Nat) (t t':Int),r[j]?=some t->r'[j]?=some t'->aq rows.length t/\aq rows'.length t'/\Tells wide rows rows' signs signs' t t' := fun j t t' a b=>by
      rw [er] at a
      rw [er'] at b
      have ja:=(gi_ a).1
      have jw:j<wide:=by omega
      have s1:stepI rows (q:Int) (j:Int)=t:=by
       unfold stepI
       rw [Int.toNat_natCast,Int.toNat_natCast,getD_at l1,List.getD_eq_getElem?_getD,a]
       rfl
      have s2:stepI rows' (q:Int) (j:Int)=t' := by
       unfold stepI
       rw [Int.toNat_natCast,Int.toNat_natCast,getD_at l2,List.getD_eq_getElem?_getD,b]
       rfl
      refine ⟨R.val _ (List.getElem_mem l1) t (mq_ a),R'.val _ (List.getElem_mem l2) t' (mq_ b),?_⟩
      have:=(hB q c).led jw
      rw [s1,s2] at this
      exact this
     obtain ⟨e1,e2,hB',k1,k2⟩:=tJ A A' (by rw [er,er',hr,hr']) hB hm key o1 o2
     subst e2
     obtain ⟨f1,f2,f3⟩:=vp A A' R R' es es' l1 l2 hB' ⟨k1,k2⟩ h1' h2'
     exact ⟨by rw [e1,f1],f2,f3⟩
  ·rw [if_neg c] at h1'
   cases h1'
theorem yc (A:Apart wide rows signs) (A':Apart wide rows' signs') (R:RowsOk rows.length wide rows) (R':RowsOk rows'.length wide rows') (n0:0<rows.length) (n1:0<rows'.length) (O:InOrder rows) (O':InOrder rows') (ls:signs.length=rows.length) (ls':signs'.length=rows'.length) (h:Tells wide rows rows' signs signs' 0 0):rows=rows'/\signs=signs' := by
 obtain ⟨e,el,hB⟩:=vp A A' R R' (rs:=rows) (rs' := rows') (q:=0) (m:=1) rfl rfl (Nat.zero_le _) (Nat.zero_le _) (fun i hi=>by
  have:i=0:=by omega
  rw [this]
  exact h) ⟨n0,n1⟩ O O'
 refine ⟨e,List.ext_getElem (by omega) fun i h1 h2=>?_⟩
 have q:=hB i (by omega) [] (fun f hf=>by cases hf)
 unfold sgn at q
 have q':signs.getD ((i:Int)).toNat 0=signs'.getD ((i:Int)).toNat 0:=q
 rw [Int.toNat_natCast,getD_at h1,getD_at h2] at q'
 exact q'
end
def aJ (φ:Int->Int):Nat->Nat
 | 0=>0
 | m+1=>if φ (m:Int)=(aJ φ m:Int) then aJ φ m+1 else aJ φ m
def bx (φ:Int->Int) (n:Nat):List Nat:=(List.range n).filter fun q=>decide (φ (q:Int)=(aJ φ q:Int))
def FirstNum (φ:Int->Int) (n:Nat):Prop := ∀ q:Nat,q<n->0<=φ (q:Int)/\φ (q:Int)<=(aJ φ q:Int)
section
variable {φ:Int->Int} {n:Nat}
theorem va:∀ {a b:Nat},a<=b->aJ φ a<=aJ φ b:=by
 intro a b h
 induction h with
 | refl=>exact Nat.le_refl _
 | @step m _ ih =>
  have e:aJ φ (m+1)=if φ (m:Int)=(aJ φ m:Int) then aJ φ m+1 else aJ φ m:=rfl
  refine Nat.le_trans ih ?_
  rw [e]
  by_cases c:φ (m:Int)=(aJ φ m:Int)
  ·rw [if_pos c]; exact Nat.le_succ _
  ·rw [if_neg c]; exact Nat.le_refl _
theorem FirstNum.lt (h:FirstNum φ n) {t m:Nat} (ht:t<m) (hm:m<=n):φ (t:Int)<(aJ φ m:Int):=by
 have h1:=(h t (by omega)).2
 have h2:=va (φ:=φ) (show t+1<=m from ht)
 have h3:aJ φ (t+1)=if φ (t:Int)=(aJ φ t:Int) then aJ φ t+1 else aJ φ t:=rfl
 by_cases c:φ (t:Int)=(aJ φ t:Int)
 ·rw [if_pos c] at h3
  omega
 ·rw [if_neg c] at h3
  omega
theorem gQ (φ:Int->Int):∀ n,(bx φ n).length=aJ φ n
 | 0=>rfl
 | n+1=>by
  have ih:=gQ φ n
  unfold bx at ih ⊢
  rw [List.range_succ,List.filter_append,List.length_append,ih]
  show _=if φ (n:Int)=(aJ φ n:Int) then aJ φ n+1 else aJ φ n
  by_cases c:φ (n:Int)=(aJ φ n:Int)
  ·rw [if_pos c,List.filter_cons_of_pos (by exact decide_eq_true c)]
   rfl
  ·rw [if_neg c,List.filter_cons_of_neg (by rw [decide_eq_false c]; decide)]
   rfl
theorem wB (F:FirstNum φ n):∀ {r:LI} {m m1:Nat},m<=n->(∀ t∈r,aq n t)->aC m r=some m1->aC (aJ φ m) (r.map φ)=some (aJ φ m1)/\m1<=n/\(∀ t∈r,t<(m1:Int))/\m<=m1
 | [],m,m1,hm,_,h=>by
  cases h
  exact ⟨rfl,hm,fun t ht=>(by cases ht),Nat.le_refl _⟩
 | t :: r,m,m1,hm,hr,h=>by
  have ht:=hr t List.mem_cons_self
  have hr':∀ u∈r,aq n u:=fun u hu=>hr u (List.mem_cons_of_mem _ hu)
  have h':(if t=(m:Int) then aC (m+1) r else if t<(m:Int) then aC m r else none)=some m1:=h
  show (if φ t=(aJ φ m:Int) then aC (aJ φ m+1) (r.map φ) else if φ t<(aJ φ m:Int) then aC (aJ φ m) (r.map φ) else none)=_/\_
  by_cases c:t=(m:Int)
  ·rw [if_pos c] at h'
   have mn:m<n:=by have:=ht.2; omega
   obtain ⟨e1,e2,e3,e4⟩:=wB F (show m+1<=n from mn) hr' h'
   have e5:∀ u∈t :: r,u<(m1:Int):=fun u hu=>by
    rcases List.mem_cons.mp hu with z | z
    ·rw [z,c]; omega
    ·exact e3 u z
   have es:aJ φ (m+1)=if φ (m:Int)=(aJ φ m:Int) then aJ φ m+1 else aJ φ m:=rfl
   rw [c]
   by_cases d:φ (m:Int)=(aJ φ m:Int)
   ·rw [if_pos d]
    rw [if_pos d] at es
    rw [es] at e1
    rw [c] at e5
    exact ⟨e1,e2,e5,by omega⟩
   ·rw [if_neg d] at es
    rw [if_neg d,if_pos (by have:=(F m mn).2; omega)]
    rw [es] at e1
    rw [c] at e5
    exact ⟨e1,e2,e5,by omega⟩
  ·rw [if_neg c] at h'
   by_cases d:t<(m:Int)
   ·rw [if_pos d] at h'
    obtain ⟨e1,e2,e3,e4⟩:=wB F hm hr' h'
    have lt:φ t<(aJ φ m:Int):=by
     have:=F.lt (t:=t.toNat) (m:=m) (by have:=ht.1; omega) hm
     rw [Int.toNat_of_nonneg ht.1] at this
     exact this
    rw [if_neg (by omega),if_pos lt]
    refine ⟨e1,e2,fun u hu=>?_,e4⟩
    rcases List.mem_cons.mp hu with z | z
    ·rw [z]; omega
    ·exact e3 u z
   ·rw [if_neg d] at h'
    cases h'
theorem wA (F:FirstNum φ n):∀ {r:LI} {m m1:Nat},m<=n->(∀ t∈r,aq n t/\φ t<(aJ φ m:Int))->aC m r=some m1->aJ φ m1=aJ φ m/\m1<=n/\(∀ t∈r,t<(m1:Int))/\m<=m1
 | [],m,m1,hm,_,h=>by
  cases h
  exact ⟨rfl,hm,fun t ht=>(by cases ht),Nat.le_refl _⟩
 | t :: r,m,m1,hm,hr,h=>by
  have ht:=hr t List.mem_cons_self
  have h':(if t=(m:Int) then aC (m+1) r else if t<(m:Int) then aC m r else none)=some m1:=h
  by_cases c:t=(m:Int)
  ·rw [if_pos c] at h'
   have mn:m<n:=by have:=ht.1.2; omega
   have es:aJ φ (m+1)=aJ φ m:=by
    show (if φ (m:Int)=(aJ φ m:Int) then aJ φ m+1 else aJ φ m)=_
    rw [if_neg (by have:=ht.2; rw [c] at this; omega)]
   obtain ⟨e1,e2,e3,e4⟩:=wA F (show m+1<=n from mn) (fun u hu=>by rw [es]; exact hr u (List.mem_cons_of_mem _ hu)) h'
   refine ⟨e1.trans es,e2,fun u hu=>?_,by omega⟩
   rcases List.mem_cons.mp hu with z | z
   ·rw [z,c]; omega
   ·exact e3 u z
  ·rw [if_neg c] at h'
   by_cases d:t<(m:Int)
   ·rw [if_pos d] at h'
    obtain ⟨e1,e2,e3,e4⟩:=wA F hm (fun u hu=>hr u (List.mem_cons_of_mem _ hu)) h'
    refine ⟨e1,e2,fun u hu=>?_,e4⟩
    rcases List.mem_cons.mp hu with z | z
    ·rw [z]; omega
    ·exact e3 u z
   ·rw [if_neg d] at h'
    cases h'
def cG (φ:Int->Int) (rows:LL):Nat->LL->LL
 | _,[]=>[]
 | q,r :: rs=>if φ (q:Int)=(aJ φ q:Int) then r.map φ :: cG φ rows (q+1) rs else cG φ rows (q+1) rs
theorem tI {wide:Nat} {rows:LL} (F:FirstNum φ rows.length) (R:RowsOk rows.length wide rows) (cp:∀ x y:Nat,x<rows.length->y<rows.length->φ (x:Int)=φ (y:Int)->∀ f:Nat,f<wide->φ (stepI rows x f)=φ (stepI rows y f)) :
  ∀ {rs:LL} {q m k:Nat},rs=rows.drop q->q<=rows.length->m<=rows.length->(∀ x:Nat,x<q->∀ f:Nat,f<wide->stepI rows x f<(m:Int))->bg q m rs=some k->bg (aJ φ q) (aJ φ m) (cG φ rows q rs)=some (aJ φ k)
 | [],q,m,k,_,_,_,_,h=>by
  cases h
  rfl
 | r :: rs,q,m,k,e,hq,hm,old,h=>by
  have h':(if q<m then (aC m r).bind fun m'=>bg (q+1) m' rs else none)=some k:=h
  by_cases c:q<m
  ·rw [if_pos c] at h'
   have l1:q<rows.length:=by omega
   rw [List.drop_eq_getElem_cons l1] at e
   injection e with er es
   cases o1:aC m r with
   | none=>rw [o1] at h'; cases h'
   | some m1 =>
    rw [o1] at h'
    have hr:=R.row _ (List.getElem_mem l1)
    have hv:∀ t∈r,aq rows.length t:=fun t ht=>R.val _ (List.getElem_mem l1) t (er ▸ ht)
    have stp:∀ f:Nat,f<wide->stepI rows (q:Int) (f:Int)∈r:=fun f hf=>by
     have lf:f<rows[q].length:=by omega
     have:stepI rows (q:Int) (f:Int)=rows[q][f]:=by
      unfold stepI
      rw [Int.toNat_natCast,Int.toNat_natCast,getD_at l1,getD_at lf]
     rw [this,er]
     exact List.getElem_mem lf
    have es':aJ φ (q+1)=if φ (q:Int)=(aJ φ q:Int) then aJ φ q+1 else aJ φ q:=rfl
    have nxt:∀ m1:Nat,(∀ t∈r,t<(m1:Int))->m<=m1->∀ x:Nat,x<q+1->∀ f:Nat,f<wide->stepI rows x f<(m1:Int):=fun m1 e3 e4 x hx f hf=>by
     rcases Nat.lt_or_ge x q with z | z
     ·have:=old x z f hf
      omega
     ·have:x=q:=by omega
      rw [this]
      exact e3 _ (stp f hf)
    by_cases d:φ (q:Int)=(aJ φ q:Int)
    ·obtain ⟨e1,e2,e3,e4⟩:=wB F hm hv o1
     have ih:=tI F R cp es l1 e2 (nxt m1 e3 e4) h'
     rw [es',if_pos d] at ih
     have lt:aJ φ q<aJ φ m:=by
      have:=F.lt c hm
      omega
     show bg _ _ (if φ (q:Int)=(aJ φ q:Int) then _ else _)=_
     rw [if_pos d]
     show (if aJ φ q<aJ φ m then (aC (aJ φ m) (r.map φ)).bind fun m'=>bg (aJ φ q+1) m' (cG φ rows (q+1) rs) else none)=_
     rw [if_pos lt,e1]
     exact ih
    ·-- room q is like an earlier one
     have hl:φ (q:Int)<(aJ φ q:Int):=by
      have:=(F q l1).2
      omega
     obtain ⟨x,hx,ex⟩:∃ x:Nat,x<q/\φ (x:Int)=φ (q:Int):=by
      have:∀ (b:Nat) (g:Int),0<=g->g<(aJ φ b:Int)->∃ x:Nat,x<b/\φ (x:Int)=g:=by
       intro b
       induction b with
       | zero=>intro g g0 g1; exact absurd g1 (by show ¬ g<((0:Nat):Int); omega)
       | succ b ih =>
        intro g g0 g1
        have eb:aJ φ (b+1)=if φ (b:Int)=(aJ φ b:Int) then aJ φ b+1 else aJ φ b:=rfl
        by_cases z:g<(aJ φ b:Int)
        ·obtain ⟨x,h1,h2⟩:=ih g g0 z
         exact ⟨x,by omega,h2⟩
        ·by_cases y:φ (b:Int)=(aJ φ b:Int)
         ·rw [eb,if_pos y] at g1
          exact ⟨b,Nat.lt_succ_self b,by omega⟩
         ·rw [eb,if_neg y] at g1
          exact absurd g1 z
      exact this q _ (F q l1).1 hl
     have hv':∀ t∈r,aq rows.length t/\φ t<(aJ φ m:Int):=fun t ht=>by
      refine ⟨hv t ht,?_⟩
      obtain ⟨f,hf,et⟩:=List.getElem_of_mem (er ▸ ht)
      have fw:f<wide:=by omega
      have st:stepI rows (q:Int) (f:Int)=t:=by
       unfold stepI
       rw [Int.toNat_natCast,Int.toNat_natCast,getD_at l1,getD_at hf,et]
      have c1:=cp x q (by omega) l1 ex f fw
      rw [st] at c1
      rw [<- c1]
      have o:=old x hx f fw
      have rm:=cx R (show (0:Int)<=(x:Int) by omega) (by omega) (show (0:Int)<=(f:Int) by omega) (by omega)
      have:=F.lt (t:=(stepI rows x f).toNat) (m:=m) (by omega) hm
      rw [Int.toNat_of_nonneg rm.1] at this
      exact this
     obtain ⟨e1,e2,e3,e4⟩:=wA F hm hv' o1
     have ih:=tI F R cp es l1 e2 (nxt m1 e3 e4) h'
     rw [es',if_neg d,e1] at ih
     show bg _ _ (if φ (q:Int)=(aJ φ q:Int) then _ else _)=_
     rw [if_neg d]
     exact ih
  ·rw [if_neg c] at h'
   cases h'
end
abbrev dd (s:LI) (v:Int):LI:=PyProof.Rows.step_dedup s v
theorem iX {s:LI} {v:Int} (h:v∈s):dd s v=s:=by
 unfold dd PyProof.Rows.step_dedup
 simp [h]
theorem fh {s:LI} {v:Int} (h:v∉s):dd s v=s++[v]:=by
 unfold dd PyProof.Rows.step_dedup
 simp [h]
theorem o9:∀ (ys s:LI),∃ zs,ys.foldl dd s=s++zs
 | [],s=>⟨[],by simp⟩
 | y :: ys,s=>by
  by_cases c:y∈s
  ·obtain ⟨zs,e⟩:=o9 ys s
   exact ⟨zs,by rw [List.foldl_cons,iX c,e]⟩
  ·obtain ⟨zs,e⟩:=o9 ys (s++[y])
   exact ⟨y :: zs,by rw [List.foldl_cons,fh c,e,List.append_assoc]; rfl⟩
theorem xF (gs:LI) (m:Nat):∃ zs,aA gs=aA (gs.take m)++zs:=by
 obtain ⟨zs,e⟩:=o9 (gs.drop m) (aA (gs.take m))
 refine ⟨zs,?_⟩
 rw [<- e]
 show gs.foldl dd []=(gs.drop m).foldl dd ((gs.take m).foldl dd [])
 rw [<- List.foldl_append,List.take_append_drop]
theorem gh {gs:LI} {m:Nat} {g:Int} (h:gs[m]?=some g):aA (gs.take (m+1))=dd (aA (gs.take m)) g:=by
 unfold aA
 rw [List.take_add_one,h,List.foldl_append]
 rfl
def phi (gs:LI) (q:Int):Int:=((aA gs).idxOf (gs.getD q.toNat 0):Nat)
theorem CZ {xs zs:LI} {g:Int} (h:g∈xs):(xs++zs).idxOf g=xs.idxOf g:=by rw [List.idxOf_append,if_pos h]
theorem rn {gs:LI} {m:Nat} {g:Int} (h:gs[m]?=some g) (ho:g∈aA (gs.take m)):phi gs (m:Int)=((aA (gs.take m)).idxOf g:Nat):=by
 obtain ⟨zs,e⟩:=xF gs m
 unfold phi
 rw [Int.toNat_natCast,List.getD_eq_getElem?_getD,h,e]
 show (((aA (gs.take m)++zs).idxOf g:Nat):Int)=_
 rw [CZ ho]
theorem rl {gs:LI} {m:Nat} {g:Int} (h:gs[m]?=some g) (ho:g∉aA (gs.take m)):phi gs (m:Int)=((aA (gs.take m)).length:Nat):=by
 obtain ⟨zs,e⟩:=xF gs (m+1)
 rw [gh h,fh ho] at e
 unfold phi
 rw [Int.toNat_natCast,List.getD_eq_getElem?_getD,h,e,List.append_assoc]
 show (((aA (gs.take m)++([g]++zs)).idxOf g:Nat):Int)=_
 rw [List.idxOf_append,if_neg ho]
 simp
theorem vI (gs:LI):∀ {m:Nat},m<=gs.length->aJ (phi gs) m=(aA (gs.take m)).length
 | 0,_=>rfl
 | m+1,h=>by
  have ih:=vI gs (m:=m) (by omega)
  have hg:gs[m]?=some gs[m]:=List.getElem?_eq_getElem (by omega)
  show (if phi gs (m:Int)=(aJ (phi gs) m:Int) then aJ (phi gs) m+1 else aJ (phi gs) m)=_
  rw [ih,gh hg]
  by_cases c:gs[m]∈aA (gs.take m)
  ·have e:=rn hg c
   have lt:=List.idxOf_lt_length_of_mem c
   rw [iX c,if_neg (by omega)]
  ·have e:=rl hg c
   rw [fh c,if_pos e,List.length_append]
   rfl
theorem Ag (gs:LI):FirstNum (phi gs) gs.length:=fun q hq=>by
 have hg:gs[q]?=some gs[q]:=List.getElem?_eq_getElem hq
 rw [vI gs (by omega)]
 by_cases c:gs[q]∈aA (gs.take q)
 ·have e:=rn hg c
  have lt:=List.idxOf_lt_length_of_mem c
  omega
 ·have e:=rl hg c
  omega
theorem B5 {gs:LI} {x y:Int} (hx:aq gs.length x) (hy:aq gs.length y):phi gs x=phi gs y↔gs.getD x.toNat 0=gs.getD y.toNat 0:=by
 have mem:∀ {z:Int},aq gs.length z->gs.getD z.toNat 0∈aA gs:=fun {z} hz=>by
  have l:z.toNat<gs.length:=by have:=hz.1; have:=hz.2; omega
  rw [getD_at l]
  exact once_mem.mpr (List.getElem_mem l)
 unfold phi
 constructor
 ·intro h
  have h':(aA gs).idxOf (gs.getD x.toNat 0)=(aA gs).idxOf (gs.getD y.toNat 0):=by omega
  have lx:=List.idxOf_lt_length_of_mem (mem hx)
  have ly:=List.idxOf_lt_length_of_mem (mem hy)
  have ex:(aA gs)[(aA gs).idxOf (gs.getD x.toNat 0)]=gs.getD x.toNat 0:=List.getElem_idxOf lx
  have ey:(aA gs)[(aA gs).idxOf (gs.getD y.toNat 0)]=gs.getD y.toNat 0:=List.getElem_idxOf ly
  rw [<- ex,<- ey]
  congr 1
 ·intro h
  rw [h]
theorem ki {φ:Int->Int}:∀ {b:Nat} {g:Int},0<=g->g<(aJ φ b:Int)->∃ x:Nat,x<b/\φ (x:Int)=g/\(aJ φ x:Int)=g
 | 0,g,g0,g1=>absurd g1 (by show ¬ g<((0:Nat):Int); omega)
 | b+1,g,g0,g1=>by
  have eb:aJ φ (b+1)=if φ (b:Int)=(aJ φ b:Int) then aJ φ b+1 else aJ φ b:=rfl
  by_cases z:g<(aJ φ b:Int)
  ·obtain ⟨x,h1,h2⟩:=ki g0 z
   exact ⟨x,by omega,h2⟩
  ·by_cases y:φ (b:Int)=(aJ φ b:Int)
   ·rw [eb,if_pos y] at g1
    exact ⟨b,Nat.lt_succ_self b,by omega,by omega⟩
   ·rw [eb,if_neg y] at g1
    exact absurd g1 z
theorem pf {φ:Int->Int}:∀ {n q:Nat},q<n->φ (q:Int)=(aJ φ q:Int)->(bx φ n)[aJ φ q]?=some q
 | 0,q,h,_=>absurd h (Nat.not_lt_zero _)
 | n+1,q,h,e=>by
  have l:=gQ φ n
  unfold bx at l ⊢
  rw [List.range_succ,List.filter_append]
  rcases Nat.lt_or_ge q n with z | z
  ·have ih:=pf z e
   unfold bx at ih
   rw [List.getElem?_append_left (gi_ ih).1]
   exact ih
  ·have:q=n:=by omega
   subst this
   rw [List.getElem?_append_right (by omega),l,Nat.sub_self,List.filter_cons_of_pos (by exact decide_eq_true e)]
   rfl
theorem tH {φ:Int->Int} {rows:LL}:∀ {rs:LL} {q:Nat},rs=rows.drop q->q<=rows.length->cG φ rows q rs=((List.range' q (rows.length-q)).filter fun i:Nat=>decide (φ (i:Int)=(aJ φ i:Int))).map fun i=>(rows.getD i []).map φ
 | [],q,e,hq=>by
  have hl:rows.length<=q:=List.drop_eq_nil_iff.mp e.symm
  rw [show rows.length-q=0 from by omega]
  rfl
 | r :: rs,q,e,hq=>by
  have l1:q<rows.length:=by
   rcases Nat.lt_or_ge q rows.length with z | z
   ·exact z
   ·rw [List.drop_eq_nil_of_le z] at e
    cases e
  rw [List.drop_eq_getElem_cons l1] at e
  injection e with er es
  have ih:=tH (φ:=φ) es l1
  rw [show rows.length-q=(rows.length-(q+1))+1 from by omega,List.range'_succ]
  show (if φ (q:Int)=(aJ φ q:Int) then r.map φ :: cG φ rows (q+1) rs else cG φ rows (q+1) rs)=_
  by_cases c:φ (q:Int)=(aJ φ q:Int)
  ·rw [if_pos c,ih,List.filter_cons_of_pos (by exact decide_eq_true c),List.map_cons,getD_at l1,er]
  ·rw [if_neg c,ih,List.filter_cons_of_neg (by rw [decide_eq_false c]; decide)]
theorem ou {φ:Int->Int} {rows:LL}:cG φ rows 0 rows=(bx φ rows.length).map fun i=>(rows.getD i []).map φ:=by
 have h:=tH (φ:=φ) (rows:=rows) (rs:=rows) (q:=0) rfl (Nat.zero_le _)
 rw [h]
 unfold bx
 rw [List.range_eq_range',Nat.sub_zero]
structure LeastOf (wide:Nat) (rows rows':LL) (signs signs':LI):Prop where
 ok:RowsOk rows'.length wide rows'
 pos:0<rows'.length
 sgn:signs'.length=rows'.length
 ord:InOrder rows'
 apart:Apart wide rows' signs'
 tells:Tells wide rows rows' signs signs' 0 0
section
variable {φ:Int->Int} {wide:Nat} {rows:LL} {signs:LI}
theorem Co (F:FirstNum φ rows.length) (R:RowsOk rows.length wide rows) (cp:∀ x y:Nat,x<rows.length->y<rows.length->φ (x:Int)=φ (y:Int)->∀ f:Nat,f<wide->φ (stepI rows x f)=φ (stepI rows y f)) {q:Int} (hq:aq rows.length q) {f:Nat} (hf:f<wide) :
  stepI (cG φ rows 0 rows) (φ q) f=φ (stepI rows q f):=by
 obtain ⟨n,rfl⟩:=fu hq.1
 have hn:n<rows.length:=by have:=hq.2; omega
 have lt:=F.lt hn (Nat.le_refl _)
 obtain ⟨x,hx,e1,e2⟩:=ki (F n hn).1 lt
 have at' := pf hx (e1.trans e2.symm)
 have lr:(rows[x]).length=wide:=R.row _ (List.getElem_mem hx)
 have e3:(cG φ rows 0 rows).getD (φ (n:Int)).toNat []=(rows[x]).map φ:=by
  rw [ou,<- e2,Int.toNat_natCast,List.getD_eq_getElem?_getD,List.getElem?_map,at']
  show (rows.getD x []).map φ=_
  rw [getD_at hx]
 have e4:stepI rows (x:Int) (f:Int)=(rows[x])[f]'(by omega):=by
  unfold stepI
  rw [Int.toNat_natCast,Int.toNat_natCast,getD_at hx,getD_at (by omega)]
 rw [<- cp x n hx hn e1 f hf,e4]
 unfold stepI
 rw [e3,Int.toNat_natCast,List.getD_eq_getElem?_getD,List.getElem?_map,List.getElem?_eq_getElem (by omega)]
 rfl
theorem xO (F:FirstNum φ rows.length) (R:RowsOk rows.length wide rows) (cp:∀ x y:Nat,x<rows.length->y<rows.length->φ (x:Int)=φ (y:Int)->∀ f:Nat,f<wide->φ (stepI rows x f)=φ (stepI rows y f)):∀ {v:LI} {q:Int},InF wide v->aq rows.length q->aP (cG φ rows 0 rows) v (φ q)=φ (aP rows v q)
 | [],q,_,_=>rfl
 | f :: v,q,hv,hq=>by
  have hf:=hv f List.mem_cons_self
  obtain ⟨m,rfl⟩:=fu hf.1
  show aP _ v (stepI _ (φ q) (m:Int))=φ (aP rows v (stepI rows q (m:Int)))
  rw [Co F R cp hq (by omega)]
  exact xO F R cp (fun g hg=>hv g (List.mem_cons_of_mem _ hg)) (cx R hq.1 hq.2 hf.1 hf.2)
theorem BC (F:FirstNum φ rows.length) (R:RowsOk rows.length wide rows) (O:InOrder rows) (n0:0<rows.length) (al:∀ x y:Nat,x<rows.length->y<rows.length->(φ (x:Int)=φ (y:Int)↔AllAg rows wide signs x y)) :
  LeastOf wide rows (cG φ rows 0 rows) signs ((bx φ rows.length).map fun q=>signs.getD q 0):=by
 have cp:∀ x y:Nat,x<rows.length->y<rows.length->φ (x:Int)=φ (y:Int)->∀ f:Nat,f<wide->φ (stepI rows x f)=φ (stepI rows y f):=fun x y hx hy e f hf=>by
  have a:=((al x y hx hy).mp e).led hf
  have rx:=cx R (show (0:Int)<=(x:Int) by omega) (by omega) (show (0:Int)<=(f:Int) by omega) (by omega)
  have ry:=cx R (show (0:Int)<=(y:Int) by omega) (by omega) (show (0:Int)<=(f:Int) by omega) (by omega)
  have h:=(al (stepI rows x f).toNat (stepI rows y f).toNat (by omega) (by omega)).mpr (by rw [Int.toNat_of_nonneg rx.1,Int.toNat_of_nonneg ry.1]; exact a)
  rw [Int.toNat_of_nonneg rx.1,Int.toNat_of_nonneg ry.1] at h
  exact h
 have ll:(cG φ rows 0 rows).length=aJ φ rows.length:=by rw [ou,lm_,gQ]
 have p0:φ ((0:Nat):Int)=((0:Nat):Int):=by
  have h:=F 0 n0
  have e:aJ φ 0=0:=rfl
  rw [e] at h
  omega
 have c1:aJ φ 1=1:=by
  show (if φ ((0:Nat):Int)=((aJ φ 0:Nat):Int) then aJ φ 0+1 else aJ φ 0)=1
  rw [if_pos (by rw [p0]; rfl)]
  rfl
 have cpos:0<aJ φ rows.length:=by
  have:=va (φ:=φ) (show 1<=rows.length from n0)
  omega
 have sg:∀ {q:Int},aq rows.length q->sgn ((bx φ rows.length).map fun q=>signs.getD q 0) (φ q)=sgn signs q:=fun {q} hq=>by
  obtain ⟨n,rfl⟩:=fu hq.1
  have hn:n<rows.length:=by have:=hq.2; omega
  obtain ⟨x,hx,e1,e2⟩:=ki (F n hn).1 (F.lt hn (Nat.le_refl _))
  have at' := pf hx (e1.trans e2.symm)
  have a:=((al x n hx hn).mp e1).sgn
  rw [<- a]
  unfold sgn
  rw [<- e2,Int.toNat_natCast,Int.toNat_natCast,List.getD_eq_getElem?_getD,List.getElem?_map,at']
  rfl
 have tl:∀ {q:Int},aq rows.length q->Tells wide rows (cG φ rows 0 rows) signs ((bx φ rows.length).map fun q=>signs.getD q 0) q (φ q):=fun {q} hq v hv=>by
  rw [xO F R cp hv hq,sg (kC R hv hq.1 hq.2)]
 refine ⟨⟨rfl,fun r hr=>?_,fun r hr v hv=>?_⟩,by omega,by rw [lm_,gQ,ll],?_,fun a b ha hb hab=>?_,?_⟩
 ·rw [ou] at hr
  obtain ⟨x,hx,rfl⟩:=List.mem_map.mp hr
  have xl:=List.mem_range.mp (List.mem_filter.mp hx).1
  rw [lm_,getD_at xl]
  exact R.row _ (List.getElem_mem xl)
 ·rw [ou] at hr
  obtain ⟨x,hx,rfl⟩:=List.mem_map.mp hr
  have xl:=List.mem_range.mp (List.mem_filter.mp hx).1
  obtain ⟨t,ht,rfl⟩:=List.mem_map.mp hv
  rw [getD_at xl] at ht
  have rt:=R.val _ (List.getElem_mem xl) t ht
  obtain ⟨n,rfl⟩:=fu rt.1
  have hn:n<rows.length:=by omega
  have h1:=(F n hn).1
  have h2:=F.lt hn (Nat.le_refl _)
  rw [ll]
  exact ⟨h1,h2⟩
 ·have h:=tI F R cp (rs:=rows) (q:=0) (m:=1) (k:=rows.length) rfl (Nat.zero_le _) n0 (fun x hx=>absurd hx (Nat.not_lt_zero _)) O
  rw [c1] at h
  show bg 0 1 _=some _
  rw [ll]
  exact h
 ·rw [ll] at ha hb
  obtain ⟨x,hx,e1,_⟩:=ki ha.1 ha.2
  obtain ⟨y,hy,e2,_⟩:=ki hb.1 hb.2
  rw [<- e1,<- e2]
  refine (al x y hx hy).mpr fun n v hv hl=>?_
  rw [tl (q:=(x:Int)) ⟨by omega,by omega⟩ v hv,tl (q:=(y:Int)) ⟨by omega,by omega⟩ v hv,e1,e2]
  exact hab n v hv hl
 ·have h:=tl (q:=0) ⟨by omega,by omega⟩
  have z:φ 0=0:=p0
  rw [z] at h
  exact h
end
theorem kW:∀ (r s:LI),∃ zs,r.foldl cy s=s++zs
 | [],s=>⟨[],by simp⟩
 | t :: r,s=>by
  by_cases c:t∈s
  ·obtain ⟨zs,e⟩:=kW r s
   exact ⟨zs,by rw [List.foldl_cons,show cy s t=s from if_pos c,e]⟩
  ·obtain ⟨zs,e⟩:=kW r (s++[t])
   exact ⟨t :: zs,by rw [List.foldl_cons,show cy s t=s++[t] from if_neg c,e,List.append_assoc]; rfl⟩
theorem nN (rows:LL):∀ (qs s:LI),∃ zs,qs.foldl (c9 rows) s=s++zs
 | [],s=>⟨[],by simp⟩
 | q :: qs,s=>by
  obtain ⟨z1,e1⟩:=kW (rows.getD q.toNat []) s
  obtain ⟨z2,e2⟩:=nN rows qs (c9 rows s q)
  refine ⟨z1++z2,?_⟩
  rw [List.foldl_cons,e2]
  show (rows.getD q.toNat []).foldl cy s++z2=_
  rw [e1,List.append_assoc]
def rho (qs:LI) (q:Int):Int:=((qs.idxOf q:Nat):Int)
theorem vq {qs:LI}:∀ {r s zs:LI},qs=r.foldl cy s++zs->aC s.length (r.map (rho qs))=some (r.foldl cy s).length
 | [],s,zs,_=>rfl
 | t :: r,s,zs,e=>by
  have e':qs=r.foldl cy (cy s t)++zs:=e
  obtain ⟨ys,ey⟩:=kW r (cy s t)
  have ih:=vq e'
  show (if rho qs t=(s.length:Int) then aC (s.length+1) (r.map (rho qs)) else if rho qs t<(s.length:Int) then aC s.length (r.map (rho qs)) else none)=some (r.foldl cy (cy s t)).length
  by_cases c:t∈s
  ·have ep:cy s t=s:=if_pos c
   rw [ep] at ih e' ey ⊢
   have ei:qs.idxOf t=s.idxOf t:=by rw [e',ey,List.append_assoc,List.idxOf_append,if_pos c]
   have lt:=List.idxOf_lt_length_of_mem c
   have er:rho qs t=((s.idxOf t:Nat):Int):=by unfold rho; rw [ei]
   rw [if_neg (by omega),if_pos (by omega)]
   exact ih
  ·have ep:cy s t=s++[t]:=if_neg c
   rw [ep] at ih e' ey ⊢
   have ei:qs.idxOf t=s.length:=by
    rw [e',ey,List.append_assoc,List.append_assoc,List.idxOf_append,if_neg c]
    simp
   have er:rho qs t=(s.length:Int):=by unfold rho; rw [ei]
   rw [if_pos er]
   rw [List.length_append,List.length_singleton] at ih
   exact ih
section
variable {many wide:Nat} {rows:LL} {qs:LI}
theorem tP (R:RowsOk many wide rows) (n0:0<many) (eq:qs=qs.foldl (c9 rows) [0]) (nd:qs.Nodup) (re:∀ q∈qs,∃ row,InF wide row/\aP rows row 0=q) :
  ∀ {ps:LI} {k:Nat},ps=qs.drop k->k<=qs.length->bg k ((qs.take k).foldl (c9 rows) [0]).length (ps.map fun q=>(rows.getD q.toNat []).map (rho qs))=some qs.length
 | [],k,e,hk=>by
  have hl:qs.length<=k:=List.drop_eq_nil_iff.mp e.symm
  show some _=some _
  rw [List.take_of_length_le hl,<- eq]
 | p :: ps,k,e,hk=>by
  have l1:k<qs.length:=by
   rcases Nat.lt_or_ge k qs.length with z | z
   ·exact z
   ·rw [List.drop_eq_nil_of_le z] at e
    cases e
  have e0:=e
  rw [List.drop_eq_getElem_cons l1] at e
  injection e with ep es
  obtain ⟨s,hs⟩:∃ s,(qs.take k).foldl (c9 rows) [0]=s:=⟨_,rfl⟩
  have all:qs=(p :: ps).foldl (c9 rows) s:=by
   rw [<- hs,<- List.foldl_append,e0,List.take_append_drop]
   exact eq
  obtain ⟨zs,ez⟩:=nN rows (p :: ps) s
  rw [<- all] at ez
  have ks:k<s.length:=by
   rcases Nat.lt_or_ge k s.length with z | z
   ·exact z
   ·have sub:∀ q∈s,q∈qs.take k:=fun q hq=>by
     have:s=qs.take s.length:=by
      have h:(s++zs).take s.length=s:=List.take_left' rfl
      rw [<- ez] at h
      exact h.symm
     rw [this] at hq
     exact (List.take_prefix_take_left z).subset hq
    have cl:∀ q∈s,∀ f:Int,0<=f->f<(wide:Int)->aq many q->stepI rows q f∈s:=fun q hq f f0 f1 hr=>by
     rw [<- hs]
     refine iY rows (qs.take k) (sub q hq) ?_
     have lq:q.toNat<rows.length:=by have:=R.len; have:=hr.1; have:=hr.2; omega
     have lf:f.toNat<rows[q.toNat].length:=by rw [R.row _ (List.getElem_mem lq)]; omega
     unfold stepI
     rw [getD_at lq,getD_at lf]
     exact List.getElem_mem lf
    have z0:(0:Int)∈s:=by rw [<- hs]; exact kN rows _ List.mem_cons_self
    have wk:∀ (row:LI) (q:Int),InF wide row->aq many q->q∈s->aP rows row q∈s:=fun row=>by
     induction row with
     | nil=>intro q _ _ h; exact h
     | cons f row ih =>
      intro q hf hr h
      have h0:=hf f List.mem_cons_self
      exact ih _ (fun g hg=>hf g (List.mem_cons_of_mem _ hg)) (cx R hr.1 hr.2 h0.1 h0.2) (cl q h f h0.1 h0.2 hr)
    have lq:qs[k]∈s:=by
     obtain ⟨row,hf,ew⟩:=re qs[k] (List.getElem_mem l1)
     rw [<- ew]
     exact wk row 0 hf ⟨by omega,by omega⟩ z0
    have ht:=sub _ lq
    obtain ⟨i,hi,ei⟩:=List.getElem_of_mem ht
    rw [List.length_take] at hi
    rw [List.getElem_take] at ei
    have:=(List.getElem_inj nd).mp ei
    omega
  show (if k<((qs.take k).foldl (c9 rows) [0]).length then (aC ((qs.take k).foldl (c9 rows) [0]).length ((rows.getD p.toNat []).map (rho qs))).bind fun m'=>bg (k+1) m' (ps.map fun q=>(rows.getD q.toNat []).map (rho qs)) else none)=_
  rw [hs,if_pos ks]
  obtain ⟨ys,ey⟩:=nN rows ps (c9 rows s p)
  have all2:qs=(rows.getD p.toNat []).foldl cy s++ys:=by
   rw [all]
   exact ey
  rw [vq all2]
  have ih:=tP R n0 eq nd re es l1
  have et:(qs.take (k+1)).foldl (c9 rows) [0]=c9 rows s p:=by
   rw [List.take_add_one,List.getElem?_eq_getElem l1,List.foldl_append,hs,<- ep]
   rfl
  rw [et] at ih
  exact ih
theorem y6 (R:RowsOk many wide rows) (inr:∀ q∈qs,aq many q) {q:Int} (hq:q∈qs) {f:Nat} (hf:f<wide):stepI (qs.map fun q=>(rows.getD q.toNat []).map (rho qs)) (rho qs q) f=rho qs (stepI rows q f):=by
 have li:=List.idxOf_lt_length_of_mem hq
 have hr:=inr q hq
 have lq:q.toNat<rows.length:=by have:=R.len; have:=hr.1; have:=hr.2; omega
 have lf:f<rows[q.toNat].length:=by rw [R.row _ (List.getElem_mem lq)]; exact hf
 have ei:qs[qs.idxOf q]?=some q:=by rw [List.getElem?_eq_getElem li,List.getElem_idxOf li]
 have e3:(qs.map fun q=>(rows.getD q.toNat []).map (rho qs)).getD (rho qs q).toNat []=(rows[q.toNat]).map (rho qs):=by
  unfold rho
  rw [Int.toNat_natCast,List.getD_eq_getElem?_getD,List.getElem?_map,ei]
  show (rows.getD q.toNat []).map _=_
  rw [getD_at lq]
 unfold stepI
 rw [e3,Int.toNat_natCast,getD_at lq,getD_at lf,List.getD_eq_getElem?_getD,List.getElem?_map,List.getElem?_eq_getElem lf]
 rfl
theorem Cv (R:RowsOk many wide rows) (eq:qs=qs.foldl (c9 rows) [0]) (inr:∀ q∈qs,aq many q) {q f:Int} (hq:q∈qs) (f0:0<=f) (f1:f<(wide:Int)):stepI rows q f∈qs:=by
 rw [eq]
 refine iY rows qs hq ?_
 have hr:=inr q hq
 have lq:q.toNat<rows.length:=by have:=R.len; have:=hr.1; have:=hr.2; omega
 have lf:f.toNat<rows[q.toNat].length:=by rw [R.row _ (List.getElem_mem lq)]; omega
 unfold stepI
 rw [getD_at lq,getD_at lf]
 exact List.getElem_mem lf
theorem tQ (R:RowsOk many wide rows) (eq:qs=qs.foldl (c9 rows) [0]) (inr:∀ q∈qs,aq many q):∀ {v:LI} {q:Int},InF wide v->q∈qs->aP (qs.map fun q=>(rows.getD q.toNat []).map (rho qs)) v (rho qs q)=rho qs (aP rows v q)/\aP rows v q∈qs
 | [],q,_,hq=>⟨rfl,hq⟩
 | f :: v,q,hv,hq=>by
  have hf:=hv f List.mem_cons_self
  obtain ⟨m,rfl⟩:=fu hf.1
  have hs:=Cv R eq inr hq hf.1 hf.2
  have ih:=tQ R eq inr (fun g hg=>hv g (List.mem_cons_of_mem _ hg)) hs
  have st:=y6 R inr hq (f:=m) (by omega)
  show aP _ v (stepI _ (rho qs q) (m:Int))=rho qs (aP rows v (stepI rows q (m:Int)))/\aP rows v (stepI rows q (m:Int))∈qs
  rw [st]
  exact ih
theorem xW {signs:LI} (R:RowsOk many wide rows) (n0:0<many) (eq:qs=qs.foldl (c9 rows) [0]) (nd:qs.Nodup) (inr:∀ q∈qs,aq many q) (re:∀ q∈qs,∃ row,InF wide row/\aP rows row 0=q) :
  RowsOk qs.length wide (qs.map fun q=>(rows.getD q.toNat []).map (rho qs))/\InOrder (qs.map fun q=>(rows.getD q.toNat []).map (rho qs))/\0<qs.length/\Tells wide rows (qs.map fun q=>(rows.getD q.toNat []).map (rho qs)) signs (qs.map fun q=>signs.getD q.toNat 0) 0 0:=by
 obtain ⟨zs,ez⟩:=nN rows qs [0]
 rw [<- eq] at ez
 have z0:(0:Int)∈qs:=by rw [ez]; exact List.mem_cons_self
 have r0:rho qs 0=0:=by
  unfold rho
  rw [ez]
  simp
 refine ⟨⟨List.length_map _,fun r hr=>?_,fun r hr v hv=>?_⟩,?_,List.length_pos_of_mem z0,fun v hv=>?_⟩
 ·obtain ⟨q,hq,rfl⟩:=List.mem_map.mp hr
  have h:=inr q hq
  have lq:q.toNat<rows.length:=by have:=R.len; have:=h.1; have:=h.2; omega
  rw [lm_,getD_at lq]
  exact R.row _ (List.getElem_mem lq)
 ·obtain ⟨q,hq,rfl⟩:=List.mem_map.mp hr
  have h:=inr q hq
  have lq:q.toNat<rows.length:=by have:=R.len; have:=h.1; have:=h.2; omega
  obtain ⟨t,ht,rfl⟩:=List.mem_map.mp hv
  have tm:t∈qs:=by rw [eq]; exact iY rows qs hq ht
  have:=List.idxOf_lt_length_of_mem tm
  unfold rho
  omega
 ·have h:=tP R n0 eq nd re (ps:=qs) (k:=0) rfl (Nat.zero_le _)
  show bg 0 1 _=some _
  rw [lm_]
  exact h
 ·have h:=tQ R eq inr hv z0
  rw [r0] at h
  rw [h.1]
  obtain ⟨w,ew⟩:∃ w,aP rows v 0=w:=⟨_,rfl⟩
  have hw:=h.2
  rw [ew] at hw ⊢
  have li:=List.idxOf_lt_length_of_mem hw
  unfold sgn rho
  rw [Int.toNat_natCast,List.getD_eq_getElem?_getD (l:=qs.map _),List.getElem?_map,List.getElem?_eq_getElem li,List.getElem_idxOf li]
  rfl
end
theorem Tells.trans {wide:Nat} {r1 r2 r3:LL} {s1 s2 s3:LI} {a b c:Int} (h:Tells wide r1 r2 s1 s2 a b) (h':Tells wide r2 r3 s2 s3 b c):Tells wide r1 r3 s1 s3 a c:=fun v hv=>(h v hv).trans (h' v hv)
theorem Tells.symm {wide:Nat} {r1 r2:LL} {s1 s2:LI} {a b:Int} (h:Tells wide r1 r2 s1 s2 a b):Tells wide r2 r1 s2 s1 b a:=fun v hv=>(h v hv).symm
theorem LeastOf.of {wide:Nat} {rows rs rows':LL} {signs ss signs':LI} (h:LeastOf wide rs rows' ss signs') (t:Tells wide rows rs signs ss 0 0):LeastOf wide rows rows' signs signs' :=
 ⟨h.ok,h.pos,h.sgn,h.ord,h.apart,t.trans h.tells⟩
theorem LeastOf.one {wide:Nat} {r1 r2 a b:LL} {s1 s2 sa sb:LI} (h1:LeastOf wide r1 a s1 sa) (h2:LeastOf wide r2 b s2 sb) (t:Tells wide r1 r2 s1 s2 0 0):a=b/\sa=sb:=
 yc h1.apart h2.apart h1.ok h2.ok h1.pos h2.pos h1.ord h2.ord h1.sgn h2.sgn ((h1.tells.symm.trans t).trans h2.tells)
theorem xp {many wide:Nat} {rows:LL} {signs qs gs:LI} (R:RowsOk many wide rows) (n0:0<many) (eq:qs=qs.foldl (c9 rows) [0]) (nd:qs.Nodup) (inr:∀ q∈qs,aq many q) (re:∀ q∈qs,∃ row,InF wide row/\aP rows row 0=q) (lg:gs.length=qs.length)
  (hg:∀ x y:Nat,x<qs.length->y<qs.length->(gs.getD x 0=gs.getD y 0↔AllAg (qs.map fun q=>(rows.getD q.toNat []).map (rho qs)) wide (qs.map fun q=>signs.getD q.toNat 0) x y)) :
  LeastOf wide rows (cG (phi gs) (qs.map fun q=>(rows.getD q.toNat []).map (rho qs)) 0 (qs.map fun q=>(rows.getD q.toNat []).map (rho qs))) signs ((bx (phi gs) qs.length).map fun q=>(qs.map fun q=>signs.getD q.toNat 0).getD q 0):=by
 obtain ⟨R1,O1,p1,t1⟩:=xW (signs:=signs) R n0 eq nd inr re
 have el:(qs.map fun q=>(rows.getD q.toNat []).map (rho qs)).length=qs.length:=List.length_map _
 have F:=Ag gs
 have h:=BC (φ:=phi gs) (wide:=wide) (rows:=qs.map fun q=>(rows.getD q.toNat []).map (rho qs)) (signs:=qs.map fun q=>signs.getD q.toNat 0) (by rw [el,<- lg]; exact F) (by rw [el]; exact R1) O1 (by rw [el]; exact p1) (fun x y hx hy=>by
  rw [el] at hx hy
  rw [B5 ⟨by omega,by omega⟩ ⟨by omega,by omega⟩,Int.toNat_natCast,Int.toNat_natCast]
  exact hg x y hx hy)
 rw [el] at h
 exact h.of t1
def kvN (xs:LI) (k:Nat):List (Key×V):=(xs.zipIdx k).map fun p=>(Sum.inl p.1,V.int (p.2:Int))
theorem jE (xs:LI) (k:Nat):(kvN xs k).length=xs.length:=by
 unfold kvN
 rw [lm_,List.length_zipIdx]
theorem kP:∀ (xs:LI) (k:Nat) (g:Int),eR (kvN xs k) (Sum.inl g)=if g∈xs then some (.int ((k+xs.idxOf g:Nat):Int)) else none
 | [],k,g=>by rw [if_neg (by simp)]; rfl
 | x :: xs,k,g=>by
  have ih:=kP xs (k+1) g
  have e0:kvN (x :: xs) k=(Sum.inl x,V.int (k:Int)) :: kvN xs (k+1):=rfl
  by_cases e:x=g
  ·subst e
   rw [e0,je rfl,if_pos List.mem_cons_self,List.idxOf_cons]
   simp
  ·rw [e0,hU (fun z=>e (Sum.inl.inj z)),ih]
   have m:g∈x :: xs↔g∈xs:=by simp [Ne.symm e]
   by_cases c:g∈xs
   ·have i:(x :: xs).idxOf g=xs.idxOf g+1:=by rw [List.idxOf_cons,show (x==g)=false from beq_false_of_ne e]; rfl
    rw [if_pos c,if_pos (m.mpr c),i]
    congr 3
    omega
   ·rw [if_neg c,if_neg fun z=>c (m.mp z)]
theorem vW {xs:LI} {g:Int} (h:g∉xs):putK (kvN xs 0) (Sum.inl g) (V.int (xs.length:Int))=kvN (xs++[g]) 0:=by
 unfold putK
 rw [if_neg (by
  intro z
  obtain ⟨p,hp,e⟩:=List.any_eq_true.mp z
  obtain ⟨k,hk,rfl⟩:=List.mem_map.mp hp
  have e' := Sum.inl.inj (of_decide_eq_true e)
  have m:k.1∈xs:=by
   obtain ⟨i,hi,ei⟩:=List.getElem_of_mem hk
   rw [List.getElem_zipIdx] at ei
   rw [<- ei]
   exact List.getElem_mem _
  exact h (e' ▸ m))]
 unfold kvN
 rw [List.zipIdx_append,List.map_append,Nat.zero_add]
 rfl
theorem mQ:∀ (gs s:LI),s.Nodup->(gs.foldl dd s).Nodup
 | [],s,h=>h
 | g :: gs,s,h=>by
  rw [List.foldl_cons]
  by_cases c:g∈s
  ·rw [iX c]; exact mQ gs s h
  ·rw [fh c]; exact mQ gs _ (nX h c)
theorem Dd (gs:LI):(aA gs).Nodup:=mQ gs [] List.nodup_nil
theorem dR:∀ (gs s:LI),(gs.foldl dd s).length<=s.length+gs.length
 | [],s=>Nat.le_refl _
 | g :: gs,s=>by
  rw [List.foldl_cons]
  by_cases c:g∈s
  ·rw [iX c]
   have:=dR gs s
   rw [List.length_cons]
   omega
  ·rw [fh c]
   have:=dR gs (s++[g])
   rw [List.length_append,List.length_singleton] at this
   rw [List.length_cons]
   omega
theorem i7 (gs:LI):(aA gs).length<=gs.length:=by
 have:=dR gs []
 rw [List.length_nil,Nat.zero_add] at this
 exact this
def dh (gs:LI):LI:=(List.range gs.length).map fun i:Nat=>phi gs i
theorem oj {gs:LI} {q:Int} (h0:0<=q) (h1:q<(gs.length:Int)):aR (dh gs) q=phi gs q:=by
 unfold aR dh
 have l:q.toNat<gs.length:=by omega
 rw [getD_at (by rw [lm_,List.length_range]; exact l),List.getElem_map,List.getElem_range,Int.toNat_of_nonneg h0]
theorem B6 {gs:LI} {q:Int} (h0:0<=q) (h1:q<(gs.length:Int)):0<=phi gs q/\phi gs q<((aA gs).length:Int):=by
 have l:q.toNat<gs.length:=by omega
 have m:gs.getD q.toNat 0∈aA gs:=by rw [getD_at l]; exact once_mem.mpr (List.getElem_mem l)
 have:=List.idxOf_lt_length_of_mem m
 unfold phi
 omega
theorem B7 {gs:LI} {j:Nat} (h:j<(aA gs).length):∃ q:Int,aq gs.length q/\phi gs q=(j:Int):=by
 have m:(aA gs)[j]∈gs:=once_mem.mp (List.getElem_mem h)
 obtain ⟨i,hi,e⟩:=List.getElem_of_mem m
 refine ⟨(i:Int),⟨by omega,by omega⟩,?_⟩
 unfold phi
 rw [Int.toNat_natCast,getD_at hi,e]
 have l:=List.idxOf_lt_length_of_mem (List.getElem_mem h)
 have q:=(List.getElem_inj (Dd gs)).mp (List.getElem_idxOf l)
 rw [q]
theorem zR (col:LI) (q:Int):(ck col q).Nodup:=by
 unfold ck
 refine List.pairwise_map.mpr ((List.nodup_range.filter _).imp fun {a b} n z=>n ?_)
 have z':(a:Int)=(b:Int):=z
 omega
def tV (C:Addr):Sp:=fun vs H Q _=>∃ (x dx g:Addr) (signs:LI),vs=[.ref x,.ref g]/\H x=some (.ins C dx [])/\H g=some (.tup (signs.map V.int))/\signs.length<1000 /\
 ∀ (H':Hp) (go ms wt iw:Addr) (ds:List Addr),(∀ b u,b≠x->H b=some u->H' b=some u)->H go=none->H ms=none->H wt=none->H iw=none->(∀ d∈ds,H d=none)->PtS H' C x go ms wt iw signs.length (dh signs) ds ((List.range ds.length).map fun i:Nat=>(i:Int))->Q .non H'
section
variable {P:Program} {w:World} {K:PySem.W.Frag} {mg:Str->Option Value} {base:Heap} {f:Addr} {fd:FuncData} {dV:Value} {C:Addr}
theorem sc_Parted___init__:FnScope ["self","signs","numbers","group_of","members","here","group"] ["self","signs"] (ak a9):=⟨rfl,rfl,rfl,by decide +kernel,rfl,by decide +kernel,by decide +kernel⟩
theorem bk_Parted___init___0:BlkScope ["self","signs","numbers","group_of","members","here","group"] (ak a9) ["sign","numbers"] [none,some 2] { kind:=ScopeKind.function,names:=[(".0",NameKind.local),("sign",NameKind.local),("len",NameKind.globalImplicit),("numbers",NameKind.free)],isGenerator:=false,isCoroutine:=false,more:=[] }:=⟨rfl,by decide +kernel,by decide +kernel,by decide +kernel,by decide +kernel,rfl,by decide +kernel⟩
theorem bk_Parted___init___1:BlkScope ["self","signs","numbers","group_of","members","here","group"] (ak a9) ["sign"] [none] { kind:=ScopeKind.function,names:=[(".0",NameKind.local),("sign",NameKind.local)],isGenerator:=false,isCoroutine:=false,more:=[] }:=⟨rfl,by decide +kernel,by decide +kernel,by decide +kernel,by decide +kernel,rfl,by decide +kernel⟩
theorem bk_Parted___init___2:BlkScope ["self","signs","numbers","group_of","members","here","group"] (ak a9) ["group"] [none] { kind:=ScopeKind.function,names:=[(".0",NameKind.local),("group",NameKind.local)],isGenerator:=false,isCoroutine:=false,more:=[] }:=⟨rfl,by decide +kernel,by decide +kernel,by decide +kernel,by decide +kernel,rfl,by decide +kernel⟩
theorem yL (F:FunD K "__init__" "Parted.__init__" a9 dV f fd) (pc:PCls K C) (aY:mg "len" = none) (dJ:mg "list" = none) (aW:mg "range" = none) (fY:mg "dict" = none) (bZ:mg "enumerate" = none):FnOk P w K mg base CX0 1 f fd ["self","signs"] (tV C):=by
 refine F.ok sc_Parted___init__ (fun vs H Q E h=>?_) (fun cdv A outer s H vs Q E hr h=>?_)
 ·obtain ⟨x,dx,g,signs,rfl,_⟩:=h
  rfl
 obtain ⟨x,dx,g,signs,rfl,hx,hg,ln,k⟩:=h
 have hu:=ko hr
 refine ⟨_,(ar (ay (i:=2) sc_Parted___init__.nd rfl (Or.inr rfl) kB)
   (ar (gZ (i:=3) rfl sc_Parted___init__.nd rfl (Or.inl rfl) bk_Parted___init___0 (gY (pv 1)) (fun _ _ _ _=>(az (i:=0) bk_Parted___init___0.nd rfl (Or.inl rfl))) (fun _ _ _ _=>(wo (pv 1) (pv 0) (aB kI (by rfl) aY bD (aa (pv 1) af)) ⟨rfl,rfl,rfl,rfl⟩)))
   (ar (gZ (i:=4) rfl sc_Parted___init__.nd rfl (Or.inl rfl) bk_Parted___init___1 (Dm (pv 2)) (fun _ _ _ _=>(az (i:=0) bk_Parted___init___1.nd rfl (Or.inl rfl))) (fun _ _ _ _=>kB))
   (ar (bR PassesOwn.never rfl (tu rfl bZ (aa (pv 3) af)) (pI rfl (cI (az (i:=5) sc_Parted___init__.nd rfl (Or.inl rfl)) (cI (az (i:=6) sc_Parted___init__.nd rfl (Or.inl rfl)) kS))) (av (rq hu (aN cX (pv 4) (pv 6) (fun _ _=>rfl)) (pv 5) dq rfl)))
   (ar (wy (pv 0) (pv 3) rfl)
   (ar (wy (pv 0) (pv 4) rfl)
   (ar (wy (pv 0) (yR rfl rfl dJ rfl aW (aa (aB aF (by rfl) aY bD (aa (pv 4) af)) af)) rfl)
   (av (wy (pv 0) (aO (j8 rfl) (by rfl) fY qX (aa (c0 rfl bk_Parted___init___2 (cq rfl aW (aa (aB aF (by rfl) aY bD (aa (pv 4) af)) af)) (fun _ _ _ _=>(az (i:=0) bk_Parted___init___2.nd rfl (Or.inl rfl))) (fun _ _ _ _=>(bF (aa (pv 0) (aa dq af))))) af)) rfl))))))))),?_⟩
 refine fun Nd hNd=>?_
 have s0:=aj hNd (HO.dK [])
 have pl:(dh signs).length=signs.length:=by unfold dh; rw [lm_,List.length_range]
 try dsimp only [bW,cU]
 refine dj (t:=tY _ _) (fun σ' H'=>∃ go:Addr,σ'=[some (.ref x),some (.ref g),some (.ref Nd),some (.ref go),none,none,none]/\Same H H'/\H go=none/\H' go=some (.lst ((dh signs).map V.int))/\H' Nd=some (.dK (kvN (aA signs) 0))) ?_ (fun D' nxt=>?_)
 rotate_left
 ·refine ⟨_,rfl,g,rfl,⟨_,qT_ (s0 _ _ hg)⟩,?_⟩
  refine ke (K:=K) (xs:=signs.map V.int) (fun D i ys H'=>Same H H'/\H' Nd=some (.dK (kvN (aA (signs.take i)) 0))/\ys=((List.range i).map fun j:Nat=>phi signs j).map V.int) (fun D hD=>⟨aw s0 (s0.free hD),by rw [ah (au ae hD),ae]; rfl,rfl⟩) (fun D i ys H' _ ⟨e,_⟩=>qT_ (e _ _ hg)) ?_ ?_
  ·rintro D i y ys H2 Q' hD hi hy ⟨s2,hN2,rfl⟩ k'
   obtain ⟨sg,rfl,hs⟩:=bz hi
   have il:=(gi_ hs).1
   have ol:=i7 (signs.take i)
   rw [List.length_take] at ol
   have nND:Nd≠D:=aE hN2 hy (by intro z; cases z)
   have fD:H D=none:=s0.free hD
   refine ⟨_,rfl,Nd,rfl,.inl ⟨_,.inl hN2⟩,_,rfl,_,rfl,Nd,_,rfl,hN2,_,Sum.inl sg,hN2,rfl,ax (by rw [jE]; omega),fun v hv=>?_,fun hn=>?_⟩
   ·rw [kP] at hv
    by_cases c:sg∈aA (signs.take i)
    ·rw [if_pos c,Nat.zero_add] at hv
     have ev:=(Option.some.inj hv).symm
     subst ev
     refine k' _ _ hy (ax (by rw [lm_,lm_,List.length_range]; omega)) ⟨aw s2 fD,by rw [ah nND,hN2,gh hs,iX c],?_⟩
     rw [List.range_succ,List.map_append,List.map_append,<- rn hs c]
     rfl
    ·rw [if_neg c] at hv
     cases hv
   ·rw [kP] at hn
    by_cases c:sg∈aA (signs.take i)
    ·rw [if_pos c] at hn
     cases hn
    ·rw [jE]
     refine k' _ _ (by rw [ah (Ne.symm nND)]; exact hy) (ax (by rw [lm_,lm_,List.length_range]; omega)) ⟨aw (aw s2 hNd) fD,by rw [ah nND,ae,vW c,gh hs,fh c],?_⟩
     rw [List.range_succ,List.map_append,List.map_append,<- rl hs c]
     rfl
  ·rintro D ys H2 hD hy ⟨s2,hN2,rfl⟩
   rw [lm_,List.take_length] at hN2
   rw [lm_] at hy
   exact nxt _ _ ⟨D,rfl,s2,s0.free hD,hy,hN2⟩
 rintro σ' H1 ⟨go,rfl,s1,fgo,hgo1,hN1⟩
 have ol:=i7 signs
 refine dj (t:=tY _ _) (fun σ' H'=>∃ (ms:Addr) (as:List Addr),σ'=[some (.ref x),some (.ref g),some (.ref Nd),some (.ref go),some (.ref ms),none,none]/\Same H H'/\H' go=some (.lst ((dh signs).map V.int))/\H ms=none/\H' ms=some (.lst (as.map V.ref))/\as.length=(aA signs).length/\as.Nodup/\ms≠go/\(∀ a∈as,H a=none/\H' a=some (.dK []))) ?_ (fun D' nxt=>?_)
 rotate_left
 ·refine ⟨_,rfl,Nd,_,rfl,.inl ⟨hN1,fun o=>?_⟩⟩
  obtain ⟨H2,eH2⟩:∃ H2,upd H1 Nd (.frz o (.dK (kvN (aA signs) 0)))=H2:=⟨_,rfl⟩
  have s2:Same H H2:=by rw [<- eH2]; exact aw s1 hNd
  have hN2:H2 Nd=some (.frz o (.dK (kvN (aA signs) 0))):=by rw [<- eH2,ae]
  have hgo2:H2 go=some (.lst ((dh signs).map V.int)):=by rw [<- eH2,ah (aE hgo1 hN1 (by intro z; cases z))]; exact hgo1
  rw [eH2]
  refine Aa (o:=o) (kvs:=kvN (aA signs) 0) (fun D i ys H'=>Same H2 H'/\∃ as:List Addr,ys=as.map V.ref/\as.length=i/\as.Nodup/\(∀ a∈as,H2 a=none/\H' a=some (.dK []))) (fun D hD=>⟨aj hD _,[],rfl,rfl,List.nodup_nil,fun a h=>by cases h⟩) (fun D i ys H' _ ⟨e,_⟩=>e _ _ hN2) ?_ ?_
  ·rintro D i p ys H3 Q' hD hi hy ⟨s3,as,rfl,la,nd,ha⟩ k'
   have il:=(gi_ hi).1
   rw [jE] at il
   refine fun d hd=>?_
   have nDd:D≠d:=au hy hd
   have nda:d∉as:=fun z=>by rw [(ha d z).2] at hd; cases hd
   refine k' _ _ (by rw [ah nDd]; exact hy) (ax (by rw [lm_]; omega)) ⟨aw (aw s3 (s3.free hd)) hD,as++[d],by rw [List.map_append]; rfl,by rw [List.length_append,List.length_singleton,la],?_,fun a h=>?_⟩
   ·exact List.nodup_append.mpr ⟨nd,by simp,fun a ha b hb e=>nda (by rw [<- List.mem_singleton.mp hb,<- e]; exact ha)⟩
   ·rcases ma_.mp h with z | z
    ·obtain ⟨h1,h2⟩:=ha a z
     exact ⟨h1,by rw [ah (aE h2 hy (by intro z; cases z)),ah (fun y:a=d=>nda (y ▸ z))]; exact h2⟩
    ·rw [List.mem_singleton.mp z]
     exact ⟨s3.free hd,by rw [ah (Ne.symm nDd),ae]⟩
  ·rintro D ys H3 hD hy ⟨s3,as,rfl,la,nd,ha⟩
   rw [jE] at la
   exact nxt _ _ ⟨D,as,rfl,s2.trans s3,s3 _ _ hgo2,s2.free hD,hy,la,nd,Ne.symm (au hgo2 hD),fun a h=>⟨s2.free (ha a h).1,(ha a h).2⟩⟩
 rintro σ' H2 ⟨ms,as,rfl,s2,hgo2,fms,hms2,la,nda,nmg,ha2⟩
 refine dj (t:=pT _ _ _) (fun σ' H'=>∃ (v1 v2:OV),σ'=[some (.ref x),some (.ref g),some (.ref Nd),some (.ref go),some (.ref ms),v1,v2]/\Same H H'/\H' go=some (.lst ((dh signs).map V.int))/\H' ms=some (.lst (as.map V.ref))/\∀ (j:Nat) (a:Addr),as[j]?=some a->H' a=some (.dK (kvT (ck (dh signs) (j:Int))))) ?_ (fun D' nxt=>?_)
 rotate_left
 ·refine ⟨_,rfl,go,rfl,⟨_,qL_ hgo2⟩,vb (K:=K) (xs:=(dh signs).map V.int) (fun i σ' H'=>∃ (v1 v2:OV),σ'=[some (.ref x),some (.ref g),some (.ref Nd),some (.ref go),some (.ref ms),v1,v2]/\Same H H'/\H' go=some (.lst ((dh signs).map V.int))/\H' ms=some (.lst (as.map V.ref))/\∀ (j:Nat) (a:Addr),as[j]?=some a->H' a=some (.dK (kvT (ck ((dh signs).take i) (j:Int)))))
   ⟨none,none,rfl,s2,hgo2,hms2,fun j a h=>(ha2 a (mq_ h)).2⟩ (fun i σ' H' _ ⟨_,_,_,_,e,_⟩=>qL_ e) ?_ ?_⟩
  ·rintro i y σ' H3 T hi ⟨v1,v2,rfl,s3,hgo3,hms3,ha3⟩ hT
   obtain ⟨t,rfl,ht⟩:=bz hi
   have il:=(gi_ ht).1
   rw [pl] at il
   have et:t=phi signs (i:Int):=by
    have e:=(gi_ ht).2
    rw [<- e]
    unfold dh
    rw [List.getElem_map,List.getElem_range]
   have tv:=B6 (gs:=signs) (q:=(i:Int)) (by omega) (by omega)
   rw [<- et] at tv
   have tl:t.toNat<as.length:=by omega
   have sT:=aj hT (HO.tup [V.int i,V.int t])
   obtain ⟨H4,eH4⟩:∃ H4,upd H3 T (HO.tup [V.int i,V.int t])=H4:=⟨_,rfl⟩
   have hT4:H4 T=some (.tup [V.int i,V.int t]):=by rw [<- eH4]; exact ae
   rw [eH4] at sT ⊢
   obtain ⟨a,ea⟩:∃ a,as[t.toNat]?=some a:=⟨_,List.getElem?_eq_getElem tl⟩
   have ha4:=sT _ _ (ha3 _ _ ea)
   have tn:((t.toNat:Nat):Int)=t:=Int.toNat_of_nonneg tv.1
   rw [tn] at ha4
   have lp:((dh signs).take i).length=i:=by rw [List.length_take]; omega
   have notin:(i:Int)∉ck ((dh signs).take i) t:=fun z=>by
    have h1:=(preI_mem.mp z).1.2
    rw [lp] at h1
    omega
   have pln:=xK ((dh signs).take i) t
   refine ⟨T,_,rfl,qT_ hT4,rfl,_,_,rfl,_,_,rfl,rfl,?_⟩
   refine ⟨_,rfl,_,rfl,ms,_,_,_,rfl,rfl,qL_ (sT _ _ hms3),d6 tv.1 ea,_,rfl,a,_,rfl,DPut.k (k:=Sum.inl (i:Int)) ha4 (ax (by unfold kvT; rw [lm_]; omega)),?_⟩
   rw [rg notin]
   have fa:H a=none:=(ha2 a (mq_ ea)).1
   have hgo4:=sT _ _ hgo3
   have hms4:=sT _ _ hms3
   refine ⟨_,_,rfl,aw (s3.trans sT) fa,by rw [ah (aE hgo4 ha4 (by intro z; cases z))]; exact hgo4,by rw [ah (aE hms4 ha4 (by intro z; cases z))]; exact hms4,fun j b hb=>?_⟩
   have et2:(dh signs).take (i+1)=(dh signs).take i++[t]:=by rw [List.take_add_one,ht]; rfl
   rw [et2,pL,lp]
   by_cases c:b=a
   ·subst c
    have ej:j=t.toNat:=by
     have e1:=(gi_ hb)
     have e2:=(gi_ ea)
     exact (List.getElem_inj nda).mp (e1.2.trans e2.2.symm)
    rw [ae,ej,tn,if_pos rfl]
   ·have nj:t≠(j:Int):=fun z=>by
     have e:t.toNat=j:=by omega
     rw [e,hb] at ea
     exact c (Option.some.inj ea)
    rw [ah c,if_neg nj,List.append_nil]
    exact sT _ _ (ha3 j b hb)
  ·rintro σ' H3 ⟨v1,v2,rfl,s3,hgo3,hms3,ha3⟩
   rw [lm_,List.take_length] at ha3
   exact nxt _ _ ⟨v1,v2,rfl,s3,hgo3,hms3,ha3⟩
 rintro σ' H3 ⟨v1,v2,rfl,s3,hgo3,hms3,ha3⟩
 have fa:∀ a∈as,H a=none:=fun a h=>(ha2 a h).1
 refine ⟨_,rfl,_,rfl,x,C,dx,[],rfl,s3 _ _ hx,pc.cl,pc.ng,by decide,?_⟩
 refine ⟨_,rfl,_,rfl,x,C,dx,_,rfl,ae,pc.cl,pc.nm,by show (1:Nat)<1000; decide,?_⟩
 rw [zY]
 obtain ⟨H4,eH4⟩:∃ H4,upd H3 x (HO.ins C dx (jb "members" (V.ref ms) (jb "group_of" (V.ref go) [])))=H4:=⟨_,rfl⟩
 have k4:∀ b u,b≠x->H b=some u->H4 b=some u:=fun b u n h=>by rw [<- eH4,ah n]; exact s3 _ _ h
 have x4:H4 x=some (.ins C dx [("group_of",.ref go),("members",.ref ms)]):=by rw [<- eH4,ae]; rfl
 have nxa:∀ b:Addr,H b=none->x≠b:=fun b h=>au hx h
 have hgo4:H4 go=some (.lst ((dh signs).map V.int)):=by rw [<- eH4,ah (Ne.symm (nxa _ fgo))]; exact hgo3
 have hms4:H4 ms=some (.lst (as.map V.ref)):=by rw [<- eH4,ah (Ne.symm (nxa _ fms))]; exact hms3
 have ha4:∀ (j:Nat) (a:Addr),as[j]?=some a->H4 a=some (.dK (kvT (ck (dh signs) (j:Int)))):=fun j a h=>by
  rw [<- eH4,ah (Ne.symm (nxa _ (fa a (mq_ h))))]; exact ha3 j a h
 have f4:∀ {b},H4 b=none->H b=none:=fun {b} h=>by
  rcases Decidable.em (b=x) with z | z
  ·subst z; rw [x4] at h; cases h
  ·cases e:H b with
   | none=>rfl
   | some u=>rw [k4 b u z e] at h; cases h
 rw [eH4]
 have lm:(as.map V.ref).length=as.length:=List.length_map _
 refine ⟨_,rfl,ms,_,rfl,.inl (qL_ hms4),(as.map V.ref).length,rfl,small (by rw [lm]; omega),fun wt hwt=>?_⟩
 rw [lm]
 have nxw:x≠wt:=au x4 hwt
 refine ⟨_,rfl,x,C,dx,_,rfl,by rw [ah nxw]; exact x4,pc.cl,pc.nw,by show (2:Nat)<1000; decide,?_⟩
 obtain ⟨H5,eH5⟩:∃ H5,upd (upd H4 wt (HO.lst ((List.range as.length).map fun i:Nat=>V.int i))) x (HO.ins C dx (jb "waiting" (V.ref wt) [("group_of",.ref go),("members",.ref ms)]))=H5:=⟨_,rfl⟩
 have k5:∀ b u,b≠x->H4 b=some u->H5 b=some u:=fun b u n h=>by rw [<- eH5,ah n,ah (au h hwt)]; exact h
 have x5:H5 x=some (.ins C dx [("group_of",.ref go),("members",.ref ms),("waiting",.ref wt)]):=by rw [<- eH5,ae]; rfl
 have hwt5:H5 wt=some (.lst (((List.range as.length).map fun i:Nat=>(i:Int)).map V.int)):=by rw [<- eH5,ah (Ne.symm nxw),ae,List.map_map]; rfl
 have hgo5:=k5 _ _ (Ne.symm (nxa _ fgo)) hgo4
 have hms5:=k5 _ _ (Ne.symm (nxa _ fms)) hms4
 have f5:∀ {b},H5 b=none->H4 b=none:=fun {b} h=>by
  rcases Decidable.em (b=x) with z | z
  ·subst z; rw [x5] at h; cases h
  ·cases e:H4 b with
   | none=>rfl
   | some u=>rw [k5 b u z e] at h; cases h
 rw [eH5]
 obtain ⟨ns,ens⟩:∃ ns:LI,((List.range as.length).map fun i:Nat=>(i:Int))=ns:=⟨_,rfl⟩
 have lns:ns.length=as.length:=by rw [<- ens,lm_,List.length_range]
 have ndn:ns.Nodup:=by
  rw [<- ens]
  refine List.pairwise_map.mpr (List.nodup_range.imp fun {a b} n z=>n ?_)
  have z':(a:Int)=(b:Int):=z
  omega
 refine ⟨_,rfl,ms,_,rfl,.inl (qL_ hms5),_,rfl,by rw [lm]; omega,by rw [lm]; omega,?_⟩
 refine jx (fun D i ys H'=>Same H5 H'/\∃ ts,ys=ts.map V.ref/\PairsV H' ts (kvT (ns.take i))) (fun D hD=>⟨aj hD _,[],rfl,.nil⟩) ?_ ?_
 ·rintro D i ys H' Q' hD hi hy ⟨hs,ts,rfl,pv⟩ k'
  rw [Int.toNat_natCast,lm] at hi
  have hq:ns[i]?=some (i:Int):=by
   rw [<- ens,List.getElem?_map,List.getElem?_range hi]
   rfl
  refine ⟨_,rfl,(by show 2<=sizeLine; decide),fun T hT=>?_⟩
  rw [Int.zero_add]
  have sT:=aj hT (HO.tup [V.int i,V.bl true])
  have nD:D≠T:=au hy hT
  have lts:ts.length=i:=by
   rw [Paired.length pv]
   unfold kvT
   rw [lm_,List.length_take]
   omega
  have hyT:(upd H' T (HO.tup [V.int i,V.bl true])) D=some (.lst (ts.map V.ref)):=by rw [ah nD]; exact hy
  refine k' _ _ hyT (ax (by rw [lm_]; omega)) ⟨aw (aw hs (hs.free hT)) hD,ts++[T],by rw [List.map_append]; rfl,?_⟩
  rw [List.take_add_one,hq]
  have up:∀ b xs,(upd H' T (HO.tup [V.int i,V.bl true])) b=some (.tup xs)->(upd (upd H' T (HO.tup [V.int i,V.bl true])) D (.lst (ts.map V.ref++[V.ref T]))) b=some (.tup xs):=fun b xs e=>by
   rw [ah (aE e hyT (by intro z; cases z))]; exact e
  show PairsV _ _ (kvT (ns.take i++[(i:Int)]))
  unfold kvT
  rw [List.map_append]
  exact Paired.snoc (PairsV.same pv fun b xs e=>up b xs (sT _ _ e)) (up _ _ ae)
 rintro L ys H6 fL hL ⟨s6,ts,rfl,pv⟩
 rw [Int.toNat_natCast,lm,<- lns,List.take_length] at pv
 refine ⟨L,ts,_,rfl,hL,pv,fun iw hiw=>?_⟩
 rw [vk ndn]
 have nxi:x≠iw:=au (s6 _ _ x5) hiw
 refine ⟨_,rfl,x,C,dx,_,rfl,by rw [ah nxi]; exact s6 _ _ x5,pc.cl,pc.ni,by show (3:Nat)<1000; decide,?_⟩
 have fiw:H5 iw=none:=s6.free hiw
 have kz:∀ b u,b≠x->H5 b=some u->(upd (upd H6 iw (HO.dK (kvT ns))) x (HO.ins C dx (jb "is_waiting" (V.ref iw) [("group_of",.ref go),("members",.ref ms),("waiting",.ref wt)]))) b=some u:=fun b u n h=>by
  rw [ah n,ah (au h fiw)]; exact s6 _ _ h
 have ha5:∀ (j:Nat) (a:Addr),as[j]?=some a->H5 a=some (.dK (kvT (ck (dh signs) (j:Int)))):=fun j a h=>k5 _ _ (Ne.symm (nxa _ (fa a (mq_ h)))) (ha4 j a h)
 refine k _ go ms wt iw as (fun b u n h=>kz _ _ n (k5 _ _ n (k4 _ _ n h))) fgo fms (f4 hwt) (f4 (f5 fiw)) fa ?_
 have nw4:wt≠x:=Ne.symm nxw
 refine ⟨⟨dx,by rw [ae]; rfl⟩,kz _ _ (Ne.symm (nxa _ fgo)) hgo5,kz _ _ (Ne.symm (nxa _ fms)) hms5,by rw [ens]; rw [ens] at hwt5; exact kz _ _ nw4 hwt5,by rw [ens,ah (Ne.symm nxi),ae],pl,fun q hq=>?_,fun j a h=>?_,nda,fun z=>?_,Ne.symm nmg,?_,?_,by rw [ens]; exact ndn,fun p hp=>?_⟩
 ·rw [oj hq.1 hq.2,la]
  exact B6 hq.1 hq.2
 ·have jl:=(gi_ h).1
  refine ⟨ck (dh signs) (j:Int),kz _ _ (Ne.symm (nxa _ (fa a (mq_ h)))) (ha5 j a h),zR _ _,fun z=>?_,fun q=>?_⟩
  ·obtain ⟨q,hq,e⟩:=B7 (gs:=signs) (j:=j) (by omega)
   have:q∈ck (dh signs) (j:Int):=preI_mem.mpr ⟨⟨hq.1,by rw [pl]; exact hq.2⟩,by
    have:=oj hq.1 hq.2
    unfold aR at this
    rw [this,e]⟩
   rw [z] at this
   cases this
  ·rw [preI_mem,pl]
   rfl
 ·obtain ⟨j,hj⟩:=List.mem_iff_getElem?.mp z
  have:=ha5 j iw hj
  rw [fiw] at this
  cases this
 ·exact au hgo4 hwt
 ·exact au hms4 hwt
 ·rw [ens] at hp
  rw [<- ens] at hp
  obtain ⟨i,hi,rfl⟩:=List.mem_map.mp hp
  have:=List.mem_range.mp hi
  omega
end
theorem Ck (acc:List (List Key×V)) (a k:List Key) (v:V):k∈(putK acc a v).map Prod.fst↔k∈acc.map Prod.fst\/k=a:=by
 unfold putK
 by_cases c:(acc.any fun kv=>decide (kv.fst=a))=true
 ·rw [if_pos c,List.map_map]
  have e:acc.map (Prod.fst ∘ fun kv=>if kv.fst=a then (kv.fst,v) else kv)=acc.map Prod.fst:=List.map_congr_left fun kv _=>by
   show (if kv.fst=a then (kv.fst,v) else kv).fst=kv.fst
   split <;> rfl
  rw [e]
  obtain ⟨kv,h1,h2⟩:=List.any_eq_true.mp c
  have h3:a∈acc.map Prod.fst:=List.mem_map.mpr ⟨kv,h1,of_decide_eq_true h2⟩
  exact ⟨.inl,fun z=>z.elim id fun z=>z ▸ h3⟩
 ·rw [if_neg c,List.map_append,List.mem_append]
  exact or_congr Iff.rfl List.mem_singleton
theorem sJ:∀ (kvs acc:List (List Key×V)) (k:List Key),k∈(fX acc kvs).map Prod.fst↔k∈acc.map Prod.fst\/k∈kvs.map Prod.fst
 | [],acc,k=>⟨.inl,fun z=>z.elim id fun z=>by cases z⟩
 | p :: kvs,acc,k=>by
  show k∈(fX (putK acc p.1 p.2) kvs).map Prod.fst↔_
  rw [sJ kvs,Ck,or_assoc]
  exact or_congr Iff.rfl (List.mem_cons (a:=k) (b:=p.1) (l:=kvs.map Prod.fst)).symm
theorem zH {x y:LI} (e:x.map (Sum.inl:Int->Key)=y.map Sum.inl):x=y:=by
 have h:=congrArg (List.map fun k:Key=>Sum.elim id (fun _=>(0:Int)) k) e
 rw [List.map_map,List.map_map] at h
 have f:((fun k:Key=>Sum.elim id (fun _=>(0:Int)) k) ∘ (Sum.inl:Int->Key))=id:=rfl
 rw [f,List.map_id,List.map_id] at h
 exact h
theorem vf {H:Hp}:∀ {bs:List Addr} {kvs:List (List Key×V)},zr H bs kvs->(∀ k∈kvs.map Prod.fst,∃ c:LI,k=c.map Sum.inl)->∃ cols:LL,RowsAt H bs cols/\kvs.map Prod.fst=cols.map fun c=>c.map Sum.inl
 | [],[],.nil,_=>⟨[],.nil,rfl⟩
 | _,_,.cons (a:=b) (b:=p) (l₁:=bs) (l₂:=kvs) h t,q=>by
  obtain ⟨cols,h1,h2⟩:=vf t fun k hk=>q k (List.mem_cons_of_mem _ hk)
  obtain ⟨c,e⟩:=q p.1 List.mem_cons_self
  refine ⟨c :: cols,.cons ?_ h1,by rw [List.map_cons,List.map_cons,h2,e]⟩
  rw [e,List.map_map] at h
  exact h
theorem uo {H:Hp} {bs:List Addr} {cols0:LL} (h:zr H bs (fX [] (cols0.map fun c=>(c.map Sum.inl,V.bl true)))):∃ cols:LL,RowsAt H bs cols/\cols.length<=cols0.length/\∀ c,c∈cols↔c∈cols0:=by
 have mem:∀ k,k∈(fX [] (cols0.map fun c=>((c.map Sum.inl:List Key),V.bl true))).map Prod.fst↔∃ c∈cols0,k=c.map Sum.inl:=fun k=>by
  rw [sJ,List.map_map]
  constructor
  ·rintro (z | z)
   ·cases z
   ·obtain ⟨c,h1,h2⟩:=List.mem_map.mp z
    exact ⟨c,h1,h2.symm⟩
  ·rintro ⟨c,h1,h2⟩
   exact .inr (List.mem_map.mpr ⟨c,h1,h2.symm⟩)
 obtain ⟨cols,h1,h2⟩:=vf h fun k hk=>let ⟨c,_,e⟩:=(mem k).mp hk; ⟨c,e⟩
 refine ⟨cols,h1,?_,fun c=>?_⟩
 ·have e1:=congrArg List.length h2
  have e2:=iL (cols0.map fun c=>((c.map Sum.inl:List Key),V.bl true)) []
  rw [lm_,lm_] at e1
  rw [lm_,List.length_nil] at e2
  omega
 have m:=mem (c.map Sum.inl)
 rw [h2] at m
 constructor
 ·intro hc
  obtain ⟨c',h3,e⟩:=m.mp (List.mem_map.mpr ⟨c,hc,rfl⟩)
  rw [zH e]
  exact h3
 ·intro hc
  obtain ⟨c',h3,e⟩:=List.mem_map.mp (m.mpr ⟨c,hc,rfl⟩)
  rw [<- zH e]
  exact h3
theorem Bb {many wide:Nat} {rows:LL} (R:RowsOk many wide rows) (f:Nat) {q:Int} (hq:aq many q):gL (rows.map fun r=>r.getD f 0) q=stepI rows q f:=by
 have l:q.toNat<rows.length:=by have:=hq.1; have:=hq.2; rw [R.len]; omega
 unfold gL stepI
 rw [getD_at (by rw [lm_]; exact l),List.getElem_map,Int.toNat_natCast,getD_at l]
theorem CS {many wide:Nat} {rows cols:LL} (R:RowsOk many wide rows) (h:∀ c,c∈cols↔c∈nG rows wide):ColsOk many wide rows cols where
 of:=fun c hc=>by
  obtain ⟨f,hf,rfl⟩:=List.mem_map.mp ((h c).mp hc)
  exact ⟨f,List.mem_range.mp hf,fun q hq=>Bb R f hq⟩
 all:=fun f hf=>⟨_,(h _).mpr (List.mem_map.mpr ⟨f,List.mem_range.mpr hf,rfl⟩),fun q hq=>Bb R f hq⟩
theorem zx {many wide:Nat} {rows:LL} (R:RowsOk many wide rows) {c:LI} (h:c∈nG rows wide):c.length=many/\∀ t∈c,0<=t/\t<(many:Int):=by
 obtain ⟨f,hf,rfl⟩:=List.mem_map.mp h
 have fl:=List.mem_range.mp hf
 refine ⟨by rw [lm_,R.len],fun t ht=>?_⟩
 obtain ⟨r,hr,rfl⟩:=List.mem_map.mp ht
 have lr:=R.row r hr
 rw [getD_at (by omega)]
 exact R.val r hr _ (List.getElem_mem _)
theorem xJ {many:Nat} {col:LI} (l:col.length=many) {q x:Int}:x∈ck col q↔aq many x/\gL col x=q:=by
 rw [preI_mem,l]
 rfl
theorem vP (col:LI):∀ {ms:LI},ms.Nodup->(ms.flatMap (ck col)).Nodup
 | [],_=>List.nodup_nil
 | m :: ms,h=>by
  have n:=List.nodup_cons.mp h
  rw [List.flatMap_cons]
  refine List.nodup_append.mpr ⟨zR col m,vP col n.2,fun a ha b hb e=>?_⟩
  obtain ⟨m',h1,h2⟩:=List.mem_flatMap.mp hb
  have e1:=(preI_mem.mp ha).2
  have e2:=(preI_mem.mp h2).2
  rw [<- e,e1] at e2
  exact n.1 (e2 ▸ h1)
theorem xg {many:Nat} {col ms:LI} (l:col.length=many) {x:Int}:x∈ms.flatMap (ck col)↔aq many x/\gL col x∈ms:=by
 rw [List.mem_flatMap]
 constructor
 ·rintro ⟨m,h1,h2⟩
  have h3:=(xJ l).mp h2
  exact ⟨h3.1,h3.2 ▸ h1⟩
 ·rintro ⟨h1,h2⟩
  exact ⟨_,h2,(xJ l).mpr ⟨h1,rfl⟩⟩
theorem HopS.mono {many:Nat} {cols:List (Int->Int)} {sg:Int->Int} {R:Int->Int->Prop} {grp:Int->Int} {W W' S:Int->Prop} {k:Nat} (h:HopS many cols sg R grp W S k) (w:∀ g,W g->W' g):HopS many cols sg R grp W' S k:=
 ⟨h.coarse,h.signs,h.whole,fun x y hx hy e j c hj=>by
  rcases h.cong x y hx hy e j c hj with z | z | z | z
  ·exact .inl z
  ·exact .inr (.inl (w _ z))
  ·exact .inr (.inr (.inl (w _ z)))
  ·exact .inr (.inr (.inr z))⟩
theorem AllAg.symm {rows:LL} {wide:Nat} {signs:LI} {x y:Int} (h:AllAg rows wide signs x y):AllAg rows wide signs y x:=fun n v h1 h2=>(h n v h1 h2).symm
theorem PtS.pop {H:Hp} {C x go ms wt iw l:Addr} {many:Nat} {gs ws0 mem:LI} {ds:List Addr} {s:Int} (h:PtS H C x go ms wt iw many gs ds (ws0++[s])) (hl:H l=none) :
  PtS (upd (upd (upd H wt (.lst (ws0.map V.int))) iw (.dK (kvT ((ws0++[s]).filter fun k=>decide (k≠s))))) l (.lst (mem.map V.int))) C x go ms wt iw many gs ds ws0:=by
 have nd:=List.nodup_append.mp h.wn
 have ef:(ws0++[s]).filter (fun k=>decide (k≠s))=ws0:=by
  rw [List.filter_append,List.filter_cons_of_neg (by simp),List.filter_nil,List.append_nil]
  exact List.filter_eq_self.mpr fun k hk=>decide_eq_true fun z=>nd.2.2 k hk s List.mem_cons_self z
 rw [ef]
 have nl:∀ c u,H c=some u->c≠l:=fun c u e=>au e hl
 have kp:∀ c u,c≠wt->c≠iw->H c=some u->(upd (upd (upd H wt (.lst (ws0.map V.int))) iw (.dK (kvT ws0))) l (.lst (mem.map V.int))) c=some u:=fun c u c1 c2 e=>by rw [ah (nl c u e),ah c2,ah c1]; exact e
 obtain ⟨dx,hx⟩:=h.pt.ob
 have nwi:wt≠iw:=aE h.wt_ h.iw_ (by intro z; cases z)
 refine ⟨⟨dx,kp _ _ (aE hx h.wt_ (by intro z; cases z)) (aE hx h.iw_ (by intro z; cases z)) hx⟩,kp _ _ h.n2 (aE h.go_ h.iw_ (by intro z; cases z)) h.go_,kp _ _ h.n3 (aE h.ms_ h.iw_ (by intro z; cases z)) h.ms_,by rw [ah (nl _ _ h.wt_),ah nwi,ae],by rw [ah (nl _ _ h.iw_),ae],h.lg,h.val,fun i d hi=>?_,h.dn,h.ndi,h.n1,h.n2,h.n3,nd.1,fun g hg=>h.wv g (List.mem_append_left _ hg)⟩
 obtain ⟨m,h1,h2⟩:=h.mem i d hi
 exact ⟨m,kp _ _ (aE h1 h.wt_ (by intro z; cases z)) (fun z=>h.ndi (z ▸ mq_ hi)) h1,h2⟩
theorem PtS.alone {H:Hp} {C x go ms wt iw:Addr} {many:Nat} {gs ws:LI} {ds:List Addr} (h:PtS H C x go ms wt iw many gs ds ws) (e:ds.length=many):∀ a b,aq many a->aq many b->aR gs a=aR gs b->a=b:=fun a b ha hb eg=>Classical.byContradiction fun ne=>by
 have la:a.toNat<gs.length:=by have:=ha.1; have:=ha.2; rw [h.lg]; omega
 have lb:b.toNat<gs.length:=by have:=hb.1; have:=hb.2; rw [h.lg]; omega
 have nab:a.toNat≠b.toNat:=by have:=ha.1; have:=hb.1; omega
 unfold aR at eg
 rw [getD_at la,getD_at lb] at eg
 have t:=fx (xs:=(List.range ds.length).map fun i:Nat=>(i:Int)) (ys:=gs.eraseIdx b.toNat) (List.pairwise_map.mpr (List.nodup_range.imp fun {a b} n z=>n (by
  have z':(a:Int)=(b:Int):=z
  omega))) (fun g hg=>by
  obtain ⟨i,hi,rfl⟩:=List.mem_map.mp hg
  have il:=List.mem_range.mp hi
  obtain ⟨mem,_,_,nn,iff⟩:=h.mem i _ (List.getElem?_eq_getElem il)
  obtain ⟨q,r,rfl⟩:=List.exists_cons_of_ne_nil nn
  obtain ⟨⟨q0,q1⟩,eq⟩:=(iff q).mp List.mem_cons_self
  have lq:q.toNat<gs.length:=by rw [h.lg]; omega
  unfold aR at eq
  rw [getD_at lq] at eq
  rw [List.mem_eraseIdx_iff_getElem]
  by_cases c:q.toNat=b.toNat
  ·refine ⟨a.toNat,la,nab,?_⟩
   rw [eg,<- eq]
   congr 1
   exact c.symm
  ·exact ⟨q.toNat,lq,c,eq⟩)
 rw [lm_,List.length_range,List.length_eraseIdx_of_lt lb,h.lg,e] at t
 have:=hb.1
 have:=hb.2
 omega
def Cw (K:PySem.W.Frag):Sp:=fun vs H Q _=>∃ (m r g:Addr) (many wide:Nat) (rows:LL) (signs:LI),vs=[.ref m]/\MachAt H m r g wide rows signs/\RowsOk many wide rows/\signs.length=many/\many<1000/\wide<=1000 /\
 ∀ (go:Addr) (gs:LI) (H':Hp),Same H H'->H go=none->H' go=some (.lst (gs.map V.int))->gs.length=many->(∀ x y,aq many x->aq many y->(aR gs x=aR gs y↔AllAg rows wide signs x y))->Q (.ref go) H'
def CM (H:Hp):List Addr->LL->Prop:=Paired fun B col=>∃ H0 es,BackOk H0 H B es (fun q ls=>ls=ck col q)
section
variable {P:Program} {w:World} {K:PySem.W.Frag} {mg:Str->Option Value} {base:Heap} {f:Addr} {fd:FuncData} {dV:Value} {C:Addr}
theorem sc_unparted_groups:FnScope ["machine","distinct","backs","parted","splitter","back","leading","here"] ["machine"] (ak bq):=⟨rfl,rfl,rfl,by decide +kernel,rfl,by decide +kernel,by decide +kernel⟩
theorem bk_unparted_groups_0:BlkScope ["machine","distinct","backs","parted","splitter","back","leading","here"] (ak bq) ["column"] [none] { kind:=ScopeKind.function,names:=[(".0",NameKind.local),("column",NameKind.local)],isGenerator:=false,isCoroutine:=false,more:=[] }:=⟨rfl,by decide +kernel,by decide +kernel,by decide +kernel,by decide +kernel,rfl,by decide +kernel⟩
theorem bk_unparted_groups_1:BlkScope ["machine","distinct","backs","parted","splitter","back","leading","here"] (ak bq) ["column"] [none] { kind:=ScopeKind.function,names:=[(".0",NameKind.local),("column",NameKind.local),("back_of",NameKind.globalImplicit)],isGenerator:=false,isCoroutine:=false,more:=[] }:=⟨rfl,by decide +kernel,by decide +kernel,by decide +kernel,by decide +kernel,rfl,by decide +kernel⟩
theorem Eh (F:FunD K "unparted_groups" "unparted_groups" bq dV f fd) (pc:PCls K C) (jh:DefOk P w K mg base "columns_of" 1 ["machine"] [] (y7 K)) (oG:DefOk P w K mg base "back_of" 1 ["column"] [] (wH K)) (oE:DefMk P w K mg base "Parted" C 1 ["self","signs"] (tV C))
  (lS:DefMe P w K mg base C "is_done" 1 ["self"] (tR K C)) (eV:DefMe P w K mg base C "next_splitter" 1 ["self"] (wK C)) (lU:DefMe P w K mg base C "part_by" 3 ["self","leading"] (tU C)) (dJ:mg "list" = none) (fY:mg "dict" = none):FnOk P w K mg base CX0 4 f fd ["machine"] (Cw K):=by
 refine F.ok sc_unparted_groups (fun vs H Q E h=>?_) (fun cdv A outer s H vs Q E hr h=>?_)
 ·obtain ⟨m,r,g,many,wide,rows,signs,rfl,_⟩:=h
  rfl
 obtain ⟨m,r,g,many,wide,rows,signs,rfl,M,R,ls,n1,w1,k⟩:=h
 have hu:=ko hr
 have hu2:=Bp hr
 refine ⟨_,(ar (ay (i:=1) sc_unparted_groups.nd rfl (Or.inl rfl) (aO (yb rfl) (by rfl) dJ nB (aa (aO ((vG rfl hu2)) (by rfl) fY qX (aa (c0 rfl bk_unparted_groups_0 (cF (bX jh hr (aa (pv 0) af))) (fun _ _ _ _=>(az (i:=0) bk_unparted_groups_0.nd rfl (Or.inl rfl))) (fun _ _ _ _=>(bF (aa (pv 0) (aa dq af))))) af)) af)))
   (ar (gZ (i:=2) rfl sc_unparted_groups.nd rfl (Or.inl rfl) bk_unparted_groups_1 (cF (pv 1)) (fun _ _ _ _=>(az (i:=0) bk_unparted_groups_1.nd rfl (Or.inl rfl))) (fun _ _ _ _=>(bX oG hr (aa (pv 0) af))))
   (ar (ay (i:=3) sc_unparted_groups.nd rfl (Or.inl rfl) (Ek oE hr (aa (aN aM (pv 0) ao (fun _ _=>rfl)) af)))
   (ar (xM PassesOwn.never (PW.pt (Cm ((xN (df (pv 3) rfl) (fun _=>rfl))) (zS (g9 (hJ (B3 lS hr (pv 3))))))) (ar (ay (i:=4) sc_unparted_groups.nd rfl (Or.inl rfl) (B3 eV hr (pv 3)))
   (av (bR PassesOwn.never rfl (cF (pv 2)) (az (i:=5) sc_unparted_groups.nd rfl (Or.inl rfl)) (ar (ay (i:=6) sc_unparted_groups.nd rfl (Or.inl rfl) (eP af))
   (ar (bR PassesOwn.never rfl (cF (pv 4)) (az (i:=7) sc_unparted_groups.nd rfl (Or.inl rfl)) (av (bV (i8 PySem.F.plainAttrs_list PySem.F.slot_list_extend PySem.F.type_list_extend yB (pv 6) (aa (BZ hu (pv 5) (pv 7) (bF af) ⟨rfl,rfl,rfl,rfl⟩) af)))))
   (av (bV (zQ lU hr (pv 3) (aa (pv 6) af))))))))))
   (av (aU (df (pv 3) rfl))))))),?_⟩
 try dsimp only [bW,cU]
 refine dj (t:=tY _ _) (fun σ' H'=>∃ (dl:Addr) (bs:List Addr) (cols:LL),σ'=[some (.ref m),some (.ref dl),none,none,none,none,none,none]/\Same H H'/\H' dl=some (.lst (bs.map V.ref))/\RowsAt H' bs cols/\cols.length<=wide/\∀ c,c∈cols↔c∈nG rows wide) ?_ (fun D' nxt=>?_)
 rotate_left
 ·refine ⟨_,rfl,m,r,g,many,wide,rows,signs,rfl,M,R,⟨by omega,w1⟩,fun l cs H1 s1 hl1 A1=>?_⟩
  refine ⟨l,rfl,⟨_,qL_ hl1⟩,?_⟩
  have lc:(nG rows wide).length=wide:=by unfold nG; rw [lm_,List.length_range]
  refine fc (K:=K) (xs:=cs.map V.ref) (fun D i ys H'=>Same H1 H'/\∃ ts,ys=ts.map V.ref/\x8 H' ts (((nG rows wide).take i).map fun c=>(c.map Sum.inl,V.bl true))) (fun D hD=>⟨aj hD _,[],rfl,.nil⟩) (fun D i ys H' _ ⟨e,_⟩=>qL_ (e _ _ hl1)) ?_ ?_
  ·rintro D i y ys H2 Q' hD hi hy ⟨s2,ts,rfl,pv⟩ k'
   have jl:i<(nG rows wide).length:=by
    have:=(gi_ hi).1
    rw [lm_,A1.length] at this
    exact this
   obtain ⟨ca,e1,e2⟩:=A1.get jl
   have ey:y=.ref ca:=by rw [List.getElem?_map,e1] at hi; exact (Option.some.inj hi).symm
   subst ey
   refine ⟨_,rfl,(by show 2<=sizeLine; decide),fun T hT=>?_⟩
   have sT:=aj hT (HO.tup [V.ref ca,V.bl true])
   have nD:D≠T:=au hy hT
   have lts:ts.length=i:=by
    rw [Paired.length pv,lm_,List.length_take]
    omega
   have hyT:(upd H2 T (HO.tup [V.ref ca,V.bl true])) D=some (.lst (ts.map V.ref)):=by rw [ah nD]; exact hy
   refine k' _ _ hyT (ax (by rw [lm_]; omega)) ⟨aw (aw s2 (s2.free hT)) hD,ts++[T],by rw [List.map_append]; rfl,?_⟩
   have up:∀ b xs,(upd H2 T (HO.tup [V.ref ca,V.bl true])) b=some (.tup xs)->(upd (upd H2 T (HO.tup [V.ref ca,V.bl true])) D (.lst (ts.map V.ref++[V.ref T]))) b=some (.tup xs):=fun b xs e=>by
    rw [ah (aE e hyT (by intro z; cases z))]; exact e
   rw [List.take_add_one,List.getElem?_eq_getElem jl,List.map_append]
   refine Paired.snoc (Paired.mapP pv fun t p h=>?_) ⟨ca,up _ _ ae,?_⟩
   ·obtain ⟨b,h1,h2⟩:=h
    exact ⟨b,up _ _ (sT _ _ h1),up _ _ (sT _ _ h2)⟩
   ·rw [List.map_map]
    exact up _ _ (sT _ _ (s2 _ _ e2))
  ·rintro D ys H2 hD hy ⟨s2,ts,rfl,pv⟩
   rw [lm_,A1.length,List.take_length] at pv
   refine ⟨D,ts,_,rfl,hy,pv,fun dd hdd=>?_⟩
   have s3:=aj hdd (HO.dT (fX [] ((nG rows wide).map fun c=>(c.map Sum.inl,V.bl true))))
   refine ⟨dd,_,rfl,ae,fun dl bs hdl kt=>?_⟩
   obtain ⟨cols,c1,c3,c2⟩:=uo kt
   rw [lc] at c3
   have s4:=aj hdl (HO.lst (bs.map V.ref))
   exact nxt _ _ ⟨dl,bs,cols,rfl,((s1.trans s2).trans s3).trans s4,ae,c1.same fun b xs e=>s4 _ _ e,c3,c2⟩
 rintro σ' H1 ⟨dl,bs,cols,rfl,s1,hdl1,A1,lcw,hc⟩
 have CO:=CS R hc
 refine dj (t:=tY _ _) (fun σ' H'=>∃ (bl:Addr) (Bs:List Addr),σ'=[some (.ref m),some (.ref dl),some (.ref bl),none,none,none,none,none]/\Same H H'/\H' bl=some (.lst (Bs.map V.ref))/\CM H' Bs cols) ?_ (fun D' nxt=>?_)
 rotate_left
 ·refine ⟨_,rfl,dl,rfl,⟨_,qL_ hdl1⟩,?_⟩
  refine fc (K:=K) (xs:=bs.map V.ref) (fun D i ys H'=>Same H1 H'/\∃ Bs,ys=Bs.map V.ref/\Paired (fun B col=>∃ H0 es,(∃ u,H0 D=some u)/\BackOk H0 H' B es (fun q ls=>ls=ck col q)) Bs (cols.take i)) (fun D hD=>⟨aj hD _,[],rfl,.nil⟩) (fun D i ys H' _ ⟨e,_⟩=>qL_ (e _ _ hdl1)) ?_ ?_
  ·rintro D i y ys H2 Q' hD hi hy ⟨s2,Bs,rfl,pv⟩ k'
   have jl:i<cols.length:=by
    have:=(gi_ hi).1
    rw [lm_,A1.length] at this
    exact this
   obtain ⟨ca,e1,e2⟩:=A1.get jl
   have ey:y=.ref ca:=by rw [List.getElem?_map,e1] at hi; exact (Option.some.inj hi).symm
   subst ey
   have ci:=zx R ((hc _).mp (List.getElem_mem jl))
   have lB:Bs.length=i:=by
    rw [Paired.length pv,List.length_take]
    omega
   refine ⟨_,rfl,ca,many,cols[i],rfl,s2 _ _ e2,by omega,by omega,ci.2,fun B es H3 s3 fB bo=>?_⟩
   have hy3:=s3 _ _ hy
   refine k' _ _ hy3 (ax (by rw [lm_]; omega)) ⟨aw (s2.trans s3) hD,Bs++[B],by rw [List.map_append]; rfl,?_⟩
   have keep:∀ (H0:Hp) (B':Addr) (es':List (Int×Addr)) (col:LI),(∃ u,H0 D=some u)->BackOk H0 H3 B' es' (fun q ls=>ls=ck col q)->BackOk H0 (upd H3 D (.lst (Bs.map V.ref++[V.ref B]))) B' es' (fun q ls=>ls=ck col q):=fun H0 B' es' col hu bo'=>bo'.keep (ah (aE bo'.at_ hy3 (by intro z; cases z))) fun e he=>ah fun z=>by
    obtain ⟨u,hu⟩:=hu
    have:=bo'.fresh e he
    rw [z,hu] at this
    cases this
   rw [List.take_add_one,List.getElem?_eq_getElem jl]
   exact Paired.snoc (Paired.mapP pv fun B' col h=>let ⟨H0,es',hu,b⟩:=h; ⟨H0,es',hu,keep H0 B' es' col hu (b.same s3)⟩) ⟨H2,es,⟨_,hy⟩,keep H2 B es cols[i] ⟨_,hy⟩ bo⟩
  ·rintro D ys H2 hD hy ⟨s2,Bs,rfl,pv⟩
   rw [lm_,A1.length,List.take_length] at pv
   exact nxt _ _ ⟨D,Bs,rfl,s1.trans s2,hy,Paired.mapP pv fun B col h=>let ⟨H0,es,_,b⟩:=h; ⟨H0,es,b⟩⟩
 rintro σ' Hb ⟨bl,Bs,rfl,sb,hbl,BA⟩
 have lBs:Bs.length=cols.length:=Paired.length BA
 refine ⟨_,rfl,m,_,_,_,rfl,rfl,qT_ (sb _ _ M.tup),rfl,fun x dx hx hdx ne=>?_⟩
 have up:∀ b u,Hb b=some u->(upd (upd Hb dx (HO.own x)) x (HO.ins C dx [])) b=some u:=fun b u h=>by rw [ah (au h hx),ah (au h hdx)]; exact h
 refine ⟨x,dx,g,signs,rfl,ae,up _ _ (sb _ _ M.sgn),by omega,fun H1 go ms wt iw ds0 kk f1 f2 f3 f4 f5 S1=>⟨rfl,?_⟩⟩
 have s1':Same Hb H1:=fun b u h=>kk b u (au h hx) (up b u h)
 have fr:∀ {b},(upd (upd Hb dx (HO.own x)) x (HO.ins C dx [])) b=none->Hb b=none:=fun {b} h=>by
  cases e:Hb b with
  | none=>rfl
  | some u=>rw [up b u e] at h; cases h
 rw [ls] at S1
 obtain ⟨RR,eRR⟩:∃ RR:Int->Int->Prop,(fun x y=>aq many x/\aq many y/\AllAg rows wide signs x y)=RR:=⟨_,rfl⟩
 have lk:=CO.likes (signs:=signs) R
 rw [eRR] at lk
 have room:=CO.room R
 have sym:∀ x y,RR x y->RR y x:=fun x y h=>by rw [<- eRR] at h ⊢; exact ⟨h.2.1,h.1,h.2.2.symm⟩
 have fg:=fr f1
 have fms:=fr f2
 have fw:=fr f3
 have fi:=fr f4
 have hop0:Hop many (cols.map gL) (My.sgn signs) RR (aR (dh signs)) (fun g=>g∈(List.range ds0.length).map fun i:Nat=>(i:Int)):=by
  refine Hop.start lk (fun a b ha hb=>?_) (fun a ha=>?_) room
  ·have la:aq signs.length a:=by rw [ls]; exact ha
   have lb:aq signs.length b:=by rw [ls]; exact hb
   rw [oj la.1 la.2,oj lb.1 lb.2]
   exact B5 la lb
  ·have v:=S1.val a ha
   exact List.mem_map.mpr ⟨(aR (dh signs) a).toNat,List.mem_range.mpr (by omega),Int.toNat_of_nonneg v.1⟩
 try dsimp only [bW,cU]
 refine dj (t:=wO _ _) (fun σ' H'=>∃ (gs ws:LI) (ds:List Addr) (v4 v5 v6 v7:OV),σ'=[some (.ref m),some (.ref dl),some (.ref bl),some (.ref x),v4,v5,v6,v7]/\Same Hb H'/\PtS H' C x go ms wt iw many gs ds ws/\∀ a b,aq many a->aq many b->(aR gs a=aR gs b↔AllAg rows wide signs a b)) ?_ (fun D' nxt=>?_)
 rotate_left
 ·refine zZ (fun mm σ' H'=>∃ (gs ws:LI) (ds:List Addr) (v4 v5 v6 v7:OV),mm=2*many+ws.length-2*ds.length/\σ'=[some (.ref m),some (.ref dl),some (.ref bl),some (.ref x),v4,v5,v6,v7]/\Same Hb H'/\PtS H' C x go ms wt iw many gs ds ws/\(∀ d∈ds,Hb d=none)/\Hop many (cols.map gL) (My.sgn signs) RR (aR gs) (fun g=>g∈ws))
   ⟨_,dh signs,_,ds0,none,none,none,none,rfl,rfl,s1',S1,fun d hd=>fr (f5 d hd),hop0⟩ ?_
  rintro mm σ' H2 ⟨gs,ws,ds,v4,v5,v6,v7,emm,rfl,s2,S2,fd2,hop⟩
  obtain ⟨dx2,hx2⟩:=S2.pt.ob
  have few2:=S2.few
  rw [<- eRR] at hop
  by_cases en:ws=[]
  ·subst en
   refine ⟨_,rfl,x,C,dx2,_,_,rfl,hx2,pc.cl,pc.nw,rfl,_,.inl ⟨_,qL_ S2.wt_,rfl⟩,lA (lA ?_)⟩
   exact nxt _ _ ⟨gs,[],ds,v4,v5,v6,v7,rfl,s2,S2,fun a b ha hb=>zG CO R hop (hop.stable (fun _ _ z=>by cases z) room) ha hb⟩
  refine ⟨_,rfl,x,C,dx2,_,_,rfl,hx2,pc.cl,pc.nw,rfl,_,.inl ⟨_,qL_ S2.wt_,rfl⟩,?_⟩
  have ne':(!(ws.map V.int).isEmpty)=true:=by
   cases ws with
   | nil=>exact absurd rfl en
   | cons a r=>rfl
  rw [ne']
  refine uu ⟨_,rfl,x,dx2,_,rfl,hx2,rfl,x,go,ms,wt,iw,gs,ds,rfl,S2.pt,S2.go_,S2.ms_,_,rfl,sh (fun c=>?_) (fun c=>?_)⟩
  ·refine ⟨fun σ' H'=>∃ m',m'<mm/\∃ (gs ws:LI) (ds:List Addr) (v4 v5 v6 v7:OV),m'=2*many+ws.length-2*ds.length/\σ'=[some (.ref m),some (.ref dl),some (.ref bl),some (.ref x),v4,v5,v6,v7]/\Same Hb H'/\PtS H' C x go ms wt iw many gs ds ws/\(∀ d∈ds,Hb d=none)/\Hop many (cols.map gL) (My.sgn signs) RR (aR gs) (fun g=>g∈ws),fun _ _ h=>h,?_⟩
   rw [eRR] at hop
   obtain ⟨ws0,s,ews⟩:∃ ws0 s,ws=ws0++[s]:=⟨ws.dropLast,ws.getLast en,(List.dropLast_concat_getLast en).symm⟩
   subst ews
   have sv:=S2.wv s (List.mem_append_right _ List.mem_cons_self)
   have sl':s.toNat<ds.length:=by omega
   obtain ⟨da,hda0⟩:∃ da,ds[s.toNat]?=some da:=⟨_,List.getElem?_eq_getElem sl'⟩
   obtain ⟨mem,hda,ndm,nem,hm⟩:=S2.mem s.toNat da hda0
   rw [Int.toNat_of_nonneg sv.1] at hm
   have fewM:mem.length<=many:=b4 many ndm fun q hq=>((hm q).mp hq).1
   refine ⟨_,rfl,x,dx2,_,rfl,hx2,rfl,x,go,ms,wt,iw,da,s,ws0,ws0++[s],mem,ds,rfl,S2.pt,S2.wt_,S2.iw_,List.mem_append_right _ List.mem_cons_self,S2.ms_,sv.1,hda0,S2.n3,hda,(fun z=>S2.ndi (z ▸ mq_ hda0)),by omega,fun sl hsl=>?_⟩
   have S3:=S2.pop (mem:=mem) hsl
   obtain ⟨H3,eH3⟩:∃ H3,upd (upd (upd H2 wt (HO.lst (ws0.map V.int))) iw (HO.dK (kvT ((ws0++[s]).filter fun k=>decide (k≠s))))) sl (HO.lst (mem.map V.int))=H3:=⟨_,rfl⟩
   have ne3:∀ c u,Hb c=some u->c≠go/\c≠ms/\c≠wt/\c≠iw:=fun c u e=>⟨fun z=>(by rw [z,fg] at e; cases e),fun z=>(by rw [z,fms] at e; cases e),fun z=>(by rw [z,fw] at e; cases e),fun z=>(by rw [z,fi] at e; cases e)⟩
   have s3:Same Hb H3:=fun c u e=>by
    have n:=ne3 c u e
    rw [<- eH3,ah (au (s2 _ _ e) hsl),ah n.2.2.2,ah n.2.2.1]
    exact s2 _ _ e
   have hsl3:H3 sl=some (.lst (mem.map V.int)):=by rw [<- eH3,ae]
   rw [eH3] at S3 ⊢
   have q1:sl≠go:=fun z=>by rw [z,S2.go_] at hsl; cases hsl
   have q2:sl≠ms:=fun z=>by rw [z,S2.ms_] at hsl; cases hsl
   have q3:sl≠wt:=fun z=>by rw [z,S2.wt_] at hsl; cases hsl
   have hs0:HopS many (cols.map gL) (My.sgn signs) RR (aR gs) (fun g=>g∈ws0) (fun q=>aR gs q=s) 0:=(hop.pop room s).mono fun g h=>by
    rcases ma_.mp h.1 with z | z
    ·exact z
    ·exact absurd (List.mem_singleton.mp z) h.2
   refine ⟨_,rfl,bl,rfl,⟨_,qL_ (s3 _ _ hbl)⟩,?_⟩
   refine fJ (K:=K) (xs:=Bs.map V.ref) (fun k σ' H'=>∃ (gs' ws':LI) (ds':List Addr) (v5 v6 v7:OV),σ'=[some (.ref m),some (.ref dl),some (.ref bl),some (.ref x),some (.ref sl),v5,v6,v7]/\Same Hb H'/\PtS H' C x go ms wt iw many gs' ds' ws'/\(∀ d∈ds',Hb d=none)/\H' sl=some (.lst (mem.map V.int))/\HopS many (cols.map gL) (My.sgn signs) RR (aR gs') (fun g=>g∈ws') (fun q=>aR gs q=s) k/\(ws'.length:Int)-2*(ds'.length:Int)<=(ws0.length:Int)-2*(ds.length:Int))
    ⟨gs,ws0,ds,_,_,_,rfl,s3,S3,fd2,hsl3,hs0,Int.le_refl _⟩ (fun i σ' H' _ ⟨_,_,_,_,_,_,_,e,_⟩=>qL_ (e _ _ hbl)) ?_ ?_
   ·rintro k y σ' H4 hk ⟨gs',ws',ds',v5,v6,v7,rfl,s4,S4,fd4,hsl4,hs4,me4⟩
    have kl:k<cols.length:=by
     have:=(gi_ hk).1
     rw [lm_] at this
     omega
    obtain ⟨B,hB,H0,es,bo⟩:=fM BA (List.getElem?_eq_getElem kl)
    have ey:y=.ref B:=by rw [List.getElem?_map,hB] at hk; exact (Option.some.inj hk).symm
    subst ey
    obtain ⟨col,ecol⟩:∃ col,cols[k]=col:=⟨_,rfl⟩
    rw [ecol] at bo
    have hcm:col∈cols:=ecol ▸ List.getElem_mem kl
    have ci:=zx R ((hc _).mp hcm)
    have hkc:(cols.map gL)[k]?=some (gL col):=by rw [List.getElem?_map,List.getElem?_eq_getElem kl,ecol]; rfl
    have cmm:=mq_ hkc
    have lm:∀ {x:Int},x∈mem.flatMap (ck col)↔aq many x/\gL col x∈mem:=fun {x}=>xg ci.1
    obtain ⟨dx4,hx4⟩:=S4.pt.ob
    refine ⟨(by show 0<=sizeLine; decide),fun La hLa=>?_⟩
    have sLa:=aj hLa (HO.lst [])
    try dsimp only [bW,cU]
    refine dj (t:=pT _ _ _) (fun σ' H'=>∃ v7:OV,σ'=[some (.ref m),some (.ref dl),some (.ref bl),some (.ref x),some (.ref sl),some (.ref B),some (.ref La),v7]/\Same H4 H'/\H' La=some (.lst ((mem.flatMap (ck col)).map V.int))) ?_ (fun D'' nxt'=>?_)
    rotate_left
    ·refine ⟨_,rfl,sl,rfl,⟨_,qL_ (sLa _ _ hsl4)⟩,?_⟩
     refine fJ (K:=K) (xs:=mem.map V.int) (fun i σ' H'=>∃ v7:OV,σ'=[some (.ref m),some (.ref dl),some (.ref bl),some (.ref x),some (.ref sl),some (.ref B),some (.ref La),v7]/\Same H4 H'/\H' La=some (.lst (((mem.take i).flatMap (ck col)).map V.int))) ⟨_,rfl,sLa,ae⟩ (fun i σ' H' _ ⟨_,_,e,_⟩=>qL_ (e _ _ hsl4)) ?_ ?_
     ·rintro i y σ' H5 hi ⟨v7,rfl,s5,hL5⟩
      obtain ⟨q,rfl,hq⟩:=bz hi
      have b5:=bo.same (s4.trans s5)
      refine ⟨_,rfl,.inl ⟨rfl,_,qL_ hL5⟩,_,rfl,B,rfl,.inl ⟨_,.inl b5.at_⟩,_,rfl,(by show 0<=sizeLine; decide),fun t0 ht0=>?_⟩
      have st0:=aj ht0 (HO.tup [])
      have b6:=b5.same st0
      refine ⟨_,DGet.k (k:=Sum.inl q) b6.at_,?_⟩
      have hL6:=st0 _ _ hL5
      have et:(mem.take (i+1)).flatMap (ck col)=(mem.take i).flatMap (ck col)++ck col q:=by
       rw [List.take_add_one,hq,List.flatMap_append]
       show _++[q].flatMap (ck col)=_
       rw [List.flatMap_cons,List.flatMap_nil,List.append_nil]
      have len:(((mem.take i).flatMap (ck col)).map V.int).length+((ck col q).map V.int).length<=sizeLine:=by
       have nd:=vP col (ms:=mem.take (i+1)) ((List.take_sublist _ _).nodup ndm)
       have fw' := b4 many nd fun z hz=>((xg ci.1).mp hz).1
       rw [et,List.length_append] at fw'
       rw [lm_,lm_]
       exact small (by omega)
      cases hv:eR (kvL es) (Sum.inl q) with
      | none =>
       have hq':q∉es.map Prod.fst:=fun z=>by
        obtain ⟨e,he,ee⟩:=List.mem_map.mp z
        obtain ⟨jj,hjj⟩:=List.mem_iff_getElem?.mp he
        have:=sr b6.nd (q:=e.1) (a:=e.2) hjj
        rw [ee,hv] at this
        cases this
       have e0:=b6.non _ hq'
       rw [<- e0] at et
       rw [<- e0] at len
       refine .inr ⟨La,t0,_,[],rfl,rfl,hL6,ae,len,?_⟩
       exact ⟨_,rfl,aw (s5.trans st0) hLa,by rw [ae,et,List.map_append]; rfl⟩
      | some v =>
       obtain ⟨la,ls',rfl,hm',hla,hp⟩:=b6.get hv
       rw [<- hp] at et
       rw [<- hp] at len
       refine .inl ⟨La,la,_,_,rfl,rfl,hL6,hla,len,?_⟩
       exact ⟨_,rfl,aw (s5.trans st0) hLa,by rw [ae,et,List.map_append]⟩
     ·rintro σ' H5 ⟨v7,rfl,s5,hL5⟩
      rw [lm_,List.take_length] at hL5
      exact nxt' _ _ ⟨v7,rfl,s5,hL5⟩
    rintro σ' H5 ⟨v7,rfl,s5,hL5⟩
    have S5:=S4.same s5
    have memS:∀ q,aq many q->(q∈mem↔aR gs q=s):=fun q hq=>⟨fun z=>((hm q).mp z).2,fun z=>(hm q).mpr ⟨hq,z⟩⟩
    have inL:∀ a,aq many a->(a∈mem.flatMap (ck col)↔aR gs (gL col a)=s):=fun a ha=>by
     rw [lm,memS _ (room a ha _ cmm)]
     exact ⟨fun z=>z.2,fun z=>⟨ha,z⟩⟩
    refine ⟨_,rfl,x,dx4,_,rfl,s5 _ _ hx4,rfl,_,rfl,x,go,ms,wt,iw,La,many,gs',ws',mem.flatMap (ck col),ds',fun gs1 n1 ws1=>HopS many (cols.map gL) (My.sgn signs) RR (aR gs1) (fun g=>g∈ws1) (fun q=>aR gs q=s) k/\(ws1.length:Int)-2*(n1:Int)<=(ws0.length:Int)-2*(ds.length:Int),rfl,S5,n1,hL5,⟨fun z=>(by rw [z,S4.go_] at hLa; cases hLa),fun z=>(by rw [z,S4.ms_] at hLa; cases hLa),fun z=>(by rw [z,S4.wt_] at hLa; cases hLa)⟩,vP col ndm,fun q hq=>(lm.mp hq).1,⟨hs4,me4⟩,?_,?_⟩
    ·rintro gs1 n1 ws1 gs2 ws2 ⟨h1,h2⟩ val ⟨b,nw,rfl,e1,e2,e3,e4⟩
     refine ⟨h1.split sym room (L:=fun a=>a∈mem.flatMap (ck col)) (b:=b) (n:=(n1:Int)) (fun a c ha hc' r hl=>?_) (fun a ha z=>?_) (fun g hg=>List.mem_append_left _ hg) (fun hb=>?_) ?_ e3 e4,?_⟩
     ·rw [inL a ha] at hl
      rw [inL c hc']
      exact h1.whole _ _ (room a ha _ cmm) (room c hc' _ cmm) (lk.led a c r _ cmm) hl
     ·have:=val a ha
      omega
     ·rw [<- e2 hb]
      exact List.mem_append_right _ List.mem_cons_self
     ·rcases e1 with e1 | e1
      ·exact .inl (by rw [<- e1]; exact List.mem_append_right _ List.mem_cons_self)
      ·exact .inr (by rw [<- e1]; exact List.mem_append_right _ List.mem_cons_self)
     ·rw [List.length_append,List.length_singleton]
      omega
    ·intro H6 gs6 ws6 more S6 j6 nc fm kp
     have s6:Same Hb H6:=fun c u e=>by
      have n:=ne3 c u e
      exact kp c u n.1 n.2.1 n.2.2.1 n.2.2.2 (fun z=>by rw [fd4 c z] at e; cases e) (s5 _ _ (s4 _ _ e))
     have hsl5:=s5 _ _ hsl4
     refine ⟨gs6,ws6,ds'++more,_,_,_,rfl,s6,S6,fun d hd=>?_,kp sl _ q1 q2 q3 (aE hsl5 S5.iw_ (by intro z; cases z)) (fun z=>?_) hsl5,j6.1.next hkc fun a c ha hc' e h=>?_,j6.2⟩
     ·rcases ma_.mp hd with z | z
      ·exact fd4 d z
      ·have:=fm d z
       cases e:Hb d with
       | none=>rfl
       | some u=>rw [s5 _ _ (s4 _ _ e)] at this; cases this
     ·obtain ⟨mm',hmm⟩:=S5.at_ z
      rw [hsl5] at hmm
      cases hmm
     ·exact (inL c hc').mp (nc a c ha hc' e ((inL a ha).mpr h))
   ·rintro σ' H4 ⟨gs',ws',ds',v5,v6,v7,rfl,s4,S4,fd4,hsl4,hs4,me4⟩
    have few4:=S4.few
    rw [lm_,lBs] at hs4
    have lcm:cols.length=(cols.map gL).length:=(List.length_map _).symm
    rw [lcm] at hs4
    refine ⟨_,?_,gs',ws',ds',_,_,_,_,rfl,rfl,s4,S4,fd4,hs4.done⟩
    rw [emm,List.length_append,List.length_singleton]
    omega
  ·refine nxt _ _ ⟨gs,ws,ds,v4,v5,v6,v7,rfl,s2,S2,fun a b ha hb=>zG CO R hop (Hop.single (S2.alone (by rw [c,S2.lg]))) ha hb⟩
 rintro σ' H2 ⟨gs,ws,ds,v4,v5,v6,v7,rfl,s2,S2,fin⟩
 obtain ⟨dx2,hx2⟩:=S2.pt.ob
 exact ⟨_,rfl,x,C,dx2,_,_,rfl,hx2,pc.cl,pc.ng,rfl,k go gs H2 (sb.trans s2) (sb.free fg) S2.go_ S2.lg fin⟩
end
def wN (K:PySem.W.Frag):Sp:=fun vs H Q E=>rC K EJ vs H Q E\/rC K EK vs H Q E
theorem su (xs:LI) (g:Int):kvN (xs++[g]) 0=kvN xs 0++[(Sum.inl g,V.int (xs.length:Int))]:=by
 unfold kvN
 rw [List.zipIdx_append,List.map_append,Nat.zero_add]
 rfl
theorem vj {qs:LI} (nd:qs.Nodup):∀ i,cT [] (kvN (qs.take i) 0)=kvN (qs.take i) 0
 | 0=>by rw [List.take_zero]; rfl
 | i+1=>by
  have ih:=vj nd i
  cases e:qs[i]? with
  | none =>
   rw [List.take_add_one,e]
   show cT [] (kvN (qs.take i++[]) 0)=kvN (qs.take i++[]) 0
   rw [List.append_nil]
   exact ih
  | some g =>
   have et:qs.take (i+1)=qs.take i++[g]:=by rw [List.take_add_one,e]; rfl
   have il:=gi_ e
   have hg:g∉qs.take i:=fun z=>by
    obtain ⟨j,hj,ej⟩:=List.getElem_of_mem z
    rw [List.length_take] at hj
    rw [List.getElem_take] at ej
    have:=(List.getElem_inj nd).mp (ej.trans il.2.symm)
    omega
   rw [et]
   show cT [] (kvN (qs.take i++[g]) 0)=_
   have m:cT [] (kvN (qs.take i) 0++[(Sum.inl g,V.int ((qs.take i).length:Int))])=putK (cT [] (kvN (qs.take i) 0)) (Sum.inl g) (V.int ((qs.take i).length:Int)):=by
    unfold cT
    rw [List.foldl_append]
    rfl
   rw [su,m,ih,vW hg,su]
theorem pY (φ:Int->Int) (n:Nat):bx φ (n+1)=bx φ n++(if φ (n:Int)=(aJ φ n:Int) then [n] else []):=by
 unfold bx
 rw [List.range_succ,List.filter_append]
 congr 1
 by_cases c:φ (n:Int)=(aJ φ n:Int)
 ·rw [if_pos c,List.filter_cons_of_pos (by exact decide_eq_true c)]; rfl
 ·rw [if_neg c,List.filter_cons_of_neg (by rw [decide_eq_false c]; decide)]; rfl
theorem Ah {φ:Int->Int} {n q:Nat} (h:q∈bx φ n):q<n:=List.mem_range.mp (List.mem_filter.mp h).1
theorem ox {many wide:Nat} {rows:LL} (R:RowsOk many wide rows) {q t:Int} (h0:0<=q) (h1:q<(many:Int)) (ht:t∈rows.getD q.toNat []):∃ f:Nat,f<wide/\t=stepI rows q f:=by
 have l:q.toNat<rows.length:=by rw [R.len]; omega
 rw [getD_at l] at ht
 obtain ⟨f,hf,e⟩:=List.getElem_of_mem ht
 have lr:=R.row _ (List.getElem_mem l)
 refine ⟨f,by omega,?_⟩
 unfold stepI
 rw [getD_at l,Int.toNat_natCast,getD_at hf,e]
def wI (K:PySem.W.Frag):Sp:=fun vs H Q _=>∃ (m r g:Addr) (many wide:Nat) (rows:LL) (signs:LI),vs=[.ref m]/\MachAt H m r g wide rows signs/\RowsOk many wide rows/\signs.length=many/\(1<=many/\many<1000)/\wide<=1000 /\
 ∀ (m' r' g':Addr) (rows':LL) (signs':LI) (H':Hp),Same H H'->MachAt H' m' r' g' wide rows' signs'->LeastOf wide rows rows' signs signs'->Q (.ref m') H'
section
variable {P:Program} {w:World} {K:PySem.W.Frag} {mg:Str->Option Value} {base:Heap} {f:Addr} {fd:FuncData} {dV:Value}
theorem BU (F:FunD K "with_rooms" "with_rooms" bL dV f fd) (aQ:mg "tuple" = none):FnOk P w K mg base CX0 1 f fd ["machine","kept","numbers"] (wN K):=FnOk.or (AG F aQ) (AH F aQ)
theorem sc_least:FnScope ["machine","reached","small","numbers","firsts","groups","here","group"] ["machine"] (ak ij):=⟨rfl,rfl,rfl,by decide +kernel,rfl,by decide +kernel,by decide +kernel⟩
theorem bk_least_0:BlkScope ["machine","reached","small","numbers","firsts","groups","here","group"] (ak ij) ["number","here"] [none,none] { kind:=ScopeKind.function,names:=[(".0",NameKind.local),("number",NameKind.local),("here",NameKind.local)],isGenerator:=false,isCoroutine:=false,more:=[] }:=⟨rfl,by decide +kernel,by decide +kernel,by decide +kernel,by decide +kernel,rfl,by decide +kernel⟩
theorem bk_least_1:BlkScope ["machine","reached","small","numbers","firsts","groups","here","group"] (ak ij) ["group","numbers"] [none,some 3] { kind:=ScopeKind.function,names:=[(".0",NameKind.local),("group",NameKind.local),("numbers",NameKind.free)],isGenerator:=false,isCoroutine:=false,more:=[] }:=⟨rfl,by decide +kernel,by decide +kernel,by decide +kernel,by decide +kernel,rfl,by decide +kernel⟩
theorem BM (F:FunD K "least" "least" ij dV f fd) (dY:DefOk P w K mg base "reached_rooms" 1 ["machine","start"] [.int 0] (pQ K)) (f7:DefOk P w K mg base "with_rooms" 1 ["machine","kept","numbers"] [] (wN K)) (dZ:DefOk P w K mg base "unparted_groups" 4 ["machine"] [] (Cw K))
  (bZ:mg "enumerate" = none) (fY:mg "dict" = none) (aY:mg "len" = none):FnOk P w K mg base CX0 5 f fd ["machine"] (wI K):=by
 refine F.ok sc_least (fun vs H Q E h=>?_) (fun cdv A outer s H vs Q E hr h=>?_)
 ·obtain ⟨m,r,g,many,wide,rows,signs,rfl,_⟩:=h
  rfl
 obtain ⟨m,r,g,many,wide,rows,signs,rfl,M,R,ls,⟨n0,n1⟩,w1,k⟩:=h
 have hu:=ko hr
 refine l6 (aG (PSW.mk (ay (i:=1) sc_least.nd rfl (Or.inl rfl) (bX dY hr (aa (pv 0) af))))
   (aG (PSW.mk (ay (i:=2) sc_least.nd rfl (Or.inl rfl) (bX f7 hr (aa (pv 0) (aa (pv 1) (aa (aO (j8 rfl) (by rfl) fY qX (aa (c0 rfl bk_least_0 (tu rfl bZ (aa (pv 1) af)) (fun _ _ _ _=>(Dk K (n:=2) rfl (cI (az (i:=0) bk_least_0.nd rfl (Or.inl rfl)) (cI (az (i:=1) bk_least_0.nd rfl (Or.inl rfl)) kS)))) (fun _ _ _ _=>(bF (aa (pv 1) (aa (pv 0) af))))) af)) af))))))
   (aG (PSW.mk (ay (i:=3) sc_least.nd rfl (Or.inr rfl) kB))
   (aG (PSW.mk (ay (i:=4) sc_least.nd rfl (Or.inl rfl) (eP af)))
   (aG (PSW.mk (ay (i:=5) sc_least.nd rfl (Or.inl rfl) (bX dZ hr (aa (pv 2) af))))
   (aG (PSW.mk (bR PassesOwn.never rfl (tu rfl bZ (aa (pv 5) af)) (pI rfl (cI (az (i:=6) sc_least.nd rfl (Or.inl rfl)) (cI (az (i:=7) sc_least.nd rfl (Or.inl rfl)) kS))) (av (cJ (wz (vm hu (pv 7) (pv 3)) (by with_unfolding_all rfl)) (ar (rq hu (pv 3) (pv 7) (aB kI (by rfl) aY bD (aa (pv 3) af)) rfl)
   (av (bV (i8 PySem.F.plainAttrs_list PySem.F.slot_list_append PySem.F.type_list_append b7 (pv 4) (aa (pv 6) af))))) bA))))
   (hV (PSW.mk (aU (bX f7 hr (aa (pv 2) (aa (pv 4) (aa (c0 rfl bk_least_1 (cF (pv 5)) (fun _ _ _ _=>(az (i:=0) bk_least_1.nd rfl (Or.inl rfl))) (fun _ _ _ _=>(zP hu (pv 1) (pv 0) (fun _ _=>rfl)))) af))))))))))))) ?_
 refine ⟨_,rfl,m,r,g,many,wide,rows,signs,rfl,M,R,⟨n0,by omega⟩,fun l H1 qs s1 hl1 bf=>?_⟩
 have few:=b4 many bf.nd bf.inr
 have reF:∀ q∈qs,∃ row,InF wide row/\aP rows row 0=q:=fun q hq=>(bf.re q).mp hq
 obtain ⟨R1,O1,p1,t1⟩:=xW (signs:=signs) R (by omega) bf.eq bf.nd (fun q hq=>bf.inr q hq) reF
 try dsimp only [bW,cU]
 refine dj (t:=tY _ _) (fun σ' H'=>∃ m1 r1 g1:Addr,σ'=[some (.ref m),some (.ref l),some (.ref m1),none,none,none,none,none]/\Same H H'/\MachAt H' m1 r1 g1 wide (bI rows (rho qs) qs) (bK signs qs)) ?_ (fun D' nxt=>?_)
 rotate_left
 ·refine ⟨_,rfl,_,rfl,_,rfl,l,rfl,⟨_,qL_ hl1⟩,?_⟩
  refine yf (K:=K) (xs:=qs.map V.int) (fun D i ys H'=>Same H1 H'/\∃ ts,ys=ts.map V.ref/\PairsV H' ts (kvN (qs.take i) 0)) (fun T σ H Q i x h q=>⟨T,[.int i,x],rfl,qT_ h,rfl,.int i,[x],rfl,x,[],rfl,rfl,q⟩) (fun D hD=>⟨aj hD _,[],rfl,.nil⟩) (fun D i ys H' _ ⟨e,_⟩=>qL_ (e _ _ hl1)) ?_ ?_
  ·rintro D i y ys H2 T0 Q' hD hi hy ⟨s2,ts,rfl,pv⟩ hT0 k'
   obtain ⟨q,rfl,hq⟩:=bz hi
   have il:=(gi_ hq).1
   have sT0:=aj hT0 (HO.tup [V.int i,V.int q])
   refine ⟨_,rfl,_,rfl,(by show 2<=sizeLine; decide),fun T hT=>?_⟩
   have sT:=aj hT (HO.tup [V.int q,V.int i])
   obtain ⟨H3,eH3⟩:∃ H3,upd (upd H2 T0 (HO.tup [V.int i,V.int q])) T (HO.tup [V.int q,V.int i])=H3:=⟨_,rfl⟩
   have hT3:H3 T=some (.tup [V.int q,V.int i]):=by rw [<- eH3,ae]
   rw [eH3] at sT ⊢
   have s3:=sT0.trans sT
   have hy3:=s3 _ _ hy
   have lts:ts.length=i:=by
    rw [Paired.length pv,jE,List.length_take]
    omega
   refine k' _ _ hy3 (ax (by rw [lm_]; omega)) ⟨aw (s2.trans s3) hD,ts++[T],by rw [List.map_append]; rfl,?_⟩
   have up:∀ b xs,H3 b=some (.tup xs)->(upd H3 D (.lst (ts.map V.ref++[V.ref T]))) b=some (.tup xs):=fun b xs e=>by
    rw [ah (aE e hy3 (by intro z; cases z))]; exact e
   have et:qs.take (i+1)=qs.take i++[q]:=by rw [List.take_add_one,hq]; rfl
   have ll:(qs.take i).length=i:=by rw [List.length_take]; omega
   rw [et,su,ll]
   exact Paired.snoc (PairsV.same pv fun b xs e=>up b xs (s3 _ _ e)) (up _ _ hT3)
  ·rintro L ys H2 fL hL ⟨s2,ts,rfl,pv⟩
   rw [lm_,List.take_length] at pv
   refine ⟨L,ts,_,rfl,hL,pv,fun D hD=>?_⟩
   have mk:=vj bf.nd qs.length
   rw [List.take_length] at mk
   rw [mk]
   have s3:=s2.trans (aj hD (HO.dK (kvN qs 0)))
   refine .inl ⟨m,l,D,r,g,many,wide,rows,signs,qs,rho qs,rfl,M.same fun b xs e=>s3 _ _ (s1 _ _ e),R,ls,⟨by omega,w1⟩,s3 _ _ hl1,by omega,bf.inr,⟨_,ae,fun q hq t ht=>?_⟩,fun m1 r1 g1 H3 s4 M3=>?_⟩
   ·have qi:=bf.inr q hq
    obtain ⟨f,hf,e⟩:=ox R qi.1 qi.2 ht
    have tq:t∈qs:=(bf.re t).mpr (by rw [e]; exact ((bf.re q).mp hq).step (by omega) (by omega))
    rw [kP,if_pos tq,Nat.zero_add]
    rfl
   ·exact nxt _ _ ⟨m1,r1,g1,rfl,(s1.trans s3).trans s4,M3⟩
 rintro σ' H2 ⟨m1,r1,g1,rfl,s2,M2⟩
 refine fun Nn hNn=>⟨(by show 0<=sizeLine; decide),fun Fa hFa=>?_⟩
 obtain ⟨H3,eH3⟩:∃ H3,upd (upd H2 Nn (HO.dK [])) Fa (HO.lst [])=H3:=⟨_,rfl⟩
 have s3:Same H2 H3:=by rw [<- eH3]; exact (aj hNn _).trans (aj hFa _)
 have nNF:Nn≠Fa:=au ae hFa
 have hN3:H3 Nn=some (.dK []):=by rw [<- eH3,ah nNF,ae]
 have hF3:H3 Fa=some (.lst []):=by rw [<- eH3,ae]
 have fN:H Nn=none:=s2.free hNn
 have fF:H Fa=none:=s2.free ((aj hNn (HO.dK [])).free hFa)
 rw [eH3]
 have lsg:(bK signs qs).length=qs.length:=by unfold bK; rw [lm_]
 have R1':RowsOk qs.length wide (bI rows (rho qs) qs):=R1
 refine ⟨_,rfl,m1,r1,g1,qs.length,wide,_,_,rfl,M2.same fun b xs e=>s3 _ _ e,R1',lsg,by omega,w1,fun go gs H4 s4 fgo hgo lg hg=>?_⟩
 have sH4:Same H2 H4:=s3.trans s4
 have M4:=M2.same fun b xs e=>sH4 _ _ e
 try dsimp only [bW,cU]
 refine dj (t:=pT _ _ _) (fun σ' H'=>∃ v6 v7:OV,σ'=[some (.ref m),some (.ref l),some (.ref m1),some (.ref Nn),some (.ref Fa),some (.ref go),v6,v7]/\(∀ c u,c≠Nn->c≠Fa->H4 c=some u->H' c=some u)/\H' Nn=some (.dK (kvN (aA gs) 0))/\H' Fa=some (.lst (((bx (phi gs) gs.length).map fun i:Nat=>(i:Int)).map V.int))) ?_ (fun D' nxt=>?_)
 rotate_left
 ·have ngN:go≠Nn:=aE hgo (s4 _ _ hN3) (by intro z; cases z)
  have ngF:go≠Fa:=fun z=>by rw [z,hF3] at fgo; cases fgo
  refine ⟨_,rfl,go,rfl,⟨_,qL_ hgo⟩,vb (K:=K) (xs:=gs.map V.int) (fun i σ' H'=>∃ v6 v7:OV,σ'=[some (.ref m),some (.ref l),some (.ref m1),some (.ref Nn),some (.ref Fa),some (.ref go),v6,v7]/\(∀ c u,c≠Nn->c≠Fa->H4 c=some u->H' c=some u)/\H' Nn=some (.dK (kvN (aA (gs.take i)) 0))/\H' Fa=some (.lst (((bx (phi gs) i).map fun i:Nat=>(i:Int)).map V.int)))
   ⟨none,none,rfl,fun _ _ _ _ e=>e,s4 _ _ hN3,s4 _ _ hF3⟩ (fun i σ' H' _ ⟨_,_,_,e,_⟩=>qL_ (e _ _ ngN ngF hgo)) ?_ ?_⟩
  ·rintro i y σ' H5 T hi ⟨v6,v7,rfl,kp5,hN5,hF5⟩ hT
   obtain ⟨gg,rfl,hgg⟩:=bz hi
   have il:=(gi_ hgg).1
   have sT:=aj hT (HO.tup [V.int i,V.int gg])
   obtain ⟨H6,eH6⟩:∃ H6,upd H5 T (HO.tup [V.int i,V.int gg])=H6:=⟨_,rfl⟩
   have hT6:H6 T=some (.tup [V.int i,V.int gg]):=by rw [<- eH6]; exact ae
   rw [eH6] at sT ⊢
   have hN6:=sT _ _ hN5
   have hF6:=sT _ _ hF5
   have ol:=i7 (gs.take i)
   rw [List.length_take] at ol
   have cp:=vI gs (m:=i) (by omega)
   have fl:=gQ (phi gs) i
   refine ⟨T,_,rfl,qT_ hT6,rfl,_,_,rfl,_,_,rfl,rfl,?_⟩
   refine ⟨_,rfl,_,rfl,Nn,_,rfl,DGet.k (k:=Sum.inl gg) hN6,_,rfl,?_⟩
   rw [kP]
   by_cases c:gg∈aA (gs.take i)
   ·rw [if_pos c]
    refine lA ⟨_,_,rfl,fun c' u c1 c2 e=>sT _ _ (kp5 c' u c1 c2 e),by rw [hN6,gh hgg,iX c],?_⟩
    have ph:=rn hgg c
    have lt:=List.idxOf_lt_length_of_mem c
    rw [hF6,pY,if_neg (by rw [ph,cp]; omega),List.append_nil]
   ·rw [if_neg c]
    refine uu ⟨_,rfl,Nn,_,rfl,hN6,_,rfl,_,rfl,Nn,_,rfl,DPut.k (k:=Sum.inl gg) hN6 (ax (by rw [jE]; omega)),?_⟩
    rw [jE,vW c]
    have nFN:Fa≠Nn:=Ne.symm nNF
    have ph:=rl hgg c
    refine ⟨_,rfl,.inl ⟨rfl,_,qL_ (by rw [ah nFN]; exact hF6)⟩,_,rfl,Fa,_,_,rfl,rfl,(by rw [ah nFN]; exact hF6),ax (by rw [lm_,lm_,fl,cp]; omega),?_⟩
    refine ⟨_,_,rfl,fun c' u c1 c2 e=>by rw [ah c2,ah c1]; exact sT _ _ (kp5 c' u c1 c2 e),by rw [ah nNF,ae,gh hgg,fh c],?_⟩
    rw [ae,pY,if_pos (by rw [ph,cp]),List.map_append,List.map_append]
    rfl
  ·rintro σ' H5 ⟨v6,v7,rfl,kp5,hN5,hF5⟩
   rw [lm_,List.take_length] at hN5
   rw [lm_] at hF5
   exact nxt _ _ ⟨v6,v7,rfl,kp5,hN5,hF5⟩
 rintro σ' H5 ⟨v6,v7,rfl,kp5,hN5,hF5⟩
 have s5:Same H H5:=fun c u e=>kp5 c u (fun z=>by rw [z,fN] at e; cases e) (fun z=>by rw [z,fF] at e; cases e) (sH4 _ _ (s2 _ _ e))
 have M5:MachAt H5 m1 r1 g1 wide (bI rows (rho qs) qs) (bK signs qs):=M4.same fun b xs e=>kp5 b _ (aE e (s4 _ _ hN3) (by intro z; cases z)) (aE e (s4 _ _ hF3) (by intro z; cases z)) e
 have hgo5:H5 go=some (.lst (gs.map V.int)):=kp5 _ _ (aE hgo (s4 _ _ hN3) (by intro z; cases z)) (fun z=>by rw [z,hF3] at fgo; cases fgo) hgo
 have plg:(dh gs).length=gs.length:=by unfold dh; rw [lm_,List.length_range]
 refine ⟨_,rfl,_,rfl,_,rfl,go,rfl,⟨_,qL_ hgo5⟩,?_⟩
 refine fc (K:=K) (xs:=gs.map V.int) (fun D i ys H'=>Same H5 H'/\ys=((dh gs).take i).map V.int) (fun D hD=>⟨aj hD _,rfl⟩) (fun D i ys H' _ ⟨e,_⟩=>qL_ (e _ _ hgo5)) ?_ ?_
 ·rintro D i y ys H6 Q' hD hi hy ⟨s6,rfl⟩ k'
  obtain ⟨gg,rfl,hgg⟩:=bz hi
  have il:=(gi_ hgg).1
  have om:gg∈aA gs:=once_mem.mpr (mq_ hgg)
  have ph:phi gs (i:Int)=(((aA gs).idxOf gg:Nat):Int):=by
   unfold phi
   rw [Int.toNat_natCast,List.getD_eq_getElem?_getD,hgg]
   rfl
  have dg:DGet H6 Nn (.int gg) (some (.int (phi gs (i:Int)))):=by
   have d:=DGet.k (k:=Sum.inl gg) (s6 _ _ hN5)
   rw [kP,if_pos om,Nat.zero_add,<- ph] at d
   exact d
  have hp:(dh gs)[i]?=some (phi gs (i:Int)):=by
   unfold dh
   rw [List.getElem?_map,List.getElem?_range il]
   rfl
  refine ⟨_,rfl,_,rfl,Nn,_,rfl,dg,k' _ _ hy (ax (by rw [lm_,List.length_take]; omega)) ⟨aw s6 hD,?_⟩⟩
  rw [List.take_add_one,hp,List.map_append]
  rfl
 ·rintro L ys H6 fL hL ⟨s6,rfl⟩
  rw [lm_,<- plg,List.take_length] at hL
  have fi:∀ q∈(bx (phi gs) gs.length).map (fun i:Nat=>(i:Int)),0<=q/\q<(qs.length:Int):=fun q hq=>by
   obtain ⟨i,hi,rfl⟩:=List.mem_map.mp hq
   have:=Ah hi
   omega
  have flen:((bx (phi gs) gs.length).map fun i:Nat=>(i:Int)).length<=1000:=by
   rw [lm_]
   have:=List.length_filter_le (fun q:Nat=>decide (phi gs (q:Int)=(aJ (phi gs) q:Int))) (List.range gs.length)
   rw [List.length_range] at this
   unfold bx
   omega
  refine .inr ⟨m1,Fa,L,r1,g1,qs.length,wide,_,_,_,phi gs,rfl,M5.same fun b xs e=>s6 _ _ e,R1',lsg,⟨by omega,w1⟩,s6 _ _ hF5,flen,fi,⟨dh gs,hL,fun q hq t ht=>?_⟩,fun m' r' g' H7 s7 M7=>?_⟩
  ·have qi:=fi q hq
   obtain ⟨f,hf,e⟩:=ox R1' qi.1 qi.2 ht
   have tv:=cx R1' qi.1 qi.2 (f:=(f:Int)) (by omega) (by omega)
   rw [<- e] at tv
   have tv1:t<(gs.length:Int):=by rw [lg]; exact tv.2
   refine ⟨⟨tv.1,by rw [plg]; exact tv1⟩,?_⟩
   have:=oj (gs:=gs) tv.1 tv1
   unfold aR at this
   exact this.symm
  ·refine k m' r' g' _ _ H7 ((s5.trans s6).trans s7) M7 ?_
   have L:=xp (signs:=signs) (gs:=gs) R (by omega) bf.eq bf.nd (fun q hq=>bf.inr q hq) reF lg (fun x y hx hy=>by
    have h:=hg (x:Int) (y:Int) ⟨by omega,by omega⟩ ⟨by omega,by omega⟩
    unfold aR at h
    rw [Int.toNat_natCast,Int.toNat_natCast] at h
    exact h)
   have el:(qs.map fun q=>(rows.getD q.toNat []).map (rho qs)).length=gs.length:=by rw [lm_,lg]
   rw [ou,el,<- lg] at L
   have e1:bI (bI rows (rho qs) qs) (phi gs) ((bx (phi gs) gs.length).map fun i:Nat=>(i:Int))=(bx (phi gs) gs.length).map fun i=>((qs.map fun q=>(rows.getD q.toNat []).map (rho qs)).getD i []).map (phi gs):=by
    unfold bI
    rw [List.map_map]
    rfl
   have e2:bK (bK signs qs) ((bx (phi gs) gs.length).map fun i:Nat=>(i:Int))=(bx (phi gs) gs.length).map fun q=>(qs.map fun q=>signs.getD q.toNat 0).getD q 0:=by
    unfold bK
    rw [List.map_map]
    rfl
   rw [e1,e2]
   exact L
end
theorem sY {q m k:Nat} {r:LI} {rs:LL} (h:bg q m (r :: rs)=some k):q<m/\∃ m1,aC m r=some m1/\bg (q+1) m1 rs=some k:=by
 unfold bg at h
 by_cases c:q<m
 ·rw [if_pos c] at h
  cases e:aC m r with
  | none=>rw [e] at h; cases h
  | some m1=>rw [e] at h; exact ⟨c,m1,rfl,h⟩
 ·rw [if_neg c] at h
  cases h
theorem vx {rows:LL} {v:LI} {f:Int}:aP rows (v++[f]) 0=stepI rows (aP rows v 0) f:=by
 rw [eS]
 rfl
theorem mR {P:Int->Prop}:∀ {r:LI} {m m1:Nat},aC m r=some m1->(∀ i:Nat,i<m->P (i:Int))->(∀ t∈r,P t)->∀ i:Nat,i<m1->P (i:Int)
 | [],m,m1,h,hm,_=>by
  have e:m=m1:=Option.some.inj h
  subst e
  exact hm
 | t :: r,m,m1,h,hm,ht=>by
  have h':(if t=(m:Int) then aC (m+1) r else if t<(m:Int) then aC m r else none)=some m1:=h
  have ht':∀ t∈r,P t:=fun x hx=>ht x (List.mem_cons_of_mem _ hx)
  by_cases c:t=(m:Int)
  ·rw [if_pos c] at h'
   refine mR h' (fun i hi=>?_) ht'
   by_cases d:i=m
   ·rw [d,<- c]; exact ht t List.mem_cons_self
   ·exact hm i (by omega)
  ·rw [if_neg c] at h'
   by_cases d:t<(m:Int)
   ·rw [if_pos d] at h'
    exact mR h' hm ht'
   ·rw [if_neg d] at h'
    cases h'
theorem qc {P:Int->Prop}:∀ {rs:LL} {q m k:Nat},bg q m rs=some k->(∀ i:Nat,i<m->P (i:Int))->(∀ (j:Nat) (r:LI),rs[j]?=some r->P ((q+j:Nat):Int)->∀ t∈r,P t)->∀ i:Nat,i<k->P (i:Int)
 | [],q,m,k,h,hm,_=>by
  have e:m=k:=Option.some.inj h
  subst e
  exact hm
 | r :: rs,q,m,k,h,hm,hr=>by
  obtain ⟨c,m1,o1,o2⟩:=sY h
  refine qc o2 (mR o1 hm (hr 0 r rfl (hm q c))) fun j r' hj hp=>hr (j+1) r' hj ?_
  rw [show q+(j+1)=q+1+j by omega]
  exact hp
theorem InOrder.reached {wide:Nat} {rows:LL} (R:RowsOk rows.length wide rows) (O:InOrder rows):∀ i:Nat,i<rows.length->∃ v,InF wide v/\aP rows v 0=(i:Int):=by
 refine qc (P:=fun q=>∃ v,InF wide v/\aP rows v 0=q) O (fun i hi=>⟨[],(fun f hf=>by cases hf),by rw [show i=0 by omega]; rfl⟩) ?_
 rintro j r hj ⟨v,hv,e⟩ t ht
 rw [Nat.zero_add] at e
 obtain ⟨f,hf,ef⟩:=List.getElem_of_mem ht
 have lr:r.length=wide:=R.row r (mq_ hj)
 refine ⟨v++[(f:Int)],fun g hg=>?_,?_⟩
 ·rcases ma_.mp hg with z | z
  ·exact hv g z
  ·rw [List.mem_singleton.mp z]; omega
 ·rw [vx,e]
  have er:rows.getD j []=r:=by rw [List.getD_eq_getElem?_getD,hj]; rfl
  unfold stepI
  rw [Int.toNat_natCast,Int.toNat_natCast,er,getD_at hf,ef]
theorem Tells.on {wide:Nat} {rows rows':LL} {signs signs':LI} {a b:Int} {v:LI} (h:Tells wide rows rows' signs signs' a b) (hv:InF wide v):Tells wide rows rows' signs signs' (aP rows v a) (aP rows' v b):=fun u hu=>by
 have:=h (v++u) fun f hf=>by
  rcases ma_.mp hf with z | z
  ·exact hv f z
  ·exact hu f z
 rw [eS,eS] at this
 exact this
theorem LeastOf.few {many wide:Nat} {rows rows':LL} {signs signs':LI} (h:LeastOf wide rows rows' signs signs') (R:RowsOk many wide rows) (m0:1<=many):rows'.length<=many:=by
 have ex:∀ i:Nat,∃ p:Int,i<rows'.length->(0<=p/\p<(many:Int))/\Tells wide rows rows' signs signs' p (i:Int):=fun i=>by
  by_cases c:i<rows'.length
  ·obtain ⟨v,hv,ew⟩:=h.ord.reached h.ok i c
   refine ⟨aP rows v 0,fun _=>⟨kC R hv (by omega) (by omega),?_⟩⟩
   have:=Tells.on h.tells hv
   rw [ew] at this
   exact this
  ·exact ⟨0,fun z=>absurd z c⟩
 obtain ⟨F,hF⟩:=Classical.axiomOfChoice ex
 have nd:((List.range rows'.length).map F).Nodup:=List.pairwise_map.mpr (List.nodup_range.imp_of_mem fun {a b} ha hb ne z=>ne (by
  have ia:=List.mem_range.mp ha
  have ib:=List.mem_range.mp hb
  have ta:=(hF a ia).2
  have tb:=(hF b ib).2
  rw [z] at ta
  have:=h.apart (a:Int) (b:Int) ⟨by omega,by omega⟩ ⟨by omega,by omega⟩ (Tells.right ta tb)
  omega))
 have:=b4 many nd fun q hq=>by
  obtain ⟨i,hi,rfl⟩:=List.mem_map.mp hq
  exact (hF i (List.mem_range.mp hi)).1
 rw [lm_,List.length_range] at this
 exact this
theorem vd {K:PySem.W.Frag} {H:Hp}:∀ r:LI,Paired (EqD K H 0) (r.map V.int) (r.map V.int)
 | []=>.nil
 | i :: r=>.cons ⟨i,rfl,rfl⟩ (vd r)
theorem xR {K:PySem.W.Frag} {H:Hp}:∀ {rows:LL} {as bs:List Addr},RowsAt H as rows->RowsAt H bs rows->Paired (EqD K H 1) (as.map V.ref) (bs.map V.ref)
 | [],as,bs,h,h'=>by
  cases h
  cases h'
  exact .nil
 | r :: rows,as,bs,h,h'=>by
  cases h with
  | cons h t =>
   cases h' with
   | cons h' t'=>exact .cons (.inr ⟨_,_,_,_,rfl,rfl,qT_ h,qT_ h',vd r⟩) (xR t t')
theorem vc {K:PySem.W.Frag} {H:Hp}:∀ r:LI,Paired (EqD K H 1) (r.map V.int) (r.map V.int)
 | []=>.nil
 | i :: r=>.cons (.inl ⟨i,rfl,rfl⟩) (vc r)
theorem MachAt.eqD {K:PySem.W.Frag} {H:Hp} {m r g m' r' g':Addr} {wide:Nat} {rows:LL} {signs:LI} (M:MachAt H m r g wide rows signs) (M':MachAt H m' r' g' wide rows signs):Paired (EqD K H 2) [.int wide,.ref r,.ref g] [.int wide,.ref r',.ref g']:=by
 obtain ⟨ras,h1,h2⟩:=M.rows
 obtain ⟨ras',h1',h2'⟩:=M'.rows
 exact .cons (.inl ⟨_,rfl,rfl⟩) (.cons (.inr ⟨_,_,_,_,rfl,rfl,qT_ h1,qT_ h1',xR h2 h2'⟩) (.cons (.inr ⟨_,_,_,_,rfl,rfl,qT_ M.sgn,qT_ M'.sgn,vc signs⟩) .nil))
def nar (b B f:Nat):Nat:=f%b+b*(f / (b*B))
def kD (ν:Nat->Nat) (W:Nat) (rows:LL):LL:=rows.map fun r=>(List.range W).map fun f=>r.getD (ν f) 0
def gW (ν:Nat->Nat):Nat->Nat
 | 0=>0
 | F+1=>max (gW ν F) (ν F+1)
theorem zL (ν:Nat->Nat):∀ {F f:Nat},f<F->ν f<gW ν F
 | F+1,f,h=>by
  unfold gW
  by_cases c:f<F
  ·have:=zL ν c
   omega
  ·have:f=F:=by omega
   subst this
   omega
theorem zK {ν:Nat->Nat} {n:Nat}:∀ {F:Nat},(∀ f,f<F->ν f<n)->gW ν F<=n
 | 0,_=>Nat.zero_le _
 | F+1,h=>by
  unfold gW
  have:=zK (ν:=ν) (n:=n) (F:=F) fun f hf=>h f (by omega)
  have:=h F (by omega)
  omega
theorem gX:∀ (l l':LI) (m:Nat),aC m (l++l')=(aC m l).bind fun m'=>aC m' l'
 | [],l',m=>rfl
 | t :: l,l',m=>by
  show (if t=(m:Int) then aC (m+1) (l++l') else if t<(m:Int) then aC m (l++l') else none)=(if t=(m:Int) then aC (m+1) l else if t<(m:Int) then aC m l else none).bind _
  by_cases c:t=(m:Int)
  ·rw [if_pos c,if_pos c,gX]
  ·rw [if_neg c,if_neg c]
   by_cases d:t<(m:Int)
   ·rw [if_pos d,if_pos d,gX]
   ·rw [if_neg d,if_neg d]
    rfl
theorem kR:∀ {l:LI} {m k:Nat},aC m l=some k->m<=k
 | [],m,k,h=>Nat.le_of_eq (Option.some.inj h)
 | t :: l,m,k,h=>by
  have h':(if t=(m:Int) then aC (m+1) l else if t<(m:Int) then aC m l else none)=some k:=h
  by_cases c:t=(m:Int)
  ·rw [if_pos c] at h'
   have:=kR h'
   omega
  ·rw [if_neg c] at h'
   by_cases d:t<(m:Int)
   ·rw [if_pos d] at h'
    exact kR h'
   ·rw [if_neg d] at h'
    cases h'
theorem pH:∀ {l:LI} {m k:Nat},aC m l=some k->∀ t∈l,t<(k:Int)
 | [],m,k,h,t,ht=>by cases ht
 | x :: l,m,k,h,t,ht=>by
  have h':(if x=(m:Int) then aC (m+1) l else if x<(m:Int) then aC m l else none)=some k:=h
  by_cases c:x=(m:Int)
  ·rw [if_pos c] at h'
   have:=kR h'
   rcases List.mem_cons.mp ht with rfl | z
   ·omega
   ·exact pH h' t z
  ·rw [if_neg c] at h'
   by_cases d:x<(m:Int)
   ·rw [if_pos d] at h'
    have:=kR h'
    rcases List.mem_cons.mp ht with rfl | z
    ·omega
    ·exact pH h' t z
   ·rw [if_neg d] at h'
    cases h'
theorem sX {ν:Nat->Nat} {r:LI} {m k W:Nat} (h:aC m r=some k) (hν:∀ f,f<W->ν f<=gW ν f) (hb:∀ f,f<W->ν f<r.length):∀ F,F<=W->aC m ((List.range F).map fun f=>r.getD (ν f) 0)=aC m (r.take (gW ν F))
 | 0,_=>rfl
 | F+1,hF=>by
  have ih:=sX h hν hb F (by omega)
  have e1:=hν F (by omega)
  have e2:=hb F (by omega)
  have pre:∃ m',aC m (r.take (gW ν F))=some m' := by
   have:=gX (r.take (gW ν F)) (r.drop (gW ν F)) m
   rw [List.take_append_drop,h] at this
   cases e:aC m (r.take (gW ν F)) with
   | none=>rw [e] at this; cases this
   | some m'=>exact ⟨m',rfl⟩
  obtain ⟨m',hm'⟩:=pre
  rw [List.range_succ,List.map_append,gX,ih,hm']
  show aC m' [r.getD (ν F) 0]=_
  by_cases c:ν F<gW ν F
  ·have em:gW ν (F+1)=gW ν F:=by show max (gW ν F) (ν F+1)=_; omega
   rw [em,hm',getD_at e2]
   have lt:=pH hm' r[ν F] (List.mem_iff_getElem.mpr ⟨ν F,by rw [List.length_take]; omega,by rw [List.getElem_take]⟩)
   show (if r[ν F]=(m':Int) then _ else if r[ν F]<(m':Int) then some m' else none)=_
   rw [if_neg (by omega),if_pos lt]
  ·have ev:ν F=gW ν F:=by omega
   have em:gW ν (F+1)=gW ν F+1:=by show max (gW ν F) (ν F+1)=_; omega
   rw [em,List.take_add_one,gX,hm',<- ev,List.getElem?_eq_getElem e2,getD_at e2]
   rfl
section
variable {ν:Nat->Nat} {W wide n:Nat} {rows:LL} {signs:LI}
theorem kE:(kD ν W rows).length=rows.length:=List.length_map _
theorem Dz (R:RowsOk n wide rows) (hν:∀ f,f<W->ν f<wide):RowsOk n W (kD ν W rows):=by
 refine ⟨by rw [kE]; exact R.len,fun r hr=>?_,fun r hr v hv=>?_⟩
 ·obtain ⟨r',_,rfl⟩:=List.mem_map.mp hr
  rw [lm_,List.length_range]
 ·obtain ⟨r',hr',rfl⟩:=List.mem_map.mp hr
  obtain ⟨f,hf,rfl⟩:=List.mem_map.mp hv
  have:=hν f (List.mem_range.mp hf)
  have lr:=R.row r' hr'
  rw [getD_at (by omega)]
  exact R.val r' hr' _ (List.getElem_mem _)
theorem AU (R:RowsOk rows.length wide rows) (hν:∀ f,f<W->ν f<wide) {q:Int} (hq:aq rows.length q) {f:Nat} (hf:f<W):stepI (kD ν W rows) q (f:Int)=stepI rows q (ν f:Int):=by
 have l1:q.toNat<rows.length:=by have:=hq.1; have:=hq.2; omega
 have lr:=R.row _ (List.getElem_mem l1)
 have:=hν f hf
 unfold stepI
 have e:(kD ν W rows).getD q.toNat []=(List.range W).map fun f=>(rows.getD q.toNat []).getD (ν f) 0:=by
  unfold kD
  rw [getD_at (by rw [lm_]; exact l1),List.getElem_map,getD_at l1]
 rw [Int.toNat_natCast,Int.toNat_natCast,e,getD_at (by rw [lm_,List.length_range]; exact hf),List.getElem_map,List.getElem_range]
theorem kZ (R:RowsOk rows.length wide rows) (hν:∀ f,f<W->ν f<wide):∀ (v:LI) (q:Int),InF W v->aq rows.length q->aP (kD ν W rows) v q=aP rows (v.map fun f=>(ν f.toNat:Int)) q
 | [],_,_,_=>rfl
 | f :: v,q,hv,hq=>by
  have hf:=hv f List.mem_cons_self
  obtain ⟨g,rfl⟩:=fu hf.1
  have hg:g<W:=by omega
  have:=hν g hg
  show aP (kD ν W rows) v (stepI (kD ν W rows) q (g:Int))=aP rows (v.map _) (stepI rows q ((ν ((g:Int)).toNat:Nat):Int))
  rw [Int.toNat_natCast,AU R hν hq hg]
  exact kZ R hν v _ (fun x hx=>hv x (List.mem_cons_of_mem _ hx)) (cx R hq.1 hq.2 (by omega) (by omega))
theorem CH (hν:∀ f,f<W->ν f<wide) {v:LI} (hv:InF W v):InF wide (v.map fun f=>(ν f.toNat:Int)):=fun x hx=>by
 obtain ⟨f,hf,rfl⟩:=List.mem_map.mp hx
 have:=hv f hf
 have:=hν f.toNat (by omega)
 omega
theorem zh (R:RowsOk rows.length wide rows) (hν:∀ f,f<W->ν f<wide) (hs:∀ f,f<W->ν f<=gW ν f) (hw:gW ν W=wide) (O:InOrder rows):InOrder (kD ν W rows):=by
 have go:∀ (rs:LL) (q m k:Nat),(∀ r∈rs,r.length=wide)->bg q m rs=some k->bg q m (kD ν W rs)=some k:=by
  intro rs
  induction rs with
  | nil=>intro q m k _ h; exact h
  | cons r rs ih =>
   intro q m k hl h
   obtain ⟨c,m1,o1,o2⟩:=sY h
   have lr:=hl r List.mem_cons_self
   have e:=sX o1 hs (fun f hf=>by rw [lr]; exact hν f hf) W (Nat.le_refl _)
   rw [hw,<- lr,List.take_length,o1] at e
   show (if q<m then (aC m ((List.range W).map fun f=>r.getD (ν f) 0)).bind fun m'=>bg (q+1) m' (kD ν W rs) else none)=some k
   rw [if_pos c,e]
   exact ih _ _ _ (fun r hr=>hl r (List.mem_cons_of_mem _ hr)) o2
 unfold InOrder
 rw [kE]
 exact go rows 0 1 _ R.row O
theorem zg (R:RowsOk rows.length wide rows) (hν:∀ f,f<W->ν f<wide) (sj:∀ y,y<wide->∃ f,f<W/\ν f=y) (A:Apart wide rows signs):Apart W (kD ν W rows) signs:=fun a b ha hb ag=>by
 rw [kE] at ha hb
 refine A a b ha hb fun n v hv hn=>?_
 have lift:∀ v:LI,InF wide v->∃ u,InF W u/\(u.map fun f=>(ν f.toNat:Int))=v:=by
  intro v
  induction v with
  | nil=>intro _; exact ⟨[],(fun x hx=>by cases hx),rfl⟩
  | cons y v ih =>
   intro hv
   obtain ⟨u,hu,e⟩:=ih fun x hx=>hv x (List.mem_cons_of_mem _ hx)
   have hy:=hv y List.mem_cons_self
   obtain ⟨f,hf,ef⟩:=sj y.toNat (by omega)
   refine ⟨(f:Int) :: u,fun x hx=>?_,?_⟩
   ·rcases List.mem_cons.mp hx with rfl | z
    ·omega
    ·exact hu x z
   ·rw [List.map_cons,e,Int.toNat_natCast,ef,Int.toNat_of_nonneg hy.1]
 obtain ⟨u,hu,e⟩:=lift v hv
 have:=ag u.length u hu (Nat.le_refl _)
 rw [kZ R hν u a hu ha,kZ R hν u b hu hb,e] at this
 exact this
end
section
variable {b B C:Nat}
theorem yD (hb:0<b) (hB:0<B) {f:Nat} (h:f<b*B*C):nar b B f<b*C:=by
 unfold nar
 have h1:f / (b*B)<C:=Nat.div_lt_of_lt_mul (by rw [Nat.mul_comm] at h ⊢; rw [Nat.mul_comm]; exact (by rw [Nat.mul_comm]; exact h))
 have h2:=Nat.mod_lt f hb
 have h3:b*(f / (b*B))+b<=b*C:=by
  rw [<- Nat.mul_succ]
  exact Nat.mul_le_mul_left _ h1
 omega
theorem xx (hb:0<b) (hB:0<B) {y:Nat} (h:y<b*C):∃ f,f<b*B*C/\nar b B f=y:=by
 have h1:y / b<C:=Nat.div_lt_of_lt_mul h
 have h2:=Nat.mod_lt y hb
 have hbB:b<=b*B:=Nat.le_mul_of_pos_right _ hB
 refine ⟨y%b+b*B*(y / b),?_,?_⟩
 ·have:b*B*(y / b)+b*B<=b*B*C:=by
   rw [<- Nat.mul_succ]
   exact Nat.mul_le_mul_left _ h1
  omega
 ·unfold nar
  have e1:(y%b+b*B*(y / b))%b=y%b:=by rw [Nat.mul_assoc,Nat.add_mul_mod_self_left,Nat.mod_mod]
  have e2:(y%b+b*B*(y / b)) / (b*B)=y / b:=by
   rw [Nat.add_mul_div_left _ _ (Nat.mul_pos hb hB),Nat.div_eq_of_lt (by omega),Nat.zero_add]
  rw [e1,e2]
  have:=Nat.div_add_mod y b
  omega
theorem BF (hb:0<b) (hB:0<B) (f:Nat):nar b B (f+1)<=nar b B f+1:=by
 unfold nar
 rw [<- Nat.div_div_eq_div_mul,<- Nat.div_div_eq_div_mul]
 have hm:=Nat.mod_lt f hb
 have hd:=Nat.div_add_mod f b
 by_cases c:f%b+1<b
 ·obtain ⟨e1,e2⟩:=(Nat.div_mod_unique (a:=f+1) (d:=f / b) (c:=f%b+1) hb).mpr ⟨by omega,c⟩
  rw [e1,e2]
  omega
 ·obtain ⟨e1,e2⟩:=(Nat.div_mod_unique (a:=f+1) (d:=f / b+1) (c:=0) hb).mpr ⟨by rw [Nat.mul_succ]; omega,hb⟩
  rw [e1,e2]
  have:(f / b+1) / B<=f / b / B+1:=by
   have h1:(f / b+1) / B<=(f / b+B) / B:=Nat.div_le_div_right (by omega)
   rw [Nat.add_div_right _ hB] at h1
   exact h1
  have h2:b*((f / b+1) / B)<=b*(f / b / B+1):=Nat.mul_le_mul_left _ this
  rw [Nat.mul_succ] at h2
  omega
theorem C7 (hb:0<b) (hB:0<B):∀ f,nar b B f<=gW (nar b B) f
 | 0=>by
  unfold nar
  rw [Nat.zero_mod,Nat.zero_div]
  exact Nat.le_refl _
 | f+1=>by
  have:=BF hb hB f
  show _<=max _ (nar b B f+1)
  omega
theorem C6 (hb:0<b) (hB:0<B) (hC:0<C):gW (nar b B) (b*B*C)=b*C:=by
 refine Nat.le_antisymm (zK fun f hf=>yD hb hB hf) ?_
 have p:=Nat.mul_pos hb hC
 obtain ⟨f,hf,e⟩:=xx (b:=b) (B:=B) (C:=C) hb hB (y:=b*C-1) (by omega)
 have:=zL (nar b B) hf
 omega
end
theorem sub_len {α:Type} [DecidableEq α]:∀ {ps vs:List α},ps.Nodup->(∀ p∈ps,p∈vs)->ps.length<=vs.length
 | [],_,_,_=>Nat.zero_le _
 | p :: ps,vs,nd,h=>by
  have nd' := List.nodup_cons.mp nd
  have hp:=h p List.mem_cons_self
  have:=sub_len (vs:=vs.erase p) nd'.2 fun q hq=>(List.mem_erase_of_ne (show q≠p from fun z=>nd'.1 (by rw [<- z]; exact hq))).mpr (h q (List.mem_cons_of_mem _ hq))
  rw [List.length_erase_of_mem hp] at this
  have:=List.length_pos_of_mem hp
  rw [List.length_cons]
  omega
def Finer (a b:LI):Prop:=a.length=b.length/\∀ i j:Nat,i<a.length->j<a.length->b.getD i 0=b.getD j 0->a.getD i 0=a.getD j 0
theorem xf {a b:LI} (h:Finer a b):∃ φ:Int->Int,∀ i:Nat,i<a.length->a.getD i 0=φ (b.getD i 0):=by
 refine ⟨fun v=>a.getD (b.idxOf v) 0,fun i hi=>?_⟩
 have hb:i<b.length:=by have:=h.1; omega
 have hm:b.getD i 0∈b:=by rw [getD_at hb]; exact List.getElem_mem hb
 have hj:=List.idxOf_lt_length_of_mem hm
 refine h.2 i _ hi (by have:=h.1; omega) ?_
 rw [getD_at hj,List.getElem_idxOf]
theorem Bl {a b:LI} (h:Finer a b):(aA a).length<=(aA b).length:=by
 obtain ⟨φ,hφ⟩:=xf h
 have:=sub_len (sW a) (vs:=(aA b).map φ) fun p hp=>by
  obtain ⟨i,hi,rfl⟩:=List.getElem_of_mem (once_mem.mp hp)
  have hb:i<b.length:=by have:=h.1; omega
  refine List.mem_map.mpr ⟨b.getD i 0,once_mem.mpr (by rw [getD_at hb]; exact List.getElem_mem hb),?_⟩
  rw [<- hφ i hi,getD_at hi]
 rw [lm_] at this
 exact this
theorem Bk {a b:LI} (h:Finer a b) (e:(aA b).length=(aA a).length):Finer b a:=by
 refine ⟨h.1.symm,fun i j hi hj eq=>?_⟩
 by_cases c:b.getD i 0=b.getD j 0
 ·exact c
 exfalso
 obtain ⟨φ,hφ⟩:=xf h
 have l:=h.1
 have mj:b.getD j 0∈aA b:=once_mem.mpr (by rw [getD_at hj]; exact List.getElem_mem hj)
 have mi:b.getD i 0∈aA b:=once_mem.mpr (by rw [getD_at hi]; exact List.getElem_mem hi)
 have:=sub_len (sW a) (vs:=((aA b).erase (b.getD j 0)).map φ) fun p hp=>by
  obtain ⟨k,hk,rfl⟩:=List.getElem_of_mem (once_mem.mp hp)
  have hb:k<b.length:=by omega
  by_cases d:b.getD k 0=b.getD j 0
  ·refine List.mem_map.mpr ⟨b.getD i 0,(List.mem_erase_of_ne c).mpr mi,?_⟩
   rw [<- hφ i (by omega),eq,hφ j (by omega),<- d,<- hφ k hk,getD_at hk]
  ·refine List.mem_map.mpr ⟨b.getD k 0,(List.mem_erase_of_ne d).mpr (once_mem.mpr (by rw [getD_at hb]; exact List.getElem_mem hb)),?_⟩
   rw [<- hφ k hk,getD_at hk]
 rw [lm_,List.length_erase_of_mem mj] at this
 have:=List.length_pos_of_mem mj
 omega
theorem BV {a:LI} (h:∀ i j:Nat,i<a.length->j<a.length->a.getD i 0=a.getD j 0->i=j):(aA a).length=a.length:=by
 refine Nat.le_antisymm (i7 a) (sub_len ?_ fun p hp=>once_mem.mpr hp)
 refine List.pairwise_iff_getElem.mpr fun i j hi hj lt z=>?_
 have:=h i j hi hj (by rw [getD_at hi,getD_at hj]; exact z)
 omega
def Behind (rows:LL) (wide:Nat) (a b:LI):Prop:=a.length=rows.length/\b.length=rows.length/\∀ i j:Nat,i<rows.length->j<rows.length->(b.getD i 0=b.getD j 0↔a.getD i 0=a.getD j 0/\∀ f:Nat,f<wide->sgn a (stepI rows (i:Int) f)=sgn a (stepI rows (j:Int) f))
theorem Behind.finer {rows:LL} {wide:Nat} {a b:LI} (h:Behind rows wide a b):Finer a b:=⟨by rw [h.1,h.2.1],fun i j hi hj e=>((h.2.2 i j (by rw [<- h.1]; exact hi) (by rw [<- h.1]; exact hj)).mp e).1⟩
theorem yz {rows:LL} {wide:Nat} {signs a b:LI} (R:RowsOk rows.length wide rows) (A:Apart wide rows signs) (ls:signs.length=rows.length) (fs:Finer signs a) (h:Behind rows wide a b) (e:(aA b).length=(aA a).length):(aA a).length=rows.length:=by
 have fe:=Bk h.finer e
 have la:=h.1
 rw [BV (a:=a) ?_,la]
 intro i j hi hj eq
 have ap:=A (i:Int) (j:Int) ⟨by omega,by omega⟩ ⟨by omega,by omega⟩ ?_
 ·omega
 intro n v hv hn
 have go:∀ (v:LI) (x y:Nat),InF wide v->x<rows.length->y<rows.length->a.getD x 0=a.getD y 0->∃ x' y':Nat,aP rows v (x:Int)=(x':Int)/\aP rows v (y:Int)=(y':Int)/\x'<rows.length/\y'<rows.length/\a.getD x' 0=a.getD y' 0:=by
  intro v
  induction v with
  | nil=>intro x y _ hx hy e; exact ⟨x,y,rfl,rfl,hx,hy,e⟩
  | cons f v ih =>
   intro x y hv hx hy e
   have hf:=hv f List.mem_cons_self
   obtain ⟨g,rfl⟩:=fu hf.1
   have sx:=cx R (h:=(x:Int)) (f:=(g:Int)) (by omega) (by omega) (by omega) hf.2
   have sy:=cx R (h:=(y:Int)) (f:=(g:Int)) (by omega) (by omega) (by omega) hf.2
   obtain ⟨x1,ex⟩:=fu sx.1
   obtain ⟨y1,ey⟩:=fu sy.1
   have eb:b.getD x 0=b.getD y 0:=fe.2 x y (by rw [h.2.1]; exact hx) (by rw [h.2.1]; exact hy) e
   have st:=((h.2.2 x y hx hy).mp eb).2 g (by omega)
   rw [ex,ey] at st
   obtain ⟨x',y',q1,q2,q3⟩:=ih x1 y1 (fun z hz=>hv z (List.mem_cons_of_mem _ hz)) (by omega) (by omega) st
   refine ⟨x',y',?_,?_,q3⟩
   ·show aP rows v (stepI rows (x:Int) (g:Int))=_
    rw [ex]; exact q1
   ·show aP rows v (stepI rows (y:Int) (g:Int))=_
    rw [ey]; exact q2
 obtain ⟨x',y',q1,q2,q3,q4,q5⟩:=go v i j hv (by omega) (by omega) eq
 rw [q1,q2]
 exact fs.2 x' y' (by omega) (by omega) q5
theorem yA {rows:LL} {wide:Nat} {a b:LI} (h:Behind rows wide a b) (ne:(aA b).length≠(aA a).length):(aA a).length<(aA b).length:=by
 have:=Bl h.finer
 omega
theorem Finer.trans {a b c:LI} (h:Finer a b) (h':Finer b c):Finer a c:=⟨h.1.trans h'.1,fun i j hi hj e=>h.2 i j hi hj (h'.2 i j (by have:=h.1; omega) (by have:=h.1; omega) e)⟩
def Fp (b:Int):LI->Int
 | []=>0
 | p :: r=>p+b*Fp b r
def InB (b:Int) (ps:LI):Prop := ∀ p∈ps,0<=p/\p<b
def NB:Int:=2^1100
theorem DI:NB*NB<BIG:=by decide +kernel
theorem DJ:2<NB:=by decide +kernel
structure Figs (w n:Int) (ds:LI):Prop where
 inb:InB w ds
 val:Fp w ds=n
 top:∀ d,ds.getLast?=some d->d≠0
def rA:Sp:=fun vs H Q _=>∃ b t:Nat,vs=[.int b,.int t]/\1<=b/\(t:Int)<100000/\(b:Int)^t<NB/\Q (.int ((b^t:Nat):Int)) H
theorem kU {w k i:Nat} (w1:1<=w) (h:i<=k):w^i<=w^k:=Nat.pow_le_pow_right w1 h
section
variable {P:Program} {w:World} {K:PySem.W.Frag} {mg:Str->Option Value} {base:Heap} {f:Addr} {fd:FuncData} {dV:Value} {C:Addr}
theorem sc_power_of:FnScope ["base","times","power","turn"] ["base","times"] (ak fy):=⟨rfl,rfl,rfl,by decide +kernel,rfl,by decide +kernel,by decide +kernel⟩
theorem BP (F:FunD K "power_of" "power_of" fy dV f fd) (aW:mg "range" = none):FnOk P w K mg base CX0 1 f fd ["base","times"] rA:=by
 refine F.ok sc_power_of (fun vs H Q E h=>?_) (fun cdv A outer s H vs Q E hr h=>?_)
 ·obtain ⟨b,t,rfl,_⟩:=h
  rfl
 obtain ⟨b,t,rfl,b1,t1,bt,k⟩:=h
 have nbig:∀ {x:Int},0<=x->x<NB->x<BIG:=fun {x} hx hx'=>by
  have:=DJ
  have:=DI
  have q:NB*1<=NB*NB:=Int.mul_le_mul (Int.le_refl _) (by omega) (by decide) (by omega)
  omega
 have pe:∀ i:Nat,(b:Int)^i=((b^i:Nat):Int):=fun i=>by push_cast; rfl
 have le:∀ i:Nat,i<=t->((b^i:Nat):Int)<NB:=fun i hi=>by
  have:=kU b1 hi
  rw [pe] at bt
  omega
 refine ⟨_,(ar (ay (i:=2) sc_power_of.nd rfl (Or.inl rfl) ao)
   (ar (bR PassesOwn.never rfl (cq rfl aW (aa (pv 1) af)) (az (i:=3) sc_power_of.nd rfl (Or.inl rfl)) (av (ay (i:=2) sc_power_of.nd rfl (Or.inl rfl) (aS Df (pv 2) (pv 0)))))
   (av (aU (pv 2))))),?_⟩
 refine ⟨_,rfl,(t:Int),rfl,by omega,by omega,fj (fun i σ' H'=>∃ v,σ'=[some (.int b),some (.int t),some (.int ((b^i:Nat):Int)),v]/\H'=H) ⟨none,rfl,rfl⟩ ?_ ?_⟩
 ·rintro i σ' H' hi ⟨v,rfl,rfl⟩
  rw [Int.toNat_natCast] at hi
  have l0:=le i (by omega)
  have lb:(b:Int)<NB:=by
   have:=le 1 (by omega)
   rw [Nat.pow_one] at this
   exact this
  refine ⟨_,rfl,_,rfl,_,_,rfl,rfl,⟨⟨by omega,nbig (by omega) l0⟩,⟨by omega,nbig (by omega) lb⟩⟩,some (.int (0+(i:Int))),?_,rfl⟩
  rw [Nat.pow_succ]
  push_cast
  rfl
 ·rintro σ' H' ⟨v,rfl,rfl⟩
  rw [Int.toNat_natCast]
  exact ⟨_,rfl,k⟩
end
def pS:Sp:=fun vs H Q _=>∃ f B b:Nat,vs=[.int f,.int B,.int b]/\(0<b/\b<=1000)/\(0<B/\B<=1000)/\f<=1000/\Q (.int ((nar b B f:Nat):Int)) H
def pR:Sp:=fun vs H Q _=>∃ (m r g:Addr) (b many at_:Nat) (rows:LL) (signs:LI),vs=[.ref m,.int b,.int many,.int at_]/\MachAt H m r g (b^many) rows signs/\RowsOk rows.length (b^many) rows/\signs.length=rows.length/\(1<=rows.length/\rows.length<1000)/\2<=b/\at_<=many/\b^(many+1)<=1000 /\
 ∀ (m' r' g':Addr) (rows':LL) (signs':LI) (H':Hp),Same H H'->MachAt H' m' r' g' (b^(many+1)) (kD (nar (b^at_) b) (b^(many+1)) rows') signs'->LeastOf (b^many) rows rows' signs signs'->Q (.ref m') H'
def jN (C:Addr):Sp:=fun vs H Q E=>∃ (m:V) (at_:V) (b many:Nat),vs=[m,.int b,.int many,at_]/\1<=b/\(many:Int)<1000/\(b:Int)^(many+1)<NB/\1000<b^(many+1)/\E (.ref C) none H
theorem CG {b many at_:Nat} (h:at_<=many):b^at_*b*b^(many-at_)=b^(many+1)/\b^at_*b^(many-at_)=b^many:=by
 have e:b^at_*b^(many-at_)=b^many:=by rw [<- Nat.pow_add]; congr 1; omega
 refine ⟨?_,e⟩
 rw [Nat.mul_assoc,Nat.mul_comm b,<- Nat.mul_assoc,e,Nat.pow_succ]
section
variable {P:Program} {w:World} {K:PySem.W.Frag} {mg:Str->Option Value} {base:Heap} {f:Addr} {fd:FuncData} {dV:Value} {C:Addr}
theorem qS:FnScope ["figure","base","below"] ["figure","base","below"] (ak cw):=⟨rfl,rfl,rfl,by decide +kernel,rfl,by decide +kernel,by decide +kernel⟩
theorem sc_widened:FnScope ["machine","base","many","at","wide","small","below","narrow","rows","row"] ["machine","base","many","at"] (ak c8):=⟨rfl,rfl,rfl,by decide +kernel,rfl,by decide +kernel,by decide +kernel⟩
theorem bk_widened_0:BlkScope ["machine","base","many","at","wide","small","below","narrow","rows","row"] (ak c8) ["figure","base","below"] [none,some 1,some 6] { kind:=ScopeKind.function,names:=[(".0",NameKind.local),("figure",NameKind.local),("without_part",NameKind.globalImplicit),("base",NameKind.free),("below",NameKind.free)],isGenerator:=false,isCoroutine:=false,more:=[] }:=⟨rfl,by decide +kernel,by decide +kernel,by decide +kernel,by decide +kernel,rfl,by decide +kernel⟩
theorem bk_widened_1:BlkScope ["machine","base","many","at","wide","small","below","narrow","rows","row"] (ak c8) ["figure","row"] [none,some 9] { kind:=ScopeKind.function,names:=[(".0",NameKind.local),("figure",NameKind.local),("row",NameKind.free)],isGenerator:=false,isCoroutine:=false,more:=[] }:=⟨rfl,by decide +kernel,by decide +kernel,by decide +kernel,by decide +kernel,rfl,by decide +kernel⟩
theorem yQ (F:FunD K "without_part" "without_part" cw dV f fd):FnOk P w K mg base CX0 1 f fd ["figure","base","below"] pS:=by
 refine F.ok qS (fun vs H Q E h=>?_) (fun cdv A outer s H vs Q E hr h=>?_)
 ·obtain ⟨f,B,b,rfl,_⟩:=h
  rfl
 obtain ⟨f,B,b,rfl,⟨b0,b1⟩,⟨B0,B1⟩,f1,q⟩:=h
 have bB:=wb (a:=(b:Int)) (b:=(B:Int)) (m:=1000) (n:=1000) (by omega) (by omega) (by omega) (by omega)
 have bp:(0:Int)<(b:Int)*(B:Int):=Int.mul_pos (by omega) (by omega)
 refine ⟨_,(av (aU (aS dH (aS cE (pv 0) (pv 2)) (aS dI (pv 2) (aS wm (pv 0) (aS dI (pv 2) (pv 1))))))),?_⟩
 refine ⟨_,rfl,_,rfl,_,_,rfl,rfl,by omega,_,rfl,_,rfl,_,rfl,_,rfl,_,_,rfl,rfl,.inl ⟨by omega,by omega⟩,_,_,rfl,rfl,⟨bp,by omega⟩,_,_,rfl,rfl,.inl ⟨by omega,by omega⟩,_,_,rfl,rfl,?_⟩
 have e:(f:Int)%(b:Int)+(b:Int)*((f:Int) / ((b:Int)*(B:Int)))=((nar b B f:Nat):Int):=by
  unfold nar
  push_cast
  rfl
 show Q (V.int ((f:Int)%(b:Int)+(b:Int)*((f:Int) / ((b:Int)*(B:Int))))) H
 rw [e]
 exact q
theorem xD (F:FunD K "widened" "widened" c8 dV f fd) (dB:DefOk P w K mg base "power_of" 1 ["base","times"] [] rA) {t1:Tok} (dP:mg "MOST_WIDE" = some (.int 1000 t1)) (dQ:mg "TooWide" = some (.ref C)) (q_TooWide:PySem.W.excIn K C VEm "ValueError.__new__" = true):FnOk P w K mg base (CX1 P w) 6 f fd ["machine","base","many","at"] (jN C):=by
 refine F.okX sc_widened (fun vs H Q E h=>?_) (fun cdv A outer s H vs Q E hr h=>?_)
 ·obtain ⟨m,at_,b,many,rfl,_⟩:=h
  rfl
 obtain ⟨m,at_,b,many,rfl,b1,t1,nb,big,q⟩:=h
 refine ⟨_,(ar (ay (i:=4) sc_widened.nd rfl (Or.inl rfl) (E2 dB hr (aa (pv 1) (aa (aS dH (pv 2) ao) af))))
   (Cg (cJ (bC zM (pv 4) (eO (v:=.int 1000) rfl dP ⟨_,rfl⟩) (bJ _)) (av (Cf q_TooWide rfl dQ Dy (aa El af))) bA))),?_⟩
 refine ⟨_,rfl,_,rfl,_,_,rfl,rfl,b,many+1,rfl,b1,by omega,nb,?_⟩
 refine ⟨_,rfl,_,_,rfl,rfl,_,rfl,nO (fun _=>?_) (fun z=>by omega)⟩
 exact ⟨(by show 1<=8; decide),q⟩
theorem yP (F:FunD K "widened" "widened" c8 dV f fd) (dB:DefOk P w K mg base "power_of" 1 ["base","times"] [] rA) (vz:DefOk P w K mg base "least" 5 ["machine"] [] (wI K)) (gu:DefOk P w K mg base "without_part" 1 ["figure","base","below"] [] pS) {t1:Tok} (dP:mg "MOST_WIDE" = some (.int 1000 t1)) (aW:mg "range" = none) (aQ:mg "tuple" = none):FnOk P w K mg base CX0 6 f fd ["machine","base","many","at"] pR:=by
 refine F.ok sc_widened (fun vs H Q E h=>?_) (fun cdv A outer s H vs Q E hr h=>?_)
 ·obtain ⟨m,r,g,b,many,at_,rows,signs,rfl,_⟩:=h
  rfl
 obtain ⟨m,r,g,b,many,at_,rows,signs,rfl,M,R,ls,⟨n0,n1⟩,b2,am,bw,k⟩:=h
 have pw:∀ t,t<=many+1->b^t<=1000:=fun t ht=>Nat.le_trans (kU (by omega) ht) bw
 have nb:∀ t,t<=many+1->(b:Int)^t<NB:=fun t ht=>by
  have e:(b:Int)^t=((b^t:Nat):Int):=by push_cast; rfl
  rw [e]
  exact Int.lt_of_le_of_lt (show ((b^t:Nat):Int)<=1000 by have:=pw t ht; omega) (by decide +kernel)
 have mb:many+1<1000:=Nat.lt_of_lt_of_le (Nat.lt_pow_self (show 1<b by omega)) bw
 have bb:b<=1000:=by have:=pw 1 (by omega); rw [Nat.pow_one] at this; exact this
 have bp:0<b^at_:=Nat.pow_pos (by omega)
 obtain ⟨q1,q2⟩:=CG (b:=b) am
 refine l6 (aG (PSW.mk (ay (i:=4) sc_widened.nd rfl (Or.inl rfl) (bX dB hr (aa (pv 1) (aa (aS dH (pv 2) ao) af)))))
   (aG (PSW.mk (cJ (bC zM (pv 4) (eO (v:=.int 1000) rfl dP ⟨_,rfl⟩) (bJ _)) (av Ce) bA))
   (aG (PSW.mk (ay (i:=5) sc_widened.nd rfl (Or.inl rfl) (bX vz hr (aa (pv 0) af))))
   (aG (PSW.mk (ay (i:=6) sc_widened.nd rfl (Or.inr rfl) (bX dB hr (aa (pv 1) (aa (pv 3) af)))))
   (aG (PSW.mk (gZ (i:=7) rfl sc_widened.nd rfl (Or.inl rfl) bk_widened_0 (cq rfl aW (aa (pv 4) af)) (fun _ _ _ _=>(az (i:=0) bk_widened_0.nd rfl (Or.inl rfl))) (fun _ _ _ _=>(bX gu hr (aa (pv 0) (aa (pv 1) (aa (pv 2) af)))))))
   (aG (PSW.mk (ay (i:=8) sc_widened.nd rfl (Or.inl rfl) (eP af)))
   (aG (PSW.mk (bR PassesOwn.never rfl (gY (aN aM (pv 5) ao (fun _ _=>rfl))) (az (i:=9) sc_widened.nd rfl (Or.inr rfl)) (av (bV (i8 PySem.F.plainAttrs_list PySem.F.slot_list_append PySem.F.type_list_append b7 (pv 8) (aa (aO aX (by rfl) aQ bM (aa (c0 rfl bk_widened_1 (cF (pv 7)) (fun _ _ _ _=>(az (i:=0) bk_widened_1.nd rfl (Or.inl rfl))) (fun _ _ _ _=>(aN (qZ K) (pv 1) (pv 0) (fun _ _=>rfl)))) af)) af))))))
   (hV (x6 (CF (br (PEW.mk (pv 4)) (br (PEW.mk (aO aX (by rfl) aQ bM (aa (pv 8) af))) (br (PEW.mk (aN aM (pv 5) ao (fun _ _=>rfl))) pU))))))))))))) ?_
 refine ⟨_,rfl,_,rfl,_,_,rfl,rfl,b,many+1,rfl,by omega,by omega,nb _ (Nat.le_refl _),?_⟩
 refine ⟨_,rfl,_,_,rfl,rfl,_,rfl,nO (fun z=>by omega) (fun _=>?_)⟩
 refine ⟨_,rfl,m,r,g,rows.length,b^many,rows,signs,rfl,M,R,ls,⟨n0,n1⟩,pw many (by omega),fun m1 r1 g1 rows1 signs1 H1 s1 M1 L1=>?_⟩
 have few:=L1.few R n0
 obtain ⟨ras1,hr1,hA1⟩:=M1.rows
 refine ⟨_,rfl,_,rfl,b,at_,rfl,by omega,by omega,nb at_ (by omega),?_⟩
 refine ⟨_,rfl,_,rfl,by omega,by omega,?_⟩
 refine jx (fun D i ys H'=>Same H1 H'/\ys=((List.range i).map fun f=>((nar (b^at_) b f:Nat):Int)).map V.int) (fun D hD=>⟨aj hD _,rfl⟩) ?_ ?_
 ·rintro D i ys H2 Q' hD hi hy ⟨s2,rfl⟩ k'
  rw [Int.toNat_natCast] at hi
  refine ⟨_,rfl,_,rfl,_,rfl,i,b,b^at_,by rw [Int.zero_add]; rfl,⟨bp,pw at_ (by omega)⟩,⟨by omega,bb⟩,by omega,k' _ _ hy (ax (by rw [lm_,lm_,List.length_range]; omega)) ⟨aw s2 hD,?_⟩⟩
  rw [List.range_succ,List.map_append,List.map_append]
  rfl
 rintro N ys H2 hN0 hN ⟨s2,rfl⟩
 rw [Int.toNat_natCast] at hN
 refine ⟨(by show 0<=sizeLine; decide),fun RR hRR=>?_⟩
 have sR:=aj hRR (HO.lst [])
 have fRR:H1 RR=none:=s2.free hRR
 have nNR:N≠RR:=au hN hRR
 try dsimp only [bW,cU,List.set]
 refine dj (t:=pT _ _ _) (fun σ' H'=>∃ (as:List Addr) (v9:OV),σ'=[some (.ref m),some (.int b),some (.int many),some (.int at_),some (.int ((b^(many+1):Nat):Int)),some (.ref m1),some (.int ((b^at_:Nat):Int)),some (.ref N),some (.ref RR),v9]/\Same H1 H'/\H' RR=some (.lst (as.map V.ref))/\RowsAt H' as (kD (nar (b^at_) b) (b^(many+1)) rows1)) ?_ (fun D' nxt=>?_)
 rotate_left
 ·have s12:=s2.trans sR
  refine ⟨_,rfl,m1,_,_,_,rfl,rfl,qT_ (s12 _ _ M1.tup),rfl,r1,rfl,⟨_,qT_ (s12 _ _ hr1)⟩,kM (K:=K) (xs:=ras1.map V.ref) (fun i σ' H'=>∃ (as:List Addr) (v9:OV),σ'=[some (.ref m),some (.int b),some (.int many),some (.int at_),some (.int ((b^(many+1):Nat):Int)),some (.ref m1),some (.int ((b^at_:Nat):Int)),some (.ref N),some (.ref RR),v9]/\Same H1 H'/\H' N=some (.lst (((List.range (b^(many+1))).map fun f=>((nar (b^at_) b f:Nat):Int)).map V.int))/\H' RR=some (.lst (as.map V.ref))/\RowsAt H' as (kD (nar (b^at_) b) (b^(many+1)) (rows1.take i)))
   ⟨[],none,rfl,s12,sR _ _ hN,ae,.nil⟩ (fun i σ' H' _ ⟨_,_,_,e,_⟩=>qT_ (e _ _ hr1)) ?_ ?_⟩
  ·rintro i y σ' H3 hi ⟨as,v9,rfl,s3,hN3,hR3,A3⟩
   have il:i<rows1.length:=by
    have:=(gi_ hi).1
    rw [lm_,hA1.length] at this
    exact this
   obtain ⟨ra,e1,e2⟩:=hA1.get il
   have ey:y=.ref ra:=by rw [List.getElem?_map,e1] at hi; exact (Option.some.inj hi).symm
   subst ey
   have lr:rows1[i].length=b^many:=L1.ok.row _ (List.getElem_mem il)
   have las:as.length<=i:=by rw [A3.length,kE,List.length_take]; omega
   refine ⟨_,rfl,.inl ⟨rfl,_,qL_ hR3⟩,_,rfl,N,rfl,⟨_,qL_ hN3⟩,?_⟩
   refine fc (K:=K) (xs:=((List.range (b^(many+1))).map fun f=>((nar (b^at_) b f:Nat):Int)).map V.int) (fun D j ys H'=>Same H3 H'/\ys=((List.range j).map fun f=>rows1[i].getD (nar (b^at_) b f) 0).map V.int) (fun D hD=>⟨aj hD _,rfl⟩) (fun D j ys H' _ p=>qL_ (p.1 _ _ hN3)) ?_ ?_
   ·rintro D j z ys H4 Q' hD hj hy ⟨s4,rfl⟩ k'
    obtain ⟨z,rfl,hz⟩:=bz hj
    have jl:j<b^(many+1):=by
     have:=(gi_ hz).1
     rw [lm_,List.length_range] at this
     exact this
    have ez:z=((nar (b^at_) b j:Nat):Int):=by
     rw [List.getElem?_map,List.getElem?_range jl] at hz
     exact (Option.some.inj hz).symm
    subst ez
    have nl:nar (b^at_) b j<b^many:=by rw [<- q2]; exact yD bp (by omega) (by rw [q1]; exact jl)
    have:=pw (many+1) (Nat.le_refl _)
    refine ⟨_,rfl,_,rfl,ra,_,_,_,rfl,rfl,qT_ (s4 _ _ (s3 _ _ e2)),bS (by omega) (by omega),k' _ _ hy (ax (by rw [lm_,lm_,List.length_range]; omega)) ⟨aw s4 hD,?_⟩⟩
    rw [List.range_succ,List.map_append,List.map_append,Int.toNat_natCast]
    rfl
   ·rintro D ys H4 hD hy ⟨s4,rfl⟩
    rw [lm_,lm_,List.length_range] at hy
    refine ⟨D,_,rfl,.inl ⟨qL_ hy,fun t ht=>?_⟩⟩
    have hR4:=s4 _ _ hR3
    have nR:RR≠t:=au hR4 ht
    have st:=aj ht (HO.tup (((List.range (b^(many+1))).map fun f=>rows1[i].getD (nar (b^at_) b f) 0).map V.int))
    refine ⟨RR,_,_,rfl,rfl,st _ _ hR4,ax (by rw [lm_]; omega),?_⟩
    have s34:=s4.trans st
    have up:∀ c xs,H3 c=some (.tup xs)->(upd (upd H4 t (.tup (((List.range (b^(many+1))).map fun f=>rows1[i].getD (nar (b^at_) b f) 0).map V.int))) RR (.lst (as.map V.ref++[V.ref t]))) c=some (.tup xs):=fun c xs e=>by
     have e4:=s34 _ _ e
     rw [ah (aE e4 (st _ _ hR4) (by intro z; cases z))]
     exact e4
    refine ⟨as++[t],_,rfl,aw (s3.trans s34) fRR,by rw [ah nNR]; exact s34 _ _ hN3,by rw [ae,List.map_append]; rfl,?_⟩
    rw [List.take_add_one,List.getElem?_eq_getElem il]
    unfold kD
    rw [List.map_append]
    exact RowsAt.snoc (A3.same up) (by rw [ah (Ne.symm nR),ae])
  ·rintro σ' H3 ⟨as,v9,rfl,s3,hN3,hR3,A3⟩
   rw [lm_,hA1.length,List.take_length] at A3
   exact nxt _ _ ⟨as,v9,rfl,s3,hR3,A3⟩
 rintro σ' H3 ⟨as,v9,rfl,s3,hR3,A3⟩
 refine ⟨_,rfl,_,rfl,RR,_,rfl,.inl ⟨qL_ hR3,fun rt hrt=>?_⟩⟩
 have s4:=aj hrt (HO.tup (as.map V.ref))
 refine ⟨_,rfl,m1,_,_,_,rfl,rfl,qT_ (s4 _ _ (s3 _ _ M1.tup)),rfl,(by show 3<=sizeLine; decide),fun m' hm'=>?_⟩
 have s5:=aj hm' (HO.tup [V.int ((b^(many+1):Nat):Int),V.ref rt,V.ref g1])
 have s45:=s4.trans s5
 exact k m' rt g1 rows1 signs1 _ (s1.trans (s3.trans s45)) ⟨ae,⟨as,s5 _ _ ae,A3.same fun c xs e=>s45 _ _ e⟩,s45 _ _ (s3 _ _ M1.sgn)⟩ L1
end
def zV (K:PySem.W.Frag):Sp:=fun vs H Q _=>∃ (a:Addr) (k:Int) (ns:LI),vs=[.ref a,.int k]/\SqL K H a (ns.map V.int)/\ns.length<=63/\0<=k/\k<1000000 /\
 ∀ v:Int,0<=v->v<2147483399->Q (.int v) H
section
variable {P:Program} {w:World} {K:PySem.W.Frag} {mg:Str->Option Value} {base:Heap} {f:Addr} {fd:FuncData} {dV:Value}
theorem sc__law_number:FnScope ["_law_script","_law_k","_law_number_here"] ["_law_script","_law_k"] (ak cK):=⟨rfl,rfl,rfl,by decide +kernel,rfl,by decide +kernel,by decide +kernel⟩
theorem Eg (F:FunD K "_law_number" "_law_number" cK dV f fd) (aY:mg "len" = none):FnOk P w K mg base CX0 1 f fd ["_law_script","_law_k"] (zV K):=by
 refine F.ok sc__law_number (fun vs H Q E h=>?_) (fun cdv A outer s H vs Q E hr h=>?_)
 ·obtain ⟨a,k,ns,rfl,_⟩:=h
  rfl
 obtain ⟨a,k,ns,rfl,hS,h63,h0,h1,q⟩:=h
 have hl:(ns.map V.int).length=ns.length:=List.length_map _
 refine ⟨_,(ar (cJ (bC zN (pv 1) (aB aF (by rfl) aY bD (aa (pv 0) af)) (bJ _)) (av (aU (aS cE (aN cX (pv 0) (pv 1) (fun _ _=>rfl)) ao))) bA)
   (ar (ay (i:=2) sc__law_number.nd rfl (Or.inl rfl) (aS dH (aS dH (aS dI (aS dI ao (pv 1)) (pv 1)) (aS dI ao (pv 1))) ao))
   (ar (cJ (bC zM (aB aF (by rfl) aY bD (aa (pv 0) af)) ao (bJ _)) (av (ay (i:=2) sc__law_number.nd rfl (Or.inl rfl) (aS dI (pv 2) (aS dH (aS cE (aN cX (pv 0) (aS cE (pv 1) (aB aF (by rfl) aY bD (aa (pv 0) af))) (fun _ _=>rfl)) ao) ao)))) bA)
   (av (aU (aS cE (aS dI (pv 2) ao) ao)))))),?_⟩
 have fin:∀ c:Int,Q (.int (c*40692%2147483399)) H:=fun c=>by
  have r:=ft (a:=c*40692) (b:=2147483399) (by decide)
  exact q _ r.1 r.2
 refine ⟨_,rfl,_,rfl,a,_,rfl,.inl hS,_,_,rfl,rfl,_,rfl,nO (fun c=>?_) (fun c=>?_)⟩
 ·rw [hl] at c
  have r:=ft (a:=ns.getD k.toNat 0) (b:=1000000007) (by decide)
  exact ⟨_,rfl,_,rfl,a,_,_,_,rfl,rfl,hS,bS h0 c,_,_,rfl,rfl,(by show (0:Int)<1000000007; decide),q _ r.1 (by omega)⟩
 refine ⟨_,rfl,_,_,rfl,rfl,.inl ⟨by decide,by decide⟩,_,rfl,_,_,rfl,rfl,.inr ⟨by omega,by omega⟩,_,rfl,_,_,rfl,rfl,.inl ⟨by decide,by decide⟩,_,_,rfl,rfl,_,_,rfl,rfl,?_⟩
 refine ⟨_,rfl,a,_,rfl,.inl hS,_,_,rfl,rfl,_,rfl,?_⟩
 refine nO (fun c=>?_) (fun c=>?_)
 ·have c':(0:Int)<(((ns.map V.int).length:Nat):Int):=c
  have m0:=Int.emod_nonneg k (show (((ns.map V.int).length:Nat):Int)≠0 by omega)
  have m1:=Int.emod_lt_of_pos k c'
  have m2:=ft (a:=ns.getD (k%(((ns.map V.int).length:Nat):Int)).toNat 0) (b:=65521) (by decide)
  refine ⟨_,rfl,_,rfl,_,rfl,_,rfl,a,_,rfl,.inl hS,_,_,rfl,rfl,c',a,_,_,_,rfl,rfl,hS,bS m0 (by rw [<- hl]; exact m1),_,_,rfl,rfl,(by show (0:Int)<65521; decide),_,_,rfl,rfl,_,_,rfl,rfl,.inr ⟨by omega,by omega⟩,?_⟩
  exact ⟨_,rfl,_,_,rfl,rfl,.inr ⟨by decide,by decide⟩,_,_,rfl,rfl,(by show (0:Int)<2147483399; decide),fin _⟩
 ·exact ⟨_,rfl,_,_,rfl,rfl,.inr ⟨by decide,by decide⟩,_,_,rfl,rfl,(by show (0:Int)<2147483399; decide),fin _⟩
end
def vA (way:Int) (b n:Nat):Prop:=2<=b/\n<=9/\b^n<=512/\b<2^64/\(way≠2->b^(n+1)<=1000)/\(way=2->1000<b^(n+1)/\(b:Int)^(n+1)<NB)
def tW:Sp:=fun vs H Q _=>∃ way nu:Int,vs=[.int way,.int nu]/\(0<=way/\way<=2)/\(0<=nu/\nu<2147483399)/\∀ (t:Addr) (H':Hp) (b n:Nat),Same H H'->H' t=some (.tup [.int b,.int n])->vA way b n->Q (.ref t) H'
def wL:Sp:=fun vs H Q _=>∃ n:Int,vs=[.int n]/\0<=n/\∀ v:Int,0<=v->v<1000000->Q (.int v) H
def rB:Sp:=fun vs H Q _=>∃ (b:Int) (n:Nat),vs=[.int b,.int n]/\(0<=b/\b<2^64)/\n<=1000/\Q (.int (b^n)) H
def m8:Sp:=fun vs H Q _=>∃ f B at_:Nat,vs=[.int f,.int B,.int at_]/\(0<B/\B<=1000)/\at_<=1000/\B^at_<=1000/\f<=1000/\Q (.int ((nar (B^at_) B f:Nat):Int)) H
def wJ (K:PySem.W.Frag):Sp:=fun vs H Q _=>∃ (a:Addr) (st:Int) (many wide:Nat) (xs:LI),vs=[.ref a,.int st,.int wide,.int many]/\SqL K H a (xs.map V.int)/\xs.length<=63/\(0<=st/\st<100)/\(1<=many/\many<=10)/\(1<=wide/\wide<=1000) /\
 ∀ (m r g:Addr) (H':Hp) (rows:LL) (signs:LI),Same H H'->MachAt H' m r g wide rows signs->RowsOk many wide rows->signs.length=many->Q (.ref m) H'
theorem tK {way:Int} {rows:LL} (h:∀ r∈rows,∃ b n:Nat,r=[(b:Int),(n:Int)]/\vA way b n) {r:LI} (hr:r∈rows):∃ b n:Nat,r.map V.int=[V.int b,V.int n]/\vA way b n:=by
 obtain ⟨b,n,rfl,ok⟩:=h r hr
 exact ⟨b,n,rfl,ok⟩
section
variable {P:Program} {w:World} {K:PySem.W.Frag} {mg:Str->Option Value} {base:Heap} {f:Addr} {fd:FuncData} {dV:Value}
theorem wD:FnScope ["_law_number_here"] ["_law_number_here"] (ak dS):=⟨rfl,rfl,rfl,by decide +kernel,rfl,by decide +kernel,by decide +kernel⟩
theorem sc__law_machine:FnScope ["_law_script","_law_start","_law_wide_here","_law_many","_law_rows","_law_q","_law_at","_law_signs"] ["_law_script","_law_start","_law_wide_here","_law_many"] (ak bO):=⟨rfl,rfl,rfl,by decide +kernel,rfl,by decide +kernel,by decide +kernel⟩
theorem bk__law_machine_0:BlkScope ["_law_script","_law_start","_law_wide_here","_law_many","_law_rows","_law_q","_law_at","_law_signs"] (ak bO) ["_law_f","_law_many","_law_q","_law_script","_law_start","_law_wide_here"] [none,some 3,some 5,some 0,some 1,some 2] { kind:=ScopeKind.function,names:=[(".0",NameKind.local),("_law_f",NameKind.local),("_law_number",NameKind.globalImplicit),("_law_many",NameKind.free),("_law_q",NameKind.free),("_law_script",NameKind.free),("_law_start",NameKind.free),("_law_wide_here",NameKind.free)],isGenerator:=false,isCoroutine:=false,more:=[] }:=⟨rfl,by decide +kernel,by decide +kernel,by decide +kernel,by decide +kernel,rfl,by decide +kernel⟩
theorem bk__law_machine_1:BlkScope ["_law_script","_law_start","_law_wide_here","_law_many","_law_rows","_law_q","_law_at","_law_signs"] (ak bO) ["_law_q","_law_at","_law_script"] [none,some 6,some 0] { kind:=ScopeKind.function,names:=[(".0",NameKind.local),("_law_q",NameKind.local),("_law_sign",NameKind.globalImplicit),("_law_number",NameKind.globalImplicit),("_law_at",NameKind.free),("_law_script",NameKind.free)],isGenerator:=false,isCoroutine:=false,more:=[] }:=⟨rfl,by decide +kernel,by decide +kernel,by decide +kernel,by decide +kernel,rfl,by decide +kernel⟩
theorem uQ:FnScope ["_law_way","_law_number_here"] ["_law_way","_law_number_here"] (ak c6):=⟨rfl,rfl,rfl,by decide +kernel,rfl,by decide +kernel,by decide +kernel⟩
theorem sc__law_wide:FnScope ["_law_base","_law_many","_law_wide_here","_law_k"] ["_law_base","_law_many"] (ak dU):=⟨rfl,rfl,rfl,by decide +kernel,rfl,by decide +kernel,by decide +kernel⟩
theorem sc__law_without:FnScope ["_law_figure","_law_base","_law_at","_law_low"] ["_law_figure","_law_base","_law_at"] (ak cu):=⟨rfl,rfl,rfl,by decide +kernel,rfl,by decide +kernel,by decide +kernel⟩
theorem BQ (F:FunD K "_law_sign" "_law_sign" dS dV f fd):FnOk P w K mg base CX0 1 f fd ["_law_number_here"] wL:=by
 refine F.ok wD (fun vs H Q E h=>?_) (fun cdv A outer s H vs Q E hr h=>?_)
 ·obtain ⟨n,rfl,_⟩:=h
  rfl
 obtain ⟨n,rfl,n0,q⟩:=h
 refine ⟨_,(ar (cJ (bC jU (aS cE (pv 0) ao) ao (bJ _)) (av (aU (aS cE (aS wm (pv 0) ao) ao))) bA)
   (av (aU (aS cE (aS cE (pv 0) ao) ao)))),?_⟩
 refine ⟨_,rfl,_,_,rfl,rfl,(by show (0:Int)<5; decide),rfl,_,rfl,ur (fun _=>?_) (fun _=>?_)⟩
 ·have md:=ft (a:=n / 5) (b:=1000000) (by decide)
  exact ⟨_,rfl,_,_,rfl,rfl,⟨by decide,by decide⟩,_,_,rfl,rfl,(by show (0:Int)<1000000; decide),q _ md.1 md.2⟩
 ·have md:=ft (a:=n%5) (b:=3) (by decide)
  exact ⟨_,rfl,_,_,rfl,rfl,(by show (0:Int)<5; decide),_,_,rfl,rfl,(by show (0:Int)<3; decide),q _ md.1 (by omega)⟩
theorem BS (F:FunD K "_law_wide" "_law_wide" dU dV f fd) (aW:mg "range" = none):FnOk P w K mg base CX0 1 f fd ["_law_base","_law_many"] rB:=by
 refine F.ok sc__law_wide (fun vs H Q E h=>?_) (fun cdv A outer s H vs Q E hr h=>?_)
 ·obtain ⟨b,n,rfl,_⟩:=h
  rfl
 obtain ⟨b,n,rfl,b0,hn,q⟩:=h
 refine ⟨_,(ar (ay (i:=2) sc__law_wide.nd rfl (Or.inl rfl) ao)
   (ar (bR PassesOwn.never rfl (cq rfl aW (aa (pv 1) af)) (az (i:=3) sc__law_wide.nd rfl (Or.inl rfl)) (av (ay (i:=2) sc__law_wide.nd rfl (Or.inl rfl) (aS dI (pv 2) (pv 0)))))
   (av (aU (pv 2))))),?_⟩
 refine ⟨_,rfl,(n:Int),rfl,by omega,by omega,fj (fun i σ' H'=>∃ v,σ'=[some (.int b),some (.int n),some (.int (b^i)),v]/\H'=H) ⟨none,by rw [Int.pow_zero]; rfl,rfl⟩ ?_ ?_⟩
 ·rintro i σ' H' hi ⟨v,rfl,rfl⟩
  exact ⟨_,rfl,_,rfl,_,_,rfl,rfl,.inr ⟨by omega,by omega⟩,some (.int (0+i)),by rw [Int.pow_succ]; rfl,rfl⟩
 ·rintro σ' H' ⟨v,rfl,rfl⟩
  rw [Int.toNat_natCast]
  exact ⟨_,rfl,q⟩
theorem BN (F:FunD K "_law_machine" "_law_machine" bO dV f fd) (bG:DefOk P w K mg base "_law_number" 1 ["_law_script","_law_k"] [] (zV K)) (jY:DefOk P w K mg base "_law_sign" 1 ["_law_number_here"] [] wL) (aW:mg "range" = none) (aQ:mg "tuple" = none) :
  FnOk P w K mg base CX0 2 f fd ["_law_script","_law_start","_law_wide_here","_law_many"] (wJ K):=by
 refine F.ok sc__law_machine (fun vs H Q E h=>?_) (fun cdv A outer s H vs Q E hr h=>?_)
 ·obtain ⟨a,st,many,wide,xs,rfl,_⟩:=h
  rfl
 obtain ⟨a,st,many,wide,xs,rfl,hS,h63,⟨st0,st1⟩,⟨m0,m1⟩,⟨w0,w1⟩,k⟩:=h
 refine ⟨_,(ar (ay (i:=4) sc__law_machine.nd rfl (Or.inl rfl) (eP af))
   (ar (bR PassesOwn.never rfl (cq rfl aW (aa (pv 3) af)) (az (i:=5) sc__law_machine.nd rfl (Or.inr rfl)) (av (bV (i8 PySem.F.plainAttrs_list PySem.F.slot_list_append PySem.F.type_list_append b7 (pv 4) (aa (aO aX (by rfl) aQ bM (aa (c0 rfl bk__law_machine_0 (cq rfl aW (aa (pv 2) af)) (fun _ _ _ _=>(az (i:=0) bk__law_machine_0.nd rfl (Or.inl rfl))) (fun _ _ _ _=>(aS cE (bX bG hr (aa (pv 3) (aa (aS dH (aS dH (pv 4) (aS dI (pv 2) (pv 5))) (pv 0)) af))) (pv 1)))) af)) af)))))
   (ar (ay (i:=6) sc__law_machine.nd rfl (Or.inr rfl) (aS dH (pv 1) (aS dI (pv 3) (pv 2))))
   (ar (gZ (i:=7) rfl sc__law_machine.nd rfl (Or.inl rfl) bk__law_machine_1 (cq rfl aW (aa (pv 3) af)) (fun _ _ _ _=>(az (i:=0) bk__law_machine_1.nd rfl (Or.inl rfl))) (fun _ _ _ _=>(bX jY hr (aa (bX bG hr (aa (pv 2) (aa (aS dH (pv 1) (pv 0)) af))) af))))
   (av (aU (bF (aa (pv 2) (aa (aO aX (by rfl) aQ bM (aa (pv 4) af)) (aa (aO aX (by rfl) aQ bM (aa (pv 7) af)) af)))))))))),?_⟩
 have prod:∀ i:Nat,i<=many->0<=((i:Int)*(wide:Int))/\((i:Int)*(wide:Int))<=10*1000:=fun i hi=>wb (by omega) (by omega) (by omega) (by omega)
 refine ⟨(by show 0<=sizeLine; decide),fun R hR=>?_⟩
 try dsimp only [bW]
 refine dj (t:=pT _ _ _) (fun σ' H'=>∃ (ras:List Addr) (rws:LL) (v:OV),σ'=[some (.ref a),some (.int st),some (.int wide),some (.int many),some (.ref R),v,none,none]/\Same H H'/\H' R=some (.lst (ras.map V.ref))/\RowsAt H' ras rws/\RowsOk many wide rws) ?_ (fun D' nxt=>?_)
 rotate_left
 ·refine ⟨_,rfl,(many:Int),rfl,by omega,by omega,fj (fun i σ' H'=>∃ (ras:List Addr) (rws:LL) (v:OV),σ'=[some (.ref a),some (.int st),some (.int wide),some (.int many),some (.ref R),v,none,none]/\Same H H'/\H' R=some (.lst (ras.map V.ref))/\RowsAt H' ras rws/\rws.length=i/\(∀ r∈rws,r.length=wide)/\∀ r∈rws,∀ v∈r,0<=v/\v<(many:Int))
   ⟨[],[],none,rfl,aj hR _,ae,.nil,rfl,(fun r h=>by cases h),(fun r h=>by cases h)⟩ ?_ ?_⟩
  ·rintro i σ' H3 hi ⟨ras,rws,v,rfl,hs3,hR3,hA3,hn3,hl3,hv3⟩
   rw [Int.toNat_natCast] at hi
   have pi:=prod i (by omega)
   have z0:(0:Int)+(i:Int)=(i:Int):=Int.zero_add _
   rw [z0]
   refine ⟨_,rfl,.inl ⟨rfl,_,qL_ hR3⟩,_,rfl,(wide:Int),rfl,by omega,by omega,?_⟩
   refine jx (fun D j zs H4=>Same H3 H4/\∃ row:LI,zs=row.map V.int/\row.length=j/\∀ v∈row,0<=v/\v<(many:Int)) (fun D hD=>⟨aj hD _,[],rfl,rfl,(fun v h=>by cases h)⟩) ?_ ?_
   ·rintro D j zs H4 Q' hD hj hz ⟨hs4,row,rfl,hl4,hv4⟩ k'
    refine ⟨_,rfl,_,rfl,_,rfl,_,rfl,_,_,rfl,rfl,.inl ⟨by omega,by omega⟩,_,_,rfl,rfl,_,rfl,_,_,rfl,rfl,a,_,xs,rfl,(hs3.trans hs4).seq hS,h63,by omega,by omega,fun x x0 x1=>?_⟩
    have md:=ft (a:=x) (b:=(many:Int)) (by omega)
    refine ⟨_,rfl,_,_,rfl,rfl,(by omega),k' _ _ hz (ax (by rw [lm_]; omega)) ⟨aw hs4 hD,row++[_],by rw [List.map_append]; rfl,by simp [hl4],fun v hv=>?_⟩⟩
    rcases ma_.mp hv with z | z
    ·exact hv4 v z
    ·rw [List.mem_singleton.mp z]; exact md
   rintro D zs H4 hD hz ⟨hs4,row,rfl,hl4,hv4⟩
   rw [Int.toNat_natCast] at hl4
   refine ⟨D,_,rfl,.inl ⟨qL_ hz,fun t ht=>?_⟩⟩
   have hR4:=hs4 _ _ hR3
   have nR:R≠t:=au hR4 ht
   refine ⟨R,_,_,rfl,rfl,by rw [ah nR]; exact hR4,ax (by rw [lm_,hA3.length]; omega),?_⟩
   have sT:∀ b xs,H3 b=some (.tup xs)->(upd (upd H4 t (.tup (row.map V.int))) R (.lst (ras.map V.ref++[V.ref t]))) b=some (.tup xs):=fun b xs e=>by
    have e4:=hs4 _ _ e
    rw [ah (aE e4 hR4 (by intro z; cases z)),ah (au e4 ht)]
    exact e4
   refine ⟨ras++[t],rws++[row],_,rfl,aw (aw (hs3.trans hs4) ((hs3.trans hs4).free ht)) hR,by rw [ae,List.map_append]; rfl,RowsAt.snoc (hA3.same sT) (by rw [ah (Ne.symm nR),ae]),by simp [hn3],?_,?_⟩
   ·intro r hr'
    rcases ma_.mp hr' with z | z
    ·exact hl3 r z
    ·rw [List.mem_singleton.mp z]; exact hl4
   ·intro r hr'
    rcases ma_.mp hr' with z | z
    ·exact hv3 r z
    ·rw [List.mem_singleton.mp z]; exact hv4
  ·rintro σ' H3 ⟨ras,rws,v,rfl,hs3,hR3,hA3,hn3,hl3,hv3⟩
   rw [Int.toNat_natCast] at hn3
   exact nxt _ _ ⟨ras,rws,v,rfl,hs3,hR3,hA3,⟨hn3,hl3,hv3⟩⟩
 rintro σ' H3 ⟨ras,rws,v,rfl,hs3,hR3,hA3,RO⟩
 have pm:=prod many (Nat.le_refl _)
 refine ⟨_,rfl,_,rfl,_,rfl,_,_,rfl,rfl,.inl ⟨by omega,by omega⟩,_,_,rfl,rfl,?_⟩
 refine ⟨_,rfl,(many:Int),rfl,by omega,by omega,?_⟩
 refine jx (fun D j ys H4=>Same H3 H4/\∃ sg:LI,ys=sg.map V.int/\sg.length=j) (fun D hD=>⟨aj hD _,[],rfl,rfl⟩) ?_ ?_
 ·rintro D j ys H4 Q' hD hj hy ⟨hs4,sg,rfl,hl4⟩ k'
  rw [Int.toNat_natCast] at hj
  refine ⟨_,rfl,_,rfl,_,rfl,_,_,rfl,rfl,a,_,xs,rfl,(hs3.trans hs4).seq hS,h63,by omega,by omega,fun x x0 x1=>⟨x,rfl,x0,fun u u0 u1=>k' _ _ hy (ax (by rw [lm_]; omega)) ⟨aw hs4 hD,sg++[u],by rw [List.map_append]; rfl,by simp [hl4]⟩⟩⟩
 rintro G ys H4 hG0 hG ⟨hs4,sg,rfl,hl4⟩
 rw [Int.toNat_natCast] at hl4
 refine ⟨_,rfl,_,rfl,R,_,rfl,.inl ⟨qL_ (hs4 _ _ hR3),fun rt hrt=>?_⟩⟩
 have s5:=aj hrt (HO.tup (ras.map V.ref))
 refine ⟨_,rfl,G,_,rfl,.inl ⟨qL_ (s5 _ _ hG),fun gt hgt=>?_⟩⟩
 have s6:=aj hgt (HO.tup (sg.map V.int))
 refine ⟨(by show 3<=sizeLine; decide),fun m hm=>?_⟩
 have s7:=aj hm (HO.tup [V.int wide,V.ref rt,V.ref gt])
 exact k m rt gt _ rws sg (hs3.trans (hs4.trans (s5.trans (s6.trans s7)))) ⟨ae,⟨ras,(s6.trans s7) _ _ ae,hA3.same fun b zs e=>(hs4.trans (s5.trans (s6.trans s7))) _ _ e⟩,s7 _ _ ae⟩ RO hl4
theorem xE (F:FunD K "_law_without" "_law_without" cu dV f fd) (dM:DefOk P w K mg base "_law_wide" 1 ["_law_base","_law_many"] [] rB):FnOk P w K mg base CX0 2 f fd ["_law_figure","_law_base","_law_at"] m8:=by
 refine F.ok sc__law_without (fun vs H Q E h=>?_) (fun cdv A outer s H vs Q E hr h=>?_)
 ·obtain ⟨f,B,at_,rfl,_⟩:=h
  rfl
 obtain ⟨f,B,at_,rfl,⟨B0,B1⟩,a1,p1,f1,q⟩:=h
 have bp:0<B^at_:=Nat.pow_pos B0
 have ep:(B:Int)^at_=((B^at_:Nat):Int):=by push_cast; rfl
 obtain ⟨b,eb⟩:∃ b,B^at_=b:=⟨_,rfl⟩
 rw [eb] at ep p1 bp q
 have bB:=wb (a:=(b:Int)) (b:=(B:Int)) (m:=1000) (n:=1000) (by omega) (by omega) (by omega) (by omega)
 have bBp:(0:Int)<(b:Int)*(B:Int):=Int.mul_pos (by omega) (by omega)
 refine ⟨_,(ar (ay (i:=3) sc__law_without.nd rfl (Or.inl rfl) (bX dM hr (aa (pv 1) (aa (pv 2) af))))
   (av (aU (aS dH (aS cE (pv 0) (pv 3)) (aS dI (aS wm (pv 0) (aS dI (pv 3) (pv 1))) (pv 3)))))),?_⟩
 refine ⟨_,rfl,_,rfl,(B:Int),at_,rfl,⟨by omega,by omega⟩,a1,?_⟩
 try dsimp only [bW,cU,List.set]
 rw [ep]
 refine ⟨_,rfl,_,rfl,_,_,rfl,rfl,by omega,_,rfl,_,rfl,_,rfl,_,_,rfl,rfl,.inl ⟨by omega,by omega⟩,_,_,rfl,rfl,⟨bBp,by omega⟩,_,rfl,_,_,rfl,rfl,.inr ⟨by omega,by omega⟩,_,_,rfl,rfl,?_⟩
 have e:(f:Int)%(b:Int)+((f:Int) / ((b:Int)*(B:Int)))*(b:Int)=((nar b B f:Nat):Int):=by
  unfold nar
  rw [Int.mul_comm ((f:Int) / ((b:Int)*(B:Int)))]
  push_cast
  rfl
 show Q (V.int ((f:Int)%(b:Int)+((f:Int) / ((b:Int)*(B:Int)))*(b:Int))) H
 rw [e]
 exact q
theorem AF (F:FunD K "_law_sides" "_law_sides" c6 dV f fd):FnOk P w K mg base CX0 1 f fd ["_law_way","_law_number_here"] tW:=by
 refine F.ok uQ (fun vs H Q E h=>?_) (fun cdv A outer s H vs Q E hr h=>?_)
 ·obtain ⟨way,nu,rfl,_⟩:=h
  rfl
 obtain ⟨way,nu,rfl,⟨y0,y1⟩,⟨u0,u1⟩,k⟩:=h
 refine l6 (aG (EH (PTW.mk (bC jU (pv 0) ao (bJ _))) (hV (x6 (EI cX (CD (br (PEW.mk (bF (aa ao (aa ao af)))) (br (PEW.mk (bF (aa ao (aa ao af)))) (br (PEW.mk (bF (aa ao (aa ao af)))) (br (PEW.mk (bF (aa ao (aa ao af)))) pU))))) (PEW.mk (aS cE (pv 1) ao)) (fun _ _=>rfl)))) zk)
   (aG (EH (PTW.mk (PW.pt (Cm (bC jU (pv 0) ao (bJ _)) (zS (bC jU (aS cE (pv 1) ao) ao (bJ _)))))) (hV (x6 (CF (br (PEW.mk (aS dH ao (aS dI (pv 1) (pv 1)))) (br (PEW.mk ao) pU))))) zk)
   (aG (EH (PTW.mk (bC jU (pv 0) ao (bJ _))) (hV (x6 (EI cX (CD (br (PEW.mk (bF (aa ao (aa ao af)))) (br (PEW.mk (bF (aa ao (aa ao af)))) (br (PEW.mk (bF (aa ao (aa ao af)))) (br (PEW.mk (bF (aa ao (aa ao af)))) (br (PEW.mk (bF (aa ao (aa ao af)))) (br (PEW.mk (bF (aa ao (aa ao af)))) (br (PEW.mk (bF (aa ao (aa ao af)))) pU)))))))) (PEW.mk (aS cE (pv 1) ao)) (fun _ _=>rfl)))) zk)
   (hV (x6 (EI cX (CD (br (PEW.mk (bF (aa ao (aa ao af)))) (br (PEW.mk (bF (aa ao (aa ao af)))) (br (PEW.mk (bF (aa ao (aa ao af)))) (br (PEW.mk (bF (aa ao (aa ao af)))) (br (PEW.mk (bF (aa ao (aa ao af)))) (br (PEW.mk (bF (aa ao (aa ao af)))) (br (PEW.mk (bF (aa ao (aa ao af)))) (br (PEW.mk (bF (aa ao (aa ao af)))) pU))))))))) (PEW.mk (aS cE (pv 1) ao)) (fun _ _=>rfl))))))) ?_
 have two:2<=sizeLine:=by decide
 refine ⟨_,rfl,rfl,_,rfl,ur (fun c1=>?_) (fun c1=>?_)⟩
 ·have hway:way≠2:=by omega
  refine ⟨two,fun t0 h0=>?_⟩
  have s0:=aj h0 (HO.tup [V.int 1000,V.int 0])
  have A0:=RowsAt.snoc (.nil:RowsAt (upd H t0 (HO.tup [V.int 1000,V.int 0])) [] []) (r:=[1000,0]) (a:=t0) ae
  refine ⟨two,fun t1 h1=>?_⟩
  have s1:=aj h1 (HO.tup [V.int 31,V.int 1])
  have A1:=RowsAt.snoc (A0.same fun c xs e=>s1 _ _ e) (r:=[31,1]) (a:=t1) ae
  refine ⟨two,fun t2 h2=>?_⟩
  have s2:=aj h2 (HO.tup [V.int 10,V.int 2])
  have A2:=RowsAt.snoc (A1.same fun c xs e=>s2 _ _ e) (r:=[10,2]) (a:=t2) ae
  refine ⟨two,fun t3 h3=>?_⟩
  have s3:=aj h3 (HO.tup [V.int 999,V.int 0])
  have A3:=RowsAt.snoc (A2.same fun c xs e=>s3 _ _ e) (r:=[999,0]) (a:=t3) ae
  refine ⟨(by show 4<=sizeLine; decide),fun l hl=>?_⟩
  have sl:=aj hl (HO.lst [V.ref t0,V.ref t1,V.ref t2,V.ref t3])
  have A:RowsAt _ [t0,t1,t2,t3] [[1000,0],[31,1],[10,2],[999,0]]:=A3.same fun c xs e=>sl _ _ e
  have S:=s0.trans (s1.trans (s2.trans (s3.trans sl)))
  have md:=ft (a:=nu) (b:=4) (by decide)
  obtain ⟨ra,e1,e2⟩:=A.get (i:=(nu%4).toNat) (by show (nu%4).toNat<4; omega)
  obtain ⟨b,n,er,ok⟩:=tK (way:=way) (rows:=[[1000,0],[31,1],[10,2],[999,0]]) (by
   intro r hr
   simp only [List.mem_cons,List.not_mem_nil,or_false] at hr
   rcases hr with rfl | rfl | rfl | rfl
   ·exact ⟨1000,0,rfl,by decide,by decide,by decide,by decide,fun _=>by decide,fun z=>absurd z hway⟩
   ·exact ⟨31,1,rfl,by decide,by decide,by decide,by decide,fun _=>by decide,fun z=>absurd z hway⟩
   ·exact ⟨10,2,rfl,by decide,by decide,by decide,by decide,fun _=>by decide,fun z=>absurd z hway⟩
   ·exact ⟨999,0,rfl,by decide,by decide,by decide,by decide,fun _=>by decide,fun z=>absurd z hway⟩) (List.getElem_mem (by show (nu%4).toNat<4; omega))
  rw [er] at e2
  exact ⟨_,rfl,_,_,rfl,rfl,(by show (0:Int)<4; decide),l,_,_,_,rfl,rfl,qL_ ae,d6 md.1 e1,k ra _ b n S e2 ok⟩
 refine ⟨_,rfl,rfl,_,rfl,ur (fun c2=>?_) (fun c2=>?_)⟩
 ·refine ⟨_,rfl,_,_,rfl,rfl,(by show (0:Int)<8; decide),rfl,_,rfl,ur (fun c3=>?_) (fun c3=>?_)⟩
  ·have nn:=wb (a:=nu) (b:=nu) (m:=2147483399) (n:=2147483399) u0 (by omega) u0 (by omega)
   refine ⟨_,rfl,_,rfl,_,_,rfl,rfl,.inl ⟨by omega,by omega⟩,_,_,rfl,rfl,two,fun t ht=>?_⟩
   obtain ⟨b,eb⟩:=fu (x:=1001+nu*nu) (by omega)
   have hb:(b:Int)<2^64:=by omega
   refine k t _ b 0 (aj ht _) (by rw [ae]; show some (HO.tup [V.int (1001+nu*nu),V.int 0])=_; rw [eb]; rfl) ⟨by omega,by decide,by rw [Nat.pow_zero]; decide,by omega,fun z=>absurd c2 z,fun _=>⟨by rw [Nat.zero_add,Nat.pow_one]; omega,?_⟩⟩
   rw [Nat.zero_add,Int.pow_succ,Int.pow_zero,Int.one_mul]
   exact Int.lt_trans hb (by decide +kernel)
  have ne7:nu%8≠7:=c3
  have hway:way=2:=c2
  refine ⟨_,rfl,rfl,_,rfl,ur (fun _=>?_) (fun z=>absurd c2 z)⟩
  refine ⟨two,fun t0 h0=>?_⟩
  have s0:=aj h0 (HO.tup [V.int 32,V.int 1])
  have A0:=RowsAt.snoc (.nil:RowsAt (upd H t0 (HO.tup [V.int 32,V.int 1])) [] []) (r:=[32,1]) (a:=t0) ae
  refine ⟨two,fun t1 h1=>?_⟩
  have s1:=aj h1 (HO.tup [V.int 11,V.int 2])
  have A1:=RowsAt.snoc (A0.same fun c xs e=>s1 _ _ e) (r:=[11,2]) (a:=t1) ae
  refine ⟨two,fun t2 h2=>?_⟩
  have s2:=aj h2 (HO.tup [V.int 6,V.int 3])
  have A2:=RowsAt.snoc (A1.same fun c xs e=>s2 _ _ e) (r:=[6,3]) (a:=t2) ae
  refine ⟨two,fun t3 h3=>?_⟩
  have s3:=aj h3 (HO.tup [V.int 4,V.int 4])
  have A3:=RowsAt.snoc (A2.same fun c xs e=>s3 _ _ e) (r:=[4,4]) (a:=t3) ae
  refine ⟨two,fun t4 h4=>?_⟩
  have s4:=aj h4 (HO.tup [V.int 2,V.int 9])
  have A4:=RowsAt.snoc (A3.same fun c xs e=>s4 _ _ e) (r:=[2,9]) (a:=t4) ae
  refine ⟨two,fun t5 h5=>?_⟩
  have s5:=aj h5 (HO.tup [V.int 1001,V.int 0])
  have A5:=RowsAt.snoc (A4.same fun c xs e=>s5 _ _ e) (r:=[1001,0]) (a:=t5) ae
  refine ⟨two,fun t6 h6=>?_⟩
  have s6:=aj h6 (HO.tup [V.int 1009,V.int 0])
  have A6:=RowsAt.snoc (A5.same fun c xs e=>s6 _ _ e) (r:=[1009,0]) (a:=t6) ae
  refine ⟨(by show 7<=sizeLine; decide),fun l hl=>?_⟩
  have sl:=aj hl (HO.lst [V.ref t0,V.ref t1,V.ref t2,V.ref t3,V.ref t4,V.ref t5,V.ref t6])
  have A:RowsAt _ [t0,t1,t2,t3,t4,t5,t6] [[32,1],[11,2],[6,3],[4,4],[2,9],[1001,0],[1009,0]]:=A6.same fun c xs e=>sl _ _ e
  have S:=s0.trans (s1.trans (s2.trans (s3.trans (s4.trans (s5.trans (s6.trans sl))))))
  have md:=ft (a:=nu) (b:=8) (by decide)
  obtain ⟨ra,e1,e2⟩:=A.get (i:=(nu%8).toNat) (by show (nu%8).toNat<7; omega)
  obtain ⟨b,n,er,ok⟩:=tK (way:=way) (rows:=[[32,1],[11,2],[6,3],[4,4],[2,9],[1001,0],[1009,0]]) (by
   intro r hr
   simp only [List.mem_cons,List.not_mem_nil,or_false] at hr
   rcases hr with rfl | rfl | rfl | rfl | rfl | rfl | rfl
   ·exact ⟨32,1,rfl,by decide,by decide,by decide,by decide,fun z=>absurd hway z,fun _=>⟨by decide,by decide +kernel⟩⟩
   ·exact ⟨11,2,rfl,by decide,by decide,by decide,by decide,fun z=>absurd hway z,fun _=>⟨by decide,by decide +kernel⟩⟩
   ·exact ⟨6,3,rfl,by decide,by decide,by decide,by decide,fun z=>absurd hway z,fun _=>⟨by decide,by decide +kernel⟩⟩
   ·exact ⟨4,4,rfl,by decide,by decide,by decide,by decide,fun z=>absurd hway z,fun _=>⟨by decide,by decide +kernel⟩⟩
   ·exact ⟨2,9,rfl,by decide,by decide,by decide,by decide,fun z=>absurd hway z,fun _=>⟨by decide,by decide +kernel⟩⟩
   ·exact ⟨1001,0,rfl,by decide,by decide,by decide,by decide,fun z=>absurd hway z,fun _=>⟨by decide,by decide +kernel⟩⟩
   ·exact ⟨1009,0,rfl,by decide,by decide,by decide,by decide,fun z=>absurd hway z,fun _=>⟨by decide,by decide +kernel⟩⟩) (List.getElem_mem (by show (nu%8).toNat<7; omega))
  rw [er] at e2
  exact ⟨_,rfl,_,_,rfl,rfl,(by show (0:Int)<8; decide),l,_,_,_,rfl,rfl,qL_ ae,d6 md.1 e1,k ra _ b n S e2 ok⟩
 refine lA ?_
 refine ⟨_,rfl,rfl,_,rfl,ur (fun z=>absurd z c2) (fun _=>?_)⟩
 have hway:way≠2:=c2
 refine ⟨two,fun t0 h0=>?_⟩
 have s0:=aj h0 (HO.tup [V.int 2,V.int 0])
 have A0:=RowsAt.snoc (.nil:RowsAt (upd H t0 (HO.tup [V.int 2,V.int 0])) [] []) (r:=[2,0]) (a:=t0) ae
 refine ⟨two,fun t1 h1=>?_⟩
 have s1:=aj h1 (HO.tup [V.int 2,V.int 1])
 have A1:=RowsAt.snoc (A0.same fun c xs e=>s1 _ _ e) (r:=[2,1]) (a:=t1) ae
 refine ⟨two,fun t2 h2=>?_⟩
 have s2:=aj h2 (HO.tup [V.int 2,V.int 2])
 have A2:=RowsAt.snoc (A1.same fun c xs e=>s2 _ _ e) (r:=[2,2]) (a:=t2) ae
 refine ⟨two,fun t3 h3=>?_⟩
 have s3:=aj h3 (HO.tup [V.int 3,V.int 0])
 have A3:=RowsAt.snoc (A2.same fun c xs e=>s3 _ _ e) (r:=[3,0]) (a:=t3) ae
 refine ⟨two,fun t4 h4=>?_⟩
 have s4:=aj h4 (HO.tup [V.int 3,V.int 1])
 have A4:=RowsAt.snoc (A3.same fun c xs e=>s4 _ _ e) (r:=[3,1]) (a:=t4) ae
 refine ⟨two,fun t5 h5=>?_⟩
 have s5:=aj h5 (HO.tup [V.int 5,V.int 1])
 have A5:=RowsAt.snoc (A4.same fun c xs e=>s5 _ _ e) (r:=[5,1]) (a:=t5) ae
 refine ⟨two,fun t6 h6=>?_⟩
 have s6:=aj h6 (HO.tup [V.int 10,V.int 0])
 have A6:=RowsAt.snoc (A5.same fun c xs e=>s6 _ _ e) (r:=[10,0]) (a:=t6) ae
 refine ⟨two,fun t7 h7=>?_⟩
 have s7:=aj h7 (HO.tup [V.int 2,V.int 3])
 have A7:=RowsAt.snoc (A6.same fun c xs e=>s7 _ _ e) (r:=[2,3]) (a:=t7) ae
 refine ⟨(by show 8<=sizeLine; decide),fun l hl=>?_⟩
 have sl:=aj hl (HO.lst [V.ref t0,V.ref t1,V.ref t2,V.ref t3,V.ref t4,V.ref t5,V.ref t6,V.ref t7])
 have A:RowsAt _ [t0,t1,t2,t3,t4,t5,t6,t7] [[2,0],[2,1],[2,2],[3,0],[3,1],[5,1],[10,0],[2,3]]:=A7.same fun c xs e=>sl _ _ e
 have S:=s0.trans (s1.trans (s2.trans (s3.trans (s4.trans (s5.trans (s6.trans (s7.trans sl)))))))
 have md:=ft (a:=nu) (b:=8) (by decide)
 obtain ⟨ra,e1,e2⟩:=A.get (i:=(nu%8).toNat) (by show (nu%8).toNat<8; omega)
 obtain ⟨b,n,er,ok⟩:=tK (way:=way) (rows:=[[2,0],[2,1],[2,2],[3,0],[3,1],[5,1],[10,0],[2,3]]) (by
  intro r hr
  simp only [List.mem_cons,List.not_mem_nil,or_false] at hr
  rcases hr with rfl | rfl | rfl | rfl | rfl | rfl | rfl | rfl
  ·exact ⟨2,0,rfl,by decide,by decide,by decide,by decide,fun _=>by decide,fun z=>absurd z hway⟩
  ·exact ⟨2,1,rfl,by decide,by decide,by decide,by decide,fun _=>by decide,fun z=>absurd z hway⟩
  ·exact ⟨2,2,rfl,by decide,by decide,by decide,by decide,fun _=>by decide,fun z=>absurd z hway⟩
  ·exact ⟨3,0,rfl,by decide,by decide,by decide,by decide,fun _=>by decide,fun z=>absurd z hway⟩
  ·exact ⟨3,1,rfl,by decide,by decide,by decide,by decide,fun _=>by decide,fun z=>absurd z hway⟩
  ·exact ⟨5,1,rfl,by decide,by decide,by decide,by decide,fun _=>by decide,fun z=>absurd z hway⟩
  ·exact ⟨10,0,rfl,by decide,by decide,by decide,by decide,fun _=>by decide,fun z=>absurd z hway⟩
  ·exact ⟨2,3,rfl,by decide,by decide,by decide,by decide,fun _=>by decide,fun z=>absurd z hway⟩) (List.getElem_mem (by show (nu%8).toNat<8; omega))
 rw [er] at e2
 exact ⟨_,rfl,_,_,rfl,rfl,(by show (0:Int)<8; decide),l,_,_,_,rfl,rfl,qL_ ae,d6 md.1 e1,k ra _ b n S e2 ok⟩
end
def pO:Sp:=fun vs H Q _=>∃ (m r g:Addr) (wide:Nat) (rows:LL) (signs:LI),vs=[.ref m,.int wide]/\MachAt H m r g wide rows signs/\RowsOk rows.length wide rows/\0<rows.length/\signs.length=rows.length/\Q (.bl true) H
def tT:Sp:=fun vs H Q _=>∃ (r:Addr) (ras:List Addr) (wide:Nat) (rows:LL),vs=[.ref r]/\H r=some (.tup (ras.map V.ref))/\RowsAt H ras rows/\RowsOk rows.length wide rows/\rows.length<=1000/\InOrder rows/\Q (.bl true) H
def tS:Sp:=fun vs H Q _=>∃ (l r:Addr) (ras:List Addr) (wide:Nat) (rows:LL) (a:LI),vs=[.ref l,.ref r]/\H l=some (.lst (a.map V.int))/\a.length=rows.length/\H r=some (.tup (ras.map V.ref))/\RowsAt H ras rows/\RowsOk rows.length wide rows/\rows.length<=1000/\wide<=1000 /\
 ∀ (l':Addr) (H':Hp) (b:LI),Same H H'->H' l'=some (.lst (b.map V.int))->Behind rows wide a b->Q (.ref l') H'
def pP:Sp:=fun vs H Q _=>∃ (r g:Addr) (ras:List Addr) (wide:Nat) (rows:LL) (signs:LI),vs=[.ref r,.ref g]/\H r=some (.tup (ras.map V.ref))/\RowsAt H ras rows/\RowsOk rows.length wide rows/\(0<rows.length/\rows.length<=1000)/\wide<=1000/\H g=some (.tup (signs.map V.int))/\signs.length=rows.length/\Apart wide rows signs /\
 ∀ H':Hp,Same H H'->Q (.bl true) H'
def kindOf (rows:LL) (a:LI) (q:Nat):NK:=(a.getD q 0,(rows.getD q []).map fun t=>sgn a t)
theorem C1 {rows:LL} {wide:Nat} {a:LI} (R:RowsOk rows.length wide rows) {i j:Nat} (hi:i<rows.length) (hj:j<rows.length):kindOf rows a i=kindOf rows a j↔a.getD i 0=a.getD j 0/\∀ f:Nat,f<wide->sgn a (stepI rows (i:Int) f)=sgn a (stepI rows (j:Int) f):=by
 have li:=R.row _ (List.getElem_mem hi)
 have lj:=R.row _ (List.getElem_mem hj)
 unfold kindOf
 rw [getD_at hi (d:=[]),getD_at hj (d:=[])]
 have st:∀ (q:Nat) (hq:q<rows.length) (f:Nat) (hf:f<rows[q].length),stepI rows (q:Int) (f:Int)=rows[q][f]:=fun q hq f hf=>by
  unfold stepI
  rw [Int.toNat_natCast,Int.toNat_natCast,getD_at hq,getD_at hf]
 constructor
 ·intro h
  refine ⟨congrArg Prod.fst h,fun f hf=>?_⟩
  have h2:=congrArg Prod.snd h
  have:=congrArg (fun l=>l[f]?) h2
  simp only [List.getElem?_map] at this
  rw [List.getElem?_eq_getElem (show f<rows[i].length by omega),List.getElem?_eq_getElem (show f<rows[j].length by omega)] at this
  rw [st i hi f (by omega),st j hj f (by omega)]
  exact Option.some.inj this
 ·rintro ⟨h1,h2⟩
  refine Prod.ext h1 (List.ext_getElem (by rw [lm_,lm_]; omega) fun f g1 g2=>?_)
  rw [lm_] at g1 g2
  rw [List.getElem_map,List.getElem_map]
  have:=h2 f (by omega)
  rw [st i hi f g1,st j hj f g2] at this
  exact this
theorem p5 (K:PySem.W.Frag):PySem.W.kitOne K (.type "int") (.type "int")=some true:=by with_unfolding_all rfl
theorem nU (K:PySem.W.Frag):PySem.W.kitOne K (.type "int") (.type "bool")=some false:=by with_unfolding_all rfl
def tX:Sp:=fun vs H Q _=>∃ z:Int,vs=[.int z]/\Q (.bl true) H
section
variable {P:Program} {w:World} {K:PySem.W.Frag} {mg:Str->Option Value} {base:Heap} {f:Addr} {fd:FuncData} {dV:Value}
theorem uR:FnScope ["_law_found"] ["_law_found"] (ak c7):=⟨rfl,rfl,rfl,by decide +kernel,rfl,by decide +kernel,by decide +kernel⟩
theorem sc__law_is_machine:FnScope ["_law_found","_law_wide_here","_law_row","_law_there","_law_sign_here"] ["_law_found","_law_wide_here"] (ak bQ):=⟨rfl,rfl,rfl,by decide +kernel,rfl,by decide +kernel,by decide +kernel⟩
theorem sc__law_in_order:FnScope ["_law_rows","_law_known","_law_q","_law_there"] ["_law_rows"] (ak cc):=⟨rfl,rfl,rfl,by decide +kernel,rfl,by decide +kernel,by decide +kernel⟩
theorem sc__law_marked:FnScope ["_law_marks","_law_rows","_law_kinds","_law_behind","_law_q","_law_kind"] ["_law_marks","_law_rows"] (ak cj):=⟨rfl,rfl,rfl,by decide +kernel,rfl,by decide +kernel,by decide +kernel⟩
theorem bk__law_marked_0:BlkScope ["_law_marks","_law_rows","_law_kinds","_law_behind","_law_q","_law_kind"] (ak cj) ["_law_there","_law_marks"] [none,some 0] { kind:=ScopeKind.function,names:=[(".0",NameKind.local),("_law_there",NameKind.local),("_law_marks",NameKind.free)],isGenerator:=false,isCoroutine:=false,more:=[] }:=⟨rfl,by decide +kernel,by decide +kernel,by decide +kernel,by decide +kernel,rfl,by decide +kernel⟩
theorem sc__law_parted:FnScope ["_law_rows","_law_signs","_law_marks","_law_turn","_law_behind"] ["_law_rows","_law_signs"] (ak cL):=⟨rfl,rfl,rfl,by decide +kernel,rfl,by decide +kernel,by decide +kernel⟩
theorem AA (F:FunD K "_law_whole" "_law_whole" c7 dV f fd) (aK:mg "isinstance" = none) (CL:mg "int" = none) (zq:mg "bool" = none):FnOk P w K mg base CX0 1 f fd ["_law_found"] tX:=by
 refine F.ok uR (fun vs H Q E h=>?_) (fun cdv A outer s H vs Q E hr h=>?_)
 ·obtain ⟨z,rfl,_⟩:=h
  rfl
 obtain ⟨z,rfl,q⟩:=h
 refine ⟨_,(av (aU (tf (aB iQ (by rfl) aK bH (aa (pv 0) (aa (jK (v:=.ty "int") rfl CL DQ rfl) af))) (tj (yS (aB iQ (by rfl) aK bH (aa (pv 0) (aa (jK (v:=.ty "bool") rfl zq CQ rfl) af)))))))),?_⟩
 refine ⟨_,rfl,_,_,_,_,rfl,TyOf.int z,p5 K,_,rfl,uu ?_⟩
 exact ⟨_,rfl,_,_,_,_,rfl,TyOf.int z,nU K,_,rfl,q⟩
theorem AD (F:FunD K "_law_in_order" "_law_in_order" cc dV f fd) (aY:mg "len" = none) (aW:mg "range" = none):FnOk P w K mg base CX0 1 f fd ["_law_rows"] tT:=by
 refine F.ok sc__law_in_order (fun vs H Q E h=>?_) (fun cdv A outer s H vs Q E hr h=>?_)
 ·obtain ⟨r,ras,wide,rows,rfl,_⟩:=h
  rfl
 obtain ⟨r,ras,wide,rows,rfl,hr',hA,R,l1,O,q⟩:=h
 have lras:ras.length=rows.length:=hA.length
 refine ⟨_,(ar (ay (i:=1) sc__law_in_order.nd rfl (Or.inl rfl) ao)
   (ar (bR PassesOwn.never rfl (cq rfl aW (aa (aB aF (by rfl) aY bD (aa (pv 0) af)) af)) (az (i:=2) sc__law_in_order.nd rfl (Or.inl rfl)) (ar (cJ (bC DC (pv 2) (pv 1) (bJ _)) (av (aU dq)) bA)
   (av (bR PassesOwn.never rfl (gY (aN aM (pv 0) (pv 2) (fun _ _=>rfl))) (az (i:=3) sc__law_in_order.nd rfl (Or.inl rfl)) (ar (cJ (bC zM (pv 3) (pv 1) (bJ _)) (av (aU dq)) bA)
   (av (cJ (bC jU (pv 3) (pv 1) (bJ _)) (av (ay (i:=1) sc__law_in_order.nd rfl (Or.inl rfl) (aS dH (pv 1) ao))) bA)))))))
   (av (aU dq)))),?_⟩
 refine ⟨_,rfl,r,_,rfl,.inr (qT_ hr'),_,rfl,by rw [lm_]; omega,by rw [lm_]; omega,?_⟩
 rw [lm_,lras]
 refine fj (fun i σ' H'=>∃ (m:Nat) (v2 v3:OV),σ'=[some (.ref r),some (.int m),v2,v3]/\H'=H/\bg i m (rows.drop i)=some rows.length) ⟨1,none,none,rfl,rfl,O⟩ ?_ ?_
 ·rintro i σ' H' hi ⟨m,v2,v3,rfl,rfl,o⟩
  rw [Int.toNat_natCast] at hi
  rw [Int.zero_add]
  rw [List.drop_eq_getElem_cons hi] at o
  obtain ⟨im,m1,o1,o2⟩:=sY o
  obtain ⟨ra,e1,e2⟩:=hA.get hi
  refine ⟨_,rfl,_,rfl,_,_,rfl,rfl,_,rfl,nO (fun c=>by omega) (fun _=>?_)⟩
  refine ⟨_,rfl,_,rfl,r,_,_,_,rfl,rfl,qT_ hr',d6 (by omega) (by rw [Int.toNat_natCast]; exact e1),ra,rfl,⟨_,qT_ e2⟩,?_⟩
  refine kM (K:=K) (xs:=rows[i].map V.int) (fun j σ' H''=>∃ (m':Nat) (v3:OV),σ'=[some (.ref r),some (.int m'),some (.int i),v3]/\H''=H'/\aC m' (rows[i].drop j)=some m1) ⟨m,v3,rfl,rfl,o1⟩ (fun j σ' H'' _ ⟨_,_,_,e,_⟩=>by rw [e]; exact qT_ e2) ?_ ?_
  ·rintro j y σ' H'' hj ⟨m',v3,rfl,rfl,o3⟩
   obtain ⟨t,rfl,ht⟩:=bz hj
   have jl:=gi_ ht
   rw [List.drop_eq_getElem_cons jl.1,jl.2] at o3
   have o4:(if t=(m':Int) then aC (m'+1) (rows[i].drop (j+1)) else if t<(m':Int) then aC m' (rows[i].drop (j+1)) else none)=some m1:=o3
   by_cases c:t=(m':Int)
   ·rw [if_pos c] at o4
    refine ⟨_,rfl,_,rfl,_,_,rfl,rfl,_,rfl,nO (fun z=>by omega) (fun _=>?_)⟩
    refine ⟨_,rfl,_,rfl,rfl,_,rfl,ur (fun _=>?_) (fun z=>absurd c z)⟩
    exact ⟨_,rfl,_,_,rfl,rfl,m'+1,_,rfl,rfl,o4⟩
   ·rw [if_neg c] at o4
    by_cases d:t<(m':Int)
    ·rw [if_pos d] at o4
     refine ⟨_,rfl,_,rfl,_,_,rfl,rfl,_,rfl,nO (fun z=>by omega) (fun _=>?_)⟩
     exact ⟨_,rfl,_,rfl,rfl,_,rfl,ur (fun z=>absurd z c) (fun _=>⟨m',_,rfl,rfl,o4⟩)⟩
    ·rw [if_neg d] at o4
     cases o4
  ·rintro σ' H'' ⟨m',v3,rfl,rfl,o3⟩
   rw [lm_,List.drop_length] at o3
   have e:m'=m1:=Option.some.inj o3
   subst e
   exact ⟨m',_,_,rfl,rfl,o2⟩
 ·rintro σ' H' ⟨m,v2,v3,rfl,rfl,o⟩
  exact q
theorem yJ (F:FunD K "_law_is_machine" "_law_is_machine" bQ dV f fd) (dX:DefOk P w K mg base "_law_whole" 1 ["_law_found"] [] tX) (aK:mg "isinstance" = none) (aQ:mg "tuple" = none) (aY:mg "len" = none):FnOk P w K mg base CX0 2 f fd ["_law_found","_law_wide_here"] pO:=by
 refine F.ok sc__law_is_machine (fun vs H Q E h=>?_) (fun cdv A outer s H vs Q E hr h=>?_)
 ·obtain ⟨m,r,g,wide,rows,signs,rfl,_⟩:=h
  rfl
 obtain ⟨m,r,g,wide,rows,signs,rfl,M,R,n0,ls,k⟩:=h
 obtain ⟨ras,hr',hA⟩:=M.rows
 have lras:ras.length=rows.length:=hA.length
 have lsg:(signs.map V.int).length=rows.length:=by rw [lm_]; exact ls
 have lrs:(ras.map V.ref).length=rows.length:=by rw [lm_]; exact lras
 refine l6 (aG (PSW.mk (cJ (PW.pt (lQ (g9 (hJ (aB iQ (by rfl) aK bH (aa (pv 0) (aa (jK (v:=.ty "tuple") rfl aQ bM rfl) af))))) (lQ (bC xG (aB aF (by rfl) aY bD (aa (pv 0) af)) ao (bJ _)) (lQ (g9 (hJ (bX dX hr (aa (aN aM (pv 0) ao (fun _ _=>rfl)) af)))) (mY (bC xG (aN aM (pv 0) ao (fun _ _=>rfl)) (pv 1) (bJ _))))))) (av (aU dq)) bA))
   (aG (PSW.mk (cJ (PW.pt (lQ (g9 (hJ (aB iQ (by rfl) aK bH (aa (aN aM (pv 0) ao (fun _ _=>rfl)) (aa (jK (v:=.ty "tuple") rfl aQ bM rfl) af))))) (mY (g9 (hJ (aB iQ (by rfl) aK bH (aa (aN aM (pv 0) ao (fun _ _=>rfl)) (aa (jK (v:=.ty "tuple") rfl aQ bM rfl) af)))))))) (av (aU dq)) bA))
   (aG (PSW.mk (cJ (PW.pt (lQ (bC zN (aB aF (by rfl) aY bD (aa (aN aM (pv 0) ao (fun _ _=>rfl)) af)) ao (bJ _)) (mY (bC xG (aB aF (by rfl) aY bD (aa (aN aM (pv 0) ao (fun _ _=>rfl)) af)) (aB aF (by rfl) aY bD (aa (aN aM (pv 0) ao (fun _ _=>rfl)) af)) (bJ _))))) (av (aU dq)) bA))
   (aG (PSW.mk (bR PassesOwn.never rfl (gY (aN aM (pv 0) ao (fun _ _=>rfl))) (az (i:=2) sc__law_is_machine.nd rfl (Or.inl rfl)) (ar (cJ (PW.pt (lQ (g9 (hJ (aB iQ (by rfl) aK bH (aa (pv 2) (aa (jK (v:=.ty "tuple") rfl aQ bM rfl) af))))) (mY (bC xG (aB aF (by rfl) aY bD (aa (pv 2) af)) (pv 1) (bJ _))))) (av (aU dq)) bA)
   (av (bR PassesOwn.never rfl (gY (pv 2)) (az (i:=3) sc__law_is_machine.nd rfl (Or.inl rfl)) (av (cJ (PW.pt (lQ (g9 (hJ (bX dX hr (aa (pv 3) af)))) (lQ (bC zN (pv 3) ao (bJ _)) (mY (bC DC (pv 3) (aB aF (by rfl) aY bD (aa (aN aM (pv 0) ao (fun _ _=>rfl)) af)) (bJ _)))))) (av (aU dq)) bA)))))))
   (aG (PSW.mk (bR PassesOwn.never rfl (gY (aN aM (pv 0) ao (fun _ _=>rfl))) (az (i:=4) sc__law_is_machine.nd rfl (Or.inl rfl)) (av (cJ (g9 (hJ (bX dX hr (aa (pv 4) af)))) (av (aU dq)) bA))))
   (hV (PSW.mk (aU dq)))))))) ?_
 refine ⟨_,rfl,_,_,_,_,rfl,TyOf.tup M.tup,dz K,_,rfl,lA ?_⟩
 refine ⟨_,rfl,m,_,rfl,.inr (qT_ M.tup),rfl,_,rfl,sh (fun z=>absurd rfl z) (fun _=>?_)⟩
 refine ⟨_,rfl,m,_,_,_,rfl,rfl,qT_ M.tup,rfl,_,rfl,_,rfl,lA ?_⟩
 refine ⟨_,rfl,m,_,_,_,rfl,rfl,qT_ M.tup,rfl,_,rfl,rfl,_,rfl,sh (fun z=>absurd rfl z) (fun _=>?_)⟩
 refine ⟨_,rfl,m,_,_,_,rfl,rfl,qT_ M.tup,rfl,_,_,_,_,rfl,TyOf.tup hr',dz K,_,rfl,lA ?_⟩
 refine ⟨_,rfl,m,_,_,_,rfl,rfl,qT_ M.tup,rfl,_,_,_,_,rfl,TyOf.tup M.sgn,dz K,_,rfl,lA ?_⟩
 refine ⟨_,rfl,m,_,_,_,rfl,rfl,qT_ M.tup,rfl,r,_,rfl,.inr (qT_ hr'),_,_,rfl,rfl,_,rfl,nO (fun z=>by omega) (fun _=>?_)⟩
 refine ⟨_,rfl,m,_,_,_,rfl,rfl,qT_ M.tup,rfl,r,_,rfl,.inr (qT_ hr'),_,rfl,m,_,_,_,rfl,rfl,qT_ M.tup,rfl,g,_,rfl,.inr (qT_ M.sgn),rfl,_,rfl,sh (fun z=>absurd (by rw [lsg,lrs]) z) (fun _=>?_)⟩
 try dsimp only [bW,cU,List.set]
 refine dj (t:=pT _ _ _) (fun σ' H'=>∃ v2 v3:OV,σ'=[some (.ref m),some (.int wide),v2,v3,none]/\H'=H) ?_ (fun D' nxt=>?_)
 rotate_left
 ·refine ⟨_,rfl,m,_,_,_,rfl,rfl,qT_ M.tup,rfl,r,rfl,⟨_,qT_ hr'⟩,kM (K:=K) (xs:=ras.map V.ref) (fun i σ' H'=>∃ v2 v3:OV,σ'=[some (.ref m),some (.int wide),v2,v3,none]/\H'=H) ⟨none,none,rfl,rfl⟩ (fun i σ' H' _ ⟨_,_,_,e⟩=>by rw [e]; exact qT_ hr') ?_ (fun σ' H' h=>nxt _ _ h)⟩
  rintro i y σ' H' hi ⟨v2,v3,rfl,rfl⟩
  have jl:i<rows.length:=by
   have:=(gi_ hi).1
   omega
  obtain ⟨ra,e1,e2⟩:=hA.get jl
  have ey:y=.ref ra:=by rw [List.getElem?_map,e1] at hi; exact (Option.some.inj hi).symm
  subst ey
  have lr:=R.row _ (List.getElem_mem jl)
  refine ⟨_,rfl,_,_,_,_,rfl,TyOf.tup e2,dz K,_,rfl,lA ?_⟩
  refine ⟨_,rfl,ra,_,rfl,.inr (qT_ e2),_,rfl,rfl,_,rfl,sh (fun z=>absurd (by rw [lm_,lr]) z) (fun _=>?_)⟩
  refine ⟨_,rfl,ra,rfl,⟨_,qT_ e2⟩,kM (K:=K) (xs:=rows[i].map V.int) (fun j σ' H''=>∃ v3:OV,σ'=[some (.ref m),some (.int wide),some (.ref ra),v3,none]/\H''=H') ⟨v3,rfl,rfl⟩ (fun j σ' H'' _ ⟨_,_,e⟩=>by rw [e]; exact qT_ e2) ?_ (fun σ' H'' ⟨v3,e1,e2⟩=>⟨_,v3,e1,e2⟩)⟩
  rintro j y σ' H'' hj ⟨v3,rfl,rfl⟩
  obtain ⟨z,rfl,hz⟩:=bz hj
  have zi:=R.val _ (List.getElem_mem jl) z (mq_ hz)
  refine ⟨_,rfl,_,rfl,_,rfl,lA ?_⟩
  refine ⟨_,rfl,_,_,rfl,rfl,_,rfl,nO (fun c=>by omega) (fun _=>?_)⟩
  refine ⟨_,rfl,_,rfl,m,_,_,_,rfl,rfl,qT_ M.tup,rfl,r,_,rfl,.inr (qT_ hr'),_,_,rfl,rfl,_,rfl,nO (fun c=>by omega) (fun _=>?_)⟩
  exact ⟨_,rfl,rfl⟩
 rintro σ' H' ⟨v2,v3,rfl,rfl⟩
 refine ⟨_,rfl,m,_,_,_,rfl,rfl,qT_ M.tup,rfl,g,rfl,⟨_,qT_ M.sgn⟩,kM (K:=K) (xs:=signs.map V.int) (fun i σ' H''=>∃ v4:OV,σ'=[some (.ref m),some (.int wide),v2,v3,v4]/\H''=H') ⟨none,rfl,rfl⟩ (fun i σ' H'' _ ⟨_,_,e⟩=>by rw [e]; exact qT_ M.sgn) ?_ (fun σ' H'' ⟨_,_,e⟩=>by rw [e]; exact k)⟩
 rintro i y σ' H'' hi ⟨v4,rfl,rfl⟩
 obtain ⟨z,rfl,hz⟩:=bz hi
 exact ⟨_,rfl,_,rfl,_,rfl,lA ⟨_,rfl,rfl⟩⟩
theorem AB (F:FunD K "_law_marked" "_law_marked" cj dV f fd) (aY:mg "len" = none) (aW:mg "range" = none) (aQ:mg "tuple" = none):FnOk P w K mg base CX0 1 f fd ["_law_marks","_law_rows"] tS:=by
 refine F.ok sc__law_marked (fun vs H Q E h=>?_) (fun cdv A outer s H vs Q E hr h=>?_)
 ·obtain ⟨l,r,ras,wide,rows,a,rfl,_⟩:=h
  rfl
 obtain ⟨l,r,ras,wide,rows,a,rfl,hl,la,hr',hA,R,n1,w1,k⟩:=h
 have hu2:=Bp hr
 have lrs:(ras.map V.ref).length=rows.length:=by rw [lm_]; exact hA.length
 refine l6 (aG (PSW.mk (ay (i:=2) sc__law_marked.nd rfl (Or.inl rfl) B2))
   (aG (PSW.mk (ay (i:=3) sc__law_marked.nd rfl (Or.inl rfl) (eP af)))
   (aG (Fq PassesOwn.never rfl (cq rfl aW (aa (aB aF (by rfl) aY bD (aa (pv 1) af)) af)) (az (i:=4) sc__law_marked.nd rfl (Or.inl rfl)) (aG (Fs (i:=5) sc__law_marked.nd rfl (Or.inl rfl) (CF (br (PEW.mk (aN cX (pv 0) (pv 4) (fun _ _=>rfl))) (br (PEW.mk (aO aX (by rfl) aQ bM (aa (c0 rfl bk__law_marked_0 (gY (aN aM (pv 1) (pv 4) (fun _ _=>rfl))) (fun _ _ _ _=>(az (i:=0) bk__law_marked_0.nd rfl (Or.inl rfl))) (fun _ _ _ _=>(aN (xi K) (pv 1) (pv 0) (fun _ _=>rfl)))) af))) pU))))
   (aG (PSW.mk (cJ (wz (AJ hu2 (pv 5) (pv 2)) (by with_unfolding_all rfl)) (av (Dp hu2 (pv 2) (pv 5) (aB z7 (by rfl) aY bD (aa (pv 2) af)) rfl)) bA))
   (hV (PSW.mk (bV (i8 PySem.F.plainAttrs_list PySem.F.slot_list_append PySem.F.type_list_append b7 (pv 3) (aa (Dj hu2 (pv 2) (pv 5) (fun _ _=>rfl)) af))))))))
   (hV (PSW.mk (aU (pv 3))))))) ?_
 refine fun D hD=>?_
 have sD:=aj hD (gx P w D [])
 refine ⟨(by show 0<=sizeLine; decide),fun B hB=>?_⟩
 have sB:=aj hB (HO.lst [])
 have nDB:D≠B:=au ae hB
 have fB:H B=none:=sD.free hB
 have kin:∀ i,i<rows.length->∀ t∈rows.getD i [],0<=t/\t<(a.length:Int):=fun i hi t ht=>by
  rw [getD_at hi] at ht
  have:=R.val _ (List.getElem_mem hi) t ht
  omega
 try dsimp only [bW,cU,List.set]
 refine ⟨_,rfl,r,_,rfl,.inr (qT_ (sB _ _ (sD _ _ hr'))),_,rfl,by omega,by omega,?_⟩
 rw [lrs]
 refine fj (fun i σ' H'=>∃ (ks:List (NK×Addr)) (b:LI) (v4 v5:OV),σ'=[some (.ref l),some (.ref r),some (.ref D),some (.ref B),v4,v5]/\Same H H'/\H' D=some (gx P w D ks)/\NKeys H' ks/\H' B=some (.lst (b.map V.int))/\b.length=i/\ks.length<=i/\(ks.map (·.1)).Nodup/\∀ j,j<i->∃ n:Nat,b[j]?=some (n:Int)/\(ks.map (·.1))[n]?=some (kindOf rows a j))
  ⟨[],[],none,none,rfl,sD.trans sB,sB _ _ ae,(fun p hp=>by cases hp),ae,rfl,Nat.le_refl _,List.nodup_nil,fun j hj=>absurd hj (Nat.not_lt_zero _)⟩ ?_ ?_
 ·rintro i σ' H2 hi ⟨ks,b,v4,v5,rfl,s2,hD2,nk2,hB2,lb,lk,nd,inv⟩
  rw [Int.toNat_natCast] at hi
  rw [Int.zero_add]
  obtain ⟨ra,e1,e2⟩:=hA.get hi
  have lr:=R.row _ (List.getElem_mem hi)
  have hl2:=s2 _ _ hl
  have ra2:=s2 _ _ e2
  refine ⟨_,rfl,_,rfl,l,_,_,_,rfl,rfl,qL_ hl2,bS (by omega) (by omega),?_⟩
  refine ⟨_,rfl,_,rfl,r,_,_,_,rfl,rfl,qT_ (s2 _ _ hr'),d6 (by omega) (by rw [Int.toNat_natCast]; exact e1),ra,rfl,⟨_,qT_ ra2⟩,?_⟩
  refine ke (K:=K) (xs:=rows[i].map V.int) (fun E j ys H'=>Same H2 H'/\ys=((rows[i].take j).map fun t=>sgn a t).map V.int) (fun E hE=>⟨aj hE _,rfl⟩) (fun E j ys H' _ p=>qT_ (p.1 _ _ ra2)) ?_ ?_
  ·rintro E j y ys H3 Q' hE hj hy ⟨s3,rfl⟩ k'
   obtain ⟨t,rfl,ht⟩:=bz hj
   have jl:=(gi_ ht).1
   have ti:=kin i hi t (by rw [getD_at hi]; exact mq_ ht)
   refine ⟨_,rfl,_,rfl,l,_,_,_,rfl,rfl,qL_ (s3 _ _ hl2),bS ti.1 ti.2,k' _ _ hy (ax (by rw [lm_,lm_,List.length_take]; omega)) ⟨aw s3 hE,?_⟩⟩
   rw [List.take_add_one,ht,List.map_append,List.map_append]
   rfl
  rintro E ys H3 hE hy ⟨s3,rfl⟩
  rw [lm_,List.take_length] at hy
  refine ⟨E,_,rfl,.inl ⟨qL_ hy,fun c hc=>?_⟩⟩
  have sc:=aj hc (HO.tup ((rows[i].map fun t=>sgn a t).map V.int))
  refine ⟨(by show 2<=sizeLine; decide),fun T hT=>?_⟩
  have sT:=aj hT (HO.tup [V.int (a.getD ((i:Int)).toNat 0),V.ref c])
  obtain ⟨H4,eH4⟩:∃ H4,upd (upd H3 c (HO.tup ((rows[i].map fun t=>sgn a t).map V.int))) T (HO.tup [V.int (a.getD ((i:Int)).toNat 0),V.ref c])=H4:=⟨_,rfl⟩
  have s24:Same H2 H4:=by rw [<- eH4]; exact s3.trans (sc.trans sT)
  have kT:NKeyAt H4 (kindOf rows a i) T:=by
   refine ⟨c,by rw [<- eH4,ae,Int.toNat_natCast]; rfl,?_⟩
   rw [<- eH4,sT _ _ ae]
   unfold kindOf
   rw [getD_at hi (d:=[])]
  rw [eH4]
  have hD4:=s24 _ _ hD2
  have nk4:=nk2.same fun b xs e=>s24 _ _ e
  have hB4:=s24 _ _ hB2
  try dsimp only [bW,cU,List.set]
  refine dj (t:=EA _ _ _) (fun σ' H'=>∃ (ks':List (NK×Addr)) (n:Nat),σ'=[some (.ref l),some (.ref r),some (.ref D),some (.ref B),some (.int (i:Int)),some (.ref T)]/\Same H H'/\H' D=some (gx P w D ks')/\NKeys H' ks'/\NKeyAt H' (kindOf rows a i) T/\H' B=some (.lst (b.map V.int))/\ks'.length<=i+1/\(ks'.map (·.1)).Nodup/\(ks'.map (·.1))[n]?=some (kindOf rows a i)/\∀ (m:Nat) (k:NK),(ks.map (·.1))[m]?=some k->(ks'.map (·.1))[m]?=some k) ?_ (fun D' nxt=>?_)
  rotate_left
  ·by_cases c1:kindOf rows a i∈ks.map (·.1)
   ·obtain ⟨n,nl,en⟩:=List.getElem_of_mem c1
    refine ⟨_,rfl,_,rfl,D,T,kindOf rows a i,ks,rfl,rfl,hD4,nk4,kT,_,rfl,?_⟩
    rw [decide_eq_true c1]
    refine lA (nxt _ _ ⟨ks,n,rfl,s2.trans s24,hD4,nk4,kT,hB4,by omega,nd,by rw [List.getElem?_eq_getElem nl,en],fun m k h=>h⟩)
   ·refine ⟨_,rfl,_,rfl,D,T,kindOf rows a i,ks,rfl,rfl,hD4,nk4,kT,_,rfl,?_⟩
    rw [decide_eq_false c1]
    refine uu ?_
    refine ⟨_,rfl,D,ks,rfl,hD4,_,rfl,_,rfl,D,T,kindOf rows a i,ks,rfl,rfl,rfl,hD4,nk4,kT,c1,ax (by omega),?_⟩
    have up:∀ b xs,H4 b=some (.tup xs)->(upd H4 D (gx P w D (ks++[(kindOf rows a i,T)]))) b=some (.tup xs):=fun b xs e=>by
     rw [ah (aE e hD4 (by intro z; cases z))]; exact e
    refine nxt _ _ ⟨ks++[(kindOf rows a i,T)],ks.length,rfl,aw (s2.trans s24) hD,ae,?_,kT.same up,by rw [ah (Ne.symm nDB)]; exact hB4,by rw [List.length_append]; exact Nat.succ_le_succ lk,?_,?_,fun m k h=>?_⟩
    ·intro p hp
     rcases ma_.mp hp with z | z
     ·exact (nk4 p z).same up
     ·rw [List.mem_singleton.mp z]; exact kT.same up
    ·rw [List.map_append]
     exact List.nodup_append.mpr ⟨nd,List.nodup_cons.mpr ⟨by simp,List.nodup_nil⟩,fun x hx y hy z=>c1 (by have e1:y=kindOf rows a i:=List.mem_singleton.mp hy; rw [<- e1,<- z]; exact hx)⟩
    ·rw [List.map_append,List.getElem?_append_right (by rw [lm_]; exact Nat.le_refl _),lm_,Nat.sub_self]
     rfl
    ·rw [List.map_append,List.getElem?_append_left (gi_ h).1]
     exact h
  rintro σ' H5 ⟨ks',n,rfl,s5,hD5,nk5,kT5,hB5,lk',nd',hn,keep⟩
  refine ⟨_,rfl,.inl ⟨rfl,_,qL_ hB5⟩,_,rfl,_,rfl,D,T,kindOf rows a i,ks',n,rfl,rfl,hD5,nk5,kT5,hn,B,_,_,rfl,rfl,hB5,ax (by rw [lm_]; omega),?_⟩
  have up:∀ c xs,H5 c=some (.tup xs)->(upd H5 B (.lst (b.map V.int++[V.int (n:Int)]))) c=some (.tup xs):=fun c xs e=>by
   rw [ah (aE e hB5 (by intro z; cases z))]; exact e
  refine ⟨ks',b++[(n:Int)],_,_,rfl,aw s5 fB,by rw [ah nDB]; exact hD5,nk5.same up,by rw [ae,List.map_append]; rfl,by rw [List.length_append,lb]; rfl,lk',nd',fun j hj=>?_⟩
  by_cases c2:j<i
  ·obtain ⟨m,h1,h2⟩:=inv j c2
   exact ⟨m,by rw [List.getElem?_append_left (by omega)]; exact h1,keep m _ h2⟩
  ·have:j=i:=by omega
   subst this
   exact ⟨n,by rw [List.getElem?_append_right (by omega),lb,Nat.sub_self]; rfl,hn⟩
 ·rintro σ' H2 ⟨ks,b,v4,v5,rfl,s2,hD2,nk2,hB2,lb,lk,nd,inv⟩
  rw [Int.toNat_natCast] at lb inv
  refine ⟨_,rfl,k B _ b s2 hB2 ⟨la,lb,fun i j hi hj=>?_⟩⟩
  rw [<- C1 R hi hj]
  obtain ⟨m,h1,h2⟩:=inv i hi
  obtain ⟨n,g1,g2⟩:=inv j hj
  rw [List.getD_eq_getElem?_getD,List.getD_eq_getElem?_getD,h1,g1]
  constructor
  ·intro e
   have:m=n:=by have e':(m:Int)=(n:Int):=e; omega
   subst this
   rw [h2] at g2
   exact Option.some.inj g2
  ·intro e
   rw [<- e] at g2
   obtain ⟨x1,y1⟩:=gi_ h2
   obtain ⟨x2,y2⟩:=gi_ g2
   have:m=n:=(List.getElem_inj nd).mp (y1.trans y2.symm)
   rw [this]
theorem yK (F:FunD K "_law_parted" "_law_parted" cL dV f fd) (ik:DefOk P w K mg base "_law_marked" 1 ["_law_marks","_law_rows"] [] tS) (dJ:mg "list" = none) (vy:mg "set" = none) (aY:mg "len" = none) (aW:mg "range" = none):FnOk P w K mg base CX0 2 f fd ["_law_rows","_law_signs"] pP:=by
 refine F.ok sc__law_parted (fun vs H Q E h=>?_) (fun cdv A outer s H vs Q E hr h=>?_)
 ·obtain ⟨r,g,ras,wide,rows,signs,rfl,_⟩:=h
  rfl
 obtain ⟨r,g,ras,wide,rows,signs,rfl,hr',hA,R,⟨n0,n1⟩,w1,hg,ls,AP,k⟩:=h
 have lrs:(ras.map V.ref).length=rows.length:=by rw [lm_]; exact hA.length
 refine l6 (aG (PSW.mk (ay (i:=2) sc__law_parted.nd rfl (Or.inl rfl) (aO vH (by rfl) dJ nB (aa (pv 1) af))))
   (aG (PSW.mk (bR PassesOwn.never rfl (cq rfl aW (aa (aB aF (by rfl) aY bD (aa (pv 0) af)) af)) (az (i:=3) sc__law_parted.nd rfl (Or.inl rfl)) (ar (ay (i:=4) sc__law_parted.nd rfl (Or.inl rfl) (bX ik hr (aa (pv 2) (aa (pv 0) af))))
   (ar (cJ (bC jU (aB kJ (by rfl) aY bD (aa (aO (kK rfl) (by rfl) vy vE (aa (pv 4) af)) af)) (aB kJ (by rfl) aY bD (aa (aO (kK rfl) (by rfl) vy vE (aa (pv 2) af)) af)) (bJ _)) (av (aU (oh jU (aB kJ (by rfl) aY bD (aa (aO (kK rfl) (by rfl) vy vE (aa (pv 2) af)) af)) (aB aF (by rfl) aY bD (aa (pv 0) af)) (bJ _)))) bA)
   (av (ay (i:=2) sc__law_parted.nd rfl (Or.inl rfl) (pv 4)))))))
   (hV (PSW.mk (aU (oh jU (aB kJ (by rfl) aY bD (aa (aO (kK rfl) (by rfl) vy vE (aa (pv 2) af)) af)) (aB aF (by rfl) aY bD (aa (pv 0) af)) (bJ _))))))) ?_
 refine ⟨_,rfl,g,_,rfl,.inr (qT_ hg),fun l0 hl0=>?_⟩
 have s0:=aj hl0 (HO.lst (signs.map V.int))
 try dsimp only [bW,cU,List.set]
 have o1:1<=(aA signs).length:=List.length_pos_of_mem (once_mem.mpr (List.getElem_mem (show 0<signs.length by omega)))
 refine ⟨_,rfl,r,_,rfl,.inr (qT_ (s0 _ _ hr')),_,rfl,by omega,by omega,?_⟩
 rw [lrs]
 refine fj (fun t σ' H'=>∃ (l:Addr) (a:LI) (v3 v4:OV),σ'=[some (.ref r),some (.ref g),some (.ref l),v3,v4]/\Same H H'/\H' l=some (.lst (a.map V.int))/\a.length=rows.length/\Finer signs a/\t+1<=(aA a).length)
  ⟨l0,signs,none,none,rfl,s0,ae,ls,⟨rfl,fun _ _ _ _ e=>e⟩,o1⟩ ?_ ?_
 ·rintro t σ' H1 ht ⟨l,a,v3,v4,rfl,s1,hl,la,fa,ta⟩
  refine ⟨_,rfl,_,rfl,l,r,ras,wide,rows,a,rfl,hl,la,s1 _ _ hr',hA.same (fun b xs e=>s1 _ _ e),R,n1,w1,fun l' H2 b s2 hl' bh=>?_⟩
  have lb:=bh.2.1
  refine ⟨_,rfl,l',b,rfl,hl',by omega,fun S hS=>?_⟩
  have t1:=aj hS (rE P w S (aA b))
  refine ⟨S,aA b,rfl,ae,_,rfl,l,a,rfl,t1 _ _ (s2 _ _ hl),by omega,fun S2 hS2=>?_⟩
  have t2:=aj hS2 (rE P w S2 (aA a))
  have s4:=t1.trans t2
  have s3:=(s1.trans s2).trans s4
  refine ⟨S2,aA a,rfl,ae,rfl,_,rfl,ur (fun c=>?_) (fun c=>?_)⟩
  ·have c':(aA b).length=(aA a).length:=by omega
   have done:=yz R AP ls fa bh c'
   refine ⟨_,rfl,l,a,rfl,s4 _ _ (s2 _ _ hl),by omega,fun S3 hS3=>?_⟩
   have t3:=aj hS3 (rE P w S3 (aA a))
   refine ⟨S3,aA a,rfl,ae,_,rfl,r,_,rfl,.inr (qT_ (t3 _ _ (s3 _ _ hr'))),rfl,?_⟩
   rw [lrs,done,decide_eq_true rfl]
   exact k _ (s3.trans t3)
  ·have more:=yA bh (by omega)
   exact ⟨_,rfl,l',b,_,_,rfl,s3,s4 _ _ hl',lb,fa.trans bh.finer,by omega⟩
 ·rintro σ' H1 ⟨l,a,v3,v4,rfl,s1,hl,la,fa,ta⟩
  exfalso
  rw [Int.toNat_natCast] at ta
  have:=i7 a
  omega
end
def jM:Sp:=fun vs H Q _=>∃ (m:V) (at_:V) (b many:Nat),vs=[m,.int b,.int many,at_]/\1<=b/\(many:Int)<1000/\(b:Int)^(many+1)<NB/\1000<b^(many+1)/\∀ H',Same H H'->Q (.bl true) H'
theorem ud:bootBuiltins "ValueError" = some (.type "ValueError"):=by decide +kernel
theorem u9 {X:Cx} (K:PySem.W.Frag) (h:X.K=K:=by rfl):eU X (.builtin "isinstance") (E3 K):=by subst h; exact A9
theorem rK {X:Cx} (K:PySem.W.Frag) (h:X.K=K:=by rfl):eU X (.builtin "isinstance") (DD K):=by subst h; exact z6
theorem vU {K:PySem.W.Frag} {t:Value}:∀ {cs:List Value},(∀ c∈cs,PySem.W.kitOne K t c=some false)->PySem.W.kitAny K t cs=some false
 | [],_=>rfl
 | c :: cs,h=>by
  have h1:=h c List.mem_cons_self
  have h2:=vU (cs:=cs) fun x hx=>h x (List.mem_cons_of_mem _ hx)
  unfold PySem.W.kitAny
  rw [h1]
  exact h2
section
variable {P:Program} {w:World} {K:PySem.W.Frag} {mg:Str->Option Value} {base:Heap} {f:Addr} {fd:FuncData} {dV:Value} {C F0 D1 D2 D3 D4 D5 D6 D7 D8:Addr}
theorem sc__law_refused:FnScope ["_law_machine_here","_law_base","_law_many","_law_at","_law_refused_here","error"] ["_law_machine_here","_law_base","_law_many","_law_at"] (ak cb):=⟨rfl,rfl,rfl,by decide +kernel,rfl,by decide +kernel,by decide +kernel⟩
theorem sc_law:FnScope ["_law_script","_law_way","_law_base","_law_many","_law_at","_law_wide_here","_law_machine_here","_law_found","_law_here","_law_there","_law_cell","_law_figure"] ["_law_script"] (ak oy):=⟨rfl,rfl,rfl,by decide +kernel,rfl,by decide +kernel,by decide +kernel⟩
theorem yN (F:FunD K "_law_refused" "_law_refused" cb dV f fd) (c:XCls K C) (dk:mg "FigureError" = some (.ref F0)) (dQ:mg "TooWide" = some (.ref C)) (xm:PySem.W.exmOne K (.ref C) (.ref C)=some true) (kf:PySem.W.kitOne K (.ref C) (.ref F0)=some true)
  (kv:PySem.W.kitOne K (.ref C) (.type "ValueError")=some true) (km:mg "NoFigures" = some (.ref D1)) (kn:mg "NoMachine" = some (.ref D2)) (r6:mg "NoName" = some (.ref D3)) (pk:mg "NoPower" = some (.ref D4))
  (vQ:mg "NoRow" = some (.ref D5)) (r8:mg "NoSome" = some (.ref D6)) (r9:mg "NoText" = some (.ref D7)) (mz:mg "TooGreat" = some (.ref D8))
  (n1:PySem.W.kitAny K (.ref C) ([D1,D2,D3,D4,D5,D6].map Value.ref)=some false) (n2:PySem.W.kitAny K (.ref C) ([D7,D8].map Value.ref)=some false)
  (gm:DefX P w K mg base "widened" 6 ["machine","base","many","at"] [] (jN C)) (aK:mg "isinstance" = none) (eT:mg "ValueError" = none):FnOk P w K mg base CX0 7 f fd ["_law_machine_here","_law_base","_law_many","_law_at"] jM:=by
 refine F.ok sc__law_refused (fun vs H Q E h=>?_) (fun cdv A outer s H vs Q E hr h=>?_)
 ·obtain ⟨m,at_,b,many,rfl,_⟩:=h
  rfl
 obtain ⟨m,at_,b,many,rfl,b1,m1,nb,big,k⟩:=h
 refine ⟨_,(ar (ay (i:=4) sc__law_refused.nd rfl (Or.inl rfl) dq)
   (ar (Eo (i:=5) sc__law_refused.nd rfl rfl dQ xm (Ep (Dq (Cn gm hr (aa (pv 0) (aa (pv 1) (aa (pv 2) (aa (pv 3) af))))))) (fun _=>(ar (ay (i:=4) sc__law_refused.nd rfl (Or.inl rfl) (tf (aB (u9 K) (by rfl) aK bH (aa (pv 5) (aa (eO (v:=.ref _) rfl dk rfl) af))) (tj (aB (u9 K) (by rfl) aK bH (aa (pv 5) (aa (jK (v:=.ty "ValueError") rfl eT ud rfl) af))))))
   (ar (ay (i:=4) sc__law_refused.nd rfl (Or.inl rfl) (tf (pv 4) (tj (yS (aB ((rK K)) (by rfl) aK bH (aa (pv 5) (aa (bF (aa (eO (v:=.ref _) rfl km rfl) (aa (eO (v:=.ref _) rfl kn rfl) (aa (eO (v:=.ref _) rfl r6 rfl) (aa (eO (v:=.ref _) rfl pk rfl) (aa (eO (v:=.ref _) rfl vQ rfl) (aa (eO (v:=.ref _) rfl r8 rfl) af))))))) af)))))))
   (av (ay (i:=4) sc__law_refused.nd rfl (Or.inl rfl) (tf (pv 4) (tj (yS (aB ((rK K)) (by rfl) aK bH (aa (pv 5) (aa (bF (aa (eO (v:=.ref _) rfl r9 rfl) (aa (eO (v:=.ref _) rfl mz rfl) af))) af))))))))))))
   (av (aU (pv 4))))),?_⟩
 refine ⟨_,rfl,_,rfl,_,rfl,_,rfl,m,at_,b,many,rfl,b1,m1,nb,big,rfl,fun ea hea=>?_⟩
 have s1:=aj hea (HO.ext (ExAt ea C))
 refine ⟨_,rfl,ea,C,_,_,_,rfl,ae,c,rfl,kf,_,rfl,uu ⟨_,rfl,ea,C,_,_,_,rfl,ae,c,rfl,kv,?_⟩⟩
 refine ⟨_,rfl,_,rfl,uu ⟨_,rfl,(by show 6<=sizeLine; decide),fun T1 hT1=>?_⟩⟩
 have s2:=aj hT1 (HO.tup [V.ref D1,V.ref D2,V.ref D3,V.ref D4,V.ref D5,V.ref D6])
 refine ⟨ea,C,T1,[D1,D2,D3,D4,D5,D6],_,rfl,s2 _ _ ae,c,ae,n1,_,rfl,?_⟩
 refine ⟨_,rfl,_,rfl,uu ⟨_,rfl,(by show 2<=sizeLine; decide),fun T2 hT2=>?_⟩⟩
 have s3:=aj hT2 (HO.tup [V.ref D7,V.ref D8])
 refine ⟨ea,C,T2,[D7,D8],_,rfl,s3 _ _ (s2 _ _ ae),c,ae,n2,_,rfl,?_⟩
 exact ⟨_,rfl,k _ (s1.trans (s2.trans s3))⟩
def zU (K:PySem.W.Frag):Sp:=fun vs H Q _=>∃ (a:Addr) (ns:LI),vs=[.ref a]/\SqL K H a (ns.map V.int)/\ns.length<=63/\∀ H',Q (.bl true) H'
theorem Ef (F:FunD K "law" "law" oy dV f fd) (bG:DefOk P w K mg base "_law_number" 1 ["_law_script","_law_k"] [] (zV K)) (jg:DefOk P w K mg base "_law_sides" 1 ["_law_way","_law_number_here"] [] tW) (dM:DefOk P w K mg base "_law_wide" 1 ["_law_base","_law_many"] [] rB) (gn:DefOk P w K mg base "_law_machine" 2 ["_law_script","_law_start","_law_wide_here","_law_many"] [] (wJ K))
  (gp:DefOk P w K mg base "_law_refused" 7 ["_law_machine_here","_law_base","_law_many","_law_at"] [] jM) (kH:DefOk P w K mg base "widened" 6 ["machine","base","many","at"] [] pR) (dW:DefOk P w K mg base "_law_is_machine" 2 ["_law_found","_law_wide_here"] [] pO) (fO:DefOk P w K mg base "_law_in_order" 1 ["_law_rows"] [] tT)
  (iq:DefOk P w K mg base "_law_parted" 2 ["_law_rows","_law_signs"] [] pP) (gq:DefOk P w K mg base "_law_without" 2 ["_law_figure","_law_base","_law_at"] [] m8):FnOk P w K mg base CX0 8 f fd ["_law_script"] (zU K):=by
 refine F.ok sc_law (fun vs H Q E h=>?_) (fun cdv A outer s H vs Q E hr h=>?_)
 ·obtain ⟨a,ns,rfl,_⟩:=h
  rfl
 obtain ⟨a,ns,rfl,hS,h63,k⟩:=h
 have hu3:=DU hr
 refine l6 (aG (PSW.mk (ay (i:=1) sc_law.nd rfl (Or.inl rfl) (aS cE (bX bG hr (aa (pv 0) (aa ao af))) ao)))
   (aG (PSW.mk (Cd (bX jg hr (aa (pv 1) (aa (bX bG hr (aa (pv 0) (aa ao af))) af))) (pI rfl (cI (az (i:=2) sc_law.nd rfl (Or.inl rfl)) (cI (az (i:=3) sc_law.nd rfl (Or.inl rfl)) kS)))))
   (aG (PSW.mk (ay (i:=4) sc_law.nd rfl (Or.inl rfl) (aS cE (bX bG hr (aa (pv 0) (aa ao af))) (aS dH (pv 3) ao))))
   (aG (PSW.mk (ay (i:=5) sc_law.nd rfl (Or.inl rfl) (bX dM hr (aa (pv 2) (aa (pv 3) af)))))
   (aG (PSW.mk (ay (i:=6) sc_law.nd rfl (Or.inl rfl) (bX gn hr (aa (pv 0) (aa ao (aa (pv 5) (aa (aS dH ao (aS cE (bX bG hr (aa (pv 0) (aa ao af))) (aN cX (eP (aa ao (aa ao (aa ao af)))) (pv 1) (fun _ _=>rfl)))) af)))))))
   (aG (PSW.mk (cJ (bC jU (pv 1) ao (bJ _)) (av (aU (bX gp hr (aa (pv 6) (aa (pv 2) (aa (pv 3) (aa (pv 4) af))))))) bA))
   (aG (PSW.mk (ay (i:=7) sc_law.nd rfl (Or.inl rfl) (bX kH hr (aa (pv 6) (aa (pv 2) (aa (pv 3) (aa (pv 4) af)))))))
   (aG (PSW.mk (cJ (g9 (hJ (bX dW hr (aa (pv 7) (aa (aS dI (pv 5) (pv 2)) af))))) (av (aU dq)) bA))
   (aG (PSW.mk (cJ (PW.pt (lQ (g9 (hJ (bX fO hr (aa (aN aM (pv 7) ao (fun _ _=>rfl)) af)))) (mY (g9 (hJ (bX iq hr (aa (aN aM (pv 7) ao (fun _ _=>rfl)) (aa (aN aM (pv 7) ao (fun _ _=>rfl)) af)))))))) (av (aU dq)) bA))
   (aG (PSW.mk (ay (i:=8) sc_law.nd rfl (Or.inl rfl) ao))
   (aG (PSW.mk (ay (i:=9) sc_law.nd rfl (Or.inl rfl) ao))
   (aG (PSW.mk (bR PassesOwn.never rfl (cF (pv 0)) (az (i:=10) sc_law.nd rfl (Or.inl rfl)) (ar (cJ (bC xG (aN aM (aN aM (pv 7) ao (fun _ _=>rfl)) (pv 9) (fun _ _=>rfl)) (aN aM (aN aM (pv 6) ao (fun _ _=>rfl)) (pv 8) (fun _ _=>rfl)) (bJ _)) (av (aU dq)) bA)
   (ar (ay (i:=11) sc_law.nd rfl (Or.inl rfl) (aS cE (pv 10) (aS dI (pv 5) (pv 2))))
   (ar (ay (i:=8) sc_law.nd rfl (Or.inl rfl) (aN aM (aN aM (aN aM (pv 6) ao (fun _ _=>rfl)) (pv 8) (fun _ _=>rfl)) (bX gq hr (aa (pv 11) (aa (pv 2) (aa (pv 4) af)))) (fun _ _=>rfl)))
   (av (ay (i:=9) sc_law.nd rfl (Or.inl rfl) (aN aM (aN aM (aN aM (pv 7) ao (fun _ _=>rfl)) (pv 9) (fun _ _=>rfl)) (pv 11) (fun _ _=>rfl)))))))))
   (hV (PSW.mk (aU (tf (oh jU (aN aM (aN aM (pv 7) ao (fun _ _=>rfl)) (pv 9) (fun _ _=>rfl)) (aN aM (aN aM (pv 6) ao (fun _ _=>rfl)) (pv 8) (fun _ _=>rfl)) (bJ _)) (tj (oh ((Ei 2 hu3)) (bX kH hr (aa (pv 6) (aa (pv 2) (aa (pv 3) (aa (pv 4) af))))) (pv 7) (bJ _))))))))))))))))))) ?_
 refine ⟨_,rfl,a,0,ns,rfl,hS,h63,by decide,by decide,fun v0 z0 z1=>⟨_,_,rfl,rfl,(by show (0:Int)<3; decide),?_⟩⟩
 have y:=ft (a:=v0) (b:=3) (by decide)
 obtain ⟨way,ey⟩:∃ way,v0%3=way:=⟨_,rfl⟩
 try dsimp only [bW,cU,List.set]
 rw [ey] at y ⊢
 refine ⟨_,rfl,_,rfl,a,1,ns,rfl,hS,h63,by decide,by decide,fun v1 u0 u1=>⟨way,v1,rfl,⟨y.1,by omega⟩,⟨u0,u1⟩,fun t H1 b n s1 ht ok=>?_⟩⟩
 obtain ⟨b2,n9,bn,b64,good,bad⟩:=ok
 refine ⟨t,_,rfl,qT_ ht,rfl,_,_,rfl,_,_,rfl,rfl,?_⟩
 have hS1:=s1.seq hS
 refine ⟨_,rfl,a,2,ns,rfl,hS1,h63,by decide,by decide,fun v2 p0 p1=>⟨_,rfl,_,_,rfl,rfl,_,_,rfl,rfl,by omega,?_⟩⟩
 have am:=ft (a:=v2) (b:=(n:Int)+1) (by omega)
 obtain ⟨at_,ea⟩:=fu am.1
 have an:at_<=n:=by omega
 try dsimp only [bW,cU,List.set]
 rw [ea]
 have pe:∀ t:Nat,((b:Nat):Int)^t=((b^t:Nat):Int):=fun t=>by push_cast; rfl
 refine ⟨_,rfl,_,rfl,(b:Int),n,rfl,⟨by omega,by omega⟩,by omega,?_⟩
 try dsimp only [bW,cU,List.set]
 rw [pe n]
 have wp:1<=b^n:=Nat.pow_pos (by omega)
 refine ⟨_,rfl,_,rfl,_,rfl,a,3,ns,rfl,hS1,h63,by decide,by decide,fun v3 r0 r1=>⟨(by show 3<=sizeLine; decide),fun Lx hLx=>?_⟩⟩
 have sLx:=aj hLx (HO.lst [V.int 5,V.int 2,V.int 1])
 have mv:1<=([5,2,1]:LI).getD way.toNat 0/\([5,2,1]:LI).getD way.toNat 0<=5:=by
  have:way=0\/way=1\/way=2:=by omega
  rcases this with h | h | h <;> rw [h] <;> decide
 refine ⟨_,rfl,Lx,_,_,_,rfl,rfl,qL_ ae,bS (ns:=[5,2,1]) y.1 (by show way<3; omega),_,_,rfl,rfl,by omega,_,_,rfl,rfl,?_⟩
 have mm:=ft (a:=v3) (b:=([5,2,1]:LI).getD way.toNat 0) (by omega)
 obtain ⟨rooms,er⟩:=fu (x:=1+v3%([5,2,1]:LI).getD way.toNat 0) (by omega)
 refine ⟨a,4,rooms,b^n,ns,by show [V.ref a,V.int 4,V.int ((b^n:Nat):Int),V.int (1+v3%([5,2,1]:LI).getD way.toNat 0)]=_; rw [er],(s1.trans sLx).seq hS,h63,⟨by decide,by decide⟩,⟨by omega,by omega⟩,⟨wp,by omega⟩,fun m r g H2 rows signs s2 M R ls=>?_⟩
 have lr:=R.len
 subst lr
 have s02:=s1.trans (sLx.trans s2)
 refine ⟨_,rfl,rfl,_,rfl,ur (fun c=>?_) (fun c=>?_)⟩
 ·obtain ⟨g1,g2⟩:=bad c
  exact ⟨_,rfl,_,rfl,_,rfl,_,rfl,.ref m,.int at_,b,n,rfl,by omega,by omega,g2,g1,fun H' _=>k H'⟩
 have W1:=good c
 obtain ⟨W,eW⟩:∃ W,b^(n+1)=W:=⟨_,rfl⟩
 have bp:0<b^at_:=Nat.pow_pos (by omega)
 obtain ⟨q1,q2⟩:=CG (b:=b) an
 have hν:∀ f,f<W->nar (b^at_) b f<b^n:=fun f hf=>by rw [<- q2]; exact yD bp (by omega) (by rw [q1,eW]; exact hf)
 have pat:b^at_<=1000:=Nat.le_trans (kU (by omega) (show at_<=n+1 by omega)) W1
 have bb:b<=1000:=by
  have:=kU (w:=b) (by omega) (show 1<=n+1 by omega)
  rw [Nat.pow_one] at this
  omega
 have W0:0<W:=by rw [<- eW]; exact Nat.pow_pos (by omega)
 refine ⟨_,rfl,_,rfl,_,rfl,_,rfl,m,r,g,b,n,at_,rows,signs,rfl,M,R,ls,⟨by omega,by omega⟩,b2,an,W1,fun m1 r1 g1 rows1 signs1 H3 s3 M3 L3=>?_⟩
 rw [eW] at M3 W1
 have few:=L3.few R (by omega)
 obtain ⟨rowsW,erW⟩:∃ rowsW,kD (nar (b^at_) b) W rows1=rowsW:=⟨_,rfl⟩
 have lW:rowsW.length=rows1.length:=by rw [<- erW]; exact kE
 have RW:RowsOk rowsW.length W rowsW:=by rw [lW,<- erW]; exact Dz L3.ok hν
 have OW:InOrder rowsW:=by
  rw [<- erW]
  refine zh L3.ok hν (fun f _=>C7 bp (by omega) f) ?_ L3.ord
  rw [<- eW,<- q1,<- q2]
  exact C6 bp (by omega) (Nat.pow_pos (by omega))
 have AW:Apart W rowsW signs1:=by
  rw [<- erW]
  refine zg L3.ok hν (fun y hy=>?_) L3.apart
  rw [<- eW,<- q1]
  exact xx bp (by omega) (by rw [q2]; exact hy)
 have walkW:∀ v,InF W v->aP rowsW v 0=aP rows1 (v.map fun f=>(nar (b^at_) b f.toNat:Int)) 0:=fun v hv=>by
  rw [<- erW]
  exact kZ L3.ok hν v 0 hv ⟨by decide,by have:=L3.pos; omega⟩
 rw [erW] at M3
 have eWi:((b^n:Nat):Int)*(b:Int)=((W:Nat):Int):=by rw [<- eW,Nat.pow_succ]; push_cast; rfl
 refine ⟨_,rfl,_,rfl,_,rfl,_,_,rfl,rfl,.inl ⟨by omega,by omega⟩,m1,r1,g1,W,rowsW,signs1,by show [V.ref m1,V.int (((b^n:Nat):Int)*(b:Int))]=_; rw [eWi],M3,RW,by rw [lW]; exact L3.pos,by rw [lW]; exact L3.sgn,_,rfl,lA ?_⟩
 obtain ⟨ras,hr3,hA3⟩:=M3.rows
 refine ⟨_,rfl,m1,_,_,_,rfl,rfl,qT_ M3.tup,rfl,r1,ras,W,rowsW,rfl,hr3,hA3,RW,by omega,OW,_,rfl,lA ?_⟩
 refine ⟨_,rfl,m1,_,_,_,rfl,rfl,qT_ M3.tup,rfl,_,rfl,m1,_,_,_,rfl,rfl,qT_ M3.tup,rfl,r1,g1,ras,W,rowsW,signs1,rfl,hr3,hA3,RW,⟨by rw [lW]; exact L3.pos,by omega⟩,W1,M3.sgn,by rw [lW]; exact L3.sgn,AW,fun H4 s4=>⟨_,rfl,lA ?_⟩⟩
 have M4:=M3.same fun b xs e=>s4 _ _ e
 have hr4:=s4 _ _ hr3
 have hA4:=hA3.same fun b xs e=>s4 _ _ e
 have MM4:=M.same fun b xs e=>s4 _ _ (s3 _ _ e)
 obtain ⟨rasM,hrM,hAM⟩:=MM4.rows
 have hS4:=(s02.trans (s3.trans s4)).seq hS
 have L0:=L3.pos
 have tell:∀ v,InF W v->sgn signs1 (aP rowsW v 0)=sgn signs (aP rows (v.map fun f=>(nar (b^at_) b f.toNat:Int)) 0):=fun v hv=>by
  rw [walkW v hv]
  exact (L3.tells _ (CH hν hv)).symm
 have iW:∀ v,InF W v->0<=aP rowsW v 0/\aP rowsW v 0<(rowsW.length:Int):=fun v hv=>kC RW hv (by decide) (by omega)
 have iM:∀ v,InF W v->0<=aP rows (v.map fun f=>(nar (b^at_) b f.toNat:Int)) 0/\aP rows (v.map fun f=>(nar (b^at_) b f.toNat:Int)) 0<(rows.length:Int):=fun v hv=>kC R (CH hν hv) (by decide) (by omega)
 have lsW:signs1.length=rowsW.length:=by rw [lW]; exact L3.sgn
 try dsimp only [bW,cU,List.set]
 refine dj (t:=tY _ _) (fun σ' H'=>σ'=[some (.ref a),some (.int way),some (.int b),some (.int n),some (.int at_),some (.int ((b^n:Nat):Int)),some (.ref m),some (.ref m1),some (.int 0),none,none,none]/\H4=H') ?_ (fun D' nxt=>nxt _ _ ⟨rfl,rfl⟩)
 rintro σ' H' ⟨rfl,rfl⟩
 refine dj (t:=tY _ _) (fun σ' H''=>σ'=[some (.ref a),some (.int way),some (.int b),some (.int n),some (.int at_),some (.int ((b^n:Nat):Int)),some (.ref m),some (.ref m1),some (.int 0),some (.int 0),none,none]/\H4=H'') ?_ (fun D' nxt=>nxt _ _ ⟨rfl,rfl⟩)
 rintro σ' H' ⟨rfl,rfl⟩
 refine dj (t:=pT _ _ _) (fun σ' H'=>∃ (v:LI) (v10 v11:OV),InF W v/\σ'=[some (.ref a),some (.int way),some (.int b),some (.int n),some (.int at_),some (.int ((b^n:Nat):Int)),some (.ref m),some (.ref m1),some (.int (aP rows (v.map fun f=>(nar (b^at_) b f.toNat:Int)) 0)),some (.int (aP rowsW v 0)),v10,v11]/\H'=H4) ?_ (fun D' nxt=>?_)
 rotate_left
 ·refine ⟨_,rfl,a,rfl,⟨_,hS4⟩,fJ (K:=K) (xs:=ns.map V.int) (fun i σ' H'=>∃ (v:LI) (v10 v11:OV),InF W v/\σ'=[some (.ref a),some (.int way),some (.int b),some (.int n),some (.int at_),some (.int ((b^n:Nat):Int)),some (.ref m),some (.ref m1),some (.int (aP rows (v.map fun f=>(nar (b^at_) b f.toNat:Int)) 0)),some (.int (aP rowsW v 0)),v10,v11]/\H'=H4)
   ⟨[],none,none,(fun x hx=>by cases hx),rfl,rfl⟩ (fun i σ' H' _ ⟨_,_,_,_,_,e⟩=>by rw [e]; exact hS4) ?_ (fun σ' H' h=>nxt _ _ h)⟩
  rintro i y σ' H' hi ⟨v,v10,v11,hv,rfl,rfl⟩
  obtain ⟨z,rfl,hz⟩:=bz hi
  have wi:=iW v hv
  have mi:=iM v hv
  have tl:=tell v hv
  unfold sgn at tl
  refine ⟨_,rfl,m1,_,_,_,rfl,rfl,qT_ M4.tup,rfl,_,rfl,g1,_,_,_,rfl,rfl,qT_ M4.sgn,bS wi.1 (by omega),_,rfl,m,_,_,_,rfl,rfl,qT_ MM4.tup,rfl,_,rfl,g,_,_,_,rfl,rfl,qT_ MM4.sgn,bS mi.1 (by omega),rfl,_,rfl,sh (fun z=>absurd (congrArg V.int tl) z) (fun _=>?_)⟩
  refine ⟨_,rfl,_,rfl,_,rfl,_,_,rfl,rfl,.inl ⟨by omega,by omega⟩,_,_,rfl,rfl,by rw [eWi]; omega,?_⟩
  try dsimp only [bW,cU,List.set]
  rw [eWi]
  have fi:=ft (a:=z) (b:=(W:Int)) (by omega)
  obtain ⟨fg,ef⟩:=fu fi.1
  rw [ef]
  have fl:fg<W:=by omega
  have nf:=hν fg fl
  obtain ⟨rb,rr,x1,x2,x3⟩:=xQ (f:=((nar (b^at_) b fg:Nat):Int)) hAM R mi.1 mi.2 (by omega) (by omega)
  obtain ⟨rc,rr',y1,y2,y3⟩:=xQ (f:=(fg:Int)) hA4 RW wi.1 wi.2 (by omega) (by omega)
  refine ⟨_,rfl,m,_,_,_,rfl,rfl,qT_ MM4.tup,rfl,_,rfl,r,_,_,_,rfl,rfl,qT_ hrM,x1,_,rfl,_,rfl,_,rfl,fg,b,at_,rfl,⟨by omega,bb⟩,by omega,pat,by omega,rb,_,_,_,rfl,rfl,qT_ x2,x3,?_⟩
  refine ⟨_,rfl,m1,_,_,_,rfl,rfl,qT_ M4.tup,rfl,_,rfl,r1,_,_,_,rfl,rfl,qT_ hr4,y1,_,rfl,rc,_,_,_,rfl,rfl,qT_ y2,y3,?_⟩
  refine ⟨v++[(fg:Int)],some (.int z),some (.int fg),fun x hx=>?_,?_,rfl⟩
  ·rcases ma_.mp hx with q | q
   ·exact hv x q
   ·rw [List.mem_singleton.mp q]; omega
  ·rw [List.map_append,vx,eS]
   rfl
 rintro σ' H' ⟨v,v10,v11,hv,rfl,rfl⟩
 have wi:=iW v hv
 have mi:=iM v hv
 have tl:=tell v hv
 unfold sgn at tl
 refine ⟨_,rfl,m1,_,_,_,rfl,rfl,qT_ M4.tup,rfl,_,rfl,g1,_,_,_,rfl,rfl,qT_ M4.sgn,bS (ns:=signs1) wi.1 (show aP rowsW v 0<(signs1.length:Int) by omega),_,rfl,m,_,_,_,rfl,rfl,qT_ MM4.tup,rfl,_,rfl,g,_,_,_,rfl,rfl,qT_ MM4.sgn,bS (ns:=signs) mi.1 (by omega),rfl,_,rfl,?_⟩
 rw [decide_eq_true (congrArg V.int tl)]
 refine uu ?_
 refine ⟨_,rfl,_,rfl,_,rfl,_,rfl,m,r,g,b,n,at_,rows,signs,rfl,MM4,R,ls,⟨by omega,by omega⟩,b2,an,by rw [eW]; exact W1,fun m2 r2 g2 rows2 signs2 H5 s5 M5 L5=>?_⟩
 obtain ⟨e1,e2⟩:=LeastOf.one L5 L3 (fun _ _=>rfl)
 rw [e1,e2,eW,erW] at M5
 have M45:=M4.same fun b xs e=>s5 _ _ e
 exact ⟨_,rfl,m2,m1,_,_,rfl,rfl,qT_ M5.tup,qT_ M45.tup,MachAt.eqD M5 M45,k _⟩
end
theorem rQ {K:PySem.W.Frag} {C:Addr} {v:Value} {b:Bool} (h:PySem.W.mroIn K C v=some b):(PySem.W.clsIn K C).isSome=true:=by
 unfold PySem.W.mroIn at h
 obtain ⟨cd,e,_⟩:=Option.bind_eq_some_iff.mp h
 rw [e]
 rfl
theorem EZ {K:PySem.W.Frag} {t:Value} {D:Addr} {b:Bool} (h1:PySem.W.mroIn K D (.type "object")=some true) (h2:PySem.W.typeIn K (.ref D)=some (.type "type")) (h3:PySem.W.subIn K t (.ref D)=some b):PySem.W.kitCls K t (.ref D)=some b:=by
 unfold PySem.W.kitCls
 dsimp only
 rw [if_pos (by rw [rQ h1,h2]; decide)]
 exact h3
theorem vV {K:PySem.W.Frag} {C D:Addr} {b:Bool} (h1:PySem.W.mroIn K D (.type "object")=some true) (h2:PySem.W.typeIn K (.ref D)=some (.type "type")) (h3:PySem.W.subIn K (.ref C) (.ref D)=some b) (ne:(Value.ref C==Value.ref D)=false) :
  PySem.W.kitOne K (.ref C) (.ref D)=some b:=by
 unfold PySem.W.kitOne
 rw [if_neg (by rw [ne]; decide)]
 exact EZ h1 h2 h3
theorem Ea {K:PySem.W.Frag} {C:Addr} (h:PySem.W.subIn K (.ref C) (.type "ValueError")=some true):PySem.W.kitOne K (.ref C) (.type "ValueError")=some true:=by
 unfold PySem.W.kitOne
 rw [if_neg (by intro z; cases beq_iff_eq.mp z)]
 unfold PySem.W.kitCls
 dsimp only
 rw [if_pos (by decide +kernel)]
 exact h
theorem DT {K:PySem.W.Frag} {C F:Addr} (h0:PySem.W.subIn K (.ref F) (.type "BaseException")=some true) (h1:PySem.W.mroIn K F (.type "object")=some true) (h2:PySem.W.typeIn K (.ref F)=some (.type "type")) (h3:PySem.W.subIn K (.ref C) (.ref F)=some true) :
  PySem.W.exmOne K (.ref C) (.ref F)=some true:=by
 unfold PySem.W.exmOne
 rw [if_pos (by rw [h0]; decide)]
 exact EZ h1 h2 h3
section
variable {P:Program} {w:World} {K:PySem.W.Frag} {mg:Str->Option Value} {base:Heap} {f:Addr} {fd:FuncData} {dV:Value} {C F0 D1 D2 D3 D4 D5 D6 D7 D8:Addr}
theorem DA (ga:PySem.W.findIn K (.ref C) "__getattribute__" = some (some (.builtin "BaseException.__getattribute__"))) (gt:PySem.W.findIn K (.ref C) "__getattr__" = some none) (cl:PySem.W.findIn K (.ref C) "__class__" = some (some (.builtin "object.__class__")))
  (gg:PySem.W.specialIn K (.builtin "object.__class__") "__get__" = some (some (.builtin "getset_descriptor.__get__"))) (tk:PySem.W.takesIn K (.builtin "object.__class__")=some true) (ob:PySem.W.mroIn K C (.type "object")=some true) (be:PySem.W.mroIn K C (.type "BaseException")=some true):XCls K C:=
 ⟨ga,gt,cl,gg,tk,ob,be,rQ ob⟩
theorem xC (F:FunD K "_law_refused" "_law_refused" cb dV f fd) (ga:PySem.W.findIn K (.ref C) "__getattribute__" = some (some (.builtin "BaseException.__getattribute__"))) (gt:PySem.W.findIn K (.ref C) "__getattr__" = some none) (cl:PySem.W.findIn K (.ref C) "__class__" = some (some (.builtin "object.__class__")))
  (gg:PySem.W.specialIn K (.builtin "object.__class__") "__get__" = some (some (.builtin "getset_descriptor.__get__"))) (tk:PySem.W.takesIn K (.builtin "object.__class__")=some true) (ob:PySem.W.mroIn K C (.type "object")=some true) (be:PySem.W.mroIn K C (.type "BaseException")=some true)
  (dk:mg "FigureError" = some (.ref F0)) (dQ:mg "TooWide" = some (.ref C)) (h0:PySem.W.subIn K (.ref C) (.type "BaseException")=some true) (h2:PySem.W.typeIn K (.ref C)=some (.type "type")) (h3:PySem.W.subIn K (.ref C) (.ref C)=some true)
  (f1:PySem.W.mroIn K F0 (.type "object")=some true) (f2:PySem.W.typeIn K (.ref F0)=some (.type "type")) (f3:PySem.W.subIn K (.ref C) (.ref F0)=some true) (f4:(Value.ref C==Value.ref F0)=false)
  (kv:PySem.W.subIn K (.ref C) (.type "ValueError")=some true)
  (g1:mg "NoFigures" = some (.ref D1)) (o1:PySem.W.mroIn K D1 (.type "object")=some true) (t1:PySem.W.typeIn K (.ref D1)=some (.type "type")) (u1:PySem.W.subIn K (.ref C) (.ref D1)=some false) (e1:(Value.ref C==Value.ref D1)=false)
  (g2:mg "NoMachine" = some (.ref D2)) (o2:PySem.W.mroIn K D2 (.type "object")=some true) (t2:PySem.W.typeIn K (.ref D2)=some (.type "type")) (u2:PySem.W.subIn K (.ref C) (.ref D2)=some false) (e2:(Value.ref C==Value.ref D2)=false)
  (g3:mg "NoName" = some (.ref D3)) (o3:PySem.W.mroIn K D3 (.type "object")=some true) (t3:PySem.W.typeIn K (.ref D3)=some (.type "type")) (u3:PySem.W.subIn K (.ref C) (.ref D3)=some false) (e3:(Value.ref C==Value.ref D3)=false)
  (g4:mg "NoPower" = some (.ref D4)) (o4:PySem.W.mroIn K D4 (.type "object")=some true) (t4:PySem.W.typeIn K (.ref D4)=some (.type "type")) (u4:PySem.W.subIn K (.ref C) (.ref D4)=some false) (e4:(Value.ref C==Value.ref D4)=false)
  (g5:mg "NoRow" = some (.ref D5)) (o5:PySem.W.mroIn K D5 (.type "object")=some true) (t5:PySem.W.typeIn K (.ref D5)=some (.type "type")) (u5:PySem.W.subIn K (.ref C) (.ref D5)=some false) (e5:(Value.ref C==Value.ref D5)=false)
  (g6:mg "NoSome" = some (.ref D6)) (o6:PySem.W.mroIn K D6 (.type "object")=some true) (t6:PySem.W.typeIn K (.ref D6)=some (.type "type")) (u6:PySem.W.subIn K (.ref C) (.ref D6)=some false) (e6:(Value.ref C==Value.ref D6)=false)
  (g7:mg "NoText" = some (.ref D7)) (o7:PySem.W.mroIn K D7 (.type "object")=some true) (t7:PySem.W.typeIn K (.ref D7)=some (.type "type")) (u7:PySem.W.subIn K (.ref C) (.ref D7)=some false) (e7:(Value.ref C==Value.ref D7)=false)
  (g8:mg "TooGreat" = some (.ref D8)) (o8:PySem.W.mroIn K D8 (.type "object")=some true) (t8:PySem.W.typeIn K (.ref D8)=some (.type "type")) (u8:PySem.W.subIn K (.ref C) (.ref D8)=some false) (e8:(Value.ref C==Value.ref D8)=false)
  (gm:DefX P w K mg base "widened" 6 ["machine","base","many","at"] [] (jN C)) (aK:mg "isinstance" = none) (eT:mg "ValueError" = none):FnOk P w K mg base CX0 7 f fd ["_law_machine_here","_law_base","_law_many","_law_at"] jM:=by
 have k1:=vV o1 t1 u1 e1
 have k2:=vV o2 t2 u2 e2
 have k3:=vV o3 t3 u3 e3
 have k4:=vV o4 t4 u4 e4
 have k5:=vV o5 t5 u5 e5
 have k6:=vV o6 t6 u6 e6
 have k7:=vV o7 t7 u7 e7
 have k8:=vV o8 t8 u8 e8
 refine yN F (DA ga gt cl gg tk ob be) dk dQ (DT h0 ob h2 h3) (vV f1 f2 f3 f4) (Ea kv) g1 g2 g3 g4 g5 g6 g7 g8 (vU fun c hc=>?_) (vU fun c hc=>?_) gm aK eT
 ·simp only [List.map_cons,List.map_nil,List.mem_cons,List.not_mem_nil,or_false] at hc
  rcases hc with rfl | rfl | rfl | rfl | rfl | rfl
  ·exact k1
  ·exact k2
  ·exact k3
  ·exact k4
  ·exact k5
  ·exact k6
 ·simp only [List.map_cons,List.map_nil,List.mem_cons,List.not_mem_nil,or_false] at hc
  rcases hc with rfl | rfl
  ·exact k7
  ·exact k8
end
@[elab_as_elim] theorem sA {motive:List Value->Prop} {us:List Value} (hl:us.length=1) (h:∀ a0,motive [a0]):motive us:=match us,hl with | [a0],_=>h _
@[elab_as_elim] theorem sC {motive:List Value->Prop} {us:List Value} (hl:us.length=2) (h:∀ a0 a1,motive [a0,a1]):motive us:=match us,hl with | [a0,a1],_=>h _ _
@[elab_as_elim] theorem C3 {motive:List Value->Prop} {us:List Value} (hl:us.length=3) (h:∀ a0 a1 a2,motive [a0,a1,a2]):motive us:=match us,hl with | [a0,a1,a2],_=>h _ _ _
@[elab_as_elim] theorem Eb {motive:List Value->Prop} {us:List Value} (hl:us.length=4) (h:∀ a0 a1 a2 a3,motive [a0,a1,a2,a3]):motive us:=match us,hl with | [a0,a1,a2,a3],_=>h _ _ _ _
@[elab_as_elim] theorem FQ {motive:List Value->Prop} {us:List Value} (hl:us.length=5) (h:∀ a0 a1 a2 a3 a4,motive [a0,a1,a2,a3,a4]):motive us:=match us,hl with | [a0,a1,a2,a3,a4],_=>h _ _ _ _ _
@[elab_as_elim] theorem FR {motive:List Value->Prop} {us:List Value} (hl:us.length=6) (h:∀ a0 a1 a2 a3 a4 a5,motive [a0,a1,a2,a3,a4,a5]):motive us:=match us,hl with | [a0,a1,a2,a3,a4,a5],_=>h _ _ _ _ _ _
@[elab_as_elim] theorem FT {motive:List Value->Prop} {us:List Value} (hl:us.length=7) (h:∀ a0 a1 a2 a3 a4 a5 a6,motive [a0,a1,a2,a3,a4,a5,a6]):motive us:=match us,hl with | [a0,a1,a2,a3,a4,a5,a6],_=>h _ _ _ _ _ _ _
theorem all_mk {l:PySem.W.OpenLaw} {w:World} {K:PySem.W.Frag} {h:Heap} {mg:Str->Option Value} {fa:Addr} (X:K.In h) (G:h.Ns mainGlobals mg) (hfa:mg "law" = some (.ref fa))
  {fU jB jA pb cg cV cN bT cB cW eA vO my gP pd iE jz kg gM jy kh gO eu fT iC iG gN Bj:Addr} {pG oN uL uc uK ub yH x9 mL lX oa nr mM lY i6 iP lF k9 og ny mP l5 BK AX xB wW qN qh yI ya sU rG uJ ua wg vC qK qe uI t9 wj vD qM qg mO lZ pF oM sS rF sV rH qL qf Ee AV:Option Addr} {pN uV uU yZ m3 oA m5 jc lH oB m7 Cu xV qW y4 tM uT wF qT uS wG qV m6 pM tL tN qU Eu:Array (Option Value)} {pE pz oZ pK iT oX uH uy um uP lL uh uG ux uk uO lK ug yF yq yi yT rN yg mH mB mq mS gG me nZ nP nJ oo hZ nH mI mC mr mT gH mf i5 iZ iV i9 dN iU lD lC lu lG fZ lh n8 nQ nK oq ic nI mK mE mx mV gJ ml BJ Bv Bf Cb wX Bd xA xj w9 xI pW w5 qJ qC qw qR jT qr yG yr yj yU rO yh sP sk rV tD kb rS uF uw uj uN lJ uf wc vS vM wu nC vJ qG qz qt qO jQ qk uE uv ui uM lI ue we vT vN wx nF vK qI qB qv qQ jS qq mJ mD mw mU gI mh pD pq oY pJ iR oW sO si rU tw ka rR sQ so rW tE kc rT qH qA qu qP jR qp Ed Bu Be Ca yd Bc:Value}
  {T_reached_rooms tn_reached_rooms:Nat} {tc_reached_rooms:Value} {td_reached_rooms:Option Addr} {tsl_reached_rooms:Array (Option Value)} {tk0_reached_rooms:Tok}
  (fQ:PySem.W.nsIn K mainGlobals "reached_rooms" = some (some (.ref fU))) (fW:K.lookup fU=some ⟨pE,pG,.func (PySem.W.fnOf "reached_rooms" "reached_rooms" (aL cf) (aI cf) (ak cf) (.ref T_reached_rooms) pz oZ pK oN iT oX),pN⟩) (fS:PySem.W.codeIn K iT "reached_rooms" = true) (dy:PySem.W.keepIn K (.ref fU)=true)
  (dA:K.lookup T_reached_rooms=some ⟨tc_reached_rooms,td_reached_rooms,.seq #[Value.int 0 tk0_reached_rooms] tn_reached_rooms,tsl_reached_rooms⟩)
  (jn:PySem.W.nsIn K mainGlobals "with_rooms" = some (some (.ref jB))) (jI:K.lookup jB=some ⟨uH,uL,.func (PySem.W.fnOf "with_rooms" "with_rooms" (aL bL) (aI bL) (ak bL) .none uy um uP uc lL uh),uV⟩) (js:PySem.W.codeIn K lL "with_rooms" = true) (gf:PySem.W.keepIn K (.ref jB)=true)
  (jm:PySem.W.nsIn K mainGlobals "columns_of" = some (some (.ref jA))) (jH:K.lookup jA=some ⟨uG,uK,.func (PySem.W.fnOf "columns_of" "columns_of" (aL cH) (aI cH) (ak cH) .none ux uk uO ub lK ug),uU⟩) (jr:PySem.W.codeIn K lK "columns_of" = true) (gd:PySem.W.keepIn K (.ref jA)=true)
  (oJ:PySem.W.nsIn K mainGlobals "back_of" = some (some (.ref pb))) (pB:K.lookup pb=some ⟨yF,yH,.func (PySem.W.fnOf "back_of" "back_of" (aL gi) (aI gi) (ak gi) .none yq yi yT x9 rN yg),yZ⟩) (oO:PySem.W.codeIn K rN "back_of" = true) (kO:PySem.W.keepIn K (.ref pb)=true)
  (d5:PySem.W.nsIn K mainGlobals "unparted_groups" = some (some (.ref eA))) (eN:K.lookup eA=some ⟨mK,mP,.func (PySem.W.fnOf "unparted_groups" "unparted_groups" (aL bq) (aI bq) (ak bq) .none mE mx mV l5 gJ ml),m7⟩) (eh:PySem.W.codeIn K gJ "unparted_groups" = true) (cQ:PySem.W.keepIn K (.ref eA)=true)
  (vB:PySem.W.nsIn K mainGlobals "least" = some (some (.ref vO))) (vX:K.lookup vO=some ⟨BJ,BK,.func (PySem.W.fnOf "least" "least" (aL ij) (aI ij) (ak ij) .none Bv Bf Cb AX wX Bd),Cu⟩) (vF:PySem.W.codeIn K wX "least" = true) (q9:PySem.W.keepIn K (.ref vO)=true)
  (lV:PySem.W.nsIn K mainGlobals "power_of" = some (some (.ref my))) (mG:K.lookup my=some ⟨xA,xB,.func (PySem.W.fnOf "power_of" "power_of" (aL fy) (aI fy) (ak fy) .none xj w9 xI wW pW w5),xV⟩) (l7:PySem.W.codeIn K pW "power_of" = true) (jC:PySem.W.keepIn K (.ref my)=true)
  (gB:PySem.W.nsIn K mainGlobals "without_part" = some (some (.ref gP))) (gU:K.lookup gP=some ⟨qJ,qN,.func (PySem.W.fnOf "without_part" "without_part" (aL cw) (aI cw) (ak cw) .none qC qw qR qh jT qr),qW⟩) (gF:PySem.W.codeIn K jT "without_part" = true) (eJ:PySem.W.keepIn K (.ref gP)=true)
  (oK:PySem.W.nsIn K mainGlobals "widened" = some (some (.ref pd))) (pC:K.lookup pd=some ⟨yG,yI,.func (PySem.W.fnOf "widened" "widened" (aL c8) (aI c8) (ak c8) .none yr yj yU ya rO yh),y4⟩) (oP:PySem.W.codeIn K rO "widened" = true) (i0:PySem.W.keepIn K (.ref pd)=true)
  (iu:PySem.W.nsIn K mainGlobals "_law_number" = some (some (.ref iE))) (iI:K.lookup iE=some ⟨sP,sU,.func (PySem.W.fnOf "_law_number" "_law_number" (aL cK) (aI cK) (ak cK) .none sk rV tD rG kb rS),tM⟩) (iA:PySem.W.codeIn K kb "_law_number" = true) (fA:PySem.W.keepIn K (.ref iE)=true)
  (jk:PySem.W.nsIn K mainGlobals "_law_whole" = some (some (.ref jz))) (jG:K.lookup jz=some ⟨uF,uJ,.func (PySem.W.fnOf "_law_whole" "_law_whole" (aL c7) (aI c7) (ak c7) .none uw uj uN ua lJ uf),uT⟩) (jq:PySem.W.codeIn K lJ "_law_whole" = true) (gc:PySem.W.keepIn K (.ref jz)=true)
  (jZ:PySem.W.nsIn K mainGlobals "_law_sign" = some (some (.ref kg))) (ku:K.lookup kg=some ⟨wc,wg,.func (PySem.W.fnOf "_law_sign" "_law_sign" (aL dS) (aI dS) (ak dS) .none vS vM wu vC nC vJ),wF⟩) (j5:PySem.W.codeIn K nC "_law_sign" = true) (ie:PySem.W.keepIn K (.ref kg)=true)
  (gy:PySem.W.nsIn K mainGlobals "_law_machine" = some (some (.ref gM))) (gR:K.lookup gM=some ⟨qG,qK,.func (PySem.W.fnOf "_law_machine" "_law_machine" (aL bO) (aI bO) (ak bO) .none qz qt qO qe jQ qk),qT⟩) (gC:PySem.W.codeIn K jQ "_law_machine" = true) (eF:PySem.W.keepIn K (.ref gM)=true)
  (ji:PySem.W.nsIn K mainGlobals "_law_sides" = some (some (.ref jy))) (jF:K.lookup jy=some ⟨uE,uI,.func (PySem.W.fnOf "_law_sides" "_law_sides" (aL c6) (aI c6) (ak c6) .none uv ui uM t9 lI ue),uS⟩) (jo:PySem.W.codeIn K lI "_law_sides" = true) (f9:PySem.W.keepIn K (.ref jy)=true)
  (j4:PySem.W.nsIn K mainGlobals "_law_wide" = some (some (.ref kh))) (kx:K.lookup kh=some ⟨we,wj,.func (PySem.W.fnOf "_law_wide" "_law_wide" (aL dU) (aI dU) (ak dU) .none vT vN wx vD nF vK),wG⟩) (j7:PySem.W.codeIn K nF "_law_wide" = true) (ig:PySem.W.keepIn K (.ref kh)=true)
  (gA:PySem.W.nsIn K mainGlobals "_law_without" = some (some (.ref gO))) (gT:K.lookup gO=some ⟨qI,qM,.func (PySem.W.fnOf "_law_without" "_law_without" (aL cu) (aI cu) (ak cu) .none qB qv qQ qg jS qq),qV⟩) (gE:PySem.W.codeIn K jS "_law_without" = true) (eI:PySem.W.keepIn K (.ref gO)=true)
  (d4:PySem.W.nsIn K mainGlobals "_law_is_machine" = some (some (.ref eu))) (eM:K.lookup eu=some ⟨mJ,mO,.func (PySem.W.fnOf "_law_is_machine" "_law_is_machine" (aL bQ) (aI bQ) (ak bQ) .none mD mw mU lZ gI mh),m6⟩) (d9:PySem.W.codeIn K gI "_law_is_machine" = true) (cP:PySem.W.keepIn K (.ref eu)=true)
  (fP:PySem.W.nsIn K mainGlobals "_law_in_order" = some (some (.ref fT))) (fV:K.lookup fT=some ⟨pD,pF,.func (PySem.W.fnOf "_law_in_order" "_law_in_order" (aL cc) (aI cc) (ak cc) .none pq oY pJ oM iR oW),pM⟩) (fR:PySem.W.codeIn K iR "_law_in_order" = true) (dw:PySem.W.keepIn K (.ref fT)=true)
  (ir:PySem.W.nsIn K mainGlobals "_law_marked" = some (some (.ref iC))) (iH:K.lookup iC=some ⟨sO,sS,.func (PySem.W.fnOf "_law_marked" "_law_marked" (aL cj) (aI cj) (ak cj) .none si rU tw rF ka rR),tL⟩) (iz:PySem.W.codeIn K ka "_law_marked" = true) (fz:PySem.W.keepIn K (.ref iC)=true)
  (iy:PySem.W.nsIn K mainGlobals "_law_parted" = some (some (.ref iG))) (iJ:K.lookup iG=some ⟨sQ,sV,.func (PySem.W.fnOf "_law_parted" "_law_parted" (aL cL) (aI cL) (ak cL) .none so rW tE rH kc rT),tN⟩) (iB:PySem.W.codeIn K kc "_law_parted" = true) (fG:PySem.W.keepIn K (.ref iG)=true)
  (gz:PySem.W.nsIn K mainGlobals "_law_refused" = some (some (.ref gN))) (gS:K.lookup gN=some ⟨qH,qL,.func (PySem.W.fnOf "_law_refused" "_law_refused" (aL cb) (aI cb) (ak cb) .none qA qu qP qf jR qp),qU⟩) (gD:PySem.W.codeIn K jR "_law_refused" = true) (eG:PySem.W.keepIn K (.ref gN)=true)
  (zu:PySem.W.nsIn K mainGlobals "law" = some (some (.ref Bj))) (Bz:K.lookup Bj=some ⟨Ed,Ee,.func (PySem.W.fnOf "law" "law" (aL oy) (aI oy) (ak oy) .none Bu Be Ca AV yd Bc),Eu⟩) (A8:PySem.W.codeIn K yd "law" = true) (Bw:PySem.W.keepIn K (.ref Bj)=true)
  (CJ:PySem.W.nsIn K mainGlobals "len" = some none)
  (wU:PySem.W.nsIn K mainGlobals "range" = some none)
  (zp:PySem.W.nsIn K mainGlobals "list" = some none)
  (wV:PySem.W.nsIn K mainGlobals "tuple" = some none)
  (zo:PySem.W.nsIn K mainGlobals "dict" = some none)
  (kG:PySem.W.nsIn K mainGlobals "enumerate" = some none)
  (CI:PySem.W.nsIn K mainGlobals "int" = some none)
  (jP:PySem.W.nsIn K mainGlobals "isinstance" = some none)
  (y_bool:PySem.W.nsIn K mainGlobals "bool" = some none)
  (CK:PySem.W.nsIn K mainGlobals "set" = some none)
  (jO:PySem.W.nsIn K mainGlobals "ValueError" = some none)
  {tkc_MOST_WIDE:Tok} (kF:PySem.W.nsIn K mainGlobals "MOST_WIDE" = some (some (.int 1000 tkc_MOST_WIDE)))
  {aH:Addr} (oV:PySem.W.nsIn K mainGlobals "Parted" = some (some (.ref aH)))
  {aD:Addr} (ma:PySem.W.nsIn K mainGlobals "TooWide" = some (some (.ref aD)))
  {di:Addr} (gK:PySem.W.nsIn K mainGlobals "FigureError" = some (some (.ref di)))
  {fH:Addr} (jt:PySem.W.nsIn K mainGlobals "NoFigures" = some (some (.ref fH)))
  {fI:Addr} (ju:PySem.W.nsIn K mainGlobals "NoMachine" = some (some (.ref fI)))
  {jV:Addr} (oS:PySem.W.nsIn K mainGlobals "NoName" = some (some (.ref jV)))
  {iO:Addr} (l9:PySem.W.nsIn K mainGlobals "NoPower" = some (some (.ref iO)))
  {m9:Addr} (rP:PySem.W.nsIn K mainGlobals "NoRow" = some (some (.ref m9)))
  {jW:Addr} (oT:PySem.W.nsIn K mainGlobals "NoSome" = some (some (.ref jW)))
  {jX:Addr} (oU:PySem.W.nsIn K mainGlobals "NoText" = some (some (.ref jX)))
  {gj:Addr} (kd:PySem.W.nsIn K mainGlobals "TooGreat" = some (some (.ref gj)))
  (d0:PySem.W.findIn K (.ref aH) "__init__" = some (some (.ref cg))) (eK:K.lookup cg=some ⟨mH,mL,.func (PySem.W.fnOf "__init__" "Parted.__init__" (aL a9) (aI a9) (ak a9) .none mB mq mS lX gG me),m3⟩) (d7:PySem.W.codeIn K gG "Parted.__init__" = true) (eD:PySem.W.keepIn K (.ref cg)=true)
  (eX:PySem.W.findIn K (.ref aH) "is_done" = some (some (.ref cV))) (fk:K.lookup cV=some ⟨nZ,oa,.func (PySem.W.fnOf "is_done" "Parted.is_done" (aL b8) (aI b8) (ak b8) .none nP nJ oo nr hZ nH),oA⟩) (eZ:PySem.W.codeIn K hZ "Parted.is_done" = true) (cY:PySem.W.keepIn K (.ref cV)=true)
  (d3:PySem.W.findIn K (.ref aH) "wait_for" = some (some (.ref cN))) (eL:K.lookup cN=some ⟨mI,mM,.func (PySem.W.fnOf "wait_for" "Parted.wait_for" (aL bP) (aI bP) (ak bP) .none mC mr mT lY gH mf),m5⟩) (d8:PySem.W.codeIn K gH "Parted.wait_for" = true) (cO:PySem.W.keepIn K (.ref cN)=true)
  (cz:PySem.W.findIn K (.ref aH) "next_splitter" = some (some (.ref bT))) (cD:K.lookup bT=some ⟨i5,i6,.func (PySem.W.fnOf "next_splitter" "Parted.next_splitter" (aL bc) (aI bc) (ak bc) .none iZ iV i9 iP dN iU),jc⟩) (cA:PySem.W.codeIn K dN "Parted.next_splitter" = true) (bU:PySem.W.keepIn K (.ref bT)=true)
  (dC:PySem.W.findIn K (.ref aH) "split_off" = some (some (.ref cB))) (dG:K.lookup cB=some ⟨lD,lF,.func (PySem.W.fnOf "split_off" "Parted.split_off" (aL bu) (aI bu) (ak bu) .none lC lu lG k9 fZ lh),lH⟩) (dD:PySem.W.codeIn K fZ "Parted.split_off" = true) (cC:PySem.W.keepIn K (.ref cB)=true)
  (eY:PySem.W.findIn K (.ref aH) "part_by" = some (some (.ref cW))) (fq:K.lookup cW=some ⟨n8,og,.func (PySem.W.fnOf "part_by" "Parted.part_by" (aL b9) (aI b9) (ak b9) .none nQ nK oq ny ic nI),oB⟩) (fb:PySem.W.codeIn K ic "Parted.part_by" = true) (cZ:PySem.W.keepIn K (.ref cW)=true)
  (q_TooWide:PySem.W.excIn K aD [.type "ValueError",.type "Exception",.type "BaseException",.type "object"] "ValueError.__new__" = true)
  (xga:PySem.W.findIn K (.ref aD) "__getattribute__" = some (some (.builtin "BaseException.__getattribute__")))
  (xgt:PySem.W.findIn K (.ref aD) "__getattr__" = some none)
  (xcl:PySem.W.findIn K (.ref aD) "__class__" = some (some (.builtin "object.__class__")))
  (xgg:PySem.W.specialIn K (.builtin "object.__class__") "__get__" = some (some (.builtin "getset_descriptor.__get__")))
  (xtk:PySem.W.takesIn K (.builtin "object.__class__")=some true)
  (xob:PySem.W.mroIn K aD (.type "object")=some true)
  (xbe:PySem.W.mroIn K aD (.type "BaseException")=some true)
  (tw0:PySem.W.subIn K (.ref aD) (.type "BaseException")=some true)
  (tw2:PySem.W.typeIn K (.ref aD)=some (.type "type"))
  (tw3:PySem.W.subIn K (.ref aD) (.ref aD)=some true)
  (fe1:PySem.W.mroIn K di (.type "object")=some true)
  (fe2:PySem.W.typeIn K (.ref di)=some (.type "type"))
  (fe3:PySem.W.subIn K (.ref aD) (.ref di)=some true)
  (fe4:(Value.ref aD==Value.ref di)=false)
  (kve:PySem.W.subIn K (.ref aD) (.type "ValueError")=some true)
  (ob_NoFigures:PySem.W.mroIn K fH (.type "object")=some true)
  (ty_NoFigures:PySem.W.typeIn K (.ref fH)=some (.type "type"))
  (su_NoFigures:PySem.W.subIn K (.ref aD) (.ref fH)=some false)
  (ne_NoFigures:(Value.ref aD==Value.ref fH)=false)
  (ob_NoMachine:PySem.W.mroIn K fI (.type "object")=some true)
  (ty_NoMachine:PySem.W.typeIn K (.ref fI)=some (.type "type"))
  (su_NoMachine:PySem.W.subIn K (.ref aD) (.ref fI)=some false)
  (ne_NoMachine:(Value.ref aD==Value.ref fI)=false)
  (ob_NoName:PySem.W.mroIn K jV (.type "object")=some true)
  (ty_NoName:PySem.W.typeIn K (.ref jV)=some (.type "type"))
  (su_NoName:PySem.W.subIn K (.ref aD) (.ref jV)=some false)
  (ne_NoName:(Value.ref aD==Value.ref jV)=false)
  (ob_NoPower:PySem.W.mroIn K iO (.type "object")=some true)
  (ty_NoPower:PySem.W.typeIn K (.ref iO)=some (.type "type"))
  (su_NoPower:PySem.W.subIn K (.ref aD) (.ref iO)=some false)
  (ne_NoPower:(Value.ref aD==Value.ref iO)=false)
  (ob_NoRow:PySem.W.mroIn K m9 (.type "object")=some true)
  (ty_NoRow:PySem.W.typeIn K (.ref m9)=some (.type "type"))
  (su_NoRow:PySem.W.subIn K (.ref aD) (.ref m9)=some false)
  (ne_NoRow:(Value.ref aD==Value.ref m9)=false)
  (ob_NoSome:PySem.W.mroIn K jW (.type "object")=some true)
  (ty_NoSome:PySem.W.typeIn K (.ref jW)=some (.type "type"))
  (su_NoSome:PySem.W.subIn K (.ref aD) (.ref jW)=some false)
  (ne_NoSome:(Value.ref aD==Value.ref jW)=false)
  (ob_NoText:PySem.W.mroIn K jX (.type "object")=some true)
  (ty_NoText:PySem.W.typeIn K (.ref jX)=some (.type "type"))
  (su_NoText:PySem.W.subIn K (.ref aD) (.ref jX)=some false)
  (ne_NoText:(Value.ref aD==Value.ref jX)=false)
  (ob_TooGreat:PySem.W.mroIn K gj (.type "object")=some true)
  (ty_TooGreat:PySem.W.typeIn K (.ref gj)=some (.type "type"))
  (su_TooGreat:PySem.W.subIn K (.ref aD) (.ref gj)=some false)
  (ne_TooGreat:(Value.ref aD==Value.ref gj)=false)
  (d_pg:PySem.W.plainGet K aH Str.empty=true)
  (d_hd:PySem.W.hasDictIn K aH=true)
  (d_po:PySem.W.plainOver K aH=true)
  (d_sa:PySem.W.findIn K (.ref aH) "__setattr__" = some (some (.builtin "object.__setattr__")))
  (d_n1:PySem.W.findIn K (.ref aH) "group_of" = some none)
  (d_n2:PySem.W.findIn K (.ref aH) "members" = some none)
  (d_n3:PySem.W.findIn K (.ref aH) "waiting" = some none)
  (d_n4:PySem.W.findIn K (.ref aH) "is_waiting" = some none)
  (d_mk:PySem.W.makesIn K aH=true)
  (d_fi:PySem.W.isFn K (.ref cg)=true)
  (d_kp:PySem.W.keepIn K (.ref aH)=true)
  (eB:PySem.W.isFn K (.ref cV)=true)
  (cn:PySem.W.isFn K (.ref bT)=true)
  (eC:PySem.W.isFn K (.ref cW)=true)
  (de:PySem.W.isFn K (.ref cB)=true)
  (dF:PySem.W.isFn K (.ref cN)=true) :
  ∃ fd:FuncData,(∀ (s:Shared) (v:Value),BindsTo s fd ⟨[v],[]⟩ [("_law_script",v)])/\∀ base:Heap,K.In base->base.Ns mainGlobals mg->FnOk l.prog w K mg base CX0 8 fa fd ["_law_script"] (zU K):=by
 have e:=hfa.symm.trans (PySem.W.mg_of X G zu)
 cases e
 have F_reached_rooms:=ba (st:=cf) fW fS dy
 have b_reached_rooms:Binds K _ ["machine","start"] []:=F_reached_rooms.bindsD dA rfl 2 rfl fun _ _ _ _ _ _ us hl=>sC hl fun _ _=>⟨_,rfl,rfl⟩
 have b_reached_rooms_d:Binds K _ ["machine","start"] [Value.int 0 tk0_reached_rooms]:=F_reached_rooms.bindsD dA rfl 1 rfl fun _ _ _ _ _ _ us hl=>sA hl fun _=>⟨_,rfl,rfl⟩
 have qE:=PySem.W.mg_of X G fQ
 have F_with_rooms:=ba (st:=bL) jI js gf
 have b_with_rooms:=F_with_rooms.binds (ps:=["machine","kept","numbers"]) fun _ _ _ _ _ _ us hl=>C3 hl fun _ _ _=>rfl
 have wa:=PySem.W.mg_of X G jn
 have F_columns_of:=ba (st:=cH) jH jr gd
 have b_columns_of:=F_columns_of.binds (ps:=["machine"]) fun _ _ _ _ _ _ us hl=>sA hl fun _=>rfl
 have v8:=PySem.W.mg_of X G jm
 have F_back_of:=ba (st:=gi) pB oO kO
 have b_back_of:=F_back_of.binds (ps:=["column"]) fun _ _ _ _ _ _ us hl=>sA hl fun _=>rfl
 have Av:=PySem.W.mg_of X G oJ
 have F_Parted___init__:=ba (st:=a9) eK d7 eD
 have b_Parted___init__:=F_Parted___init__.binds (ps:=["self","signs"]) fun _ _ _ _ _ _ us hl=>sC hl fun _ _=>rfl
 have F_Parted_is_done:=ba (st:=b8) fk eZ cY
 have b_Parted_is_done:=F_Parted_is_done.binds (ps:=["self"]) fun _ _ _ _ _ _ us hl=>sA hl fun _=>rfl
 have F_Parted_wait_for:=ba (st:=bP) eL d8 cO
 have b_Parted_wait_for:=F_Parted_wait_for.binds (ps:=["self","group"]) fun _ _ _ _ _ _ us hl=>sC hl fun _ _=>rfl
 have F_Parted_next_splitter:=ba (st:=bc) cD cA bU
 have b_Parted_next_splitter:=F_Parted_next_splitter.binds (ps:=["self"]) fun _ _ _ _ _ _ us hl=>sA hl fun _=>rfl
 have F_Parted_split_off:=ba (st:=bu) dG dD cC
 have b_Parted_split_off:=F_Parted_split_off.binds (ps:=["self","group","inside"]) fun _ _ _ _ _ _ us hl=>C3 hl fun _ _ _=>rfl
 have F_Parted_part_by:=ba (st:=b9) fq fb cZ
 have b_Parted_part_by:=F_Parted_part_by.binds (ps:=["self","leading"]) fun _ _ _ _ _ _ us hl=>sC hl fun _ _=>rfl
 have F_unparted_groups:=ba (st:=bq) eN eh cQ
 have b_unparted_groups:=F_unparted_groups.binds (ps:=["machine"]) fun _ _ _ _ _ _ us hl=>sA hl fun _=>rfl
 have nW:=PySem.W.mg_of X G d5
 have F_least:=ba (st:=ij) vX vF q9
 have b_least:=F_least.binds (ps:=["machine"]) fun _ _ _ _ _ _ us hl=>sA hl fun _=>rfl
 have C5:=PySem.W.mg_of X G vB
 have F_power_of:=ba (st:=fy) mG l7 jC
 have b_power_of:=F_power_of.binds (ps:=["base","times"]) fun _ _ _ _ _ _ us hl=>sC hl fun _ _=>rfl
 have yu:=PySem.W.mg_of X G lV
 have F_without_part:=ba (st:=cw) gU gF eJ
 have b_without_part:=F_without_part.binds (ps:=["figure","base","below"]) fun _ _ _ _ _ _ us hl=>C3 hl fun _ _ _=>rfl
 have sI:=PySem.W.mg_of X G gB
 have F_widened:=ba (st:=c8) pC oP i0
 have b_widened:=F_widened.binds (ps:=["machine","base","many","at"]) fun _ _ _ _ _ _ us hl=>Eb hl fun _ _ _ _=>rfl
 have vi:=PySem.W.mg_of X G oK
 have F__law_number:=ba (st:=cK) iI iA fA
 have b__law_number:=F__law_number.binds (ps:=["_law_script","_law_k"]) fun _ _ _ _ _ _ us hl=>sC hl fun _ _=>rfl
 have uA:=PySem.W.mg_of X G iu
 have F__law_whole:=ba (st:=c7) jG jq gc
 have b__law_whole:=F__law_whole.binds (ps:=["_law_found"]) fun _ _ _ _ _ _ us hl=>sA hl fun _=>rfl
 have vZ:=PySem.W.mg_of X G jk
 have F__law_sign:=ba (st:=dS) ku j5 ie
 have b__law_sign:=F__law_sign.binds (ps:=["_law_number_here"]) fun _ _ _ _ _ _ us hl=>sA hl fun _=>rfl
 have xq:=PySem.W.mg_of X G jZ
 have F__law_machine:=ba (st:=bO) gR gC eF
 have b__law_machine:=F__law_machine.binds (ps:=["_law_script","_law_start","_law_wide_here","_law_many"]) fun _ _ _ _ _ _ us hl=>Eb hl fun _ _ _ _=>rfl
 have sF:=PySem.W.mg_of X G gy
 have F__law_sides:=ba (st:=c6) jF jo f9
 have b__law_sides:=F__law_sides.binds (ps:=["_law_way","_law_number_here"]) fun _ _ _ _ _ _ us hl=>sC hl fun _ _=>rfl
 have vY:=PySem.W.mg_of X G ji
 have F__law_wide:=ba (st:=dU) kx j7 ig
 have b__law_wide:=F__law_wide.binds (ps:=["_law_base","_law_many"]) fun _ _ _ _ _ _ us hl=>sC hl fun _ _=>rfl
 have xr:=PySem.W.mg_of X G j4
 have F__law_without:=ba (st:=cu) gT gE eI
 have b__law_without:=F__law_without.binds (ps:=["_law_figure","_law_base","_law_at"]) fun _ _ _ _ _ _ us hl=>C3 hl fun _ _ _=>rfl
 have sH:=PySem.W.mg_of X G gA
 have F__law_is_machine:=ba (st:=bQ) eM d9 cP
 have b__law_is_machine:=F__law_is_machine.binds (ps:=["_law_found","_law_wide_here"]) fun _ _ _ _ _ _ us hl=>sC hl fun _ _=>rfl
 have nV:=PySem.W.mg_of X G d4
 have F__law_in_order:=ba (st:=cc) fV fR dw
 have b__law_in_order:=F__law_in_order.binds (ps:=["_law_rows"]) fun _ _ _ _ _ _ us hl=>sA hl fun _=>rfl
 have qD:=PySem.W.mg_of X G fP
 have F__law_marked:=ba (st:=cj) iH iz fz
 have b__law_marked:=F__law_marked.binds (ps:=["_law_marks","_law_rows"]) fun _ _ _ _ _ _ us hl=>sC hl fun _ _=>rfl
 have uz:=PySem.W.mg_of X G ir
 have F__law_parted:=ba (st:=cL) iJ iB fG
 have b__law_parted:=F__law_parted.binds (ps:=["_law_rows","_law_signs"]) fun _ _ _ _ _ _ us hl=>sC hl fun _ _=>rfl
 have uB:=PySem.W.mg_of X G iy
 have F__law_refused:=ba (st:=cb) gS gD eG
 have b__law_refused:=F__law_refused.binds (ps:=["_law_machine_here","_law_base","_law_many","_law_at"]) fun _ _ _ _ _ _ us hl=>Eb hl fun _ _ _ _=>rfl
 have sG:=PySem.W.mg_of X G gz
 have F_law:=ba (st:=oy) Bz A8 Bw
 have b_law:=F_law.binds (ps:=["_law_script"]) fun _ _ _ _ _ _ us hl=>sA hl fun _=>rfl
 have FP:=PySem.W.mg_of X G zu
 have aY:=PySem.W.mg_none_of X G CJ
 have aW:=PySem.W.mg_none_of X G wU
 have dJ:=PySem.W.mg_none_of X G zp
 have aQ:=PySem.W.mg_none_of X G wV
 have fY:=PySem.W.mg_none_of X G zo
 have bZ:=PySem.W.mg_none_of X G kG
 have CL:=PySem.W.mg_none_of X G CI
 have aK:=PySem.W.mg_none_of X G jP
 have zq:=PySem.W.mg_none_of X G y_bool
 have vy:=PySem.W.mg_none_of X G CK
 have eT:=PySem.W.mg_none_of X G jO
 have dP:=PySem.W.mg_of X G kF
 have Bm:=PySem.W.mg_of X G oV
 have dQ:=PySem.W.mg_of X G ma
 have dk:=PySem.W.mg_of X G gK
 have km:=PySem.W.mg_of X G jt
 have kn:=PySem.W.mg_of X G ju
 have r6:=PySem.W.mg_of X G oS
 have pk:=PySem.W.mg_of X G l9
 have vQ:=PySem.W.mg_of X G rP
 have r8:=PySem.W.mg_of X G oT
 have r9:=PySem.W.mg_of X G oU
 have mz:=PySem.W.mg_of X G kd
 refine ⟨PySem.W.fnOf "law" "law" (aL oy) (aI oy) (ak oy) .none Bu Be Ca AV yd Bc,fun s v=>.of_eq rfl,fun base _ _=>?_⟩
 have dE:=(show Cls K aH from ⟨d_pg,d_hd,d_po,d_sa⟩)
 have Aw:=(show Mk K aH cg from ⟨d_mk,d0,d_fi,d_kp⟩)
 have pc:=(show PCls K aH from ⟨dE,d_n1,d_n2,d_n3,d_n4⟩)
 have dY:DefOk l.prog w K mg base "reached_rooms" 1 ["machine","start"] [.int 0] (pQ K):=⟨_,_,_,qE,dy,.cons ⟨_,rfl⟩ (.nil),b_reached_rooms_d,yM F_reached_rooms dJ⟩
 have f7:DefOk l.prog w K mg base "with_rooms" 1 ["machine","kept","numbers"] [] (wN K):=⟨_,_,[],wa,gf,.nil,b_with_rooms,BU F_with_rooms aQ⟩
 have jh:DefOk l.prog w K mg base "columns_of" 1 ["machine"] [] (y7 K):=⟨_,_,[],v8,gd,.nil,b_columns_of,Dc F_columns_of aW aQ⟩
 have oG:DefOk l.prog w K mg base "back_of" 1 ["column"] [] (wH K):=⟨_,_,[],Av,kO,.nil,b_back_of,BL F_back_of bZ⟩
 have oE:DefMk l.prog w K mg base "Parted" aH 1 ["self","signs"] (tV aH):=⟨Bm,dE,_,_,Aw,b_Parted___init__,yL F_Parted___init__ pc aY dJ aW fY bZ⟩
 have lS:DefMe l.prog w K mg base aH "is_done" 1 ["self"] (tR K aH):=⟨dE,_,_,⟨eX,eB,cY⟩,b_Parted_is_done,Az F_Parted_is_done pc aY⟩
 have hX:DefMe l.prog w K mg base aH "wait_for" 1 ["self","group"] (y8 aH):=⟨dE,_,_,⟨d3,dF,cO⟩,b_Parted_wait_for,yO F_Parted_wait_for pc⟩
 have eV:DefMe l.prog w K mg base aH "next_splitter" 1 ["self"] (wK aH):=⟨dE,_,_,⟨cz,cn,bU⟩,b_Parted_next_splitter,BO F_Parted_next_splitter pc dJ⟩
 have jf:DefMe l.prog w K mg base aH "split_off" 2 ["self","group","inside"] (wM K aH):=⟨dE,_,_,⟨dC,de,cC⟩,b_Parted_split_off,BR F_Parted_split_off pc hX aY fY⟩
 have lU:DefMe l.prog w K mg base aH "part_by" 3 ["self","leading"] (tU aH):=⟨dE,_,_,⟨eY,eC,cZ⟩,b_Parted_part_by,AE F_Parted_part_by pc jf aY⟩
 have dZ:DefOk l.prog w K mg base "unparted_groups" 4 ["machine"] [] (Cw K):=⟨_,_,[],nW,cQ,.nil,b_unparted_groups,Eh F_unparted_groups pc jh oG oE lS eV lU dJ fY⟩
 have vz:DefOk l.prog w K mg base "least" 5 ["machine"] [] (wI K):=⟨_,_,[],C5,q9,.nil,b_least,BM F_least dY f7 dZ bZ fY aY⟩
 have dB:DefOk l.prog w K mg base "power_of" 1 ["base","times"] [] (rA):=⟨_,_,[],yu,jC,.nil,b_power_of,BP F_power_of aW⟩
 have gu:DefOk l.prog w K mg base "without_part" 1 ["figure","base","below"] [] (pS):=⟨_,_,[],sI,eJ,.nil,b_without_part,yQ F_without_part ⟩
 have kH:DefOk l.prog w K mg base "widened" 6 ["machine","base","many","at"] [] (pR):=⟨_,_,[],vi,i0,.nil,b_widened,yP F_widened dB vz gu dP aW aQ⟩
 have gm:DefX l.prog w K mg base "widened" 6 ["machine","base","many","at"] [] (jN aD):=⟨_,_,[],vi,i0,.nil,b_widened,xD F_widened dB dP dQ q_TooWide⟩
 have bG:DefOk l.prog w K mg base "_law_number" 1 ["_law_script","_law_k"] [] (zV K):=⟨_,_,[],uA,fA,.nil,b__law_number,Eg F__law_number aY⟩
 have dX:DefOk l.prog w K mg base "_law_whole" 1 ["_law_found"] [] (tX):=⟨_,_,[],vZ,gc,.nil,b__law_whole,AA F__law_whole aK CL zq⟩
 have jY:DefOk l.prog w K mg base "_law_sign" 1 ["_law_number_here"] [] (wL):=⟨_,_,[],xq,ie,.nil,b__law_sign,BQ F__law_sign ⟩
 have gn:DefOk l.prog w K mg base "_law_machine" 2 ["_law_script","_law_start","_law_wide_here","_law_many"] [] (wJ K):=⟨_,_,[],sF,eF,.nil,b__law_machine,BN F__law_machine bG jY aW aQ⟩
 have jg:DefOk l.prog w K mg base "_law_sides" 1 ["_law_way","_law_number_here"] [] (tW):=⟨_,_,[],vY,f9,.nil,b__law_sides,AF F__law_sides ⟩
 have dM:DefOk l.prog w K mg base "_law_wide" 1 ["_law_base","_law_many"] [] (rB):=⟨_,_,[],xr,ig,.nil,b__law_wide,BS F__law_wide aW⟩
 have gq:DefOk l.prog w K mg base "_law_without" 2 ["_law_figure","_law_base","_law_at"] [] (m8):=⟨_,_,[],sH,eI,.nil,b__law_without,xE F__law_without dM⟩
 have dW:DefOk l.prog w K mg base "_law_is_machine" 2 ["_law_found","_law_wide_here"] [] (pO):=⟨_,_,[],nV,cP,.nil,b__law_is_machine,yJ F__law_is_machine dX aK aQ aY⟩
 have fO:DefOk l.prog w K mg base "_law_in_order" 1 ["_law_rows"] [] (tT):=⟨_,_,[],qD,dw,.nil,b__law_in_order,AD F__law_in_order aY aW⟩
 have ik:DefOk l.prog w K mg base "_law_marked" 1 ["_law_marks","_law_rows"] [] (tS):=⟨_,_,[],uz,fz,.nil,b__law_marked,AB F__law_marked aY aW aQ⟩
 have iq:DefOk l.prog w K mg base "_law_parted" 2 ["_law_rows","_law_signs"] [] (pP):=⟨_,_,[],uB,fG,.nil,b__law_parted,yK F__law_parted ik dJ vy aY aW⟩
 have gp:DefOk l.prog w K mg base "_law_refused" 7 ["_law_machine_here","_law_base","_law_many","_law_at"] [] (jM):=⟨_,_,[],sG,eG,.nil,b__law_refused,xC F__law_refused xga xgt xcl xgg xtk xob xbe dk dQ tw0 tw2 tw3 fe1 fe2 fe3 fe4 kve km ob_NoFigures ty_NoFigures su_NoFigures ne_NoFigures kn ob_NoMachine ty_NoMachine su_NoMachine ne_NoMachine r6 ob_NoName ty_NoName su_NoName ne_NoName pk ob_NoPower ty_NoPower su_NoPower ne_NoPower vQ ob_NoRow ty_NoRow su_NoRow ne_NoRow r8 ob_NoSome ty_NoSome su_NoSome ne_NoSome r9 ob_NoText ty_NoText su_NoText ne_NoText mz ob_TooGreat ty_TooGreat su_TooGreat ne_TooGreat gm aK eT⟩
 exact Ef F_law bG jg dM gn gp kH dW fO iq gq
theorem walk {l:PySem.W.OpenLaw} {q:Program} {loose:List Str} {XP:(Str->Option Value)->Heap->Prop} {YP:World->Heap->Prop} {d:DefRec} {K:Params->PySem.W.Frag} (hn:l.most=some 63) (hdf:d.params.defaults=[])
  (hY:∀ (w:World) (h:Heap),YP w h->(K w.params).In h)
  (F:∀ (w:World) (mg:Str->Option Value) (fa:Addr) (h:Heap),(K w.params).In h->h.Ns mainGlobals mg->mg d.name=some (.ref fa) ->
   ∃ fd:FuncData,(∀ (s:Shared) (u:Value),BindsTo s fd ⟨[u],[]⟩ [("_law_script",u)])/\∀ base:Heap,(K w.params).In base->base.Ns mainGlobals mg->FnOk l.prog w (K w.params) mg base CX0 8 fa fd ["_law_script"] (zU (K w.params))) :
  PySem.W.WalkO q loose XP YP l.row.toRowW d [] (fun f vs=>PySem.call f vs):=
 L2.walk_of (n:=63) (k:=8) (x := "_law_script") (CX:=fun _=>CX0) (sp:=fun w=>zU (K w.params)) hn (by decide) hdf ⟨rfl,by decide,by decide⟩ hY F (fun _ _ a ns hl _ hS=>⟨a,ns,rfl,hS,hl,fun _=>rfl⟩) fun _ _ _ _ _ z=>z
end My
def PySem.W.Fast.tw14831671454646140602:=0
def PySem.W.Fast.tw14443816075439703038:=0
def PySem.W.Fast.tw1031049310392827365:=0
def PySem.W.Fast.tw10797751418201698783:=0
def PySem.W.Fast.tw10736330400751478517:=0
def PySem.W.Fast.tw9605511151237459075:=0
def PySem.W.Fast.tw4101174465450469921:=0
def PySem.W.Fast.tw7486334131881731267:=0
def PySem.W.Fast.tw10467546278200483567:=0
def PySem.W.Fast.tw2130612196912470500:=0
def PySem.W.Fast.tw16332261812292613794:=0
def PySem.W.Fast.tw13420665202826497581:=0
def PySem.W.Fast.tw14089272265585150600:=0
def PySem.W.Fast.tw10007690229121585683:=0
def PySem.W.Fast.tw11330496988211258029:=0
def PySem.W.Fast.tw16948988737669277839:=0
def PySem.W.Fast.tw10804817661599700179:=0
def PySem.W.Fast.tw8464436650816368086:=0
def PySem.W.Fast.tw1036465302250758943:=0
def PySem.W.Fast.tw1582794077965842699:=0
def PySem.W.Fast.tw12402183323874990920:=0
def PySem.W.Fast.tw7178452912680190658:=0
def PySem.W.Fast.tw7905983708368474772:=0
def PySem.W.Fast.tw1133864874727710398:=0
def PySem.W.Fast.tw2796058836920502583:=0
def PySem.W.Fast.tw12886416077428539169:=0
def PySem.W.Fast.tw15744304167454578266:=0
def PySem.W.Fast.tw17108891798437457936:=0
def PySem.W.Fast.tw6256234327101003372:=0
def PySem.W.Fast.tw13723947439031489780:=0
def PySem.W.Fast.tw12219714661893985780:=0
def PySem.W.Fast.tw1368880117892628069:=0
def PySem.W.Fast.tw11289565440519391554:=0
def PySem.W.Fast.tw18404632139569920036:=0
def PySem.W.Fast.tw5927876678295247222:=0
def PySem.W.Fast.tw7215591805398212019:=0
def PySem.W.Fast.tw7105148643411918872:=0
def PySem.W.Fast.tw16845466045230824576:=0
def PySem.W.Fast.tw7327548170161986910:=0
def PySem.W.Fast.tw4737706135004391426:=0
def PySem.W.Fast.tw18145162764577509439:=0
def PySem.W.Fast.tw15790513281387704512:=0
def PySem.W.Fast.tw1268648785057917931:=0
def PySem.W.Fast.tw7108386549784589414:=0
def PySem.W.Fast.tw15440429688497069422:=0
def PySem.W.Fast.tw4753953802482301865:=0
def PySem.W.Fast.tw17911076632798445217:=0
def PySem.W.Fast.tw16693975049501211962:=0
def PySem.W.Fast.tw14217374236037583237:=0
def PySem.W.Fast.tw1326367404123308551:=0
def PySem.W.Fast.tw12095774974432304383:=0
def PySem.W.Fast.tw7058993666228539041:=0
def PySem.W.Fast.tw8837033964599958565:=0
def PySem.W.Fast.tw7828824529361603791:=0
def PySem.W.Fast.tw14982919977669023043:=0
def PySem.W.Fast.tw16771255755448432146:=0
def PySem.W.Fast.tw297732344049344537:=0
def PySem.W.Fast.tw4052767403093466950:=0
def PySem.W.Fast.tw7255760336979062649:=0
def PySem.W.Fast.tw13691275302999416459:=0
def PySem.W.Fast.tw3135693566618933882:=0
def PySem.W.Fast.tw14890258232696884453:=0
def PySem.W.Fast.tw7724062348779123553:=0
def PySem.W.Fast.tw15859468158684788036:=0
def PySem.W.Fast.tw13040811894333432447:=0
def PySem.W.Fast.tw10423582655616778427:=0
def PySem.W.Fast.tw18388499240739636389:=0
def PySem.W.Fast.tw4736526752064124069:=0
def PySem.W.Fast.tw68594195749054340:=0
def PySem.W.Fast.tw9492762802771957665:=0
def PySem.W.Fast.tw2995393012074743603:=0
def PySem.W.Fast.tw10408149183309513951:=0
def PySem.W.Fast.tw9060869860230427941:=0
def PySem.W.Fast.tw17309500616191503380:=0
def PySem.W.Fast.tw2532796350163426054:=0
def PySem.W.Fast.tw12661585147178179628:=0
def PySem.W.Fast.tw4764769006561581938:=0
def PySem.W.Fast.tw10260656443702814074:=0
def PySem.W.Fast.tw14820308854498745670:=0
def PySem.W.Fast.tw5405849070107758738:=0
def PySem.W.Fast.tw6458004471674689947:=0
def PySem.W.Fast.tw8720452219247255223:=0
def PySem.W.Fast.tw3638662184964323117:=0
def PySem.W.Fast.tw7330827059211867981:=0
def PySem.W.Fast.tw10010117069487297436:=0
def PySem.W.Fast.tw16394497431451668948:=0
def PySem.W.Fast.tw15583796403461787519:=0
def PySem.W.Fast.tw15790643547256141770:=0
def PySem.W.Fast.tw11705084982886028780:=0
def PySem.W.Fast.tw17468762178550552379:=0
def PySem.W.Fast.tw6735624524125334387:=0
def PySem.W.Fast.tw17994229413218692635:=0
def PySem.W.Fast.tw16530992215283185997:=0
def PySem.W.Fast.tw8773344741967145380:=0
def PySem.W.Fast.tw5861524561917801769:=0
def PySem.W.Fast.tw2235734355403768568:=0
def PySem.W.Fast.tw15773212945337913406:=0
def PySem.W.Fast.tw10282134598794599744:=0
def PySem.W.Fast.tw5522325037553333139:=0
def PySem.W.Fast.tw1614363523101044731:=0
def PySem.W.Fast.tw13079345143838768682:=0
def PySem.W.Fast.tw4795119480396515430:=0
def PySem.W.Fast.tw13687408006401905198:=0
def PySem.W.Fast.tw8934736233316935811:=0
def PySem.W.Fast.tw13111609992650141368:=0
def PySem.W.Fast.tw405958900064346010:=0
def PySem.W.Fast.tw15045206083281162150:=0
def PySem.W.Fast.tw11232059522490887235:=0
def PySem.W.Fast.tw7721024271281192117:=0
def PySem.W.Fast.tw16310406318043804052:=0
def PySem.W.Fast.tw14688143283315886440:=0
def PySem.W.Fast.tw15884114267454686205:=0
open PySem PySem.W PyProof.Rows
set_option maxRecDepth 100000 in
set_option maxHeartbeats 0 in
theorem PySem.Challenge.cw_figuretell_k25_widened_holds : PySem.Challenge.rw_figuretell_k25_widened.Holds := by
 w_on; o_law; k_head; (case hw=>w_witness2)
 k_fill
 refine My.walk (l:=PySem.Challenge.rw_figuretell_k25_widened) rfl rfl (fun w h Y=>PySem.W.kIn_of Y) ?F
 case F =>
  intro w mg fa h KX G hmg
  refine' My.all_mk KX G hmg ?fQ ?fW ?fS ?dy ?dA ?jn ?jI ?js ?gf ?jm ?jH ?jr ?gd ?oJ ?pB ?oO ?kO ?d5 ?eN ?eh ?cQ ?vB ?vX ?vF ?q9 ?lV ?mG ?l7 ?jC ?gB ?gU ?gF ?eJ ?oK ?pC ?oP ?i0 ?iu ?iI ?iA ?fA ?jk ?jG ?jq ?gc ?jZ ?ku ?j5 ?ie ?gy ?gR ?gC ?eF ?ji ?jF ?jo ?f9 ?j4 ?kx ?j7 ?ig ?gA ?gT ?gE ?eI ?d4 ?eM ?d9 ?cP ?fP ?fV ?fR ?dw ?ir ?iH ?iz ?fz ?iy ?iJ ?iB ?fG ?gz ?gS ?gD ?eG ?zu ?Bz ?A8 ?Bw ?CJ ?wU ?zp ?wV ?zo ?kG ?CI ?jP ?y_bool ?CK ?jO ?kF ?oV ?ma ?gK ?jt ?ju ?oS ?l9 ?rP ?oT ?oU ?kd ?d0 ?eK ?d7 ?eD ?eX ?fk ?eZ ?cY ?d3 ?eL ?d8 ?cO ?cz ?cD ?cA ?bU ?dC ?dG ?dD ?cC ?eY ?fq ?fb ?cZ ?q_TooWide ?xga ?xgt ?xcl ?xgg ?xtk ?xob ?xbe ?tw0 ?tw2 ?tw3 ?fe1 ?fe2 ?fe3 ?fe4 ?kve ?ob_NoFigures ?ty_NoFigures ?su_NoFigures ?ne_NoFigures ?ob_NoMachine ?ty_NoMachine ?su_NoMachine ?ne_NoMachine ?ob_NoName ?ty_NoName ?su_NoName ?ne_NoName ?ob_NoPower ?ty_NoPower ?su_NoPower ?ne_NoPower ?ob_NoRow ?ty_NoRow ?su_NoRow ?ne_NoRow ?ob_NoSome ?ty_NoSome ?su_NoSome ?ne_NoSome ?ob_NoText ?ty_NoText ?su_NoText ?ne_NoText ?ob_TooGreat ?ty_TooGreat ?su_TooGreat ?ne_TooGreat ?d_pg ?d_hd ?d_po ?d_sa ?d_n1 ?d_n2 ?d_n3 ?d_n4 ?d_mk ?d_fi ?d_kp ?eB ?cn ?eC ?de ?dF
  (case fQ=>k_is); (case fW=>k_is); (case fS=>k_is); (case dy=>k_is); (case dA=>k_is)
  (case jn=>k_is); (case jI=>k_is); (case js=>k_is); (case gf=>k_is)
  (case jm=>k_is); (case jH=>k_is); (case jr=>k_is); (case gd=>k_is)
  (case oJ=>k_is); (case pB=>k_is); (case oO=>k_is); (case kO=>k_is)
  (case d5=>k_is); (case eN=>k_is); (case eh=>k_is); (case cQ=>k_is)
  (case vB=>k_is); (case vX=>k_is); (case vF=>k_is); (case q9=>k_is)
  (case lV=>k_is); (case mG=>k_is); (case l7=>k_is); (case jC=>k_is)
  (case gB=>k_is); (case gU=>k_is); (case gF=>k_is); (case eJ=>k_is)
  (case oK=>k_is); (case pC=>k_is); (case oP=>k_is); (case i0=>k_is)
  (case iu=>k_is); (case iI=>k_is); (case iA=>k_is); (case fA=>k_is)
  (case jk=>k_is); (case jG=>k_is); (case jq=>k_is); (case gc=>k_is)
  (case jZ=>k_is); (case ku=>k_is); (case j5=>k_is); (case ie=>k_is)
  (case gy=>k_is); (case gR=>k_is); (case gC=>k_is); (case eF=>k_is)
  (case ji=>k_is); (case jF=>k_is); (case jo=>k_is); (case f9=>k_is)
  (case j4=>k_is); (case kx=>k_is); (case j7=>k_is); (case ig=>k_is)
  (case gA=>k_is); (case gT=>k_is); (case gE=>k_is); (case eI=>k_is)
  (case d4=>k_is); (case eM=>k_is); (case d9=>k_is); (case cP=>k_is)
  (case fP=>k_is); (case fV=>k_is); (case fR=>k_is); (case dw=>k_is)
  (case ir=>k_is); (case iH=>k_is); (case iz=>k_is); (case fz=>k_is)
  (case iy=>k_is); (case iJ=>k_is); (case iB=>k_is); (case fG=>k_is)
  (case gz=>k_is); (case gS=>k_is); (case gD=>k_is); (case eG=>k_is)
  (case zu=>k_is); (case Bz=>k_is); (case A8=>k_is); (case Bw=>k_is)
  (case CJ=>k_is); (case wU=>k_is); (case zp=>k_is); (case wV=>k_is); (case zo=>k_is); (case kG=>k_is); (case CI=>k_is); (case jP=>k_is); (case y_bool=>k_is); (case CK=>k_is); (case jO=>k_is); (case kF=>k_is)
  (case oV=>k_is)
  (case ma=>k_is)
  (case gK=>k_is)
  (case jt=>k_is)
  (case ju=>k_is)
  (case oS=>k_is)
  (case l9=>k_is)
  (case rP=>k_is)
  (case oT=>k_is)
  (case oU=>k_is)
  (case kd=>k_is)
  (case d0=>k_is); (case eK=>k_is); (case d7=>k_is); (case eD=>k_is)
  (case eX=>k_is); (case fk=>k_is); (case eZ=>k_is); (case cY=>k_is)
  (case d3=>k_is); (case eL=>k_is); (case d8=>k_is); (case cO=>k_is)
  (case cz=>k_is); (case cD=>k_is); (case cA=>k_is); (case bU=>k_is)
  (case dC=>k_is); (case dG=>k_is); (case dD=>k_is); (case cC=>k_is)
  (case eY=>k_is); (case fq=>k_is); (case fb=>k_is); (case cZ=>k_is)
  (case q_TooWide=>first | k_is | k_exc | decide | kernel_rfl)
  (case xga=>first | k_is | k_exc | decide | kernel_rfl)
  (case xgt=>first | k_is | k_exc | decide | kernel_rfl)
  (case xcl=>first | k_is | k_exc | decide | kernel_rfl)
  (case xgg=>first | k_is | k_exc | decide | kernel_rfl)
  (case xtk=>first | k_is | k_exc | decide | kernel_rfl)
  (case xob=>first | k_is | k_exc | decide | kernel_rfl)
  (case xbe=>first | k_is | k_exc | decide | kernel_rfl)
  (case tw0=>first | k_is | k_exc | decide | kernel_rfl)
  (case tw2=>first | k_is | k_exc | decide | kernel_rfl)
  (case tw3=>first | k_is | k_exc | decide | kernel_rfl)
  (case fe1=>first | k_is | k_exc | decide | kernel_rfl)
  (case fe2=>first | k_is | k_exc | decide | kernel_rfl)
  (case fe3=>first | k_is | k_exc | decide | kernel_rfl)
  (case fe4=>first | k_is | k_exc | decide | kernel_rfl)
  (case kve=>first | k_is | k_exc | decide | kernel_rfl)
  (case ob_NoFigures=>first | k_is | k_exc | decide | kernel_rfl)
  (case ty_NoFigures=>first | k_is | k_exc | decide | kernel_rfl)
  (case su_NoFigures=>first | k_is | k_exc | decide | kernel_rfl)
  (case ne_NoFigures=>first | k_is | k_exc | decide | kernel_rfl)
  (case ob_NoMachine=>first | k_is | k_exc | decide | kernel_rfl)
  (case ty_NoMachine=>first | k_is | k_exc | decide | kernel_rfl)
  (case su_NoMachine=>first | k_is | k_exc | decide | kernel_rfl)
  (case ne_NoMachine=>first | k_is | k_exc | decide | kernel_rfl)
  (case ob_NoName=>first | k_is | k_exc | decide | kernel_rfl)
  (case ty_NoName=>first | k_is | k_exc | decide | kernel_rfl)
  (case su_NoName=>first | k_is | k_exc | decide | kernel_rfl)
  (case ne_NoName=>first | k_is | k_exc | decide | kernel_rfl)
  (case ob_NoPower=>first | k_is | k_exc | decide | kernel_rfl)
  (case ty_NoPower=>first | k_is | k_exc | decide | kernel_rfl)
  (case su_NoPower=>first | k_is | k_exc | decide | kernel_rfl)
  (case ne_NoPower=>first | k_is | k_exc | decide | kernel_rfl)
  (case ob_NoRow=>first | k_is | k_exc | decide | kernel_rfl)
  (case ty_NoRow=>first | k_is | k_exc | decide | kernel_rfl)
  (case su_NoRow=>first | k_is | k_exc | decide | kernel_rfl)
  (case ne_NoRow=>first | k_is | k_exc | decide | kernel_rfl)
  (case ob_NoSome=>first | k_is | k_exc | decide | kernel_rfl)
  (case ty_NoSome=>first | k_is | k_exc | decide | kernel_rfl)
  (case su_NoSome=>first | k_is | k_exc | decide | kernel_rfl)
  (case ne_NoSome=>first | k_is | k_exc | decide | kernel_rfl)
  (case ob_NoText=>first | k_is | k_exc | decide | kernel_rfl)
  (case ty_NoText=>first | k_is | k_exc | decide | kernel_rfl)
  (case su_NoText=>first | k_is | k_exc | decide | kernel_rfl)
  (case ne_NoText=>first | k_is | k_exc | decide | kernel_rfl)
  (case ob_TooGreat=>first | k_is | k_exc | decide | kernel_rfl)
  (case ty_TooGreat=>first | k_is | k_exc | decide | kernel_rfl)
  (case su_TooGreat=>first | k_is | k_exc | decide | kernel_rfl)
  (case ne_TooGreat=>first | k_is | k_exc | decide | kernel_rfl)
  (case d_pg=>first | k_is | k_exc | decide | kernel_rfl)
  (case d_hd=>first | k_is | k_exc | decide | kernel_rfl)
  (case d_po=>first | k_is | k_exc | decide | kernel_rfl)
  (case d_sa=>first | k_is | k_exc | decide | kernel_rfl)
  (case d_n1=>first | k_is | k_exc | decide | kernel_rfl)
  (case d_n2=>first | k_is | k_exc | decide | kernel_rfl)
  (case d_n3=>first | k_is | k_exc | decide | kernel_rfl)
  (case d_n4=>first | k_is | k_exc | decide | kernel_rfl)
  (case d_mk=>first | k_is | k_exc | decide | kernel_rfl)
  (case d_fi=>first | k_is | k_exc | decide | kernel_rfl)
  (case d_kp=>first | k_is | k_exc | decide | kernel_rfl)
  (case eB=>first | k_is | k_exc | decide | kernel_rfl)
  (case cn=>first | k_is | k_exc | decide | kernel_rfl)
  (case eC=>first | k_is | k_exc | decide | kernel_rfl)
  (case de=>first | k_is | k_exc | decide | kernel_rfl)
  (case dF=>first | k_is | k_exc | decide | kernel_rfl)
