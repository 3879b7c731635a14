import PyProof.Rows.All
import Wide.All
import OpenK.AllK
import Wide.FinOn
import Lean
import PyProof.EqAt
import PyProof.EqKinds
import PyProof.TupleCall
import PyProof.NeKinds
import PyProof.ZipIter
import KE.KDictList
import KE.KItemsList
import PySem.Challenge.RW_leastbook_k18_whole_least_and_greatest_a
set_option maxHeartbeats 4000000
set_option Elab.async false
set_option linter.all false
set_option maxRecDepth 100000
namespace L2
open PySem PySem.Spec PyProof.Rows
abbrev Key:=Sum Int Str
def Qfv:Key->Value->Bool
 | .inl k,v=>Value.isInt k v
 | .inr x,v=>Value.isStrOf x v
def Qv4 (w:World):Key->Int
 | .inl k=>hashInt k
 | .inr x=>hashStr w x
theorem ZT:∀ {k:Key} {v:Value},Qfv k v=true->(∃ i t,k=Sum.inl i/\v=Value.int i t)\/(∃ x t,k=Sum.inr x/\v=Value.str x t)
 | .inl i,v,h=>by
  obtain ⟨t,e⟩:=Value.isInt_shape (k:=i) (v:=v) h
  exact .inl ⟨i,t,rfl,e⟩
 | .inr x,v,h=>by
  obtain ⟨t,e⟩:=Value.isStrOf_shape (x:=x) (v:=v) h
  exact .inr ⟨x,t,rfl,e⟩
theorem QpJ (i:Int) (t:Tok):Qfv (.inl i) (.int i t)=true:=by simp [Qfv,Value.isInt]
theorem QpI (x:Str) (t:Tok):Qfv (.inr x) (.str x t)=true:=by simp [Qfv,Value.isStrOf]
theorem Quu (a b:Int):decide ((Sum.inl a:Key)=Sum.inl b)=(a==b):=by
 by_cases e:a=b
 ·subst e;simp
 ·have h:¬ (Sum.inl a:Key)=Sum.inl b:=fun q=>e (Sum.inl.inj q)
  rw [decide_eq_false h]
  exact (beq_eq_false_iff_ne.mpr e).symm
theorem Qur (a b:Str):decide ((Sum.inr a:Key)=Sum.inr b)=decide (a=b):=by
 by_cases e:a=b
 ·subst e;simp
 ·have h:¬ (Sum.inr a:Key)=Sum.inr b:=fun q=>e (Sum.inr.inj q)
  rw [decide_eq_false h,decide_eq_false e]
theorem Qut (a:Int) (b:Str):decide ((Sum.inl a:Key)=Sum.inr b)=false:=decide_eq_false (fun q=>nomatch q)
theorem Qus (a:Str) (b:Int):decide ((Sum.inr a:Key)=Sum.inl b)=false:=decide_eq_false (fun q=>nomatch q)
def Z7 (prog:Program) (w:World):PySem.KeyKind prog w Key where
 is:=Qfv
 hash:=Qv4 w
 inj:=fun v a b ha hb=>by
  rcases ZT ha with ⟨i,t,rfl,rfl⟩ | ⟨x,t,rfl,rfl⟩
  ·rcases ZT hb with ⟨j,u,rfl,e⟩ | ⟨y,u,rfl,e⟩
   ·injection e with e1 _;rw [e1]
   ·exact nomatch e
  ·rcases ZT hb with ⟨j,u,rfl,e⟩ | ⟨y,u,rfl,e⟩
   ·exact nomatch e
   ·injection e with e1 _;rw [e1]
 byValue:=fun k v h=>by
  rcases ZT h with ⟨i,t,rfl,rfl⟩ | ⟨x,t,rfl,rfl⟩<;>rfl
 pyHash:=fun hv h=>by
  rcases ZT hv with ⟨i,t,rfl,rfl⟩ | ⟨x,t,rfl,rfl⟩
  ·exact wpAny_pyHash_int h
  ·exact wpAny_pyHash_str h
 eqBool:=fun hu hv h=>by
  rcases ZT hu with ⟨i,t,rfl,rfl⟩ | ⟨x,t,rfl,rfl⟩
  ·rcases ZT hv with ⟨j,u,rfl,rfl⟩ | ⟨y,u,rfl,rfl⟩
   ·rw [Quu] at h;exact wpAny_eqBool_int h
   ·rw [Qut] at h;exact SeqAt.EqAt.int_str i t y u _ _ _ _ h
  ·rcases ZT hv with ⟨j,u,rfl,rfl⟩ | ⟨y,u,rfl,rfl⟩
   ·rw [Qus] at h;exact SeqAt.EqAt.str_int x t j u _ _ _ _ h
   ·rw [Qur] at h;exact wpAny_eqBool_str h
 «strs»:=fun k x t v h=>by
  rcases ZT h with ⟨i,u,rfl,e⟩ | ⟨y,u,rfl,e⟩
  ·exact nomatch e
  ·injection e with e1 _
   subst e1
   cases v<;>rfl
theorem Ql8 (prog:Program) (w:World) (i:Int) (t:Tok):(Z7 prog w).is (.inl i) (.int i t)=true:=QpJ i t
theorem Ql7 (prog:Program) (w:World) (x:Str) (t:Tok):(Z7 prog w).is (.inr x) (.str x t)=true:=QpI x t
end L2
namespace L2
open PySem PySem.Spec PyProof.Rows
inductive V where
 | non | bl (b:Bool) | int (i:Int) | str (x:Str) | byt (b:Array UInt8) | flt (b:UInt64) | ref (a:Addr) | ty (n:String)
 deriving DecidableEq
def RelV:V->Value->Prop
 | .non,u=>u=Value.none
 | .bl b,u=>u=Value.bool b
 | .int i,u=>∃ t,u=Value.int i t
 | .str x,u=>∃ t,u=Value.str x t
 | .byt b,u=>∃ t,u=Value.bytes b t
 | .flt b,u=>∃ t,u=Value.float b t
 | .ref a,u=>u=Value.ref a
 | .ty n,u=>u=Value.type n
abbrev Vals:List V->List Value->Prop:=Paired RelV
theorem Vals.length {xs:List V} {us:List Value} (r:Vals xs us):xs.length=us.length:=Paired.length r
theorem Vals.get:∀ {xs:List V} {us:List Value} {i:Nat} {x:V},Vals xs us->xs[i]?=some x->∃ u,us[i]?=some u/\RelV x u
 | _,_,_,_,.nil,e=>by simp at e
 | _,_,0,_,.cons r _,e=>by simp at e;subst e;exact ⟨_,rfl,r⟩
 | _,_,i+1,x,.cons _ t,e=>by
  obtain ⟨u,h1,h2⟩:=Vals.get (i:=i) (x:=x) t (by simpa using e)
  exact ⟨u,by simpa using h1,h2⟩
theorem Vals.append:∀ {xs ys:List V} {us ws:List Value},Vals xs us->Vals ys ws->Vals (xs++ys) (us++ws)
 | _,_,_,_,.nil,s=>s
 | _,_,_,_,.cons r t,s=>.cons r (Vals.append t s)
theorem Vals.take:∀ {xs:List V} {us:List Value} (n:Nat),Vals xs us->Vals (xs.take n) (us.take n)
 | _,_,0,_=>.nil
 | _,_,_+1,.nil=>.nil
 | _,_,n+1,.cons r t=>.cons r (Vals.take n t)
theorem Vals.drop:∀ {xs:List V} {us:List Value} (n:Nat),Vals xs us->Vals (xs.drop n) (us.drop n)
 | _,_,0,r=>r
 | _,_,_+1,.nil=>.nil
 | _,_,n+1,.cons _ t=>Vals.drop n t
def RelO:Option V->Option Value->Prop
 | some v,some u=>RelV v u
 | none,none=>True
 | _,_=>False
def KV {κ:Type}:List (κ×V)->List (κ×Value)->Prop:=Paired fun (p:κ×V) (q:κ×Value)=>p.1=q.1/\RelV p.2 q.2
def kV:Key->V
 | .inl i=>.int i
 | .inr x=>.str x
inductive HO where
 | lst (xs:List V)
 | tup (xs:List V)
 | dK (kvs:List (Key×V)) | dT (kvs:List (List Key×V))
 | set (S:Int->Bool) (n:Nat)
 | ins (C dx:Addr) (fs:List (Str×V))
 | own (x:Addr)
 | xd (fs:List (Str×V))
 | met (f x:Addr)
 | rng (lo hi:Int)
 | frz (o:Obj) (u:HO)
 | tbl (ps:Array Value)
 | ext (φ:Heap->Prop)
abbrev Hp:=Addr->Option HO
def upd (H:Hp) (a:Addr) (o:HO):Hp:=fun b=>if b=a then some o else H b
theorem Jb {H:Hp} {a:Addr} {o:HO}:upd H a o a=some o:=by unfold upd;rw [if_pos rfl]
theorem QJ {H:Hp} {a b:Addr} {o:HO} (h:b≠a):upd H a o b=H b:=by unfold upd;rw [if_neg h]
theorem Qvj {H:Hp} {a b:Addr} {o u:HO} (h:H a=some o) (h':H b=some u) (d:o≠u):a≠b:=by
 intro e;subst e;rw [h] at h';exact d (Option.some.inj h')
theorem Zf {H:Hp} {a b:Addr} {o:HO} (h:H a=some o) (h':H b=none):a≠b:=by
 intro e;subst e;rw [h] at h';cases h'
section
variable (P:Program) (w:World)
def ObjOk (H:Hp) (h:Heap) (a:Addr):HO->Prop
 | .lst xs=>xs.length<=sizeLine/\∃ (its:List Value) (n:Nat),Vals xs its/\h.get? a=some { cls:=.type "list",data:=.seq its.toArray n }
 | .tup xs=>xs.length<=sizeLine/\∃ its:List Value,Vals xs its/\IsTup h a its.toArray
 | .dK kvs=>kvs.length<=sizeLine/\(a==sysModules)=false/\∃ vs,KV kvs vs/\h.DictOf (Z7 P w) a vs
 | .dT kvs=>kvs.length<=sizeLine/\(a==sysModules)=false/\∃ xs:List (List Key×Addr×Value),
   Paired (fun (p:List Key×V) (q:List Key×Addr×Value)=>p.1=q.1/\H q.2.1=some (.tup (p.1.map kV))/\RelV p.2 q.2.2) kvs xs /\
   ∃ o es ep,h.get? a=some o/\o.ExactDict/\o.data=.dict es ep/\es.toList=xs.map (entryOfKey (tupleKind (Z7 P w)))/\(xs.map (·.1)).Nodup
 | .set S n=>h.SetOf (intKind P w) a S n
 | .ins C dx fs=>H dx=some (.own a)/\fs.length<=1000/\dx≠a/\h.get? a=some (PySem.W.instObj C dx) /\
   ∃ mA,h.Ns1 dx mA/\(∀ f,RelO (fs.lookup f) (mA f))/\PySem.Within mA (fs.map (·.1))
 | .own _=>∃ o,h.get? a=some o
 | .xd fs=>∃ mA,h.Ns1 a mA/\∀ f,RelO (fs.lookup f) (mA f)
 | .rng lo hi=>∃ t u v,h.get? a=some { cls:=.type "range",data:=.fields #[.int lo t,.int hi u,.int 1 v] }
 | .frz o u=>h.get? a=some o/\ObjOk H h a u
 | .tbl ps=>h.get? a=some { cls:=.none,data:=.fields ps }
 | .met f x=>h.get? a=some (PySem.W.methodObj (.ref f) (.ref x))
 | .ext φ=>φ h/\(∃ o,h.get? a=some o)/\∀ h1 h2:Heap,φ h1->(∀ o,h1.get? a=some o->h2.get? a=some o)->φ h2
def HOk (H:Hp) (h:Heap):Prop:=∀ a o,H a=some o->ObjOk P w H h a o
end
section
variable {P:Program} {w:World} {H H':Hp} {h h':Heap} {a:Addr} {o:HO}
theorem ObjOk.lt (x:ObjOk P w H h a o):a<h.objs.size:=by
 cases o with
 | lst xs=>obtain ⟨_,_,_,_,e⟩:=x;exact Heap.lt_size e
 | tup xs=>obtain ⟨_,_,_,p⟩:=x;exact p.lt
 | dK kvs=>obtain ⟨_,_,_,_,o,_,_,e,_⟩:=x;exact Heap.lt_size e
 | dT kvs=>obtain ⟨_,_,_,_,o,_,_,e,_⟩:=x;exact Heap.lt_size e
 | set S n=>obtain ⟨o,_,_,_,e,_⟩:=x;exact Heap.lt_size e
 | ins C dx fs=>obtain ⟨_,_,_,e,_⟩:=x;exact Heap.lt_size e
 | own y=>obtain ⟨_,e⟩:=x;exact Heap.lt_size e
 | xd fs=>obtain ⟨_,⟨_,_,_,e,_⟩,_⟩:=x;exact Heap.lt_size e
 | rng lo hi=>obtain ⟨_,_,_,e⟩:=x;exact Heap.lt_size e
 | frz ob u=>obtain ⟨e,_⟩:=x;exact Heap.lt_size e
 | tbl ps=>exact Heap.lt_size (show h.get? a=some _ from x)
 | met f y=>exact Heap.lt_size (show h.get? a=some _ from x)
 | ext φ=>obtain ⟨_,⟨_,e⟩,_⟩:=x;exact Heap.lt_size e
theorem Paired.mapP {α β:Type} {F G:α->β->Prop}:∀ {l₁:List α} {l₂:List β},Paired F l₁ l₂->(∀ a b,F a b->G a b)->Paired G l₁ l₂
 | _,_,.nil,_=>.nil
 | _,_,.cons r t,f=>.cons (f _ _ r) (Paired.mapP t f)
theorem ObjOk.stay (x:ObjOk P w H h a o) (k:∀ b u,(b=a\/H b=some (.own a))->h.get? b=some u->h'.get? b=some u)
  (ho:∀ b,H b=some (.own a)->H' b=some (.own a)) (ht:∀ b xs,H b=some (.tup xs)->H' b=some (.tup xs)):ObjOk P w H' h' a o:=by
 induction o with
 | lst xs=>obtain ⟨z,its,n,r,e⟩:=x;exact ⟨z,its,n,r,k _ _ (.inl rfl) e⟩
 | tup xs=>obtain ⟨z,its,r,ob,e,c⟩:=x;exact ⟨z,its,r,ob,k _ _ (.inl rfl) e,c⟩
 | dK kvs=>obtain ⟨z,y,vs,r,ob,es,ep,e,c⟩:=x;exact ⟨z,y,vs,r,ob,es,ep,k _ _ (.inl rfl) e,c⟩
 | dT kvs =>
  obtain ⟨z,y,xs,r,ob,es,ep,e,c⟩:=x
  exact ⟨z,y,xs,Paired.mapP r fun p q z=>⟨z.1,ht _ _ z.2.1,z.2.2⟩,ob,es,ep,k _ _ (.inl rfl) e,c⟩
 | set S n=>obtain ⟨ob,es,ep,t,e,c⟩:=x;exact ⟨ob,es,ep,t,k _ _ (.inl rfl) e,c⟩
 | ins C dx fs =>
  obtain ⟨d,z,ne,e,mA,⟨od,es,ep,e2,c⟩,r⟩:=x
  exact ⟨ho _ d,z,ne,k _ _ (.inl rfl) e,mA,⟨od,es,ep,k _ _ (.inr d) e2,c⟩,r⟩
 | own y=>obtain ⟨ob,e⟩:=x;exact ⟨ob,k _ _ (.inl rfl) e⟩
 | xd fs=>obtain ⟨mA,⟨od,es,ep,e,c⟩,r⟩:=x;exact ⟨mA,⟨od,es,ep,k _ _ (.inl rfl) e,c⟩,r⟩
 | rng lo hi=>obtain ⟨t,u,v,e⟩:=x;exact ⟨t,u,v,k _ _ (.inl rfl) e⟩
 | frz ob u ih=>obtain ⟨e,q⟩:=x;exact ⟨k _ _ (.inl rfl) e,ih q⟩
 | tbl ps =>
  have e:h.get? a=some { cls:=.none,data:=.fields ps }:=x
  show h'.get? a=some { cls:=.none,data:=.fields ps }
  exact k a _ (.inl rfl) e
 | met f y =>
  have e:h.get? a=some (PySem.W.methodObj (.ref f) (.ref y)):=x
  show h'.get? a=some (PySem.W.methodObj (.ref f) (.ref y))
  exact k a _ (.inl rfl) e
 | ext φ=>obtain ⟨p,⟨o,e⟩,st⟩:=x;exact ⟨st _ _ p fun o q=>k _ _ (.inl rfl) q,⟨o,k _ _ (.inl rfl) e⟩,st⟩
theorem HOk.lt (x:HOk P w H h) (e:H a=some o):a<h.objs.size:=(x a o e).lt
theorem HOk.fresh (x:HOk P w H h) (e:h.objs.size<=a):H a=none:=by
 cases q:H a with
 | none=>rfl
 | some u=>exact absurd (Nat.lt_of_lt_of_le (x.lt q) e) (Nat.lt_irrefl _)
theorem HOk.kept (x:HOk P w H h) (k:∀ b u,h.get? b=some u->h'.get? b=some u):HOk P w H h':=fun a o e =>
 (x a o e).stay (fun b u _ q=>k b u q) (fun _ q=>q) fun _ _ q=>q
theorem HOk.laid (x:HOk P w H h) (k:∀ b u,h.get? b=some u->h'.get? b=some u) (hp:h.objs.size<=a) (new:ObjOk P w (upd H a o) h' a o):HOk P w (upd H a o) h':=fun b u e=>by
 have hn:=x.fresh hp
 by_cases hb:b=a
 ·subst hb;rw [Jb] at e;cases e;exact new
 ·rw [QJ hb] at e
  exact (x b u e).stay (fun c v _ q=>k c v q) (fun c q=>by rw [QJ (Zf q hn)];exact q) fun c xs q=>by rw [QJ (Zf q hn)];exact q
end
def Rd (H:Hp) (a:Addr) (u:HO):Prop:=H a=some u\/∃ o,H a=some (.frz o u)
theorem Rd.of {H:Hp} {a:Addr} {u:HO} (h:H a=some u):Rd H a u:=.inl h
theorem Rd.ok {P:Program} {w:World} {H:Hp} {h:Heap} {a:Addr} {u:HO} (r:Rd H a u) (x:HOk P w H h):ObjOk P w H h a u:=by
 rcases r with r | ⟨o,r⟩
 ·exact x a u r
 ·obtain ⟨_,q⟩:=x a _ r
  exact q
def Mut:Option HO->Prop
 | some (.lst _)=>True
 | some (.dK _)=>True
 | some (.dT _)=>True
 | some (.set _ _)=>True
 | some (.ins _ _ _)=>True
 | some (.ext _)=>True
 | _=>False
section
variable {P:Program} {w:World} {H:Hp} {h h':Heap} {x e:Addr} {o':HO}
theorem HOk.write (ok:HOk P w H h) (mu:Mut (H x)) (he:e=x\/H e=some (.own x)) (k:∀ b u,b≠e->h.get? b=some u->h'.get? b=some u) (heo:∃ u,h'.get? e=some u)
  (new:ObjOk P w (upd H x o') h' x o'):HOk P w (upd H x o') h':=fun b u q=>by
 have nown:∀ c y,H c=some (.own y)->c≠x:=fun c y r z=>by subst z;rw [r] at mu;exact mu
 have ntup:∀ c xs,H c=some (.tup xs)->c≠x:=fun c xs r z=>by subst z;rw [r] at mu;exact mu
 by_cases hb:b=x
 ·subst hb;rw [Jb] at q;cases q;exact new
 ·rw [QJ hb] at q
  by_cases hbe:b=e
  ·have q':H b=some (.own x):=by
    rcases he with z | z
    ·exact absurd (hbe.trans z) hb
    ·rw [hbe];exact z
   rw [q] at q';cases q'
   obtain ⟨v,hv⟩:=heo
   exact ⟨v,by rw [hbe];exact hv⟩
  ·refine (ok b u q).stay (fun c v hc r=>k c v ?_ r) (fun c r=>by rw [QJ (nown c b r)];exact r) fun c xs r=>by rw [QJ (ntup c xs r)];exact r
   rcases hc with rfl | hc
   ·exact hbe
   ·rintro rfl
    rcases he with z | z
    ·exact nown c b hc z
    ·rw [hc] at z;cases z;exact hb rfl
end
structure Un (fs ex:List Addr) (H H':Hp) (h h':Heap):Prop where
 keep:∀ b o,h.get? b=some o->H b=none->b∉fs->b∉ex->h'.get? b=some o
 slot:∀ b o,h.get? b=some o->H b=none->b∈fs->b∉ex->∃ sl,h'.get? b=some { o with slots:=sl }
 free:∀ b o,h.get? b=some o->H b=none->b∉ex->H' b=none
 there:∀ b o,h.get? b=some o->b∉ex->∃ o',h'.get? b=some o'
 tups:∀ b xs,H b=some (.tup xs)->H' b=some (.tup xs)
 frzs:∀ b o u,H b=some (.frz o u)->H' b=some (.frz o u)
 tbls:∀ b ps,H b=some (.tbl ps)->∃ more,H' b=some (.tbl (ps++more))
section
variable {fs fs' ex ex':List Addr} {H H1 H2:Hp} {h h1 h2 h':Heap} {a x e:Addr} {o:HO}
theorem Un.any (u:Un fs ex H H1 h h1) {b:Addr} {ob:Obj} (q:h.get? b=some ob) (n:H b=none) (hx:b∉ex):∃ sl,h1.get? b=some { ob with slots:=sl }:=by
 by_cases hb:b∈fs
 ·exact u.slot b ob q n hb hx
 ·exact ⟨ob.slots,u.keep b ob q n hb hx⟩
theorem Un.kept (k:∀ b u,h.get? b=some u->h'.get? b=some u):Un fs ex H H h h' :=
 ⟨fun b ob q _ _ _=>k b ob q,fun b ob q _ _ _=>⟨ob.slots,k b ob q⟩,fun _ _ _ n _=>n,fun b ob q _=>⟨ob,k b ob q⟩,fun _ _ q=>q,fun _ _ _ q=>q,fun _ ps q=>⟨#[],by rw [q];simp⟩⟩
theorem Un.refl:Un fs ex H H h h:=Un.kept fun _ _ q=>q
theorem Un.laid (k:∀ b u,h.get? b=some u->h'.get? b=some u) (hp:h.objs.size<=a) (hn:H a=none):Un fs ex H (upd H a o) h h' where
 keep:=fun b u q _ _ _=>k b u q
 slot:=fun b u q _ _ _=>⟨u.slots,k b u q⟩
 free:=fun b u q n _=>by rw [QJ (Nat.ne_of_lt (Nat.lt_of_lt_of_le (Heap.lt_size q) hp))];exact n
 there:=fun b u q _=>⟨u,k b u q⟩
 tups:=fun b xs q=>by rw [QJ (Zf q hn)];exact q
 frzs:=fun b u xs q=>by rw [QJ (Zf q hn)];exact q
 tbls:=fun b ps q=>⟨#[],by rw [QJ (Zf q hn),q];simp⟩
theorem Un.write (mu:Mut (H x)) (he:e=x\/H e=some (.own x)) (k:∀ b u,b≠e->h.get? b=some u->h'.get? b=some u) (heo:∃ u,h'.get? e=some u):Un fs ex H (upd H x o) h h':=by
 have hx:∀ b,H b=none->b≠x:=fun b n z=>by subst z;rw [n] at mu;exact mu
 have hb:∀ b,H b=none->b≠e:=fun b n z=>by
  subst z
  rcases he with r | r
  ·exact hx b n r
  ·rw [n] at r;cases r
 have hm:∀ b u,H b=some u->¬ Mut (some u)->b≠x:=fun b u q nm z=>by subst z;rw [q] at mu;exact nm mu
 refine ⟨fun b u q n _ _=>k b u (hb b n) q,fun b u q n _ _=>⟨u.slots,k b u (hb b n) q⟩,fun b u q n _=>by rw [QJ (hx b n)];exact n,fun b u q _=>?_,
  fun b xs q=>by rw [QJ (hm b _ q fun z=>z)];exact q,fun b u xs q=>by rw [QJ (hm b _ q fun z=>z)];exact q,fun b ps q=>⟨#[],by rw [QJ (hm b _ q fun z=>z),q];simp⟩⟩
 by_cases hbe:b=e
 ·subst hbe;exact heo
 ·exact ⟨u,k b u hbe q⟩
theorem Un.mono (u:Un fs ex H H1 h h1) (hs:∀ b∈fs,b∈fs') (hx:∀ b∈ex,b∈ex'):Un fs' ex' H H1 h h1 :=
 ⟨fun b ob q n hb he=>u.keep b ob q n (fun z=>hb (hs b z)) fun z=>he (hx b z),fun _ _ q n _ he=>u.any q n fun z=>he (hx _ z),fun b ob q n he=>u.free b ob q n fun z=>he (hx b z),fun b ob q he=>u.there b ob q fun z=>he (hx b z),u.tups,u.frzs,u.tbls⟩
end
def trk (h:Heap) (H:Hp):List Addr:=(List.range h.objs.size).filter fun a=>(H a).isSome
def QdQ (h:Heap) (H:Hp):Heap:=PySem.W.hideAll h (trk h H)
theorem QpM (h:Heap) (H:Hp):(QdQ h H).objs.size=h.objs.size:=PySem.W.hideAll_size _ _
theorem Qrj {h:Heap} {H:Hp} {b:Addr} {o:Obj} (e:h.get? b=some o) (n:H b=none):(QdQ h H).get? b=some o :=
 PySem.W.hideAll_get _ e fun hm=>by
  have q:(H b).isSome=true:=(List.mem_filter.mp hm).2
  rw [n] at q;simp at q
theorem QsN {h:Heap} {H:Hp} {b:Addr} {o:Obj} (e:(QdQ h H).get? b=some o):h.get? b=some o/\H b=none:=by
 have e':h.get? b=some o:=PySem.W.of_hideAll (trk h H) e
 refine ⟨e',?_⟩
 cases q:H b with
 | none=>rfl
 | some x =>
  have hm:b∈trk h H:=List.mem_filter.mpr ⟨List.mem_range.mpr (Heap.lt_size e'),by simp [q]⟩
  have z:(QdQ h H).get? b=none:=PySem.W.hideAll_none (trk h H) hm
  rw [z] at e;cases e
def Qts (g h:Heap) (L:Addr):List (Addr×Obj):=(List.range h.objs.size).filterMap fun a=>if a=L\/(g.get? a).isSome=true then none else (h.get? a).map fun o=>(a,o)
def rest (g h:Heap) (L d:Addr):List (Addr×Obj):=(Qts g h L).filter fun p=>decide (p.1≠d)
end L2
namespace L2
open PySem PySem.Spec PyProof.Rows
structure Mod (K:PySem.W.Frag) (mg:Str->Option Value) (base:Heap):Prop where
 kin:K.In base
 glob:base.Ns mainGlobals mg
 blt:∃ mb,base.Ns builtinsNs mb/\∀ x:Str,x≠"__name__"->mb x=bootBuiltins x
 nolimit:base.NoLimit
structure Cx where
 prog:Program
 w:World
 K:PySem.W.Frag
 mg:Str->Option Value
 base:Heap
 A:Around
 N:List Str
 s₀:Shared
 H₀:Hp
 env:Env
 outer:List Env
 stack:List Env
 ex:List Addr
 fn:Str->Bool
 calm:Bool
 pn:List (Addr×Obj)
 xe:Value->Shared->Prop
def frs (l:List Env):List Addr:=l.filterMap (·.frame)
abbrev Cx.fs (X:Cx):List Addr:=frs X.outer
def Vis (sc:Scope) (x:Str):Prop:=sc.names.lookup x=some .local\/sc.names.lookup x=some .cell\/sc.names.lookup x=some .free
def Loc (sc:Scope) (x:Str):Prop:=sc.names.lookup x=some .local\/sc.names.lookup x=some .cell
def Qwd (env:Env) (h:Heap) (m:Str->Option Value) (x:Str) (u:Value):Prop :=
 (env.kindOf x=some .local/\m x=some u)\/((env.kindOf x=some .cell\/env.kindOf x=some .free)/\∃ c,env.cells.lookup x=some c/\h.IsCell c (some u))
structure Cx.Ok (X:Cx):Prop where
 mod:Mod X.K X.mg X.base
 kind:X.env.scope.kind=.function
 glob:X.env.globals=mainGlobals
 blt:X.env.builtins=builtinsNs
 above:X.s₀.heap.objs.size<=X.env.locals
 inj:∀ x y c,X.env.cells.lookup x=some c->X.env.cells.lookup y=some c->x=y
 has:∀ x,(X.env.kindOf x=some .cell\/X.env.kindOf x=some .free)->∃ c,X.env.cells.lookup x=some c
 cab:∀ x c,X.fn x=true->X.env.cells.lookup x=some c->X.s₀.heap.objs.size<=c
 hd:X.calm=true->X.A.handled=none
 frames:X.A.frames=some X.stack
 stk:X.stack=X.outer\/(X.stack=X.env::X.outer/\X.env.frame=some X.env.locals)
 exf:∀ b∈X.ex,b≠X.env.locals/\∀ x c,X.env.cells.lookup x=some c->c≠b
 bs:∀ b o,X.base.get? b=some o->X.s₀.heap.get? b=some o/\X.H₀ b=none
 bsz:X.base.objs.size<=X.s₀.heap.objs.size
 noex:∀ b o,X.base.get? b=some o->b∉X.ex
 exfs:∀ b∈X.ex,b∉X.fs
 funs:X.s₀.heap.FunFrames X.base X.outer
 frf:∀ b∈X.fs,X.H₀ b=none
structure Inv (X:Cx) (pins:List (Addr×Obj)) (σ:List (Option V)) (H:Hp) (s:Shared):Prop where
 ok:X.Ok
 os:s.os=X.s₀.os
 bare:AllBare s.gens
 base:Un X.fs X.ex X.H₀ H X.s₀.heap s.heap
 loc:∃ m,s.heap.Ns X.env.locals m/\∀ (i:Nat) (x:Str) (v:V),X.N[i]?=some x->σ[i]?=some (some v)->Vis X.env.scope x->∃ u,RelV v u/\Qwd X.env s.heap m x u
 cell:∀ x c,X.env.cells.lookup x=some c->∃ v,s.heap.IsCell c v
 free:H X.env.locals=none
 freeC:∀ x c,X.env.cells.lookup x=some c->H c=none
 pin:∀ p∈X.pn++pins,s.heap.get? p.1=some p.2/\H p.1=none/\p.1≠X.env.locals/\p.1∉X.fs/\∀ v,p.2.data≠.cell v
 hok:HOk X.prog X.w H s.heap
 len:σ.length=X.N.length
section
variable {X:Cx} {pins:List (Addr×Obj)} {σ:List (Option V)} {H H':Hp} {s:Shared} {h':Heap}
theorem Cx.Ok.nofr (ok:X.Ok) {b:Addr} {o:Obj} (e:X.base.get? b=some o):b∉X.fs:=fun hb=>by
 have:=(ok.funs.mem hb).1
 rw [e] at this;cases this
theorem Inv.bs (I:Inv X pins σ H s):∀ b o,X.base.get? b=some o->s.heap.get? b=some o/\H b=none:=fun b o e =>
 ⟨I.base.keep b o (I.ok.bs b o e).1 (I.ok.bs b o e).2 (I.ok.nofr e) (I.ok.noex b o e),I.base.free b o (I.ok.bs b o e).1 (I.ok.bs b o e).2 (I.ok.noex b o e)⟩
theorem Inv.bk (I:Inv X pins σ H s):∀ b o,X.base.get? b=some o->s.heap.get? b=some o:=fun b o e=>(I.bs b o e).1
theorem Inv.mod (I:Inv X pins σ H s):Mod X.K X.mg X.base:=I.ok.mod
theorem Inv.kIn (I:Inv X pins σ H s):X.K.In s.heap:=I.ok.mod.kin.keeps I.bk
theorem Inv.nolimit (I:Inv X pins σ H s):s.heap.NoLimit:=I.ok.mod.nolimit.keeps I.bk
theorem Inv.lt (I:Inv X pins σ H s):X.env.locals<s.heap.objs.size:=let ⟨_,hn,_⟩:=I.loc;hn.lt
theorem Inv.sz (I:Inv X pins σ H s):X.s₀.heap.objs.size<=s.heap.objs.size:=Nat.le_trans I.ok.above (Nat.le_of_lt I.lt)
theorem Inv.nofs (I:Inv X pins σ H s) {a:Addr} (h:s.heap.objs.size<=a):a∉X.fs:=fun hb=>by
 obtain ⟨_,o,ho,_⟩:=I.ok.funs.mem hb
 exact absurd (Nat.lt_of_lt_of_le (Heap.lt_size ho) (Nat.le_trans I.sz h)) (Nat.lt_irrefl _)
theorem Inv.cne (I:Inv X pins σ H s):∀ x c,X.env.cells.lookup x=some c->c≠X.env.locals:=fun x c e z=>by
 obtain ⟨v,o,ho,hd⟩:=I.cell x c e
 obtain ⟨m,⟨o',es,ep,ho',hd',_⟩,_⟩:=I.loc
 rw [z,ho'] at ho;cases ho;rw [hd'] at hd;cases hd
theorem Inv.funs (I:Inv X pins σ H s):s.heap.FunFrames X.base X.outer:=by
 have all:∀ (l:List Env),(∀ b∈frs l,b∈X.fs)->X.s₀.heap.FunFrames X.base l->s.heap.FunFrames X.base l:=by
  intro l
  induction l with
  | nil=>intro _ _;trivial
  | cons env r ih =>
   intro hs hl
   obtain ⟨hk,⟨L,o,hf,hn,ho,hd⟩,hr⟩:=hl
   have hL:L∈X.fs:=hs L (by unfold frs;rw [List.filterMap_cons,hf];exact List.mem_cons_self)
   obtain ⟨sl,e⟩:=I.base.slot L o ho (I.ok.frf L hL) hL fun z=>I.ok.exfs L z hL
   exact ⟨hk,⟨L,_,hf,hn,e,hd⟩,ih (fun b hb=>hs b (by unfold frs;rw [List.filterMap_cons,hf];exact List.mem_cons_of_mem _ hb)) hr⟩
 exact all X.outer (fun _ hb=>hb) I.ok.funs
theorem Inv.stack (I:Inv X pins σ H s):s.heap.FunFrames X.base X.stack:=by
 rcases I.ok.stk with e | ⟨e,hf⟩
 ·rw [e];exact I.funs
 ·rw [e]
  obtain ⟨m,hn,_⟩:=I.loc
  refine .cons (by rw [I.ok.kind];decide) hf hn ?_ I.funs
  exact Heap.get?_none_of_le (Nat.le_trans I.ok.bsz I.ok.above)
theorem Inv.stkSub (I:Inv X pins σ H s):∀ b∈frs X.stack,b∈X.env.locals::X.fs:=fun b hb=>by
 rcases I.ok.stk with e | ⟨e,hf⟩
 ·rw [e] at hb;exact List.mem_cons_of_mem _ hb
 ·rw [e] at hb
  unfold frs at hb
  rw [List.filterMap_cons,hf] at hb
  exact hb
theorem Inv.stkFree (I:Inv X pins σ H s):∀ b∈frs X.stack,H b=none:=fun b hb=>by
 rcases List.mem_cons.mp (I.stkSub b hb) with e | hb
 ·rw [e];exact I.free
 ·obtain ⟨_,o,ho,_⟩:=I.ok.funs.mem hb
  exact I.base.free b o ho (I.ok.frf b hb) fun z=>I.ok.exfs b z hb
theorem Inv.step {g':Array GenState} {t':Nat} {d':Drawn} {ch:List Addr} (I:Inv X pins σ H s)
  (hch:∀ b∈ch,(b∈X.ex\/X.s₀.heap.objs.size<=b)/\b≠X.env.locals/\(∀ x c,X.env.cells.lookup x=some c->c≠b)/\∀ p∈X.pn++pins,p.1≠b)
  (keep:∀ b o,b≠X.env.locals->b∉X.fs->b∉ch->s.heap.get? b=some o->H b=none->h'.get? b=some o)
  (slot:∀ b o,b≠X.env.locals->b∈X.fs->b∉ch->s.heap.get? b=some o->H b=none->∃ sl,h'.get? b=some { o with slots:=sl }) (free:∀ b o,b∉ch->s.heap.get? b=some o->H b=none->H' b=none)
  (there:∀ b o,b∉ch->s.heap.get? b=some o->∃ o',h'.get? b=some o')
  (tups:∀ b xs,H b=some (.tup xs)->H' b=some (.tup xs)) (frzs:∀ b o u,H b=some (.frz o u)->H' b=some (.frz o u)) (tbls:∀ b ps,H b=some (.tbl ps)->∃ more,H' b=some (.tbl (ps++more)))
  (ns:∀ m,s.heap.Ns X.env.locals m->h'.Ns X.env.locals m) (hok:HOk X.prog X.w H' h') (hg:AllBare g') :
  Inv X pins σ H' { s with heap:=h',gens:=g',drawn:=d',toks:=t' }:=by
 have neL:∀ b o,X.s₀.heap.get? b=some o->b≠X.env.locals:=fun b o e=>Nat.ne_of_lt (Nat.lt_of_lt_of_le (Heap.lt_size e) I.ok.above)
 have neC:∀ b o,X.s₀.heap.get? b=some o->b∉X.ex->b∉ch:=fun b o e hx hb=>by
  rcases (hch b hb).1 with z | z
  ·exact hx z
  ·exact absurd (Nat.lt_of_lt_of_le (Heap.lt_size e) z) (Nat.lt_irrefl _)
 have cellK:∀ x c,X.env.cells.lookup x=some c->∀ v,s.heap.IsCell c v->h'.IsCell c v:=fun x c e v ⟨o,ho,hd⟩=>by
  have nch:c∉ch:=fun z=>(hch c z).2.2.1 x c e rfl
  by_cases hc:c∈X.fs
  ·obtain ⟨sl,q⟩:=slot c o (I.cne x c e) hc nch ho (I.freeC x c e)
   exact ⟨_,q,hd⟩
  ·exact ⟨o,keep c o (I.cne x c e) hc nch ho (I.freeC x c e),hd⟩
 refine ⟨I.ok,I.os,hg,⟨fun b o e n hb hx=>?_,fun b o e n hb hx=>?_,fun b o e n hx=>?_,fun b o e hx=>?_,fun b xs e=>tups b xs (I.base.tups b xs e),fun b o xs e=>frzs b o xs (I.base.frzs b o xs e),fun b ps e=>?_⟩,?_,fun x c e=>?_,?_,fun x c e=>?_,fun p hp=>?_,hok,I.len⟩
 ·exact keep b o (neL b o e) hb (neC b o e hx) (I.base.keep b o e n hb hx) (I.base.free b o e n hx)
 ·obtain ⟨sl,e1⟩:=I.base.slot b o e n hb hx
  obtain ⟨sl',e2⟩:=slot b _ (neL b o e) hb (neC b o e hx) e1 (I.base.free b o e n hx)
  exact ⟨sl',e2⟩
 ·obtain ⟨o',e1⟩:=I.base.there b o e hx
  exact free b o' (neC b o e hx) e1 (I.base.free b o e n hx)
 ·obtain ⟨o',e1⟩:=I.base.there b o e hx
  exact there b o' (neC b o e hx) e1
 ·obtain ⟨m1,e1⟩:=I.base.tbls b ps e
  obtain ⟨m2,e2⟩:=tbls b _ e1
  exact ⟨m1++m2,by rw [e2,Array.append_assoc]⟩
 ·obtain ⟨m,hn,hl⟩:=I.loc
  refine ⟨m,ns m hn,fun i x v e1 e2 e3=>?_⟩
  obtain ⟨u,r,l⟩:=hl i x v e1 e2 e3
  refine ⟨u,r,?_⟩
  rcases l with l | ⟨k,c,e,z⟩
  ·exact .inl l
  ·exact .inr ⟨k,c,e,cellK x c e _ z⟩
 ·obtain ⟨v,z⟩:=I.cell x c e
  exact ⟨v,cellK x c e v z⟩
 ·obtain ⟨m,⟨o,_,_,ho,_⟩,_⟩:=I.loc
  exact free _ o (fun z=>(hch _ z).2.1 rfl) ho I.free
 ·obtain ⟨v,o,ho,hd⟩:=I.cell x c e
  exact free c o (fun z=>(hch c z).2.2.1 x c e rfl) ho (I.freeC x c e)
 ·obtain ⟨e,n,ne,nf,d⟩:=I.pin p hp
  have nch:p.1∉ch:=fun z=>(hch p.1 z).2.2.2 p hp rfl
  exact ⟨keep p.1 p.2 ne nf nch e n,free p.1 p.2 nch e n,ne,nf,d⟩
theorem Inv.un {t':Nat} (I:Inv X pins σ H s) (u:Un X.fs [] H H' s.heap h') (hok:HOk X.prog X.w H' h'):Inv X pins σ H' { s with heap:=h',toks:=t' }:=by
 obtain ⟨m,⟨o,es,ep,ho,r⟩,_⟩:=id I.loc
 obtain ⟨sl,hL⟩:=u.any ho I.free (by simp)
 exact I.step (g':=s.gens) (d':=s.drawn) (ch:=[]) (fun _ z=>nomatch z) (fun b o _ hb _ e n=>u.keep b o e n hb (by simp)) (fun b o _ hb _ e n=>u.slot b o e n hb (by simp)) (fun b o _ e n=>u.free b o e n (by simp)) (fun b o _ e=>u.there b o e (by simp)) u.tups u.frzs u.tbls (fun m' hm=>by
  obtain ⟨o',es',ep',ho',r'⟩:=hm
  rw [ho] at ho';cases ho'
  exact ⟨_,es',ep',hL,r'⟩) hok I.bare
theorem Inv.call {g':Array GenState} {t':Nat} {d':Drawn} {ch:List Addr} (I:Inv X pins σ H s) (u:Un (frs X.stack) ch H H' s.heap h') (hok:HOk X.prog X.w H' h') (hg:AllBare g')
  (hch:∀ b∈ch,(b∈X.ex\/X.s₀.heap.objs.size<=b)/\b≠X.env.locals/\(∀ x c,X.env.cells.lookup x=some c->c≠b)/\∀ p∈X.pn++pins,p.1≠b) :
  Inv X pins σ H' { s with heap:=h',gens:=g',drawn:=d',toks:=t' }:=by
 obtain ⟨m,⟨o,es,ep,ho,r⟩,_⟩:=id I.loc
 obtain ⟨sl,hL⟩:=u.any ho I.free fun z=>(hch _ z).2.1 rfl
 exact I.step (ch:=ch) hch (fun b o hL hb hc e n=>u.keep b o e n (fun z=>(List.mem_cons.mp (I.stkSub b z)).elim hL hb) hc) (fun b o _ _ hc e n=>u.any e n hc) (fun b o hc e n=>u.free b o e n hc) (fun b o hc e=>u.there b o e hc) u.tups u.frzs u.tbls (fun m' hm=>by
  obtain ⟨o',es',ep',ho',r'⟩:=hm
  rw [ho] at ho';cases ho'
  exact ⟨_,es',ep',hL,r'⟩) hok hg
theorem Inv.turned {t':Nat} {it:Addr} (I:Inv X pins σ H s) (k:∀ b o,b≠it->s.heap.get? b=some o->h'.get? b=some o) (hn:H it=none) (hL:it≠X.env.locals)
  (h1:it∈X.ex\/X.s₀.heap.objs.size<=it) (h2:∀ x c,X.env.cells.lookup x=some c->c≠it) (h3:∀ p∈X.pn++pins,p.1≠it):Inv X pins σ H { s with heap:=h',toks:=t' }:=by
 have nit:∀ b u,H b=some u->b≠it:=fun b u e z=>by rw [z,hn] at e;cases e
 refine I.step (g':=s.gens) (d':=s.drawn) (ch:=[it]) (fun b hb=>?_) (fun b o _ _ hc e _=>k b o (fun z=>hc (by simp [z])) e) (fun b o _ _ hc e _=>⟨o.slots,k b o (fun z=>hc (by simp [z])) e⟩) (fun _ _ _ _ n=>n)
  (fun b o hc e=>⟨o,k b o (fun z=>hc (by simp [z])) e⟩) (fun _ _ e=>e) (fun _ _ _ e=>e) (fun b ps e=>⟨#[],by rw [e];simp⟩) (fun m hm=>?_) (fun b u e=>?_) I.bare
 ·have e:b=it:=by simpa using hb
  subst e
  exact ⟨h1,hL,h2,h3⟩
 ·obtain ⟨o,es,ep,ho,r⟩:=hm
  exact ⟨o,es,ep,k _ o (Ne.symm hL) ho,r⟩
 ·refine (I.hok b u e).stay (fun c v hc q=>k c v ?_ q) (fun _ q=>q) fun _ _ q=>q
  rcases hc with z | z
  ·rw [z];exact nit b u e
  ·exact nit c _ z
theorem Inv.tok (I:Inv X pins σ H s) (t:Nat):Inv X pins σ H { s with toks:=t }:=I.un (h':=s.heap) (t':=t) Un.refl I.hok
theorem Inv.kept {t':Nat} (I:Inv X pins σ H s) (k:∀ b u,s.heap.get? b=some u->h'.get? b=some u):Inv X pins σ H { s with heap:=h',toks:=t' }:=I.un (Un.kept k) (I.hok.kept k)
theorem Inv.laid {a:Addr} {o:HO} {t':Nat} (I:Inv X pins σ H s) (k:∀ b u,s.heap.get? b=some u->h'.get? b=some u) (hp:s.heap.objs.size<=a) (new:ObjOk X.prog X.w (upd H a o) h' a o) :
  Inv X pins σ (upd H a o) { s with heap:=h',toks:=t' }:=I.un (Un.laid k hp (I.hok.fresh hp)) (I.hok.laid k hp new)
theorem Inv.write {x e:Addr} {o:HO} {t':Nat} (I:Inv X pins σ H s) (mu:Mut (H x)) (he:e=x\/H e=some (.own x)) (k:∀ b u,b≠e->s.heap.get? b=some u->h'.get? b=some u) (heo:∃ u,h'.get? e=some u)
  (new:ObjOk X.prog X.w (upd H x o) h' x o):Inv X pins σ (upd H x o) { s with heap:=h',toks:=t' }:=I.un (Un.write mu he k heo) (I.hok.write mu he k heo new)
theorem Inv.pins_of {pins':List (Addr×Obj)} (I:Inv X pins σ H s) (h:∀ p∈pins',s.heap.get? p.1=some p.2/\H p.1=none/\p.1≠X.env.locals/\p.1∉X.fs/\∀ v,p.2.data≠.cell v):Inv X pins' σ H s :=
 ⟨I.ok,I.os,I.bare,I.base,I.loc,I.cell,I.free,I.freeC,fun p hp=>(List.mem_append.mp hp).elim (fun z=>I.pin p (List.mem_append_left _ z)) (h p),I.hok,I.len⟩
theorem Qkm {N:List Str} (hN:N.Nodup) {i j:Nat} {x:Str} (a:N[i]?=some x) (b:N[j]?=some x):i=j:=by
 obtain ⟨h1,e1⟩:=List.getElem?_eq_some_iff.mp a
 obtain ⟨h2,e2⟩:=List.getElem?_eq_some_iff.mp b
 exact (List.getElem_inj hN).mp (e1.trans e2.symm)
theorem QiE {M:Model} {A:Around} {E:Value->Shared->Prop} {i:Nat} {x:Str} {v:V} {u:Value} {Q:Unit->Shared->Prop} (I:Inv X pins σ H s) (hN:X.N.Nodup) (hi:X.N[i]?=some x) (hx:Loc X.env.scope x) (r:RelV v u)
  (h:∀ s',Inv X pins (σ.set i (some v)) H s'->(∃ a,Heap.SameBut a s.heap s'.heap/\(a=X.env.locals\/X.env.cells.lookup x=some a))->Q () s') (hf:X.fn x=true\/X.env.scope.names.lookup x=some .local:=by first | exact .inl rfl | exact .inr rfl | assumption):wpAny M A (storeName X.env x u) Q E s:=by
 obtain ⟨m,hn,hl⟩:=id I.loc
 have hcls:(X.env.scope.kind==.class||(X.env.scope.kind==.module&&X.env.locals != X.env.globals))=false:=by rw [I.ok.kind];rfl
 have hiσ:i < σ.length:=by rw [I.len];exact (List.getElem?_eq_some_iff.mp hi).1
 have cne:=I.cne
 have tracked:∀ {a:Addr} {h':Heap},(∃ o,s.heap.get? a=some o/\H a=none)->Heap.SameBut a s.heap h'->HOk X.prog X.w H h':=fun {a h'} ha hs b ob e=>by
  obtain ⟨_,_,hfree⟩:=ha
  refine (I.hok b ob e).stay (fun c w' hc q=>(hs.2 c ?_).trans q) (fun _ q=>q) fun _ _ q=>q
  rintro rfl
  rcases hc with rfl | hc
  ·rw [hfree] at e;cases e
  ·rw [hfree] at hc;cases hc
 rcases hx with hk | hk
 ·refine wpAny_storeName_local hk hn (fun h' hn' hs=>?_) hcls
  obtain ⟨oL,_,_,hoL,_⟩:=id hn
  refine h _ ⟨I.ok,I.os,I.bare,⟨fun b o e n hb hx=>?_,fun b o e n hb hx=>?_,I.base.free,fun b o e hx=>?_,I.base.tups,I.base.frzs,I.base.tbls⟩,⟨_,hn',fun j y v' e1 e2 e3=>?_⟩,fun y c e=>?_,I.free,I.freeC,fun p hp=>?_,tracked ⟨oL,hoL,I.free⟩ hs,by simpa using I.len⟩ ⟨_,hs,.inl rfl⟩
  ·exact (hs.2 b (Nat.ne_of_lt (Nat.lt_of_lt_of_le (Heap.lt_size e) I.ok.above))).trans (I.base.keep b o e n hb hx)
  ·obtain ⟨sl,e1⟩:=I.base.slot b o e n hb hx
   exact ⟨sl,(hs.2 b (Nat.ne_of_lt (Nat.lt_of_lt_of_le (Heap.lt_size e) I.ok.above))).trans e1⟩
  ·obtain ⟨o',e1⟩:=I.base.there b o e hx
   exact ⟨o',(hs.2 b (Nat.ne_of_lt (Nat.lt_of_lt_of_le (Heap.lt_size e) I.ok.above))).trans e1⟩
  ·by_cases hj:j=i
   ·subst hj
    rw [hi] at e1;cases e1
    rw [List.getElem?_set_self hiσ] at e2
    cases e2
    exact ⟨u,r,.inl ⟨hk,by simp⟩⟩
   ·rw [List.getElem?_set_ne (Ne.symm hj)] at e2
    obtain ⟨u',r',q⟩:=hl j y v' e1 e2 e3
    refine ⟨u',r',?_⟩
    rcases q with ⟨k,e⟩ | ⟨k,c,e,z⟩
    ·refine .inl ⟨k,?_⟩
     have:y≠x:=fun e=>hj (Qkm hN e1 (e▸hi))
     simp [this,e]
    ·exact .inr ⟨k,c,e,z.sameBut hs (cne y c e)⟩
  ·obtain ⟨w',z⟩:=I.cell y c e
   exact ⟨w',z.sameBut hs (cne y c e)⟩
  ·obtain ⟨e,n,ne,nf,d⟩:=I.pin p hp
   exact ⟨(hs.2 p.1 ne).trans e,n,ne,nf,d⟩
 ·have hfn:X.fn x=true:=by
   rcases hf with z | z
   ·exact z
   ·rw [z] at hk;cases hk
  obtain ⟨c,hc⟩:=I.ok.has x (.inl hk)
  obtain ⟨w',z⟩:=I.cell x c hc
  refine wpAny_storeName_cell I.ok.kind hk hc z (fun h' hc' hs=>?_)
  obtain ⟨oc,hoc,hocd⟩:=id z
  refine h { s with heap:=h' } ⟨I.ok,I.os,I.bare,⟨fun b o e n hb hx=>?_,fun b o e n hb hx=>?_,I.base.free,fun b o e hx=>?_,I.base.tups,I.base.frzs,I.base.tbls⟩,⟨m,hn.sameBut hs (Ne.symm (cne x c hc)),fun j y v' e1 e2 e3=>?_⟩,fun y c' e=>?_,I.free,I.freeC,fun p hp=>?_,tracked ⟨oc,hoc,I.freeC x c hc⟩ hs,by simpa using I.len⟩ ⟨c,hs,.inr hc⟩
  ·exact (hs.2 b (Nat.ne_of_lt (Nat.lt_of_lt_of_le (Heap.lt_size e) (I.ok.cab x c hfn hc)))).trans (I.base.keep b o e n hb hx)
  ·obtain ⟨sl,e1⟩:=I.base.slot b o e n hb hx
   exact ⟨sl,(hs.2 b (Nat.ne_of_lt (Nat.lt_of_lt_of_le (Heap.lt_size e) (I.ok.cab x c hfn hc)))).trans e1⟩
  ·obtain ⟨o',e1⟩:=I.base.there b o e hx
   exact ⟨o',(hs.2 b (Nat.ne_of_lt (Nat.lt_of_lt_of_le (Heap.lt_size e) (I.ok.cab x c hfn hc)))).trans e1⟩
  ·by_cases hj:j=i
   ·subst hj
    rw [hi] at e1;cases e1
    rw [List.getElem?_set_self hiσ] at e2
    cases e2
    exact ⟨u,r,.inr ⟨.inl hk,c,hc,hc'⟩⟩
   ·rw [List.getElem?_set_ne (Ne.symm hj)] at e2
    obtain ⟨u',r',q⟩:=hl j y v' e1 e2 e3
    refine ⟨u',r',?_⟩
    rcases q with q | ⟨k,c',e,z'⟩
    ·exact .inl q
    ·refine .inr ⟨k,c',e,z'.sameBut hs ?_⟩
     rintro rfl
     exact hj (Qkm hN e1 (I.ok.inj _ _ _ e hc▸hi))
  ·by_cases hcc:c'=c
   ·subst hcc;exact ⟨_,hc'⟩
   ·obtain ⟨w2,z2⟩:=I.cell y c' e
    exact ⟨w2,z2.sameBut hs hcc⟩
  ·obtain ⟨e,n,ne,nf,d⟩:=I.pin p hp
   refine ⟨(hs.2 p.1 ?_).trans e,n,ne,nf,d⟩
   intro q
   rw [q,hoc] at e
   have q':oc=p.2:=Option.some.inj e
   exact d w' (by rw [<- q'];exact hocd)
theorem Qgg {M:Model} {A:Around} {E:Value->Shared->Prop} {i:Nat} {x:Str} {v:V} {u:Value} {Q:Unit->Shared->Prop} (I:Inv X pins σ H s) (hN:X.N.Nodup) (hi:X.N[i]?=some x) (hx:Loc X.env.scope x) (r:RelV v u)
  (h:∀ s',Inv X pins (σ.set i (some v)) H s'->Q () s') (hf:X.fn x=true\/X.env.scope.names.lookup x=some .local:=by first | exact .inl rfl | exact .inr rfl | assumption):wpAny M A (storeName X.env x u) Q E s :=
 QiE I hN hi hx r (fun s' I' _=>h s' I') hf
theorem Inv.call' {s':Shared} {ch:List Addr} (I:Inv X pins σ H s) (ho:s'.os=s.os) (u:Un (frs X.stack) ch H H' s.heap s'.heap) (hok:HOk X.prog X.w H' s'.heap) (hg:AllBare s'.gens)
  (hch:∀ b∈ch,(b∈X.ex\/X.s₀.heap.objs.size<=b)/\b≠X.env.locals/\(∀ x c,X.env.cells.lookup x=some c->c≠b)/\∀ p∈X.pn++pins,p.1≠b):Inv X pins σ H' s':=by
 obtain ⟨h',g',d',t',o'⟩:=s'
 have e:o'=s.os:=ho
 subst e
 exact I.call (g':=g') (t':=t') (d':=d') u hok hg hch
end
abbrev XK:=Value->Option Addr->Hp->Prop
abbrev St:=List (Option V)
abbrev VK:=V->Hp->Prop
abbrev TE:=St->Hp->VK->Prop
abbrev TT:=St->Hp->(Bool->Hp->Prop)->Prop
abbrev TA:=St->Hp->(List V->Hp->Prop)->Prop
structure Ends where
 nx:St->Hp->Prop
 rt:VK
 bk:St->Hp->Prop:=fun _ _=>False
 ct:St->Hp->Prop:=fun _ _=>False
abbrev TS:=Ends->St->Hp->Prop
def EP (X:Cx) (pins:List (Addr×Obj)) (σ:St) (Q:VK) (u:Value) (s':Shared):Prop:=∃ v H',Inv X pins σ H' s'/\RelV v u/\Q v H'
def TP (X:Cx) (pins:List (Addr×Obj)) (σ:St) (Q:Bool->Hp->Prop) (b:Bool) (s':Shared):Prop:=∃ H',Inv X pins σ H' s'/\Q b H'
def AP (X:Cx) (pins:List (Addr×Obj)) (σ:St) (Q:List V->Hp->Prop) (us:List Value) (s':Shared):Prop:=∃ vs H',Inv X pins σ H' s'/\Vals vs us/\Q vs H'
def SP (X:Cx) (pins:List (Addr×Obj)) (D:Ends) (f:Flow) (s':Shared):Prop :=
 match f with
 | .next=>∃ σ' H',Inv X pins σ' H' s'/\D.nx σ' H'
 | .brk=>∃ σ' H',Inv X pins σ' H' s'/\D.bk σ' H'
 | .cont=>∃ σ' H',Inv X pins σ' H' s'/\D.ct σ' H'
 | .ret u=>∃ v σ' H',Inv X pins σ' H' s'/\RelV v u/\D.rt v H'
def PE (X:Cx) (e:Expr) (t:TE):Prop :=
 ∀ (pins:List (Addr×Obj)) (s:Shared) (σ:St) (H:Hp) (Q:VK),Inv X pins σ H s->t σ H Q->wpAny (model X.prog X.w) X.A (eval e X.env) (EP X pins σ Q) X.xe s
def PT (X:Cx) (e:Expr) (t:TT):Prop :=
 ∀ (pins:List (Addr×Obj)) (s:Shared) (σ:St) (H:Hp) (Q:Bool->Hp->Prop),Inv X pins σ H s->t σ H Q->wpAny (model X.prog X.w) X.A (isTrue e X.env (eval e X.env)) (TP X pins σ Q) X.xe s
def PW (X:Cx) (e:Expr) (t:TT):Prop :=
 ∀ (whole:Sem Value) (pins:List (Addr×Obj)) (s:Shared) (σ:St) (H:Hp) (Q:Bool->Hp->Prop),Inv X pins σ H s->t σ H Q->wpAny (model X.prog X.w) X.A (isTrue e X.env whole) (TP X pins σ Q) X.xe s
theorem PW.pt {X:Cx} {e:Expr} {t:TT} (h:PW X e t):PT X e t:=h _
def PA (X:Cx) (es:List Expr) (t:TA):Prop :=
 ∀ (pos:Pos) (pins:List (Addr×Obj)) (s:Shared) (σ:St) (H:Hp) (Q:List V->Hp->Prop),Inv X pins σ H s->t σ H Q->wpAny (model X.prog X.w) X.A (spliced (backTo pos (starEach es X.env))) (AP X pins σ Q) X.xe s
def PS (X:Cx) (st:Stmt) (t:TS):Prop :=
 ∀ (pins:List (Addr×Obj)) (s:Shared) (σ:St) (H:Hp) (D:Ends),Inv X pins σ H s->t D σ H->wpAny (model X.prog X.w) X.A (exec st X.env) (SP X pins D) X.xe s
def PSs (X:Cx) (st:List Stmt) (t:TS):Prop :=
 ∀ (pins:List (Addr×Obj)) (s:Shared) (σ:St) (H:Hp) (D:Ends),Inv X pins σ H s->t D σ H->wpAny (model X.prog X.w) X.A (execs st X.env) (SP X pins D) X.xe s
theorem thn {α:Type} {t:Sem α} {Q Q':α->Shared->Prop} {M:Model} {A:Around} {E:Value->Shared->Prop} {s:Shared} (h:wpAny M A t Q E s) (hQ:∀ a s,Q a s->Q' a s):wpAny M A t Q' E s:=wpAny_mono h hQ fun _ _ x=>x
end L2
namespace L2
open PySem PySem.Spec PyProof.Rows
section
variable {X:Cx}
def QvJ (i:Nat):TE:=fun σ H Q=>∃ v,σ[i]?=some (some v)/\Q v H
def tC (v:V):TE:=fun _ H Q=>Q v H
theorem Qdo {i:Nat} {x:Str} {pos:Pos} (hN:X.N[i]?=some x) (hv:Vis X.env.scope x) (hd:(x==("__debug__":Str))=false:=by decide) (hcd:(x==("__classdict__":Str))=false:=by decide):PE X (.Name x pos) (QvJ i):=by
 intro pins s σ H Q I h
 obtain ⟨v,e,h⟩:=h
 obtain ⟨m,hn,hl⟩:=I.loc
 obtain ⟨u,r,l⟩:=hl i x v hN e hv
 have fin:EP X pins σ Q u s:=⟨v,H,I,r,h⟩
 rcases l with ⟨hk,hm⟩ | ⟨hk,c,hc,hcell⟩
 ·exact wpAny_Name (wpAny_loadName_local I.ok.kind hk hn hm fin) hd
 ·rcases hk with hk | hk
  ·exact wpAny_Name (wpAny_loadName_cell I.ok.kind hk hc hcell fin) hd
  ·exact wpAny_Name (wpAny_loadName_free I.ok.kind hk hc hcell fin hcd) hd
theorem Qt6 {i j pos}:PE X (.Constant (.int i) j pos) (tC (.int i)):=fun _ _ _ H _ I h=>wpAny_Constant_int ⟨.int i,H,I.tok _,⟨_,rfl⟩,h⟩
theorem QrQ {b j pos}:PE X (.Constant (.bool b) j pos) (tC (.bl b)):=fun _ _ _ H _ I h=>Constant_bool ⟨.bl b,H,I,rfl,h⟩
theorem Qt3 {x j pos}:PE X (.Constant (.str x) j pos) (tC (.str x)):=fun _ _ _ H _ I h=>Calls.Constant_str ⟨.str x,H,I.tok _,⟨_,rfl⟩,h⟩
def Gl (X:Cx) (x:Str):Prop:=X.env.kindOf x=some .globalImplicit
theorem QmJ {E:Value->Shared->Prop} {pins:List (Addr×Obj)} {s:Shared} {σ:St} {H:Hp} {x:Str} {u:Value} {pos:Pos} {Q:Value->Shared->Prop} (I:Inv X pins σ H s) (hg:Gl X x) (hm:X.mg x=some u) (h:Q u s)
  (hd:(x==("__debug__":Str))=false:=by decide):wpAny (model X.prog X.w) X.A (eval (.Name x pos) X.env) Q E s :=
 Calls.Name_function_global I.ok.kind hg (Calls.loadGlobal_global (by rw [I.ok.glob];exact I.mod.glob.keeps I.bk) hm h) hd
theorem Qck {E:Value->Shared->Prop} {pins:List (Addr×Obj)} {s:Shared} {σ:St} {H:Hp} {x:Str} {u:Value} {pos:Pos} {Q:Value->Shared->Prop} (I:Inv X pins σ H s) (hg:Gl X x) (hm:X.mg x=none) (hv:bootBuiltins x=some u) (h:Q u s)
  (hn:x≠"__name__":=by decide) (hd:(x==("__debug__":Str))=false:=by decide):wpAny (model X.prog X.w) X.A (eval (.Name x pos) X.env) Q E s:=by
 obtain ⟨mb,h1,h2⟩:=I.mod.blt
 exact Calls.Name_function_global I.ok.kind hg (Calls.loadGlobal_builtin (by rw [I.ok.glob];exact I.mod.glob.keeps I.bk) hm (by rw [I.ok.blt];exact h1.keeps I.bk) ((h2 x hn).trans hv) h) hd
theorem Qsz {x:Str} {v:V} {u:Value} {pos:Pos} (hg:Gl X x) (hm:X.mg x=some u) (r:RelV v u) (hd:(x==("__debug__":Str))=false:=by decide):PE X (.Name x pos) (tC v) :=
 fun _ _ _ H _ I h=>QmJ I hg hm ⟨v,H,I,r,h⟩ hd
theorem QsC {x:Str} {v:V} {u:Value} {pos:Pos} (hg:Gl X x) (hm:X.mg x=none) (hv:bootBuiltins x=some u) (r:RelV v u) (hn:x≠"__name__":=by decide) (hd:(x==("__debug__":Str))=false:=by decide):PE X (.Name x pos) (tC v) :=
 fun _ _ _ H _ I h=>Qck I hg hm hv ⟨v,H,I,r,h⟩ hn hd
variable {a b:Expr} {ta tb:TE} {pos:Pos}
def PC (X:Cx) (op:CmpOp) (a b:Expr) (t:TE):Prop :=
 ∀ (pins:List (Addr×Obj)) (s:Shared) (σ:St) (H:Hp) (Q:VK),Inv X pins σ H s->t σ H Q ->
  wpAny (model X.prog X.w) X.A (eval a X.env) (fun v s₁=>wpAny (model X.prog X.w) X.A (eval b X.env) (fun u s₂=>wpAny (model X.prog X.w) X.A (compareOp op v u) (EP X pins σ Q) X.xe s₂) X.xe s₁) X.xe s
theorem Qq4 (b:Expr) {op:CmpOp} (h:op≠.In) (h2:op≠.NotIn):behindInMarks op b=false:=by
 have e1:(op==CmpOp.In)=false:=by cases op<;>first | rfl | exact absurd rfl h
 have e2:(op==CmpOp.NotIn)=false:=by cases op<;>first | rfl | exact absurd rfl h2
 cases b<;>simp [behindInMarks,e1,e2]
def tB (t:TE):TT:=fun σ H Q=>t σ H fun x H1=>∃ c,x=.bl c/\Q c H1
theorem Qoz {op:CmpOp} {t:TE} (h:PC X op a b t) (h1:behindInMarks op b=false:=by first | exact Qq4 _ (by decide) (by decide) | rfl):PT X (.Compare a [op] [b] pos) (tB t):=by
 intro pins s σ H Q I hw
 refine wpAny_isTrue_Compare1 (thn (h pins s σ H _ I hw) fun v s1 h1=>thn h1 fun u s2 h2=>thn h2 fun c s3 ⟨x,H1,I1,r1,q1⟩=>?_) h1
 obtain ⟨d,rfl,q⟩:=q1
 cases r1
 exact wpAny_truthy_bool ⟨H1,I1,q⟩
theorem QtS {e:Expr} {t:TE} (h:PE X e t) (he:∀ whole,isTrue e X.env whole=(do let v <- whole;standAt e.pos;holding [v] (truthy v)):=by intro _;rfl):PT X e (tB t):=by
 intro pins s σ H Q I hw
 refine isTrue_plain (thn (h pins s σ H _ I hw) fun v s1 ⟨x,H1,I1,r1,q1⟩=>?_) (he _)
 obtain ⟨d,rfl,q⟩:=q1
 cases r1
 exact wpAny_truthy_bool ⟨H1,I1,q⟩
variable {tA tB':TT} {rest:List Expr}
def Qtw (t u:TT):TT:=fun σ H Q=>t σ H fun c H1=>if c=true then u σ H1 Q else Q false H1
def tOr (t u:TT):TT:=fun σ H Q=>t σ H fun c H1=>if c=true then Q true H1 else u σ H1 Q
def QvP (t:TT):TT:=fun σ H Q=>t σ H fun c H1=>Q (!c) H1
theorem Qsp (ha:PT X a tA):PW X (.BoolOp .And [a] pos) tA:=by
 intro wh pins s σ H Q I h
 refine isTrue_and (thn (ha pins s σ H Q I h) fun c s1 e=>?_)
 cases c with
 | true=>exact isTrue_and_nil e
 | false=>exact e
theorem QtQ (ha:PT X a tA):PW X (.BoolOp .Or [a] pos) tA:=by
 intro wh pins s σ H Q I h
 refine isTrue_or (thn (ha pins s σ H Q I h) fun c s1 e=>?_)
 cases c with
 | false=>exact isTrue_or_nil e
 | true=>exact e
theorem QtR (ha:PT X a tA) (hb:PW X (.BoolOp .And (b::rest) pos) tB'):PW X (.BoolOp .And (a::b::rest) pos) (Qtw tA tB'):=by
 intro wh pins s σ H Q I h
 refine isTrue_and (thn (ha pins s σ H _ I h) fun c s1 ⟨H1,I1,q1⟩=>?_)
 cases c with
 | true=>exact hb wh pins s1 σ H1 Q I1 q1
 | false=>exact ⟨H1,I1,q1⟩
theorem Qu9 (ha:PT X a tA) (hb:PW X (.BoolOp .Or (b::rest) pos) tB'):PW X (.BoolOp .Or (a::b::rest) pos) (tOr tA tB'):=by
 intro wh pins s σ H Q I h
 refine isTrue_or (thn (ha pins s σ H _ I h) fun c s1 ⟨H1,I1,q1⟩=>?_)
 cases c with
 | true=>exact ⟨H1,I1,q1⟩
 | false=>exact hb wh pins s1 σ H1 Q I1 q1
theorem QtU (ha:PT X a tA):PT X (.UnaryOp .Not a pos) (QvP tA):=by
 intro pins s σ H Q I h
 exact isTrue_not (ha pins s σ H (fun c H1=>Q (!c) H1) I h)
def Qu5 (ta tb:TE):TE:=fun σ H Q=>ta σ H fun x H1=>∃ c,x=.bl c/\if c=true then tb σ H1 Q else Q (.bl false) H1
def QvO (ta tb:TE):TE:=fun σ H Q=>ta σ H fun x H1=>∃ c,x=.bl c/\if c=true then Q (.bl true) H1 else tb σ H1 Q
def QuZ (ta:TE):TE:=fun σ H Q=>ta σ H fun x H1=>∃ c,x=.bl c/\Q (.bl (!c)) H1
theorem Qt4 {op} {t:TE} (h:PE X a t):PE X (.BoolOp op [a] pos) t:=fun pins s σ H Q I hw=>BoolOp_one (h pins s σ H Q I hw)
theorem Qt8 (ha:PE X a ta) (hb:PE X (.BoolOp .And (b::rest) pos) tb):PE X (.BoolOp .And (a::b::rest) pos) (Qu5 ta tb):=by
 intro pins s σ H Q I h
 refine BoolOp_and (thn (ha pins s σ H _ I h) fun v s1 ⟨x,H1,I1,r1,q1⟩=>?_)
 obtain ⟨c,rfl,q1⟩:=q1
 cases r1
 refine wpAny_truthy_bool ?_
 cases c with
 | true=>exact hb pins s1 σ H1 Q I1 q1
 | false=>exact ⟨.bl false,H1,I1,rfl,q1⟩
theorem Qvd (ha:PE X a ta) (hb:PE X (.BoolOp .Or (b::rest) pos) tb):PE X (.BoolOp .Or (a::b::rest) pos) (QvO ta tb):=by
 intro pins s σ H Q I h
 refine BoolOp_or (thn (ha pins s σ H _ I h) fun v s1 ⟨x,H1,I1,r1,q1⟩=>?_)
 obtain ⟨c,rfl,q1⟩:=q1
 cases r1
 refine wpAny_truthy_bool ?_
 cases c with
 | false=>exact hb pins s1 σ H1 Q I1 q1
 | true=>exact ⟨.bl true,H1,I1,rfl,q1⟩
theorem Qt5 (ha:PE X a ta):PE X (.UnaryOp .Not a pos) (QuZ ta):=by
 intro pins s σ H Q I h
 refine UnaryOp_ (thn (ha pins s σ H _ I h) fun v s1 ⟨x,H1,I1,r1,q1⟩=>?_)
 obtain ⟨c,rfl,q1⟩:=q1
 cases r1
 exact not_of (wpAny_truthy_bool ⟨.bl (!c),H1,I1,rfl,q1⟩)
def tIf (t:TT) (ta tb:TE):TE:=fun σ H Q=>t σ H fun c H1=>if c=true then ta σ H1 Q else tb σ H1 Q
theorem QqV {c:Expr} (hc:PT X c tA) (ha:PE X a ta) (hb:PE X b tb):PE X (.IfExp c a b pos) (tIf tA ta tb):=by
 intro pins s σ H Q I h
 refine wpAny_IfExp (thn (hc pins s σ H _ I h) fun d s1 ⟨H1,I1,q1⟩=>?_)
 cases d with
 | true=>exact ha pins s1 σ H1 Q I1 q1
 | false=>exact hb pins s1 σ H1 Q I1 q1
end
end L2
namespace L2
open PySem PySem.Spec PyProof.Rows
def SqL (K:PySem.W.Frag) (H:Hp) (a:Addr) (xs:List V):Prop :=
 Rd H a (.lst xs) \/
  ∃ (o:Obj) (its:Array Value) (n:Nat),K.lookup a=some o/\o.cls=.type "list"/\o.dict=none/\o.data=.seq its n/\its.size<=sizeLine/\Vals xs its.toList
def SqT (K:PySem.W.Frag) (H:Hp) (a:Addr) (xs:List V):Prop :=
 Rd H a (.tup xs) \/
  ∃ (o:Obj) (its:Array Value) (n:Nat),K.lookup a=some o/\o.cls=.type "tuple"/\o.data=.seq its n/\its.size<=sizeLine/\Vals xs its.toList
def Qwb:Value->Option V
 | .none=>some .non
 | .bool b=>some (.bl b)
 | .int i _=>some (.int i)
 | .str x _=>some (.str x)
 | .bytes b _=>some (.byt b)
 | .float b _=>some (.flt b)
 | .ref a=>some (.ref a)
 | .type n=>some (.ty n)
 | _=>none
theorem RelV.abs {x:V} {u:Value} (r:RelV x u):Qwb u=some x:=by
 cases x with
 | non=>cases r;rfl
 | bl _=>cases r;rfl
 | int _=>obtain ⟨t,rfl⟩:=r;rfl
 | str _=>obtain ⟨t,rfl⟩:=r;rfl
 | byt _=>obtain ⟨t,rfl⟩:=r;rfl
 | flt _=>obtain ⟨t,rfl⟩:=r;rfl
 | ref _=>cases r;rfl
 | ty _=>cases r;rfl
theorem RelV.inj {x y:V} {u:Value} (r:RelV x u) (q:RelV y u):x=y:=Option.some.inj (r.abs.symm.trans q.abs)
theorem Vals.inj:∀ {xs ys:List V} {us:List Value},Vals xs us->Vals ys us->xs=ys
 | _,_,_,.nil,.nil=>rfl
 | _,_,_,.cons r t,.cons r' t'=>by rw [r.inj r',Vals.inj t t']
section
variable {X:Cx} {pins:List (Addr×Obj)} {σ:St} {H:Hp} {s:Shared} {a:Addr} {xs ys:List V}
theorem SqL.of {K:PySem.W.Frag} (h:H a=some (.lst xs)):SqL K H a xs:=.inl (.inl h)
theorem SqT.of {K:PySem.W.Frag} (h:H a=some (.tup xs)):SqT K H a xs:=.inl (.inl h)
theorem Inv.list (I:Inv X pins σ H s) (h:SqL X.K H a xs):∃ its:List Value,Vals xs its/\PlainL s.heap a its.toArray/\xs.length<=sizeLine:=by
 rcases h with h | ⟨o,its,n,hk,hc,hd,hs,hz,r⟩
 ·obtain ⟨z,its,n,r,e⟩:=h.ok I.hok
  exact ⟨its,r,⟨_,n,e,rfl,rfl,rfl⟩,z⟩
 ·refine ⟨its.toList,r,⟨o,n,I.kIn a o hk,hc,hd,by simpa using hs⟩,?_⟩
  have e:=r.length
  simp only [Array.length_toList] at e
  omega
theorem Inv.tuple (I:Inv X pins σ H s) (h:SqT X.K H a xs):∃ its:List Value,Vals xs its/\IsTup s.heap a its.toArray/\xs.length<=sizeLine:=by
 rcases h with h | ⟨o,its,n,hk,hc,hs,hz,r⟩
 ·obtain ⟨z,its,r,p⟩:=h.ok I.hok
  exact ⟨its,r,p,z⟩
 ·refine ⟨its.toList,r,⟨o,I.kIn a o hk,hc,n,by simpa using hs⟩,?_⟩
  have e:=r.length
  simp only [Array.length_toList] at e
  omega
theorem Inv.list_inj (I:Inv X pins σ H s) (h:SqL X.K H a xs) (h':SqL X.K H a ys):xs=ys:=by
 obtain ⟨its,r,⟨o,n,e,_,_,d⟩,_⟩:=I.list h
 obtain ⟨its',r',⟨o',n',e',_,_,d'⟩,_⟩:=I.list h'
 rw [e] at e';cases e'
 rw [d] at d'
 injection d' with d1 _
 have:its=its':=by simpa using congrArg Array.toList d1
 subst this
 exact r.inj r'
end
abbrev Cx.wish (X:Cx) (E:Value->Shared->Prop):Cx:={ X with xe:=E }
abbrev Cx.nox (X:Cx):Cx:=X.wish fun _ _=>False
theorem Cx.Ok.wish {X:Cx} (ok:X.Ok) (E:Value->Shared->Prop):(X.wish E).Ok :=
 ⟨ok.mod,ok.kind,ok.glob,ok.blt,ok.above,ok.inj,ok.has,ok.cab,ok.hd,ok.frames,ok.stk,ok.exf,ok.bs,ok.bsz,ok.noex,ok.exfs,ok.funs,ok.frf⟩
theorem Cx.Ok.unwish {X:Cx} {E:Value->Shared->Prop} (ok:(X.wish E).Ok):X.Ok :=
 ⟨ok.mod,ok.kind,ok.glob,ok.blt,ok.above,ok.inj,ok.has,ok.cab,ok.hd,ok.frames,ok.stk,ok.exf,ok.bs,ok.bsz,ok.noex,ok.exfs,ok.funs,ok.frf⟩
section
variable {X:Cx} {pins:List (Addr×Obj)} {σ:St} {H:Hp} {s:Shared} {E:Value->Shared->Prop}
theorem Inv.wish (I:Inv X pins σ H s) (E:Value->Shared->Prop):Inv (X.wish E) pins σ H s:=⟨I.ok.wish E,I.os,I.bare,I.base,I.loc,I.cell,I.free,I.freeC,I.pin,I.hok,I.len⟩
theorem Inv.unwish (I:Inv (X.wish E) pins σ H s):Inv X pins σ H s:=⟨I.ok.unwish,I.os,I.bare,I.base,I.loc,I.cell,I.free,I.freeC,I.pin,I.hok,I.len⟩
theorem SP.unwish {D:Ends} {f:Flow} {s':Shared} (h:SP (X.wish E) pins D f s'):SP X pins D f s':=by
 cases f with
 | next=>obtain ⟨σ',H',I,q⟩:=h;exact ⟨σ',H',I.unwish,q⟩
 | brk=>obtain ⟨σ',H',I,q⟩:=h;exact ⟨σ',H',I.unwish,q⟩
 | cont=>obtain ⟨σ',H',I,q⟩:=h;exact ⟨σ',H',I.unwish,q⟩
 | ret u=>obtain ⟨v,σ',H',I,r,q⟩:=h;exact ⟨v,σ',H',I.unwish,r,q⟩
theorem PSs.nox {st:List Stmt} {t:TS} (h:PSs X.nox st t):PSs X st t:=fun pins s σ H D I hw =>
 wpAny_mono (h pins s σ H D (I.wish _) hw) (fun _ _ q=>q.unwish) fun _ _ z=>False.elim z
end
section
variable {X:Cx} {st:Stmt} {rest:List Stmt} {t u:TS} {e:Expr} {te:TE} {pos:Pos}
def Qu0:TS:=fun D σ H=>D.nx σ H
def QvL (t u:TS):TS:=fun D σ H=>t { D with nx:=u D } σ H
theorem Qss:PSs X [] Qu0:=fun _ _ σ H _ I h=>wpAny_execs_nil ⟨σ,H,I,h⟩
theorem QqQ (h1:PS X st t) (h2:PSs X rest u):PSs X (st::rest) (QvL t u):=by
 intro pins s σ H D I h
 refine wpAny_execs_cons (thn (h1 pins s σ H { D with nx:=u D } I h) fun f s1 q=>?_)
 cases f with
 | next =>
  obtain ⟨σ',H',I',q⟩:=q
  exact h2 pins s1 σ' H' D I' q
 | ret v=>exact q
 | brk=>exact q
 | cont=>exact q
theorem Qsr (h1:PS X st t):PSs X [st] t:=by
 intro pins s σ H D I h
 refine wpAny_execs_cons (thn (h1 pins s σ H D I h) fun f s1 q=>?_)
 cases f with
 | next=>exact wpAny_execs_nil q
 | ret v=>exact q
 | brk=>exact q
 | cont=>exact q
def Qu3:TS:=fun D σ H=>D.ct σ H
theorem QlT:PS X (.Continue pos) Qu3:=fun _ _ σ H _ I h=>wpAny_Continue ⟨σ,H,I,h⟩
theorem Inv.quiet {pins:List (Addr×Obj)} {σ:St} {H:Hp} {s:Shared} (I:Inv X pins σ H s):interactive X.env=false:=by simp [interactive,I.ok.kind]
def Qu1 (te:TE):TS:=fun D σ H=>te σ H fun _ H1=>D.nx σ H1
theorem QfC (he:PE X e te) (hs:swapsWith e none pos.line X.env=pure false:=by rfl):PS X (.Expr e pos) (Qu1 te):=by
 intro pins s σ H D I h
 exact wpAny_Expr_any (thn (he pins s σ H _ I h) fun v s1 ⟨x,H1,I1,r1,q1⟩=>⟨σ,H1,I1,q1⟩) I.quiet hs
def QvM (te:TE):TS:=fun D σ H=>te σ H D.rt
theorem QtV (he:PE X e te):PS X (.Return (some e) pos) (QvM te):=by
 intro pins s σ H D I h
 exact wpAny_Return_some (thn (he pins s σ H _ I h) fun v s1 ⟨x,H1,I1,r1,q1⟩=>⟨x,σ,H1,I1,r1,q1⟩)
def QvR (c:TT) (t u:TS):TS:=fun D σ H=>c σ H fun b H1=>if b=true then t D σ H1 else u D σ H1
theorem Qva {c:Expr} {a b:List Stmt} {tc:TT} (hc:PT X c tc) (ha:PSs X a t) (hb:PSs X b u):PS X (.If c a b pos) (QvR tc t u):=by
 intro pins s σ H D I h
 refine wpAny_If (thn (hc pins s σ H _ I h) fun d s1 ⟨H1,I1,q1⟩=>?_)
 cases d with
 | true=>exact ha pins s1 σ H1 D I1 q1
 | false=>exact hb pins s1 σ H1 D I1 q1
end
abbrev TG:=V->St->Hp->(St->Hp->Prop)->Prop
abbrev TGs:=List V->St->Hp->(St->Hp->Prop)->Prop
def PG (X:Cx) (target:Expr) (t:TG):Prop :=
 ∀ (pins:List (Addr×Obj)) (s:Shared) (σ:St) (H:Hp) (v:V) (u:Value) (Q:St->Hp->Prop),Inv X pins σ H s->RelV v u->t v σ H Q ->
  wpAny (model X.prog X.w) X.A (assign target X.env u) (fun _ s'=>∃ σ' H',Inv X pins σ' H' s'/\Q σ' H') X.xe s
def PGs (X:Cx) (ts:List Expr) (t:TGs):Prop :=
 ∀ (pins:List (Addr×Obj)) (s:Shared) (σ:St) (H:Hp) (vs:List V) (us:List Value) (Q:St->Hp->Prop),Inv X pins σ H s->Vals vs us->t vs σ H Q ->
  wpAny (model X.prog X.w) X.A (assignInOrder ((assignEach ts X.env).map (·.2)) us) (fun _ s'=>∃ σ' H',Inv X pins σ' H' s'/\Q σ' H') X.xe s
abbrev TIp:=V->V->Hp->VK->Prop
def PIp (X:Cx) (op:Operator) (t:TIp):Prop :=
 ∀ (pins:List (Addr×Obj)) (s:Shared) (σ:St) (H:Hp) (x y:V) (v u:Value) (Q:VK),Inv X pins σ H s->RelV x v->RelV y u->t x y H Q ->
  wpAny (model X.prog X.w) X.A (inplaceOp op v u) (EP X pins σ Q) X.xe s
section
variable {X:Cx} {pos:Pos}
def Qr0 (i:Nat):TG:=fun v σ H Q=>Q (σ.set i (some v)) H
theorem Qsy {i:Nat} {x:Str} (hN:X.N.Nodup) (hi:X.N[i]?=some x) (hx:Loc X.env.scope x) (hf:X.fn x=true\/X.env.scope.names.lookup x=some .local:=by first | exact .inl rfl | exact .inr rfl | assumption):PG X (.Name x pos) (Qr0 i):=by
 intro pins s σ H v u Q I r h
 exact wpAny_assign_Name (Qgg I hN hi hx r (fun s' I'=>⟨_,H,I',h⟩) hf)
def Qv7:TGs:=fun vs σ H Q=>vs=[]/\Q σ H
def Qvq (t:TG) (u:TGs):TGs:=fun vs σ H Q=>∃ v r,vs=v::r/\t v σ H fun σ' H'=>u r σ' H' Q
theorem Qsx:PGs X [] Qv7:=by
 intro pins s σ H vs us Q I r h
 obtain ⟨e,h⟩:=h
 subst e
 cases r
 exact assignInOrder_nil ⟨σ,H,I,h⟩
theorem QqT {e:Expr} {es:List Expr} {t:TG} {u:TGs} (h1:PG X e t) (h2:PGs X es u)
  (hs:(assignEach (e::es) X.env).map (·.2)=assign e X.env::(assignEach es X.env).map (·.2):=by rfl):PGs X (e::es) (Qvq t u):=by
 intro pins s σ H vs us Q I r h
 obtain ⟨v,vr,e1,h⟩:=h
 subst e1
 cases r with
 | cons r rr =>
  rw [hs]
  refine assignInOrder_cons (thn (h1 pins s σ H _ _ _ I r h) fun _ s1 ⟨σ1,H1,I1,q1⟩=>?_)
  exact h2 pins s1 σ1 H1 _ _ Q I1 rr q1
def Qv6 (K:PySem.W.Frag) (n:Nat) (t:TGs):TG:=fun v σ H Q=>∃ a xs,v=.ref a/\SqT K H a xs/\xs.length=n/\t xs σ H Q
theorem Qt1 {es:List Expr} {k:Nat} {t:TGs} {n:Nat} (hc:X.calm=true) (h:PGs X es t)
  (hn:(assignEach es X.env).length=n:=by rfl) (hst:(assignEach es X.env).findIdx? (·.1)=none:=by rfl):PG X (.Tuple es k pos) (Qv6 X.K n t):=by
 intro pins s σ H v u Q I r hw
 obtain ⟨a,xs,e1,hq,hl,hw⟩:=hw
 subst e1
 cases r
 obtain ⟨its,rv,ht,hz⟩:=I.tuple hq
 refine assign_Tuple_tuple (I.ok.hd hc) ht (by simp [hn,<- hl,rv.length]) hst fun h' hx=>?_
 have I1:Inv X pins σ H { s with heap:=h' }:=I.kept (t':=s.toks) fun b o e=>hx b o (Nat.ne_of_lt (Heap.lt_size e)) e
 exact h pins _ σ H xs _ Q I1 (by simpa using rv) hw
def Qqm (te:TE) (g:TG):TS:=fun D σ H=>te σ H fun x H1=>g x σ H1 D.nx
theorem QtY {tg e:Expr} {te:TE} {g:TG} (he:PE X e te) (hg:PG X tg g) (hs:swapsWithSole [tg] e pos.line X.env=pure false:=by rfl) (hw:swappedStores [tg] e X.env=pure none:=by rfl)
  (h1:(assignEach [tg] X.env).map (·.2)=[assign tg X.env]:=by rfl):PS X (.Assign [tg] e pos) (Qqm te g):=by
 intro pins s σ H D I h
 refine wpAny_Assign_stores (thn (he pins s σ H _ I h) fun v s1 ⟨x,H1,I1,r1,q1⟩=>?_) hs hw
 rw [h1]
 exact thn (hg pins s1 σ H1 x v _ I1 r1 q1) fun _ s2 q=>q
theorem QoA {i:Nat} {x:Str} {e:Expr} {te:TE} {pos':Pos} (hN:X.N.Nodup) (hi:X.N[i]?=some x) (hx:Loc X.env.scope x) (he:PE X e te) (hs:swapsWith e (some (.Name x pos')) pos.line X.env=pure false:=by rfl) (hf:X.fn x=true\/X.env.scope.names.lookup x=some .local:=by first | exact .inl rfl | exact .inr rfl | assumption) :
  PS X (.Assign [.Name x pos'] e pos) (Qqm te (Qr0 i)):=by
 intro pins s σ H D I h
 refine wpAny_Assign_Name (thn (he pins s σ H _ I h) fun v s1 ⟨y,H1,I1,r1,q1⟩=>?_) hs
 exact Qgg I1 hN hi hx r1 (fun s2 I2=>⟨_,H1,I2,q1⟩) hf
def QvV (i:Nat) (te:TE) (ti:TIp):TS:=fun D σ H=>∃ x,σ[i]?=some (some x)/\te σ H fun y H1=>ti x y H1 fun z H2=>D.nx (σ.set i (some z)) H2
theorem QtX {i:Nat} {x:Str} {e:Expr} {te:TE} {op:Operator} {ti:TIp} {pos':Pos} (hN:X.N.Nodup) (hi:X.N[i]?=some x) (hx:Loc X.env.scope x) (he:PE X e te) (ho:PIp X op ti) (hf:X.fn x=true\/X.env.scope.names.lookup x=some .local:=by first | exact .inl rfl | exact .inr rfl | assumption) :
  PS X (.AugAssign (.Name x pos') op e pos) (QvV i te ti):=by
 intro pins s σ H D I h
 obtain ⟨v,e1,h⟩:=h
 obtain ⟨m,hn,hl⟩:=I.loc
 have vis:Vis X.env.scope x:=by rcases hx with k | k;exact .inl k;exact .inr (.inl k)
 obtain ⟨u,r,l⟩:=hl i x v hi e1 vis
 refine wpAny_AugAssign_Name ?_
 have go:wpAny (model X.prog X.w) X.A (eval e X.env) (fun w s₂=>wpAny (model X.prog X.w) X.A (inplaceOp op u w) (fun r s₃=>wpAny (model X.prog X.w) X.A (storeName X.env x r) (fun _=>SP X pins D .next) X.xe s₃) X.xe s₂) X.xe s:=by
  refine thn (he pins s σ H _ I h) fun w s1 ⟨y,H1,I1,r1,q1⟩=>?_
  refine thn (ho pins s1 σ H1 v y u w _ I1 r r1 q1) fun z s2 ⟨zv,H2,I2,r2,q2⟩=>?_
  exact Qgg I2 hN hi hx r2 (fun s3 I3=>⟨_,H2,I3,q2⟩) hf
 rcases l with ⟨hk,hm⟩ | ⟨hk,c,hc,hcell⟩
 ·exact wpAny_loadName_local I.ok.kind hk hn hm go
 ·rcases hk with hk | hk
  ·exact wpAny_loadName_cell I.ok.kind hk hc hcell go
  ·rcases hx with k | k
   ·have:X.env.scope.names.lookup x=some .free:=hk
    rw [k] at this;cases this
   ·have:X.env.scope.names.lookup x=some .free:=hk
    rw [k] at this;cases this
end
section
variable {X:Cx} {pos:Pos}
def QtF (c:TT) (tb:TS):TS:=fun D σ H=>∃ W:Nat->St->Hp->Prop,(∃ m,W m σ H)/\∀ m σ H,W m σ H ->
 c σ H fun b H1=>if b=true then ∃ N:St->Hp->Prop,(∀ σ' H',N σ' H'->∃ m',m'<m/\W m' σ' H')/\tb { D with nx:=N,ct:=N,bk:=D.nx } σ H1 else D.nx σ H1
theorem QqR {c:Expr} {body:List Stmt} {tc:TT} {tb:TS} (hp:PassesOwn (model X.prog X.w) X.A X.env X.xe) (hc:PT X c tc) (hb:PSs X body tb):PS X (.While c body [] pos) (QtF tc tb):=by
 intro pins s σ H D I h
 obtain ⟨W,⟨m0,w0⟩,turn⟩:=h
 refine wpAny_While (codeAny_whileLoop (fun n s'=>∃ σ' H',Inv X pins σ' H' s'/\W n σ' H') ?_ m0 ⟨σ,H,I,w0⟩)
 rintro n s1 ⟨σ1,H1,I1,w1⟩
 refine wpAny_passesOwn hp (thn (hc pins s1 σ1 H1 _ I1 (turn n σ1 H1 w1)) fun b s2 ⟨H2,I2,q2⟩=>?_)
 cases b with
 | true =>
  obtain ⟨N,hN,q2⟩:=q2
  rw [if_pos rfl]
  refine wpAny_passesOwn hp (thn (hb pins s2 σ1 H2 _ I2 q2) fun f s3 q3=>?_)
  cases f with
  | next =>
   obtain ⟨σ3,H3,I3,n3⟩:=q3
   obtain ⟨m',hm,w3⟩:=hN σ3 H3 n3
   exact ⟨m',hm,σ3,H3,I3,w3⟩
  | cont =>
   obtain ⟨σ3,H3,I3,n3⟩:=q3
   obtain ⟨m',hm,w3⟩:=hN σ3 H3 n3
   exact ⟨m',hm,σ3,H3,I3,w3⟩
  | brk=>exact q3
  | ret v=>exact q3
 | false =>
  rw [if_neg Bool.false_ne_true]
  exact wpAny_execs_nil ⟨σ1,H2,I2,q2⟩
end
structure It where
 go:Nat->Hp->Prop
 yld:Nat->Hp->V->Hp->Prop
 stop:Nat->Hp->Prop
def Qas (X:Cx) (pins:List (Addr×Obj)) (H:Hp) (b:Addr):Prop :=
 H b=none/\b≠X.env.locals/\b∉X.fs/\(b∈X.ex\/X.s₀.heap.objs.size<=b)/\(∀ x c,X.env.cells.lookup x=some c->c≠b)/\∀ p∈X.pn++pins,p.1≠b
theorem Inv.fpOk {X:Cx} {pins:List (Addr×Obj)} {σ:St} {H H':Hp} {s:Shared} {b:Addr} (I:Inv X pins σ H s) (hb:s.heap.objs.size<=b) (hn:H' b=none):Qas X pins H' b:=by
 refine ⟨hn,Nat.ne_of_gt (Nat.lt_of_lt_of_le I.lt hb),I.nofs hb,.inr (Nat.le_trans I.sz hb),fun x c e z=>?_,fun p hp z=>?_⟩
 ·obtain ⟨v,q⟩:=I.cell x c e
  exact absurd (Nat.lt_of_lt_of_le q.lt (by rw [z];exact hb)) (Nat.lt_irrefl _)
 ·exact absurd (Nat.lt_of_lt_of_le (Heap.lt_size (I.pin p hp).1) (by rw [z];exact hb)) (Nat.lt_irrefl _)
structure Turn (P:Program) (w:World) (K:PySem.W.Frag) (tg:Expr) (J:It) (fp:List Addr) (it:Addr) (tn:Nat->Heap->Prop):Prop where
 mem:it∈fp
 obj:∀ i h,tn i h->∀ b∈fp,∃ o,h.get? b=some o/\∀ v,o.data≠.cell v
 keep:∀ i h h',tn i h->(∀ b∈fp,∀ o,h.get? b=some o->h'.get? b=some o)->tn i h'
 item:∀ (X:Cx),X.prog=P->X.w=w->X.K=K->X.calm=true->∀ (i:Nat) (pins:List (Addr×Obj)) (s:Shared) (σ:St) (H:Hp) (E:Value->Shared->Prop),Inv X pins σ H s->(∀ b∈fp,Qas X pins H b)->tn i s.heap->J.go i H ->
  wpAny (model P w) X.A (pyNext (.ref it)) (fun r s1=>∃ u,r=some u /\
   wpAny (model P w) X.A (letOwnedTupleGo tg (.ref it) u) (fun _ s2=>∃ x H',Inv X pins σ H' s2/\RelV x u/\J.yld i H x H'/\tn (i+1) s2.heap/\∀ b∈fp,H' b=none) E s1) E s
 done:∀ (X:Cx),X.prog=P->X.w=w->X.K=K->X.calm=true->∀ (i:Nat) (pins:List (Addr×Obj)) (s:Shared) (σ:St) (H:Hp) (E:Value->Shared->Prop),Inv X pins σ H s->(∀ b∈fp,Qas X pins H b)->tn i s.heap->J.stop i H ->
  wpAny (model P w) X.A (pyNext (.ref it)) (fun r s1=>r=none/\Inv X pins σ H s1) E s
 self:∀ (A:Around) (i:Nat) (s:Shared) (Q:Value->Shared->Prop) (E:Value->Shared->Prop),tn i s.heap->Q (.ref it) s->wpAny (model P w) A (pyIter (.ref it)) Q E s
abbrev TI:=St->Hp->(It->Hp->Prop)->Prop
def PIE (X:Cx) (pins:List (Addr×Obj)) (σ:St) (tg:Expr) (R:It->Hp->Prop) (itv:Value) (s2:Shared):Prop :=
 ∃ (it:Addr) (fp:List Addr) (tn:Nat->Heap->Prop) (J:It) (H':Hp),itv=.ref it/\Inv X pins σ H' s2/\Turn X.prog X.w X.K tg J fp it tn/\tn 0 s2.heap/\(∀ b∈fp,Qas X pins H' b)/\R J H'
def PI (X:Cx) (tg iter:Expr) (wi:TI):Prop :=
 ∀ (pins:List (Addr×Obj)) (s:Shared) (σ:St) (H:Hp) (R:It->Hp->Prop),Inv X pins σ H s->wi σ H R ->
  wpAny (model X.prog X.w) X.A (eval iter X.env) (fun v s1=>wpAny (model X.prog X.w) X.A (pyIter v) (PIE X pins σ tg R) X.xe s1) X.xe s
theorem QrZ {M:Model} {A:Around} {E:Value->Shared->Prop} {s:Shared} {tg:Expr} {it:Addr} {u:Value} {o:Obj} {n:String} {vs:Array Value} {Q:Unit->Shared->Prop} (ho:s.heap.get? it=some o) (hc:o.cls=.type n) (hd:o.data=.fields vs)
  (hn:["enumerate","zip","dict_itemiterator","dict_reverseitemiterator","odict_iterator","itertools.zip_longest","itertools.pairwise"].contains n=false) (hQ:Q () s):wpAny M A (letOwnedTupleGo tg (.ref it) u) Q E s:=by
 unfold letOwnedTupleGo
 cases tg<;>first
  | exact wpAny_pure hQ
  | (cases u<;>first
    | exact wpAny_pure hQ
    | (refine wpAny_bind (wpAny_load ho ?_)
       rw [hc,hd]
       show wpAny M A (if (["enumerate","zip","dict_itemiterator","dict_reverseitemiterator","odict_iterator","itertools.zip_longest","itertools.pairwise"].contains n&&vs[0]?==some (rawInt _))=true then _ else _) Q E s
       rw [if_neg (by intro h;rw [hn,Bool.false_and] at h;cases h)]
       exact wpAny_pure hQ))
def Itl (K:PySem.W.Frag) (a:Addr):It :=
 ⟨fun i H=>∃ xs x,SqL K H a xs/\xs[i]?=some x,fun i H x H'=>H'=H/\∀ xs,SqL K H a xs->xs[i]?=some x,fun i H=>∃ xs,SqL K H a xs/\xs.length<=i⟩
def Itr (lo:Int) (n:Nat):It:=⟨fun i _=>i<n,fun i H x H'=>H'=H/\x=.int (lo+i),fun i _=>n<=i⟩
theorem Qo1 {P:Program} {w:World} {K:PySem.W.Frag} {tg:Expr} (a it:Addr):Turn P w K tg (Itl K a) [it] it (fun i h=>h.IsListIter it a i) where
 mem:=by simp
 obj:=fun i h st b hb=>by
  have e:b=it:=by simpa using hb
  subst e
  obtain ⟨o,e,c,d⟩:=st
  exact ⟨o,e,fun v z=>by rw [d] at z;cases z⟩
 keep:=fun i h h' st k=>st.at fun o e=>k it (by simp) o e
 item:=by
  intro X hP hw hK hc i pins s σ H E I hf st hg
  subst hP hw hK
  obtain ⟨xs,x,hq,hx⟩:=hg
  obtain ⟨its,rv,p,hz⟩:=I.list hq
  obtain ⟨u,hu,ru⟩:=rv.get hx
  obtain ⟨f0,f1,f2,f3,f4,f5⟩:=hf it (by simp)
  refine wpAny_pyNext_list_item st p.isList (x:=u) (by simpa using hu) fun h' st' sb=>?_
  have I1:Inv X pins σ H { s with heap:=h' }:=I.turned (t':=s.toks) (fun b o hb e=>(sb.2 b hb).trans e) f0 f1 f3 f4 f5
  obtain ⟨o,e,c,d⟩:=id st'
  exact ⟨u,rfl,QrZ (s:={ s with heap:=h' }) e c d (by decide) ⟨x,H,I1,ru,⟨rfl,fun ys hy=>by rw [I.list_inj hy hq];exact hx⟩,st',fun b hb=>(hf b hb).1⟩⟩
 done:=by
  intro X hP hw hK hc i pins s σ H E I hf st hg
  subst hP hw hK
  obtain ⟨xs,hq,hx⟩:=hg
  obtain ⟨its,rv,p,hz⟩:=I.list hq
  obtain ⟨f0,f1,f2,f3,f4,f5⟩:=hf it (by simp)
  have hl:=rv.length
  exact wpAny_pyNext_list_end (I.ok.hd hc) st p.isList (by simp;omega) fun h' eb=>⟨rfl,I.turned (t':=s.toks) (fun b o hb e=>eb b o hb e) f0 f1 f3 f4 f5⟩
 self:=fun _ _ _ _ _ st h=>wpAny_pyIter_listiter st h
theorem QnD {P:Program} {w:World} {K:PySem.W.Frag} {tg:Expr} (it:Addr) (lo:Int) (n:Nat):Turn P w K tg (Itr lo n) [it] it (fun i h=>IsRangeIter h it (lo+(i:Nat)*1) ((n:Int)-(i:Nat)) 1) where
 mem:=by simp
 obj:=fun i h st b hb=>by
  have e:b=it:=by simpa using hb
  subst e
  exact ⟨_,st,fun v z=>by
   have z':Data.fields _=Data.cell v:=z
   cases z'⟩
 keep:=fun i h h' st k=>k it (by simp) _ st
 item:=by
  intro X hP hw hK hc i pins s σ H E I hf st hg
  subst hP hw hK
  obtain ⟨f0,f1,f2,f3,f4,f5⟩:=hf it (by simp)
  have W:=Walks.range (prog:=X.prog) (w:=X.w) (I.ok.hd hc) it lo 1 n
  refine W.item i s _ _ hg st fun v h' tk hv st' kk=>?_
  obtain ⟨t,rfl⟩:=hv
  have I1:Inv X pins σ H { s with heap:=h',toks:=tk }:=I.turned (fun b o hb e=>kk b o (by simpa using hb) e) f0 f1 f3 f4 f5
  refine ⟨_,rfl,QrZ (s:={ s with heap:=h',toks:=tk }) (n:="range_iterator") st' rfl rfl (by decide) ⟨.int (lo+i),H,I1,⟨t,?_⟩,⟨rfl,rfl⟩,st',fun b hb=>(hf b hb).1⟩⟩
  rw [Int.mul_one]
 done:=by
  intro X hP hw hK hc i pins s σ H E I hf st hg
  subst hP hw hK
  obtain ⟨f0,f1,f2,f3,f4,f5⟩:=hf it (by simp)
  exact wpAny_pyNext_range_end (I.ok.hd hc) st (by have:n<=i:=hg;omega) fun h' eb=>⟨rfl,I.turned (t':=s.toks) (fun b o hb e=>eb b o hb e) f0 f1 f3 f4 f5⟩
 self:=fun _ _ _ _ _ st h=>wpAny_pyIter_rangeiter st h
end L2
namespace L2
open PySem PySem.Spec PyProof.Rows
section
variable {X:Cx} {tg:Expr}
def Qvo (K:PySem.W.Frag) (tl:TE):TI:=fun σ H R=>tl σ H fun x H1=>∃ a,x=.ref a/\(∃ xs,SqL K H1 a xs)/\R (Itl K a) H1
theorem Qmy {l:Expr} {tl:TE} (hl:PE X l tl):PI X tg l (Qvo X.K tl):=by
 intro pins s σ H R I h
 refine thn (hl pins s σ H _ I h) fun v s1 ⟨x,H1,I1,r1,q1⟩=>?_
 obtain ⟨a,e,⟨xs,hq⟩,q⟩:=q1
 subst e
 cases r1
 obtain ⟨its,rv,p,hz⟩:=I1.list hq
 refine wpAny_pyIter_list p.isList ?_
 refine ⟨s1.heap.objs.size,[s1.heap.objs.size],_,_,H1,rfl,I1.kept (t':=s1.toks) fun b o e=>Heap.get?_push_of_some _ e,Qo1 a _,⟨_,Heap.get?_push_size _ rfl,rfl,rfl⟩,fun b hb=>?_,q⟩
 have e:b=s1.heap.objs.size:=by simpa using hb
 subst e
 exact I1.fpOk (Nat.le_refl _) (I1.hok.fresh (Nat.le_refl _))
theorem Qki {pins:List (Addr×Obj)} {σ:St} {H:Hp} {s:Shared} {R:It->Hp->Prop} {E:Value->Shared->Prop} {lo hi:Int} {t u v:Tok} {tk:Nat} (I:Inv X pins σ H s) (h1:-(2^62)<=lo) (h2:lo<2^62) (h3:-(2^62)<=hi) (h4:hi<2^62)
  (q:R (Itr lo (hi-lo).toNat) H):wpAny (model X.prog X.w) X.A (pyIter (.ref s.heap.objs.size)) (PIE X pins σ tg R) E { s with heap:=s.heap.push { cls:=.type "range",data:=.fields #[.int lo t,.int hi u,.int 1 v] },toks:=tk }:=by
 refine wpAny_pyIter_range (IsRange.new ..) (small_one h1 h2 h3 h4) ?_
 have I1:Inv X pins σ H { s with heap:=s.heap.push { cls:=.type "range",data:=.fields #[.int lo t,.int hi u,.int 1 v] },toks:=tk }:=I.kept fun b o e=>Heap.get?_push_of_some _ e
 refine ⟨(s.heap.push { cls:=.type "range",data:=.fields #[.int lo t,.int hi u,.int 1 v] }).objs.size,[(s.heap.push { cls:=.type "range",data:=.fields #[.int lo t,.int hi u,.int 1 v] }).objs.size],_,_,H,rfl,
  I1.kept (t':=tk) fun b o e=>Heap.get?_push_of_some _ e,QnD _ lo (hi-lo).toNat,?_,fun b hb=>?_,q⟩
 ·have e1:lo+((0:Nat):Int)*1=lo:=by simp
  have e2:(((hi-lo).toNat:Nat):Int)-((0:Nat):Int)=Builtin.Range.rangeSize lo hi 1:=by rw [rangeSize_one];split<;>omega
  show IsRangeIter _ _ (lo+((0:Nat):Int)*1) ((((hi-lo).toNat:Nat):Int)-((0:Nat):Int)) 1
  rw [e1,e2]
  exact Heap.get?_push_size _ rfl
 ·have e:b=(s.heap.push { cls:=.type "range",data:=.fields #[.int lo t,.int hi u,.int 1 v] }).objs.size:=by simpa using hb
  subst e
  exact I1.fpOk (Nat.le_refl _) (I1.hok.fresh (Nat.le_refl _))
def Qvn (ta:TA):TI:=fun σ H R=>ta σ H fun vs H1=>∃ j:Int,vs=[.int j]/\-(2^62)<=j/\j<2^62/\R (Itr 0 j.toNat) H1
def Qb0 (ta:TA):TI:=fun σ H R=>ta σ H fun vs H1=>∃ i j:Int,vs=[.int i,.int j]/\(-(2^62)<=i/\i<2^62/\-(2^62)<=j/\j<2^62)/\R (Itr i (j-i).toNat) H1
theorem Qpl {a:Expr} {ta:TA} {p pos:Pos} (hg:Gl X "range") (hm:X.mg "range"=none) (ha:PA X [a] ta) (hs:starEach [a] X.env=[(false,eval a X.env)]:=by rfl):PI X tg (.Call (.Name "range" p) [a] [] pos) (Qvn ta):=by
 intro pins s σ H R I h
 refine Call_ (Qck I hg hm boot_range (PyProof.Rows.callWith_type1 (thn (ha pos pins s σ H _ I h) fun us s1 ⟨vs,H1,I1,r1,q1⟩=>?_) hs rfl))
 obtain ⟨j,e,q1,q2,q⟩:=q1
 subst e
 cases r1 with
 | cons r rr =>
  cases rr
  obtain ⟨t,rfl⟩:=r
  exact call_range_1 (Qki I1 (by omega) (by omega) q1 q2 (by simpa using q))
theorem Qpk {a b:Expr} {ta:TA} {p pos:Pos} (hg:Gl X "range") (hm:X.mg "range"=none) (ha:PA X [a,b] ta) (hs:starEach [a,b] X.env=[(false,eval a X.env),(false,eval b X.env)]:=by rfl) (hs2:starEach [b] X.env=[(false,eval b X.env)]:=by rfl) :
  PI X tg (.Call (.Name "range" p) [a,b] [] pos) (Qb0 ta):=by
 intro pins s σ H R I h
 refine Call_ (Qck I hg hm boot_range (PyProof.Rows.callWith_type1 (thn (ha pos pins s σ H _ I h) fun us s1 ⟨vs,H1,I1,r1,q1⟩=>?_) (by rw [hs,hs2]) (by rw [hs2];rfl)))
 obtain ⟨i,j,e,⟨q1,q2,q3,q4⟩,q⟩:=q1
 subst e
 cases r1 with
 | cons r rr =>
  cases rr with
  | cons r' rr =>
   cases rr
   obtain ⟨t,rfl⟩:=r
   obtain ⟨t',rfl⟩:=r'
   exact call_range_2 (Qki I1 q1 q2 q3 q4 q)
def QvS (wi:TI) (g:TG) (tb:TS):TS:=fun D σ H=>wi σ H fun J H1=>∃ W:Nat->Nat->St->Hp->Prop,(∃ m,W 0 m σ H1)/\∀ i m σ H,W i m σ H ->
 (J.stop i H/\D.nx σ H)\/(J.go i H/\∃ N:St->Hp->Prop,(∀ σ' H',N σ' H'->∃ m',m'<m/\W (i+1) m' σ' H')/\∀ x H',J.yld i H x H'->g x σ H' fun σ2 H2=>tb { D with nx:=N,ct:=N,bk:=D.nx } σ2 H2)
def QeP (fp:List Addr) (h:Heap):List (Addr×Obj):=fp.filterMap fun b=>(h.get? b).map fun o=>(b,o)
theorem Qb8 {fp:List Addr} {h:Heap} {b:Addr} {o:Obj} (hb:b∈fp) (e:h.get? b=some o):(b,o)∈QeP fp h:=List.mem_filterMap.mpr ⟨b,hb,by rw [e];rfl⟩
theorem Qpx {fp:List Addr} {h:Heap} {p:Addr×Obj} (hp:p∈QeP fp h):p.1∈fp/\h.get? p.1=some p.2:=by
 obtain ⟨b,hb,e⟩:=List.mem_filterMap.mp hp
 cases q:h.get? b with
 | none=>rw [q] at e;cases e
 | some o =>
  rw [q] at e
  have e':(b,o)=p:=Option.some.inj e
  subst e'
  exact ⟨hb,q⟩
theorem Inv.pinned {pins:List (Addr×Obj)} {σ:St} {H:Hp} {s:Shared} {fp:List Addr} (I:Inv X pins σ H s) (hf:∀ b∈fp,Qas X pins H b) (ho:∀ b∈fp,∃ o,s.heap.get? b=some o/\∀ v,o.data≠.cell v):Inv X (pins++QeP fp s.heap) σ H s :=
 I.pins_of fun p hp=>(List.mem_append.mp hp).elim (fun z=>I.pin p (List.mem_append_right _ z)) fun z=>by
  obtain ⟨hb,e⟩:=Qpx z
  obtain ⟨f0,f1,f2,_⟩:=hf p.1 hb
  obtain ⟨o,e',d⟩:=ho p.1 hb
  rw [e] at e';cases e'
  exact ⟨e,f0,f1,f2,d⟩
theorem Inv.unpinned {pins pl:List (Addr×Obj)} {σ:St} {H:Hp} {s:Shared} (I:Inv X (pins++pl) σ H s):Inv X pins σ H s:=I.pins_of fun p hp=>I.pin p (List.mem_append_right _ (List.mem_append_left _ hp))
theorem QtW {iter:Expr} {body:List Stmt} {wi:TI} {g:TG} {tb:TS} {pos:Pos} (hp:PassesOwn (model X.prog X.w) X.A X.env X.xe) (hc:X.calm=true) (hi:PI X tg iter wi) (hg:PG X tg g) (hb:PSs X body tb)
  (hs:∀ x,foldedSetIterable iter X.env x=pure x:=by intro _;rfl):PS X (.For tg iter body [] pos) (QvS wi g tb):=by
 intro pins s σ H D I h
 refine wpAny_For (thn (hi pins s σ H _ I h) fun v s1 h1=>thn h1 fun itv s2 h2=>?_) hs
 obtain ⟨it,fp,tn,J,H2,e,I2,T,st2,f2,W,⟨m0,w0⟩,turn⟩:=h2
 subst e
 have stat:∀ {H':Hp},(∀ b∈fp,H' b=none)->∀ b∈fp,Qas X pins H' b:=fun hn b hb=>⟨hn b hb,(f2 b hb).2⟩
 refine codeAny_forLoop_any (fun n s'=>∃ i σ' H',Inv X pins σ' H' s'/\tn i s'.heap/\(∀ b∈fp,H' b=none)/\W i n σ' H') ?_ m0 ⟨0,σ,H2,I2,st2,fun b hb=>(f2 b hb).1,w0⟩
 rintro n s3 ⟨i,σ3,H3,I3,st3,fr3,w3⟩
 rcases turn i n σ3 H3 w3 with ⟨stop,qn⟩ | ⟨go,N,hN,step⟩
 ·refine wpAny_passesOwn hp (thn (T.done X rfl rfl rfl hc i pins s3 σ3 H3 X.xe I3 (stat fr3) st3 stop) fun r s4 ⟨hr,I4⟩=>?_)
  subst hr
  exact wpAny_execs_nil ⟨σ3,H3,I4,qn⟩
 ·refine wpAny_passesOwn hp (thn (T.item X rfl rfl rfl hc i pins s3 σ3 H3 X.xe I3 (stat fr3) st3 go) fun r s4 ⟨u,hr,h4⟩=>?_)
  subst hr
  refine wpAny_passesOwn hp (thn h4 fun _ s5 ⟨x,H5,I5,r5,y5,st5,fr5⟩=>?_)
  have I5':=I5.pinned (stat fr5) (T.obj _ _ st5)
  refine wpAny_passesOwn hp (thn (hg _ s5 σ3 H5 x u _ I5' r5 (step x H5 y5)) fun _ s6 ⟨σ6,H6,I6,q6⟩=>?_)
  refine wpAny_passesOwn hp (thn (hb _ s6 σ6 H6 _ I6 q6) fun f s7 q7=>?_)
  have again:∀ {σ7:St} {H7:Hp},Inv X (pins++QeP fp s5.heap) σ7 H7 s7->N σ7 H7->∃ m,m<n/\∃ i σ' H',Inv X pins σ' H' s7/\tn i s7.heap/\(∀ b∈fp,H' b=none)/\W i m σ' H':=fun {σ7 H7} I7 n7=>by
   obtain ⟨m',hm,w7⟩:=hN σ7 H7 n7
   refine ⟨m',hm,i+1,σ7,H7,I7.unpinned,T.keep _ _ _ st5 fun b hb o e=>(I7.pin (b,o) (List.mem_append_right _ (List.mem_append_right _ (Qb8 hb e)))).1,fun b hb=>?_,w7⟩
   obtain ⟨o,e,d⟩:=T.obj _ _ st5 b hb
   exact (I7.pin (b,o) (List.mem_append_right _ (List.mem_append_right _ (Qb8 hb e)))).2.1
  cases f with
  | next=>obtain ⟨σ7,H7,I7,n7⟩:=q7;exact again I7 n7
  | cont=>obtain ⟨σ7,H7,I7,n7⟩:=q7;exact again I7 n7
  | brk=>obtain ⟨σ7,H7,I7,q7⟩:=q7;exact ⟨σ7,H7,I7.unpinned,q7⟩
  | ret v=>obtain ⟨x7,σ7,H7,I7,r7,q7⟩:=q7;exact ⟨x7,σ7,H7,I7.unpinned,r7,q7⟩
end
end L2
namespace L2
open PySem PySem.Spec PyProof.Rows
abbrev R2:=V->V->Hp->VK->Prop
def OpR (X:Cx) (f:Value->Value->Sem Value) (r:R2):Prop :=
 ∀ (pins:List (Addr×Obj)) (s:Shared) (σ:St) (H:Hp) (x y:V) (v u:Value) (Q:VK),Inv X pins σ H s->RelV x v->RelV y u->r x y H Q ->
  wpAny (model X.prog X.w) X.A (f v u) (EP X pins σ Q) X.xe s
def UnR (X:Cx) (f:Value->Sem Value) (r:V->Hp->VK->Prop):Prop :=
 ∀ (pins:List (Addr×Obj)) (s:Shared) (σ:St) (H:Hp) (x:V) (v:Value) (Q:VK),Inv X pins σ H s->RelV x v->r x H Q ->
  wpAny (model X.prog X.w) X.A (f v) (EP X pins σ Q) X.xe s
def CallR (X:Cx) (f:Value) (r:List V->Hp->VK->Prop):Prop :=
 ∀ (pins:List (Addr×Obj)) (s:Shared) (σ:St) (H:Hp) (xs:List V) (us:List Value) (Q:VK),Inv X pins σ H s->Vals xs us->r xs H Q ->
  wpAny (model X.prog X.w) X.A (call f us) (EP X pins σ Q) X.xe s
def tOp (r:R2) (ta tb:TE):TE:=fun σ H Q=>ta σ H fun x H1=>tb σ H1 fun y H2=>r x y H2 Q
def tUn (r:V->Hp->VK->Prop) (ta:TE):TE:=fun σ H Q=>ta σ H fun x H1=>r x H1 Q
def rI (C:Int->Int->Prop) (g:Int->Int->V):R2:=fun x y H Q=>∃ i j,x=.int i/\y=.int j/\C i j/\Q (g i j) H
def rI0 (g:Int->Int->V):R2:=fun x y H Q=>∃ i j,x=.int i/\y=.int j/\Q (g i j) H
def rU (g:Int->V):V->Hp->VK->Prop:=fun x H Q=>∃ i,x=.int i/\Q (g i) H
section
variable {X:Cx} {a b c:Expr} {ta tb tc:TE} {pos:Pos}
theorem Qqu (ha:PE X a ta) (hb:PE X b tb) {pins:List (Addr×Obj)} {s:Shared} {σ:St} {H:Hp} {R:V->V->Hp->Prop} (I:Inv X pins σ H s)
  (h:ta σ H fun x H1=>tb σ H1 fun y H2=>R x y H2) {Q:Value->Shared->Prop} {f:Value->Value->Sem Value}
  (hf:∀ v u s2 x y H2,Inv X pins σ H2 s2->RelV x v->RelV y u->R x y H2->wpAny (model X.prog X.w) X.A (f v u) Q X.xe s2) :
  wpAny (model X.prog X.w) X.A (eval a X.env) (fun v s₁=>wpAny (model X.prog X.w) X.A (eval b X.env) (fun u s₂=>wpAny (model X.prog X.w) X.A (f v u) Q X.xe s₂) X.xe s₁) X.xe s:=by
 refine thn (ha pins s σ H _ I h) fun v s1 ⟨x,H1,I1,r1,q1⟩=>?_
 refine thn (hb pins s1 σ H1 _ I1 q1) fun u s2 ⟨y,H2,I2,r2,q2⟩=>?_
 exact hf v u s2 x y H2 I2 r1 r2 q2
theorem Qve {op:Operator} {r:R2} (ho:OpR X (binaryOp op) r) (ha:PE X a ta) (hb:PE X b tb):PE X (.BinOp a op b pos) (tOp r ta tb):=by
 intro pins s σ H Q I h
 exact wpAny_BinOp (Qqu ha hb I h fun v u s2 x y H2 I2 rx ry q=>ho pins s2 σ H2 x y v u Q I2 rx ry q)
theorem Qvc {op:UnaryOp} {r:V->Hp->VK->Prop} (ho:UnR X (unaryOp op) r) (ha:PE X a ta):PE X (.UnaryOp op a pos) (tUn r ta):=by
 intro pins s σ H Q I h
 exact UnaryOp_ (thn (ha pins s σ H _ I h) fun v s1 ⟨x,H1,I1,r1,q1⟩=>ho pins s1 σ H1 x v Q I1 r1 q1)
theorem opI {f:Value->Value->Sem Value} {C:Int->Int->Prop} {g:Int->Int->Int}
  (rule:∀ (i j:Int) (t u:Tok) (s:Shared) (Q:Value->Shared->Prop) (E:Value->Shared->Prop),C i j->Q (.int (g i j) s.toks) { s with toks:=s.toks+1 }->wpAny (model X.prog X.w) X.A (f (.int i t) (.int j u)) Q E s) :
  OpR X f (rI C fun i j=>.int (g i j)):=by
 intro pins s σ H x y v u Q I rx ry h
 obtain ⟨i,j,rfl,rfl,hc,q⟩:=h
 obtain ⟨t,rfl⟩:=rx
 obtain ⟨t',rfl⟩:=ry
 exact rule i j t t' s _ _ hc ⟨.int (g i j),H,I.tok _,⟨_,rfl⟩,q⟩
theorem Qnm {f:Value->Value->Sem Value} {g:Int->Int->Int}
  (rule:∀ (i j:Int) (t u:Tok) (s:Shared) (Q:Value->Shared->Prop) (E:Value->Shared->Prop),Q (.int (g i j) s.toks) { s with toks:=s.toks+1 }->wpAny (model X.prog X.w) X.A (f (.int i t) (.int j u)) Q E s) :
  OpR X f (rI0 fun i j=>.int (g i j)):=by
 intro pins s σ H x y v u Q I rx ry h
 obtain ⟨i,j,rfl,rfl,q⟩:=h
 obtain ⟨t,rfl⟩:=rx
 obtain ⟨t',rfl⟩:=ry
 exact rule i j t t' s _ _ ⟨.int (g i j),H,I.tok _,⟨_,rfl⟩,q⟩
theorem Qqr {f:Value->Value->Sem Value} {g:Int->Int->Bool}
  (rule:∀ (i j:Int) (t u:Tok) (s:Shared) (Q:Value->Shared->Prop) (E:Value->Shared->Prop),Q (.bool (g i j)) s->wpAny (model X.prog X.w) X.A (f (.int i t) (.int j u)) Q E s) :
  OpR X f (rI0 fun i j=>.bl (g i j)):=by
 intro pins s σ H x y v u Q I rx ry h
 obtain ⟨i,j,rfl,rfl,q⟩:=h
 obtain ⟨t,rfl⟩:=rx
 obtain ⟨t',rfl⟩:=ry
 exact rule i j t t' s _ _ ⟨.bl (g i j),H,I,rfl,q⟩
def Qqz (i j:Int):Prop:=0<j/\j<1073741824
def Qqy (i j:Int):Prop:=0<=j/\j<=1000000/\i.natAbs<2^64
def CMul (i j:Int):Prop:=(-(2^64)<i/\i<2^64)\/(-(2^64)<j/\j<2^64)
theorem CMul.ok {i j:Int} (h:CMul i j):IntMulOk i j:=by
 rcases h with ⟨h1,h2⟩ | ⟨h1,h2⟩
 ·exact .of_left (intBits_le_64 h1 h2)
 ·exact .of_right (intBits_le_64 h1 h2)
theorem Quh:OpR X (binaryOp .Add) (rI0 fun i j=>.int (i+j)):=Qnm fun _ _ _ _ _ _ _ q=>add_int q
theorem Qua:OpR X (binaryOp .Sub) (rI0 fun i j=>.int (i-j)):=Qnm fun _ _ _ _ _ _ _ q=>sub_int q
theorem QoD:OpR X (binaryOp .Mult) (rI CMul fun i j=>.int (i*j)):=opI fun _ _ _ _ _ _ _ hc q=>mul_int q hc.ok
theorem QsG:OpR X (binaryOp .FloorDiv) (rI Qqz fun i j=>.int (i/j)):=opI fun i j _ _ _ _ _ hc q=>by
 have h1:(0:Int)<j:=hc.1
 have h2:j<1073741824:=hc.2
 exact floordiv_int (by omega) (by rw [Int.fdiv_eq_ediv_of_nonneg i (by omega)];exact q) (.inl (PyProof.noPylong_small (by omega)))
theorem Qud:OpR X (binaryOp .Mod) (rI (fun _ j=>0<j) fun i j=>.int (i%j)):=opI fun i j _ _ _ _ _ hc q=>by
 have h1:(0:Int)<j:=hc
 exact mod_int' (by omega) (by rw [Int.fmod_eq_emod_of_nonneg i (by omega)];exact q)
theorem Quc:OpR X (binaryOp .Pow) (rI Qqy fun i j=>.int (i^j.toNat)):=opI fun _ _ _ _ _ _ _ hc q=>pow_int_small hc.1 hc.2.1 hc.2.2 q
theorem Qs5:OpR X (inplaceOp .Add) (rI0 fun i j=>.int (i+j)):=Qnm fun _ _ _ _ _ _ _ q=>iadd_int q
theorem Qs4:OpR X (inplaceOp .Sub) (rI0 fun i j=>.int (i-j)):=Qnm fun _ _ _ _ _ _ _ q=>isub_int q
theorem unI {f:Value->Sem Value} {g:Int->Int}
  (rule:∀ (i:Int) (t:Tok) (s:Shared) (Q:Value->Shared->Prop) (E:Value->Shared->Prop),Q (.int (g i) s.toks) { s with toks:=s.toks+1 }->wpAny (model X.prog X.w) X.A (f (.int i t)) Q E s) :
  UnR X f (rU fun i=>.int (g i)):=by
 intro pins s σ H x v Q I rx h
 obtain ⟨i,rfl,q⟩:=h
 obtain ⟨t,rfl⟩:=rx
 exact rule i t s _ _ ⟨.int (g i),H,I.tok _,⟨_,rfl⟩,q⟩
theorem QtD:UnR X (unaryOp .USub) (rU fun i=>.int (-i)):=unI fun _ _ _ _ _ q=>neg_int q
end
section
variable {X:Cx} {a b c:Expr} {ta tb tc:TE} {pos:Pos}
theorem QuB {pins:List (Addr×Obj)} {σ:St} {H:Hp} {s:Shared} {Q:VK} {k k':Bool} (I:Inv X pins σ H s) (q:Q (.bl k) H) (e:k=k'):EP X pins σ Q (.bool k') s:=by
 subst e
 exact ⟨.bl k,H,I,rfl,q⟩
theorem Qvg:OpR X (compareOp .Lt) (rI0 fun i j=>.bl (decide (i<j))):=Qqr fun _ _ _ _ _ _ _ q=>lt_int q
theorem Qvh:OpR X (compareOp .LtE) (rI0 fun i j=>.bl (decide (i<=j))):=Qqr fun _ _ _ _ _ _ _ q=>le_int q
theorem Qvi:OpR X (compareOp .Gt) (rI0 fun i j=>.bl (decide (j<i))):=Qqr fun _ _ _ _ _ _ _ q=>gt_int q
theorem OpR.or {f:Value->Value->Sem Value} {r r':R2} (h:OpR X f r) (h':OpR X f r'):OpR X f (fun x y H Q=>r x y H Q\/r' x y H Q):=by
 intro pins s σ H x y v u Q I rx ry q
 rcases q with q | q
 ·exact h pins s σ H x y v u Q I rx ry q
 ·exact h' pins s σ H x y v u Q I rx ry q
theorem Qf (b:Expr) {op:CmpOp} (h:op≠.In:=by decide) (h2:op≠.NotIn:=by decide):behindInMarks op b=false:=by
 have e1:(op==CmpOp.In)=false:=by cases op<;>first | rfl | exact absurd rfl h
 have e2:(op==CmpOp.NotIn)=false:=by cases op<;>first | rfl | exact absurd rfl h2
 cases b<;>simp [behindInMarks,e1,e2]
theorem QsB {op:CmpOp} {r:R2} (ho:OpR X (compareOp op) r) (ha:PE X a ta) (hb:PE X b tb) (hm:behindInMarks op b=false):PE X (.Compare a [op] [b] pos) (tOp r ta tb):=by
 intro pins s σ H Q I h
 exact wpAny_Compare1 (Qqu ha hb I h fun v u s2 x y H2 I2 rx ry q=>ho pins s2 σ H2 x y v u Q I2 rx ry q) hm
def QuX (t:TE):TT:=fun σ H Q=>t σ H fun x H'=>∃ k,x=.bl k/\Q k H'
theorem Qmx {op:CmpOp} {r:R2} (ho:OpR X (compareOp op) r) (ha:PE X a ta) (hb:PE X b tb) (hm:behindInMarks op b=false):PT X (.Compare a [op] [b] pos) (QuX (tOp r ta tb)):=by
 intro pins s σ H Q I h
 refine wpAny_isTrue_Compare1 (thn (ha pins s σ H _ I h) fun v s1 ⟨x,H1,I1,r1,q1⟩=>thn (hb pins s1 σ H1 _ I1 q1) fun u s2 ⟨y,H2,I2,r2,q2⟩ =>
  thn (ho pins s2 σ H2 x y v u _ I2 r1 r2 q2) fun c s3 ⟨z,H3,I3,r3,k,e,q3⟩=>?_) hm
 subst e
 cases r3
 exact wpAny_truthy_bool ⟨H3,I3,q3⟩
def Qou (r r':R2) (ta tb tc:TE):TE:=fun σ H Q=>ta σ H fun x H1=>tb σ H1 fun y H2=>r x y H2 fun z H3=>∃ k,z=.bl k /\
 (if k=true then tc σ H3 fun w' H4=>r' y w' H4 Q else Q (.bl false) H3)
theorem QqX {op op':CmpOp} {r r':R2} (ho:OpR X (compareOp op) r) (ho':OpR X (compareOp op') r') (ha:PE X a ta) (hb:PE X b tb) (hc:PE X c tc)
  (hm:lastMarks [op,op'] [b,c]=false:=by with_unfolding_all rfl):PE X (.Compare a [op,op'] [b,c] pos) (Qou r r' ta tb tc):=by
 intro pins s σ H Q I h
 refine Compare_chain (thn (ha pins s σ H _ I h) fun v s1 ⟨x,H1,I1,r1,q1⟩=>chain_link (thn (hb pins s1 σ H1 _ I1 q1) fun u s2 ⟨y,H2,I2,r2,q2⟩ =>
  thn (ho pins s2 σ H2 x y v u _ I2 r1 r2 q2) fun d s3 ⟨z,H3,I3,r3,k,e,q3⟩=>?_)) hm
 subst e
 cases r3
 refine wpAny_truthy_bool ?_
 cases k with
 | false=>exact ite_ff ⟨.bl false,H3,I3,rfl,q3⟩
 | true=>exact ite_tt (chain_last (thn (hc pins s3 σ H3 _ I3 q3) fun w' s4 ⟨z',H4,I4,r4,q4⟩=>ho' pins s4 σ H4 y z' u w' Q I4 r2 r4 q4))
theorem QeV:(sizeLine:Nat)<2^63:=by rw [sizeLine_eq];decide
theorem QnR:OpR X (binaryOp .Add) (fun x y H Q=>∃ i j,x=.str i/\y=.str j/\i.length+j.length<=sizeLine/\Q (.str (i++j)) H):=by
 intro pins s σ H x y v u Q I rx ry h
 obtain ⟨i,j,rfl,rfl,hz,q⟩:=h
 obtain ⟨t,rfl⟩:=rx
 obtain ⟨t',rfl⟩:=ry
 exact add_str (fun t' tk=>⟨.str (i++j),H,I.tok _,⟨_,rfl⟩,q⟩) hz
theorem Qmc:OpR X (inplaceOp .Add) (fun x y H Q=>∃ i j,x=.str i/\y=.str j/\i.length+j.length<=sizeLine/\Q (.str (i++j)) H):=by
 intro pins s σ H x y v u Q I rx ry h
 obtain ⟨i,j,rfl,rfl,hz,q⟩:=h
 obtain ⟨t,rfl⟩:=rx
 obtain ⟨t',rfl⟩:=ry
 exact iadd_str (fun t' tk=>⟨.str (i++j),H,I.tok _,⟨_,rfl⟩,q⟩) hz
theorem Qbj {x:V} {us:List Value} (r:Vals [x] us):∃ u,us=[u]/\RelV x u:=by
 cases r with
 | cons r1 r2=>cases r2;exact ⟨_,rfl,r1⟩
theorem Qnu {x y:V} {us:List Value} (r:Vals [x,y] us):∃ u w',us=[u,w']/\RelV x u/\RelV y w':=by
 cases r with
 | cons r1 r2 =>
  cases r2 with
  | cons r3 r4=>cases r4;exact ⟨_,_,rfl,r1,r3⟩
theorem Qqf (hc:X.calm=true):CallR X (.builtin "max") (fun xs H Q=>∃ i j,xs=[.int i,.int j]/\Q (.int (if j > i then j else i)) H):=by
 intro pins s σ H xs us Q I r h
 obtain ⟨i,j,rfl,q⟩:=h
 obtain ⟨u,w',rfl,⟨t,rfl⟩,⟨t',rfl⟩⟩:=Qnu r
 refine max_two_ints (I.ok.hd hc) fun h' tk k=>⟨_,H,I.kept k,?_,q⟩
 by_cases hj:j > i
 ·rw [if_pos hj,if_pos hj];exact ⟨_,rfl⟩
 ·rw [if_neg hj,if_neg hj];exact ⟨_,rfl⟩
theorem Qqg:CallR X (.type "int") (fun xs H Q=>(∃ i,xs=[.int i]/\Q (.int i) H)\/∃ k,xs=[.bl k]/\Q (.int (if k then 1 else 0)) H):=by
 intro pins s σ H xs us Q I r h
 rcases h with ⟨i,rfl,q⟩ | ⟨k,rfl,q⟩
 ·obtain ⟨u,rfl,t,rfl⟩:=Qbj r
  exact call_int_int ⟨.int i,H,I,⟨_,rfl⟩,q⟩
 ·obtain ⟨u,rfl,r1⟩:=Qbj r
  cases r1
  exact call_int_bool ⟨.int (if k then 1 else 0),H,I.tok _,⟨_,rfl⟩,q⟩
theorem Qly:CallR X (.type "str") (fun xs H Q=>∃ i,xs=[.int i]/\i.natAbs.log2<1920/\Q (.str (toString i)) H):=by
 intro pins s σ H xs us Q I r h
 obtain ⟨i,rfl,hz,q⟩:=h
 obtain ⟨u,rfl,t,rfl⟩:=Qbj r
 exact PySem.P.str_of_int hz ⟨.str _,H,I.tok _,⟨_,rfl⟩,q⟩
end
end L2
namespace L2
open PySem PySem.Spec PyProof.Rows
structure ObjM (h:Heap) (x dx C:Addr) (mA:Str->Option Value):Prop where
 obj:h.get? x=some (PySem.W.instObj C dx)
 ns:h.Ns1 dx mA
 ne:dx≠x
theorem QpF {h:Heap} {dx:Addr} {mA:Str->Option Value} (n:h.Ns1 dx mA):∃ od,h.get? dx=some od/\∀ name,PySem.W.lookIn name od=some (mA name):=by
 obtain ⟨o,es,ep,ho,hd,hk,_,hm⟩:=n
 refine ⟨o,ho,fun name=>?_⟩
 have e:=hm name
 unfold nsFind findBy at e
 rw [<- Array.find?_toList] at e
 unfold PySem.W.lookIn
 rw [hd]
 dsimp only
 split
 ·rename_i y q
  rw [q] at e
  exact congrArg some e
 ·rename_i q
  rw [q] at e
  have a:es.toList.any (·.refKey)=false:=by
   rw [List.any_eq_false]
   intro y hy
   obtain ⟨z,t,hkey⟩:=hk y (Array.mem_toList_iff.mp hy)
   simp [DictEntry.refKey,hkey]
  have a':¬ es.toList.any (·.refKey)=true:=by rw [a];exact Bool.false_ne_true
  rw [if_neg a']
  exact congrArg some e
theorem ObjM.look {h:Heap} {x dx C:Addr} {mA:Str->Option Value} (I:ObjM h x dx C mA):∃ od,PySem.W.InstAt h x (PySem.W.instObj C dx) C (some od)/\∀ name,PySem.W.lookIn name od=some (mA name) :=
 let ⟨od,ho,hl⟩:=QpF I.ns
 ⟨od,⟨I.obj,rfl,rfl,ho⟩,hl⟩
section
variable {prog:Program} {w:World} {A:Around} {E:Value->Shared->Prop} {s:Shared} {K:PySem.W.Frag} {x dx C f:Addr} {mA:Str->Option Value} {name:Str} {v:Value}
end
theorem RelO.some_of {v:V} {o:Option Value} (r:RelO (some v) o):∃ u,o=some u/\RelV v u:=by
 cases o with
 | none=>exact (show False from r).elim
 | some u=>exact ⟨u,rfl,r⟩
section
variable {P:Program} {w:World} {H H':Hp} {h h':Heap} {a C dx:Addr} {fs fs':List (Str×V)}
theorem Qs6 (hok:HOk P w H h) (e:H a=some (.ins C dx fs)):∃ mA,ObjM h a dx C mA/\(∀ f,RelO (fs.lookup f) (mA f))/\PySem.Within mA (fs.map (·.1))/\fs.length<=1000/\H dx=some (.own a):=by
 obtain ⟨d,z,ne,ob,mA,n,r,q⟩:=(show ObjOk P w H h a (.ins C dx fs) from hok a _ e)
 exact ⟨mA,⟨ob,n,ne⟩,r,q,z,d⟩
end
structure Cls (K:PySem.W.Frag) (C:Addr):Prop where
 pg:PySem.W.plainGet K C Str.empty=true
 hd:PySem.W.hasDictIn K C=true
 po:PySem.W.plainOver K C=true
 sa:PySem.W.findIn K (.ref C) "__setattr__"=some (some (.builtin "object.__setattr__"))
theorem Cls.get {K:PySem.W.Frag} {C:Addr} (c:Cls K C) (f:Str):PySem.W.plainGet K C f=true:=c.pg
section
variable {X:Cx} {pins:List (Addr×Obj)} {σ:St} {H:Hp} {s:Shared} {a C dx:Addr} {fs:List (Str×V)} {f:Str} {v:V} {A:Around} {E:Value->Shared->Prop}
end
section
variable {X:Cx} {o e value:Expr} {f:Str} {pos pos' tpos:Pos} {ta tv:TE}
end
section
variable {X:Cx} {pins:List (Addr×Obj)} {σ:St} {H:Hp} {s:Shared} {A:Around} {E:Value->Shared->Prop} {Q:Value->Shared->Prop} {c:Value} {b:Bool}
inductive TyOf (K:PySem.W.Frag) (H:Hp):V->Value->Prop where
 | non:TyOf K H .non (.type "NoneType")
 | bl (x:Bool):TyOf K H (.bl x) (.type "bool")
 | int (i:Int):TyOf K H (.int i) (.type "int")
 | str (x:Str):TyOf K H (.str x) (.type "str")
 | flt (x:UInt64):TyOf K H (.flt x) (.type "float")
 | lst {a:Addr} {xs:List V} (e:H a=some (.lst xs)):TyOf K H (.ref a) (.type "list")
 | frz {a:Addr} {o:Obj} {xs:List V} (e:H a=some (.frz o (.lst xs))):TyOf K H (.ref a) (.type "list")
 | tup {a:Addr} {xs:List V} (e:H a=some (.tup xs)):TyOf K H (.ref a) (.type "tuple")
 | dK {a:Addr} {kvs:List (Key×V)} (e:H a=some (.dK kvs)):TyOf K H (.ref a) (.type "dict")
 | frzD {a:Addr} {o:Obj} {kvs:List (Key×V)} (e:H a=some (.frz o (.dK kvs))):TyOf K H (.ref a) (.type "dict")
 | dT {a:Addr} {kvs:List (List Key×V)} (e:H a=some (.dT kvs)):TyOf K H (.ref a) (.type "dict")
 | ins {a C dx:Addr} {fs:List (Str×V)} (e:H a=some (.ins C dx fs)) (cl:Cls K C) (ha:PySem.W.findIn K (.ref C) "__class__"=some (some (.builtin "object.__class__")))
   (hn:PySem.W.specialIn K (.builtin "object.__class__") "__get__"=some (some (.builtin "getset_descriptor.__get__"))) (htk:PySem.W.takesIn K (.builtin "object.__class__")=some true)
   (hm:PySem.W.mroIn K C (.type "object")=some true):TyOf K H (.ref a) (.ref C)
theorem QpK {x:V} {u t:Value} (I:Inv X pins σ H s) (rx:RelV x u) (ty:TyOf X.K H x t) (e:PySem.W.kitOne X.K t c=some b) (h:∀ tk,Q (.bool b) { s with toks:=tk }) :
  wpAny (model X.prog X.w) A (call (.builtin "isinstance") [u,c]) Q E s:=by
 cases ty with
 | non=>cases (show u=Value.none from rx);exact PySem.W.kia_one PySem.W.kitx_none I.kIn True.intro e (fun z=>nomatch z) h
 | bl y=>cases (show u=Value.bool y from rx);exact PySem.W.kia_one PySem.W.kitx_bool I.kIn True.intro e (fun z=>nomatch z) h
 | int i=>obtain ⟨t,q⟩:=(show ∃ t,u=Value.int i t from rx);cases q;exact PySem.W.kia_one PySem.W.kitx_int I.kIn True.intro e (fun z=>nomatch z) h
 | str y=>obtain ⟨t,q⟩:=(show ∃ t,u=Value.str y t from rx);cases q;exact PySem.W.kia_one PySem.W.kitx_str I.kIn True.intro e (fun z=>nomatch z) h
 | flt y=>obtain ⟨t,q⟩:=(show ∃ t,u=Value.float y t from rx);cases q;exact PySem.W.kia_one PySem.W.kitx_float I.kIn True.intro e (fun z=>nomatch z) h
 | @lst a xs ea =>
  cases (show u=Value.ref a from rx)
  obtain ⟨_,_,n,_,h1⟩:=(show ObjOk X.prog X.w H s.heap a (.lst xs) from I.hok a _ ea)
  exact PySem.W.kia_one PySem.W.kitx_list I.kIn ⟨_,h1,rfl⟩ e (fun z=>nomatch z) h
 | @frz a ob xs ea =>
  cases (show u=Value.ref a from rx)
  obtain ⟨_,_,_,n,_,h1⟩:=(show ObjOk X.prog X.w H s.heap a (.frz ob (.lst xs)) from I.hok a _ ea)
  exact PySem.W.kia_one PySem.W.kitx_list I.kIn ⟨_,h1,rfl⟩ e (fun z=>nomatch z) h
 | @tup a xs ea =>
  cases (show u=Value.ref a from rx)
  obtain ⟨_,_,_,p⟩:=(show ObjOk X.prog X.w H s.heap a (.tup xs) from I.hok a _ ea)
  obtain ⟨o,h1,h2,_⟩:=p
  exact PySem.W.kia_one PySem.W.kitx_tuple I.kIn ⟨o,h1,h2⟩ e (fun z=>nomatch z) h
 | @dK a kvs ea =>
  cases (show u=Value.ref a from rx)
  obtain ⟨_,_,vs,_,p⟩:=(show ObjOk X.prog X.w H s.heap a (.dK kvs) from I.hok a _ ea)
  obtain ⟨o,es,ep,h1,h2,_⟩:=p
  exact PySem.W.kia_one PySem.W.kitx_dict I.kIn ⟨o,h1,h2.1⟩ e (fun z=>nomatch z) h
 | @frzD a ob kvs ea =>
  cases (show u=Value.ref a from rx)
  obtain ⟨_,_,vs,_,p⟩:=(show ObjOk X.prog X.w H s.heap a (.frz ob (.dK kvs)) from I.hok a _ ea).2
  obtain ⟨o,es,ep,h1,h2,_⟩:=p
  exact PySem.W.kia_one PySem.W.kitx_dict I.kIn ⟨o,h1,h2.1⟩ e (fun z=>nomatch z) h
 | @dT a kvs ea =>
  cases (show u=Value.ref a from rx)
  obtain ⟨_,_,xs,_,o,es,ep,h1,h2,_⟩:=(show ObjOk X.prog X.w H s.heap a (.dT kvs) from I.hok a _ ea)
  exact PySem.W.kia_one PySem.W.kitx_dict I.kIn ⟨o,h1,h2.1⟩ e (fun z=>nomatch z) h
 | @ins a C dx fs ea cl ha hn htk hm =>
  cases (show u=Value.ref a from rx)
  obtain ⟨mA,O,_⟩:=Qs6 I.hok ea
  obtain ⟨od,J,_⟩:=O.look
  exact PySem.W.kia_one (PySem.W.kitx_own (cl.get _) cl.hd ha hn htk hm) I.kIn J e (fun z=>nomatch z) h
end
end L2
namespace L2
open PySem PySem.Spec PyProof.Rows
structure Room (k:Nat) (A:Around):Prop where
 hd:A.handled=none
 dp:A.depth+3*k+5<recursionLimit
 un:A.units+16*k+200<cLine
theorem Room.mono {j k:Nat} {A:Around} (r:Room k A) (h:j<=k):Room j A:=⟨r.hd,by have:=r.dp;omega,by have:=r.un;omega⟩
theorem Room.deeper {k:Nat} {A:Around} (r:Room (k+1) A) (env:Env):Room k (A.deeper env) :=
 ⟨r.hd,by have:=r.dp;show A.depth+1+3*k+5<_;omega,by have:=r.un;show A.units+3+16*k+200<_;omega⟩
theorem Room.depth {k:Nat} {A:Around} (r:Room k A):A.depth<recursionLimit:=by have:=r.dp;omega
theorem Room.units {k:Nat} {A:Around} (r:Room k A):A.units+64<cLine:=by have:=r.un;omega
theorem Room.units0 {k:Nat} {A:Around} (r:Room k A):A.units<cLine:=by have:=r.un;omega
def Qtu:TA:=fun _ H Q=>Q [] H
def QrM (ta:TE) (tr:TA):TA:=fun σ H Q=>ta σ H fun x H1=>tr σ H1 fun xs H2=>Q (x::xs) H2
section
variable {X:Cx} {e:Expr} {es:List Expr} {te:TE} {t:TA} {pos:Pos}
theorem Qbv:PA X [] Qtu:=fun _ _ _ _ H Q I h=>Calls.spliced_nil ⟨[],H,I,.nil,h⟩
theorem Z5 (ha:PE X e te) (hr:PA X es t) (hs:starEach (e::es) X.env=(false,eval e X.env)::starEach es X.env:=by rfl):PA X (e::es) (QrM te t):=by
 intro pos pins s σ H Q I h
 rw [hs]
 show wpAny _ _ (spliced ((false,eval e X.env)::backTo pos (starEach es X.env))) _ _ s
 refine Calls.spliced_cons (thn (ha pins s σ H _ I h) fun u s1 ⟨x,H1,I1,r1,q1⟩=>?_)
 exact thn (hr pos pins s1 σ H1 _ I1 q1) fun us s2 ⟨xs,H2,I2,r2,q2⟩=>⟨x::xs,H2,I2,.cons r1 r2,q2⟩
def QvK (t:TA):TE:=fun σ H Q=>t σ H fun xs H1=>xs.length<=sizeLine/\∀ p,H1 p=none->Q (.ref p) (upd H1 p (.tup xs))
def QvQ (t:TA):TE:=fun σ H Q=>t σ H fun xs H1=>xs.length<=sizeLine/\∀ p,H1 p=none->Q (.ref p) (upd H1 p (.lst xs))
theorem Qt2 {x1} (h:PA X es t):PE X (.Tuple es x1 pos) (QvK t):=by
 intro pins s σ H Q I hq
 refine wpAny_Tuple_spliced (thn (h pos pins s σ H _ I hq) fun us s1 ⟨xs,H1,I1,r,z,q⟩=>⟨by rw [<- r.length];exact z,?_⟩)
 have hf:H1 s1.heap.objs.size=none:=I1.hok.fresh (Nat.le_refl _)
 refine ⟨.ref s1.heap.objs.size,upd H1 s1.heap.objs.size (.tup xs),I1.laid (t':=s1.toks) (fun b u e=>Heap.get?_push_of_some _ e) (Nat.le_refl _) ?_,rfl,q _ hf⟩
 exact ⟨z,us,r,⟨_,Heap.get?_push_size _ rfl,rfl,_,rfl⟩⟩
theorem QoC (h:PA X es t):PE X (.List es pos) (QvQ t):=by
 intro pins s σ H Q I hq
 refine wpAny_List_spliced (thn (h pos pins s σ H _ I hq) fun us s1 ⟨xs,H1,I1,r,z,q⟩=>⟨by rw [<- r.length];exact z,?_⟩)
 have hf:H1 s1.heap.objs.size=none:=I1.hok.fresh (Nat.le_refl _)
 refine ⟨.ref s1.heap.objs.size,upd H1 s1.heap.objs.size (.lst xs),I1.laid (t':=s1.toks) (fun b u e=>Heap.get?_push_of_some _ e) (Nat.le_refl _) ?_,rfl,q _ hf⟩
 exact ⟨z,us,0,r,Heap.get?_push_size _ rfl⟩
end
abbrev Sp:=List V->Hp->VK->XK->Prop
abbrev CXT:=List Env->Hp->Shared->XK->Value->Shared->Prop
structure Env0 (P:Program) (w:World) (K:PySem.W.Frag) (mg:Str->Option Value) (base:Heap) (A:Around) (outer:List Env) (s:Shared) (H:Hp):Prop where
 frames:A.frames=some outer
 mod:Mod K mg base
 bs:∀ b o,base.get? b=some o->s.heap.get? b=some o/\H b=none
 bsz:base.objs.size<=s.heap.objs.size
 funs:s.heap.FunFrames base outer
 frf:∀ b∈frs outer,H b=none
 hok:HOk P w H s.heap
 bare:AllBare s.gens
def CE (outer:List Env) (P:Program) (w:World) (H:Hp) (s:Shared) (Q:VK) (u:Value) (s':Shared):Prop :=
 ∃ v H',s'.os=s.os/\AllBare s'.gens/\Un (frs outer) [] H H' s.heap s'.heap/\HOk P w H' s'.heap/\RelV v u/\Q v H'
def CR (CX:CXT) (outer:List Env) (P:Program) (w:World) (H:Hp) (s:Shared) (Q:VK) (E:XK) (r:Result) (s':Shared):Prop :=
 match r with
 | .ok (.ret u)=>CE outer P w H s Q u s'
 | .ok _=>False
 | .error e=>CX outer H s E e s'
structure FnOk (P:Program) (w:World) (K:PySem.W.Frag) (mg:Str->Option Value) (base:Heap) (CX:CXT) (k:Nat) (f:Addr) (fd:FuncData) (ps:List Str) (sp:Sp):Prop where
 len:∀ vs H Q E,sp vs H Q E->vs.length=ps.length
 run:∀ (A:Around) (outer:List Env) (s:Shared) (H:Hp) (args:Args) (us:List Value) (vs:List V) (Q:VK) (E:XK),Room k A->Env0 P w K mg base A outer s H->BindsTo s fd args (ps.zip us)->Vals vs us->sp vs H Q E ->
  codeAny (model P w) A (.call (.ref f) args) (CR CX outer P w H s Q E) s
theorem FnOk.mono {P:Program} {w:World} {K:PySem.W.Frag} {mg:Str->Option Value} {base:Heap} {CX:CXT} {j k:Nat} {f:Addr} {fd:FuncData} {ps:List Str} {sp:Sp} (F:FnOk P w K mg base CX j f fd ps sp) (h:j<=k) :
  FnOk P w K mg base CX k f fd ps sp:=⟨F.len,fun A outer s H args us vs Q E hr=>F.run A outer s H args us vs Q E (hr.mono h)⟩
theorem FnOk.imp {P:Program} {w:World} {K:PySem.W.Frag} {mg:Str->Option Value} {base:Heap} {CX:CXT} {k:Nat} {f:Addr} {fd:FuncData} {ps:List Str} {sp sp':Sp} (F:FnOk P w K mg base CX k f fd ps sp)
  (h:∀ vs H Q E,sp' vs H Q E->sp vs H Q E):FnOk P w K mg base CX k f fd ps sp' :=
 ⟨fun vs H Q E q=>F.len vs H Q E (h _ _ _ _ q),fun A outer s H args us vs Q E hr he hb hv hs=>F.run A outer s H args us vs Q E hr he hb hv (h _ _ _ _ hs)⟩
section
variable {X:Cx} {pins:List (Addr×Obj)} {σ:St} {H:Hp} {s s':Shared}
theorem Inv.env0 (I:Inv X pins σ H s):Env0 X.prog X.w X.K X.mg X.base X.A X.stack s H :=
 ⟨I.ok.frames,I.ok.mod,I.bs,Nat.le_trans I.ok.bsz I.sz,I.stack,I.stkFree,I.hok,I.bare⟩
theorem Inv.after {Q:VK} {u:Value} (I:Inv X pins σ H s) (h:CE X.stack X.prog X.w H s Q u s'):EP X pins σ Q u s':=by
 obtain ⟨v,H',os,bare,un,hok,r,q⟩:=h
 obtain ⟨hh,g,d,t,os'⟩:=s'
 obtain rfl:os'=s.os:=os
 exact ⟨v,H',I.call (h':=hh) (g':=g) (d':=d) (t':=t) (ch:=[]) un hok bare (fun b z=>absurd z (by simp)),r,q⟩
end
def Qu4 (sp:Sp) (dvs:List V) (E:XK) (t:TA):TE:=fun σ H Q=>t σ H fun vs H1=>sp (vs++dvs) H1 Q E
def Binds (K:PySem.W.Frag) (fd:FuncData) (ps:List Str) (ds:List Value):Prop :=
 ∀ (s:Shared) (us:List Value),K.In s.heap->(us++ds).length=ps.length->BindsTo s fd ⟨us,[]⟩ (ps.zip (us++ds))
theorem Binds.all {K:PySem.W.Frag} {fd:FuncData} {ps:List Str} (h:∀ us:List Value,us.length=ps.length->bindArgs fd ⟨us,[]⟩=pure (ps.zip us)):Binds K fd ps []:=fun s us _ hl=>by
 rw [List.append_nil] at hl ⊢
 exact .of_eq (h us hl)
def Qj5 (CX:CXT) (X:Cx) (E:XK):Prop:=∀ (pins:List (Addr×Obj)) (σ:St) (H:Hp) (s:Shared) (e:Value) (s':Shared),Inv X pins σ H s->CX X.stack H s E e s'->X.xe e s'
section
variable {X:Cx} {CX:CXT} {k:Nat} {f C:Addr} {fd:FuncData} {ps:List Str} {sp:Sp} {dvs:List V} {ds:List Value} {E:XK} {x m:Str} {p pos apos:Pos} {e o:Expr} {es:List Expr} {ta:TE} {t:TA}
theorem QtM {pins:List (Addr×Obj)} {σ:St} {H:Hp} {s:Shared} {Q:VK} {us:List Value} {vs:List V} (F:FnOk X.prog X.w X.K X.mg X.base CX k f fd ps sp) (hr:Room k X.A) (hb:Binds X.K fd ps ds) (hd:Vals dvs ds) (hx:Qj5 CX X E)
  (I:Inv X pins σ H s) (r:Vals vs us) (h:sp (vs++dvs) H Q E):wpAny (model X.prog X.w) X.A (call (.ref f) us) (EP X pins σ Q) X.xe s:=by
 have r2:Vals (vs++dvs) (us++ds):=r.append hd
 have hl:(us++ds).length=ps.length:=by rw [<- r2.length];exact F.len _ _ _ _ h
 refine wpAny_call (codeAny_mono (F.run X.A X.stack s H ⟨us,[]⟩ (us++ds) (vs++dvs) Q E hr I.env0 (hb s us I.kIn hl) r2 h) fun r s' hq=>?_)
 cases r with
 | error e=>exact hx pins σ H s e s' I hq
 | ok fl =>
  cases fl with
  | ret u=>exact I.after hq
  | next=>exact False.elim hq
  | brk=>exact False.elim hq
  | cont=>exact False.elim hq
theorem QmA (F:FnOk X.prog X.w X.K X.mg X.base CX k f fd ps sp) (hr:Room k X.A) (hg:Gl X x) (hm:X.mg x=some (.ref f)) (hk:PySem.W.keepIn X.K (.ref f)=true) (hb:Binds X.K fd ps ds) (hd:Vals dvs ds) (hx:Qj5 CX X E)
  (ha:PA X (e::es) t) (hdb:(x==("__debug__":Str))=false:=by decide) (he:starEach (e::es) X.env=(false,eval e X.env)::starEach es X.env:=by rfl) (hpl:(backTo pos (starEach es X.env)).any (·.1)=false:=by rfl) :
  PE X (.Call (.Name x p) (e::es) [] pos) (Qu4 sp dvs E t):=by
 intro pins s σ H Q I h
 refine wpAny_Call_Name_kw (QmJ I hg hm ?_ hdb)
 refine PySem.W.callWith_K (h₀:=X.base) I.ok.mod.kin hk (thn (ha pos pins s σ H _ I h) fun us s1 ⟨vs,H1,I1,r,q⟩=>⟨I1.kIn,?_⟩) he hpl
 exact QtM F hr hb hd hx I1 r q
end
section
variable {X:Cx} {CX:CXT} {k:Nat} {f C:Addr} {fd:FuncData} {ps ks:List Str} {sp:Sp} {E:XK} {x m:Str} {p pos apos kpos:Pos} {e o:Expr} {es:List Expr} {kws:List Keyword} {te ta:TE} {t tk:TA} {nm:Option Str}
variable {g:List Value->List Value->List Value} {gV:List V->List V->List V}
end
structure FnScope (N P:List Str) (sc:Scope):Prop where
 kind:sc.kind=.function
 co:sc.isCoroutine=false
 gen:sc.isGenerator=false
 nd:N.Nodup
 pre:N.take P.length=P
 par:∀ x∈P,sc.names.lookup x=some .local\/sc.names.lookup x=some .cell
 nofree:∀ y∈sc.names,y.2≠.free
theorem Qi8 {kindOf:Str->Option NameKind} {x:Str}:∀ {binds:List (Str×Value)} {m:Str->Option Value},(∀ v,(x,v)∉binds)->bindL kindOf binds m x=m x
 | [],_,_=>rfl
 | (n,v)::r,m,h=>by
  unfold bindL
  rw [Qi8 fun w hw=>h w (List.mem_cons_of_mem _ hw)]
  split
  ·have:x≠n:=by rintro rfl;exact h v List.mem_cons_self
   simp [this]
  ·rfl
theorem Qja {kindOf:Str->Option NameKind} {x:Str}:∀ {binds:List (Str×Value)} {m:Str->Option Value},(∀ v,(x,v)∉binds)->bindC kindOf binds m x=m x
 | [],_,_=>rfl
 | (n,v)::r,m,h=>by
  unfold bindC
  rw [Qja fun w hw=>h w (List.mem_cons_of_mem _ hw)]
  split
  ·rfl
  ·have:x≠n:=by rintro rfl;exact h v List.mem_cons_self
   simp [this]
theorem Qi9 {kindOf:Str->Option NameKind} {x:Str} {v:Value}:∀ {P:List Str} {vs:List Value} {i:Nat} {m:Str->Option Value},P.Nodup->P[i]?=some x->vs[i]?=some v->kindOf x=some .local ->
  bindL kindOf (P.zip vs) m x=some v
 | [],_,_,_,_,h,_,_=>by simp at h
 | _::_,[],_,_,_,_,h,_=>by simp at h
 | p::P,w::vs,0,m,nd,h1,h2,hk=>by
  simp at h1 h2;subst h1;subst h2
  show bindL kindOf ((p,w)::P.zip vs) m p=_
  unfold bindL
  rw [Qi8 fun v hv=>(List.nodup_cons.mp nd).1 (List.of_mem_zip hv).1,if_pos hk]
  simp
 | p::P,w::vs,i+1,m,nd,h1,h2,hk=>by
  show bindL kindOf ((p,w)::P.zip vs) m x=_
  unfold bindL
  exact Qi9 (i:=i) (List.nodup_cons.mp nd).2 (by simpa using h1) (by simpa using h2) hk
theorem Qjb {kindOf:Str->Option NameKind} {x:Str} {v:Value}:∀ {P:List Str} {vs:List Value} {i:Nat} {m:Str->Option Value},P.Nodup->P[i]?=some x->vs[i]?=some v->kindOf x≠some .local ->
  bindC kindOf (P.zip vs) m x=some v
 | [],_,_,_,_,h,_,_=>by simp at h
 | _::_,[],_,_,_,_,h,_=>by simp at h
 | p::P,w::vs,0,m,nd,h1,h2,hk=>by
  simp at h1 h2;subst h1;subst h2
  show bindC kindOf ((p,w)::P.zip vs) m p=_
  unfold bindC
  rw [Qja fun v hv=>(List.nodup_cons.mp nd).1 (List.of_mem_zip hv).1,if_neg hk]
  simp
 | p::P,w::vs,i+1,m,nd,h1,h2,hk=>by
  show bindC kindOf ((p,w)::P.zip vs) m x=_
  unfold bindC
  exact Qjb (i:=i) (List.nodup_cons.mp nd).2 (by simpa using h1) (by simpa using h2) hk
def Qau (N:List Str) (vs:List V):St:=vs.map some++List.replicate (N.length-vs.length) none
def Qap (CX:CXT) (P:Program) (w:World) (K:PySem.W.Frag) (mg:Str->Option Value) (base:Heap) (N:List Str) (qual:Str) (scope:Scope) (f:Addr) (cd:Value) (A:Around) (outer:List Env) (s:Shared) (H:Hp) (E:XK):Cx where
 prog:=P
 w:=w
 K:=K
 mg:=mg
 base:=base
 A:=A.deeper (envOfC qual scope s.heap.objs.size f cd)
 N:=N
 s₀:=s
 H₀:=H
 env:=envOfC qual scope s.heap.objs.size f cd
 outer:=outer
 stack:=envOfC qual scope s.heap.objs.size f cd::outer
 ex:=[]
 calm:=true
 fn:=fun _=>true
 pn:=[]
 xe:=fun e s'=>wpAny (model P w) (A.deeper (envOfC qual scope s.heap.objs.size f cd)) (leaving (envOfC qual scope s.heap.objs.size f cd) e) (fun _ s''=>CX outer H s E e s'') (fun e' s''=>CX outer H s E e' s'') s'
theorem QkK {sc:Scope} {n:Nat} {x:Str} (h:sc.names.lookup x=some .cell):∃ c,(cellsFrom n sc.names []).lookup x=some c:=by
 have q:=PySem.W.cellsFrom_some sc.names n [] (.inl h)
 exact Option.isSome_iff_exists.mp q
theorem QpL {CX:CXT} {P:Program} {w:World} {K:PySem.W.Frag} {mg:Str->Option Value} {base:Heap} {N ps:List Str} {qual:Str} {scope:Scope} {f:Addr} {cd:Value} {A:Around} {outer:List Env} {s s1:Shared} {H:Hp} {E:XK} {us:List Value} {vs:List V}
  (S:FnScope N ps scope) (hd:A.handled=none) (e0:Env0 P w K mg base A outer s H) (hl:vs.length=ps.length) (r:Vals vs us)
  (x:InCallC s s.heap.objs.size (bindL (envOfC qual scope s.heap.objs.size f cd).kindOf (ps.zip us) fun _=>none) (cellsFrom (s.heap.objs.size+1) scope.names []) (bindC (envOfC qual scope s.heap.objs.size f cd).kindOf (ps.zip us) fun _=>none) s1) :
  Inv (Qap CX P w K mg base N qual scope f cd A outer s H E) [] (Qau N vs) H s1:=by
 have hpl:ps.length<=N.length:=by have:=congrArg List.length S.pre;rw [List.length_take] at this;omega
 obtain ⟨h1,tk,rfl,hk⟩:=x.done
 have noA:∀ b:Addr,b∉(Qap CX P w K mg base N qual scope f cd A outer s H E).ex:=fun b z=>absurd (show b∈([]:List Addr) from z) (by simp)
 refine ⟨⟨e0.mod,S.kind,rfl,rfl,Nat.le_refl _,fun y z c h1 h2=>?_,fun y hy=>?_,fun y c _ h=>?_,fun _=>hd,Around.frames_deeper e0.frames,.inr ⟨rfl,rfl⟩,fun b z=>absurd z (noA b),e0.bs,e0.bsz,fun b _ _=>noA b,fun b z=>absurd z (noA b),e0.funs,e0.frf⟩,
  rfl,e0.bare,Un.kept hk,⟨_,x.toInCall.ns,fun i y v h1 h2 h3=>?_⟩,fun y c h=>⟨_,x.cell y c h⟩,e0.hok.fresh (Nat.le_refl _),fun y c h=>?_,fun p hp=>absurd (show p∈([]:List (Addr×Obj)) from hp) (by simp),e0.hok.kept hk,?_⟩
 ·exact name_of_addr x.apart (PySem.mem_of_lookup h1) (PySem.mem_of_lookup h2)
 ·have hy:scope.names.lookup y=some .cell\/scope.names.lookup y=some .free:=hy
  rcases hy with hy | hy
  ·exact QkK hy
  ·exact absurd rfl (S.nofree _ (PySem.mem_of_lookup hy))
 ·exact Nat.le_of_lt (x.above y c (PySem.mem_of_lookup h))
 ·have hi:i<vs.length:=by
   unfold Qau at h2
   by_cases hi:i<vs.length
   ·exact hi
   ·rw [List.getElem?_append_right (by simpa using hi)] at h2
    rw [List.getElem?_replicate] at h2
    split at h2<;>cases h2
  have ha:vs[i]?=some v:=by
   unfold Qau at h2
   rw [List.getElem?_append_left (by simpa using hi),List.getElem?_map] at h2
   cases e:vs[i]? with
   | none=>rw [e] at h2;cases h2
   | some a=>rw [e] at h2;cases h2;rfl
  obtain ⟨u,hu,rv⟩:=r.get ha
  have hp:ps[i]?=some y:=by
   rw [<- S.pre,List.getElem?_take_of_lt (by omega)];exact h1
  have ndP:ps.Nodup:=by rw [<- S.pre];exact S.nd.sublist (List.take_sublist _ _)
  refine ⟨u,rv,?_⟩
  rcases S.par y (List.mem_of_getElem? hp) with k | k
  ·exact .inl ⟨k,Qi9 ndP hp hu k⟩
  ·obtain ⟨c,e⟩:=QkK (n:=s.heap.objs.size+1) k
   refine .inr ⟨.inl k,c,e,?_⟩
   have q:=x.cell y c e
   rw [Qjb ndP hp hu (by show scope.names.lookup y≠_;rw [k];decide)] at q
   exact q
 ·exact e0.hok.fresh (Nat.le_of_lt (x.above y c (PySem.mem_of_lookup h)))
 ·unfold Qau
  show _=N.length
  rw [List.length_append,List.length_map,List.length_replicate]
  omega
theorem Qvr {CX:CXT} {P:Program} {w:World} {K:PySem.W.Frag} {mg:Str->Option Value} {base:Heap} {k:Nat} {f:Addr} {name qual:Str} {params:Arguments} {body:List Stmt} {scope:Scope} {dV kV doc pm cdv ct oc:Value} {an od:Option Addr}
  {osl:Array (Option Value)} {N ps:List Str} {sp:Sp} (lk:K.lookup f=some ⟨oc,od,.func (PySem.W.fnOf name qual params body scope dV kV doc pm an cdv ct),osl⟩) (hcd:PySem.W.codeIn K cdv qual=true) (S:FnScope N ps scope)
  (len:∀ vs H Q E,sp vs H Q E->vs.length=ps.length)
  (hbody:∀ (A:Around) (outer:List Env) (s:Shared) (H:Hp) (vs:List V) (Q:VK) (E:XK),Room k (A.deeper (envOfC qual scope s.heap.objs.size f cdv))->sp vs H Q E ->
   ∃ t,PSs (Qap CX P w K mg base N qual scope f cdv A outer s H E) body t/\t { nx:=fun _ H'=>Q .non H',rt:=Q } (Qau N vs) H) :
  FnOk P w K mg base CX (k+1) f (PySem.W.fnOf name qual params body scope dV kV doc pm an cdv ct) ps sp:=by
 refine ⟨len,fun A outer s H args us vs Q E hr e0 hb r hsp=>?_⟩
 have hl:=len _ _ _ _ hsp
 have KX:K.In s.heap:=e0.mod.kin.keeps fun b o e=>(e0.bs b o e).1
 have lim:s.heap.NoLimit:=e0.mod.nolimit.keeps fun b o e=>(e0.bs b o e).1
 have hkind:∀ y∈ps.zip us,scope.names.lookup y.1=some .local\/(scope.names.lookup y.1=some .cell/\((cellsFrom (s.heap.objs.size+1) scope.names []).lookup y.1).isSome=true):=fun ⟨n,v⟩ hy=>by
  rcases S.par n (List.of_mem_zip hy).1 with q | q
  ·exact .inl q
  ·exact .inr ⟨q,PySem.W.cellsFrom_some _ _ _ (.inl q)⟩
 refine codeAny_call_function hr.depth (KX _ _ lk) rfl S.co S.gen rfl (PySem.W.codeRec_of KX hcd) (hb _ _ _ _ ?_)
 refine wpAny_newFunctionEnv_cells S.kind hkind fun env he s1 x=>?_
 subst he
 refine ⟨lim.keeps x.toInCall.keep,codeAny_func ?_⟩
 obtain ⟨t,ht,hq⟩:=hbody A outer s H vs Q E (hr.deeper _) hsp
 have I:Inv (Qap CX P w K mg base N qual scope f cdv A outer s H E) [] (Qau N vs) H s1:=QpL S hr.hd e0 hl r x
 refine wpAny_mono (ht [] s1 (Qau N vs) H _ I hq) (fun fl s' hs=>?_) fun e s' hs=>hs
 have fin:∀ {σ':St} {H':Hp} {v:V} {u:Value},Inv (Qap CX P w K mg base N qual scope f cdv A outer s H E) [] σ' H' s'->RelV v u->Q v H'->CE outer P w H s Q u s' :=
  fun {σ' H' v u} J rv q=>⟨v,H',J.os,J.bare,J.base,J.hok,rv,q⟩
 cases fl with
 | ret u =>
  obtain ⟨v,σ',H',J,rv,q⟩:=hs
  exact fin J rv q
 | next =>
  obtain ⟨σ',H',J,q⟩:=hs
  exact fin (v:=V.non) (u:=Value.none) J rfl q
 | brk =>
  obtain ⟨_,_,_,q⟩:=hs
  exact False.elim q
 | cont =>
  obtain ⟨_,_,_,q⟩:=hs
  exact False.elim q
end L2
namespace L2
open PySem PySem.Spec PyProof.Rows
section
variable {X:Cx} {x:Str} {p pos:Pos} {e:Expr} {es:List Expr} {t:TA} {id T:String} {r:List V->Hp->VK->Prop}
def tCB (r:List V->Hp->VK->Prop) (t:TA):TE:=fun σ H Q=>t σ H fun vs H1=>r vs H1 Q
theorem Qgo (hc:CallR X (.builtin id) r) (hg:Gl X x) (hm:X.mg x=none) (hv:bootBuiltins x=some (.builtin id)) (ha:PA X (e::es) t) (hn:x≠"__name__":=by decide) (hdb:(x==("__debug__":Str))=false:=by decide)
  (he:starEach (e::es) X.env=(false,eval e X.env)::starEach es X.env:=by rfl) (hpl:(backTo pos (starEach es X.env)).any (·.1)=false:=by rfl):PE X (.Call (.Name x p) (e::es) [] pos) (tCB r t):=by
 intro pins s σ H Q I h
 refine wpAny_Call_Name_kw (Qck I hg hm hv ?_ hn hdb)
 exact PyProof.Rows.callWith_builtin1 (thn (ha pos pins s σ H _ I h) fun us s1 ⟨vs,H1,I1,r1,q1⟩=>hc pins s1 σ H1 vs us Q I1 r1 q1) he hpl
theorem QiH (hc:CallR X (.type T) r) (hg:Gl X x) (hm:X.mg x=none) (hv:bootBuiltins x=some (.type T)) (ha:PA X (e::es) t) (hn:x≠"__name__":=by decide) (hdb:(x==("__debug__":Str))=false:=by decide)
  (he:starEach (e::es) X.env=(false,eval e X.env)::starEach es X.env:=by rfl) (hpl:(backTo pos (starEach es X.env)).any (·.1)=false:=by rfl):PE X (.Call (.Name x p) (e::es) [] pos) (tCB r t):=by
 intro pins s σ H Q I h
 refine wpAny_Call_Name_kw (Qck I hg hm hv ?_ hn hdb)
 exact PyProof.Rows.callWith_type1 (thn (ha pos pins s σ H _ I h) fun us s1 ⟨vs,H1,I1,r1,q1⟩=>hc pins s1 σ H1 vs us Q I1 r1 q1) he hpl
end
end L2
namespace HT
open PySem PyProof.Rows
theorem eqAt_int (A:Around) (s:Shared) (a:Int) (t:Tok) (c:Int) (u:Tok):∃ e,SeqAt.EqAt A s (.int a t) (.int c u) e/\(e=true↔a=c) :=
 ⟨(a==c),SeqAt.EqAt.int_int a t c u,by simp⟩
section
open PySem.SeqAt
open PySem.AutoSeq1 (wpAny_loadPart')
open PySem.MeetsSeq PySem.MeetsSeq2 PySem.MeetsSeq3
end
section
variable {prog:Program} {w:World} {A:Around} {E:Value->Shared->Prop} {s:Shared}
theorem cat_tup {t b:Addr} {vs ws:List Value} {Q:Value->Shared->Prop} (ht:IsTup s.heap t vs.toArray) (hb:IsTup s.heap b ws.toArray) (hv:vs≠[])
  (h1:ws=[]->Q (.ref t) s) (h2:ws≠[]->Q (.ref s.heap.objs.size) { s with heap:=s.heap.push { cls:=.type "tuple",data:=.seq (vs++ws).toArray } })
  (hsz:vs.length+ws.length<=sizeLine):wpAny (model prog w) A (binaryOp .Add (.ref t) (.ref b)) Q E s:=by
 obtain ⟨⟨cls,dd,data,sl⟩,ho,hc,n,hd⟩:=id ht
 obtain ⟨⟨cls2,dd2,data2,sl2⟩,ho2,hc2,n2,hd2⟩:=id hb
 simp only at hc hd hc2 hd2
 subst hc hd hc2 hd2
 have e:vs.toArray++ws.toArray=(vs++ws).toArray:=by simp
 by_cases hw:ws=[]
 ·exact concat_meets ⟨_,ho,rfl⟩ ⟨_,ho2,rfl⟩ noFill_tuple_add seq_tuple_add PySem.F.slot_tuple_add PySem.F.entry_tuple_add (PySem.F.args_tuple_add_2 _ _)
   (tuple_addW1 t b vs.toArray ws.toArray n n2 dd dd2 sl sl2 (by simpa using hv) (by simp [hw])) ⟨ho,ho2,h1 hw⟩
 ·refine concat_meets ⟨_,ho,rfl⟩ ⟨_,ho2,rfl⟩ noFill_tuple_add seq_tuple_add PySem.F.slot_tuple_add PySem.F.entry_tuple_add (PySem.F.args_tuple_add_2 _ _)
   (tuple_addW2 t b vs.toArray ws.toArray n n2 dd dd2 sl sl2 (by simpa using hv) (by simpa using hw) (by rw [List.size_toArray,List.size_toArray];exact hsz)) ⟨ho,ho2,?_⟩
  rw [e]
  exact h2 hw
def sIx (n d:Nat):Option Int->Nat
 | none=>d
 | some v=>if v<0 then (v+(n:Int)).toNat else min v.toNat n
theorem QtL (n d:Nat) (hd:d<=n) (o:Option Int):sIx n d o<=n:=by
 cases o with
 | none=>exact hd
 | some v =>
  show (if v<0 then (v+(n:Int)).toNat else min v.toNat n)<=n
  by_cases hv:v<0
  ·rw [if_pos hv];omega
  ·rw [if_neg hv];exact Nat.min_le_right _ _
theorem Qm5 (v:Int) (n d:Nat):(if v<0 then max (v+(n:Int)) 0 else min v (n:Int))=((sIx n d (some v):Nat):Int):=by
 show (if v<0 then max (v+(n:Int)) 0 else min v (n:Int))=(((if v<0 then (v+(n:Int)).toNat else min v.toNat n):Nat):Int)
 by_cases hv:v<0
 ·simp only [if_pos hv];omega
 ·simp only [if_neg hv];omega
theorem Qor (lo hi:Option Int) (n:Nat):Builtin.Slice.sliceAdjust lo hi 1 (n:Int)=(((sIx n 0 lo:Nat):Int),((sIx n n hi:Nat):Int)):=by
 have h1:¬ ((1:Int)<0):=by omega
 unfold Builtin.Slice.sliceAdjust
 simp only [h1,if_false]
 refine Prod.ext ?_ ?_
 ·cases lo with
  | none=>rfl
  | some v=>exact Qm5 v n 0
 ·cases hi with
  | none=>rfl
  | some v=>exact Qm5 v n n
theorem QnQ (i j:Nat):Builtin.Slice.slicePlaces (i:Int) (j:Int) 1=j-i:=by
 unfold Builtin.Slice.slicePlaces
 have h1:(1:Int) > 0:=by omega
 simp only [h1,if_true,Int.ediv_one]
 split<;>omega
theorem Qg8 {v:Value} {o:Option Int} {Q:Option Int->Shared->Prop} (p:IsPart v o) (h:Q o s):wpAny (model prog w) A (Builtin.Slice.slicePartIndex v) Q E s:=by
 cases p with
 | none=>exact slicePart_none h
 | int i t=>exact slicePart_int h
theorem QgH {sl:Addr} {vl vu:Value} {lo hi:Option Int} {n:Nat} {Q:Int×Int×Nat->Shared->Prop} (hs:s.heap.IsSliceOf sl vl vu .none) (pl:IsPart vl lo) (pu:IsPart vu hi)
  (h:Q (((sIx n 0 lo:Nat):Int),1,sIx n n hi-sIx n 0 lo) s):wpAny (model prog w) A (Builtin.Slice.sliceApplied (.ref sl) (pure (n:Int))) Q E s:=by
 obtain ⟨os,hos,hcs,hds⟩:=id hs
 unfold Builtin.Slice.sliceApplied Builtin.Slice.sliceFields
 refine wpAny_bind (wpAny_bind (wpAny_field hos hds (x:=vl) rfl (wpAny_bind (wpAny_field hos hds (x:=vu) rfl (wpAny_bind (wpAny_field hos hds (x:=.none) rfl (wpAny_pure ?_)))))))
 refine wpAny_bind (slicePart_none ?_)
 show wpAny _ _ (if ((1:Int)==0)=true then _ else _) _ _ s
 rw [if_neg (by decide)]
 refine wpAny_bind (Qg8 pl (wpAny_bind (Qg8 pu (wpAny_bind (wpAny_pure ?_)))))
 show wpAny _ _ (match Builtin.Slice.sliceAdjust lo hi 1 (n:Int) with | (lo,hi)=>pure (lo,(1:Int),Builtin.Slice.slicePlaces lo hi 1)) _ _ s
 rw [Qor lo hi n]
 show wpAny _ _ (pure (((sIx n 0 lo:Nat):Int),(1:Int),Builtin.Slice.slicePlaces ((sIx n 0 lo:Nat):Int) ((sIx n n hi:Nat):Int) 1)) _ _ s
 rw [QnQ]
 exact wpAny_pure h
theorem QqS (xs:Array Value) (i k:Nat):((List.range k).filterMap fun (m:Nat)=>xs[((i:Int)+(m:Int)*1).toNat]?).toArray=((xs.toList.drop i).take k).toArray:=by
 have e:(fun (m:Nat)=>xs[((i:Int)+(m:Int)*1).toNat]?)=fun m=>xs[i+m]?:=by
  funext m
  have:((i:Int)+(m:Int)*1).toNat=i+m:=by omega
  rw [this]
 rw [e]
 have:=pick_run xs i k
 rw [List.filterMap_map] at this
 have e2:((fun x=>xs[x]?)∘fun x=>i+x)=fun m=>xs[i+m]?:=rfl
 rw [e2] at this
 rw [this]
theorem getItem_tuple_cut {t sl:Addr} {items:Array Value} {vl vu:Value} {lo hi:Option Int} {Q:Value->Shared->Prop} (ht:IsTup s.heap t items) (hs:s.heap.IsSliceOf sl vl vu .none) (pl:IsPart vl lo) (pu:IsPart vu hi)
  (hw:¬ (sIx items.size 0 lo=0/\sIx items.size items.size hi=items.size))
  (h:Q (.ref s.heap.objs.size) { s with heap:=s.heap.push { cls:=.type "tuple",data:=.seq ((items.toList.drop (sIx items.size 0 lo)).take (sIx items.size items.size hi-sIx items.size 0 lo)).toArray } })
  (hsz:items.size<=sizeLine):wpAny (model prog w) A (getItem (.ref t) (.ref sl)) Q E s:=by
 have htake:sizeOk (.seq ((items.toList.drop (sIx items.size 0 lo)).take (sIx items.size items.size hi-sIx items.size 0 lo)).toArray):=by
  show ((items.toList.drop (sIx items.size 0 lo)).take (sIx items.size items.size hi-sIx items.size 0 lo)).toArray.size<=sizeLine
  rw [List.size_toArray,List.length_take,List.length_drop,Array.length_toList]
  omega
 have hj:sIx items.size items.size hi<=items.size:=QtL _ _ (Nat.le_refl _) hi
 obtain ⟨os,hos,hcs,hds⟩:=id hs
 have hTs:s.TypeIs (.ref sl) "slice":=⟨os,hos,hcs⟩
 unfold getItem
 try with_reducible refine wpAny_holding ?_
 first | refine wpAny_bind (wpAny_pure ?_) | skip
 refine wpAny_bind (wpAny_sequenceKey ht.typeIs (by decide) ?_)
 refine wpAny_bind (wpAny_callSpecial?_slot (name:=Str.ofString "__getitem__") ht.typeIs PyProof.Rows.slot_tuple_getitem
  (wpAny_call_entry PyProof.Rows.slot_tuple_getitem ht.typeIs entry_tuple_getitem ?_ (args_tuple_getitem _ _)))
 show wpAny _ _ (Builtin.Tuple.tupleItemsOf (.ref t) >>= _) _ _ s
 refine wpAny_bind (tupleItemsOf_ ht ?_)
 refine wpAny_bind (wpAny_typeOf hTs ?_)
 rw [if_pos (by decide)]
 refine wpAny_bind (QgH hs pl pu ?_)
 have hno:¬ ((((sIx items.size 0 lo:Nat):Int)==0&&(1:Int)==1&&(sIx items.size items.size hi-sIx items.size 0 lo)==items.size)=true):=by
  intro q
  rw [Bool.and_eq_true,Bool.and_eq_true] at q
  have q1:((sIx items.size 0 lo:Nat):Int)=0:=eq_of_beq q.1.1
  have q2:sIx items.size items.size hi-sIx items.size 0 lo=items.size:=eq_of_beq q.2
  exact hw ⟨by omega,by omega⟩
 show wpAny _ _ (if (((sIx items.size 0 lo:Nat):Int)==0&&(1:Int)==1&&(sIx items.size items.size hi-sIx items.size 0 lo)==items.size)=true then _ else _) _ _ s
 rw [if_neg hno,QqS]
 first
  | exact wpAny_bind (m:=Builtin.Tuple.tupleExact _) (wpAny_newObj_type (wpAny_pure ⟨_,rfl,wpAny_pure h⟩) htake)
  | exact wpAny_bind (m:=Builtin.Tuple.tupleExact _) (wpAny_newObj_type (wpAny_bind (wpAny_pure (wpAny_pure ⟨_,rfl,wpAny_pure h⟩))) htake)
  | exact wpAny_bind (wpAny_bind (m:=Builtin.Tuple.tupleExact _) (wpAny_newObj_type (wpAny_pure (wpAny_pure ⟨_,rfl,wpAny_pure h⟩)) htake))
  | exact wpAny_bind (wpAny_bind (m:=Builtin.Tuple.tupleExact _) (wpAny_newObj_type (wpAny_pure ⟨_,rfl,wpAny_pure h⟩) htake))
end
end HT
namespace L2
open PySem PySem.Spec PyProof.Rows
abbrev TO:=St->Hp->(Option Int->Hp->Prop)->Prop
def PO (X:Cx) (e:Option Expr) (t:TO):Prop :=
 ∀ (pins:List (Addr×Obj)) (s:Shared) (σ:St) (H:Hp) (Q:Option Int->Hp->Prop),Inv X pins σ H s->t σ H Q ->
  wpAny (model X.prog X.w) X.A (evalPart e X.env) (fun u s'=>∃ o H',Inv X pins σ H' s'/\IsPart u o/\Q o H') X.xe s
def Qsb:TO:=fun _ H Q=>Q none H
def QuY (t:TE):TO:=fun σ H Q=>t σ H fun x H1=>∃ i,x=.int i/\Q (some i) H1
theorem Qhg {ns:List Int}:∀ {us:List Value},Vals (ns.map V.int) us->IntsAre us ns:=by
 induction ns with
 | nil=>intro us r;rw [List.map_nil] at r;cases r;exact .nil
 | cons n ns ih =>
  intro us r
  rw [List.map_cons] at r
  cases r with
  | cons r1 r2 =>
   obtain ⟨t,e⟩:=r1
   subst e
   exact .cons n t (ih r2)
section
variable {X:Cx} {e:Expr} {te:TE} {lo hi:Option Expr} {tl th:TO} {pos p2:Pos}
theorem Qsv:PO X none Qsb:=by
 intro pins s σ H Q I h
 rw [evalPart_none]
 exact wpAny_pure ⟨none,H,I,.none,h⟩
theorem Qsu (h:PE X e te):PO X (some e) (QuY te):=by
 intro pins s σ H Q I hw
 rw [evalPart_some]
 refine thn (h pins s σ H _ I hw) fun u s1 ⟨x,H1,I1,r1,q1⟩=>?_
 obtain ⟨i,rfl,q⟩:=q1
 obtain ⟨t,rfl⟩:=r1
 exact ⟨some i,H1,I1,.int i t,q⟩
def SlR (X:Cx) (r:V->Option Int->Option Int->Hp->VK->Prop):Prop :=
 ∀ (pins:List (Addr×Obj)) (s:Shared) (σ:St) (H:Hp) (x:V) (v vl vu:Value) (lo hi:Option Int) (sl:Addr) (Q:VK),Inv X pins σ H s->RelV x v->s.heap.IsSliceOf sl vl vu .none->IsPart vl lo->IsPart vu hi->r x lo hi H Q ->
  ∃ T id,typeLookup (.type T) "__getitem__"=pure (some (.builtin id))/\s.TypeIs v T/\wpAny (model X.prog X.w) X.A (getItem v (.ref sl)) (EP X pins σ Q) X.xe s
theorem SlR.or {r r':V->Option Int->Option Int->Hp->VK->Prop} (h:SlR X r) (h':SlR X r'):SlR X (fun x lo hi H Q=>r x lo hi H Q\/r' x lo hi H Q):=by
 intro pins s σ H x v vl vu lo hi sl Q I rx hs pl pu q
 rcases q with q | q
 ·exact h pins s σ H x v vl vu lo hi sl Q I rx hs pl pu q
 ·exact h' pins s σ H x v vl vu lo hi sl Q I rx hs pl pu q
def tSl (r:V->Option Int->Option Int->Hp->VK->Prop) (te:TE) (tl th:TO):TE:=fun σ H Q=>te σ H fun x H1=>tl σ H1 fun l H2=>th σ H2 fun u H3=>r x l u H3 Q
theorem QqU {r:V->Option Int->Option Int->Hp->VK->Prop} (hr:SlR X r) (he:PE X e te) (hl:PO X lo tl) (hu:PO X hi th):PE X (.Subscript e (.Slice lo hi none p2) pos) (tSl r te tl th):=by
 intro pins s σ H Q I h
 refine Subscript_ (thn (he pins s σ H _ I h) fun v s1 ⟨x,H1,I1,r1,q1⟩=>?_)
 refine wpAny_Slice (thn (hl pins s1 σ H1 _ I1 q1) fun vl s2 ⟨l,H2,I2,pl,q2⟩=>thn (hu pins s2 σ H2 _ I2 q2) fun vu s3 ⟨u,H3,I3,pu,q3⟩=>?_)
 rw [evalPart_none]
 refine wpAny_pure ?_
 have I4:Inv X pins σ H3 { s3 with heap:=s3.heap.push { cls:=.type "slice",data:=.fields #[vl,vu,.none] } }:=I3.kept (t':=s3.toks) fun b ob q=>Heap.get?_push_of_some _ q
 obtain ⟨T,id,hT,ht,hg⟩:=hr pins { s3 with heap:=s3.heap.push { cls:=.type "slice",data:=.fields #[vl,vu,.none] } } σ H3 x v vl vu l u s3.heap.objs.size Q I4 r1 (Heap.IsSliceOf.new ..) pl pu q3
 show wpAny (model X.prog X.w) X.A (subscriptTail e (.Slice lo hi none p2) v (.ref s3.heap.objs.size)) (EP X pins σ Q) X.xe { s3 with heap:=s3.heap.push { cls:=.type "slice",data:=.fields #[vl,vu,.none] } }
 exact tail_any (ops:=[.ref s3.heap.objs.size,v]) ht hT hg (by with_unfolding_all rfl)
def QbQ (xs:List V) (lo hi:Option Int):List V:=(xs.drop (HT.sIx xs.length 0 lo)).take (HT.sIx xs.length xs.length hi-HT.sIx xs.length 0 lo)
theorem QfV (xs:List V) (lo hi:Option Int):(QbQ xs lo hi).length<=xs.length:=by
 unfold QbQ
 rw [List.length_take,List.length_drop]
 omega
def QvW (K:PySem.W.Frag):V->Option Int->Option Int->Hp->VK->Prop:=fun x lo hi H Q=>∃ a xs,x=.ref a/\SqT K H a xs /\
 ¬ (HT.sIx xs.length 0 lo=0/\HT.sIx xs.length xs.length hi=xs.length)/\∀ p,H p=none->Q (.ref p) (upd H p (.tup (QbQ xs lo hi)))
theorem QtJ:SlR X (QvW X.K):=by
 intro pins s σ H x v vl vu lo hi sl Q I rx hs pl pu h
 obtain ⟨a,xs,rfl,hx,hw,q⟩:=h
 cases rx
 obtain ⟨its,r,ht,hz⟩:=I.tuple hx
 have hlen:its.toArray.size=xs.length:=by rw [List.size_toArray];exact r.length.symm
 refine ⟨"tuple",_,PyProof.Rows.slot_tuple_getitem.lookup,ht.typeIs,?_⟩
 refine HT.getItem_tuple_cut ht hs pl pu (by rw [hlen];exact hw) ?_ (by rw [hlen];exact hz)
 rw [hlen]
 refine ⟨.ref s.heap.objs.size,_,I.laid (t':=s.toks) (o:=.tup (QbQ xs lo hi)) (fun b ob q=>Heap.get?_push_of_some _ q) (Nat.le_refl _) ?_,rfl,q _ (I.hok.fresh (Nat.le_refl _))⟩
 exact ⟨Nat.le_trans (QfV xs lo hi) hz,_,(r.drop (HT.sIx xs.length 0 lo)).take (HT.sIx xs.length xs.length hi-HT.sIx xs.length 0 lo),IsTup.new _ _⟩
def Qnw (K:PySem.W.Frag):R2:=fun x y H Q=>∃ a b xs ys,x=.ref a/\y=.ref b/\SqT K H a xs/\SqT K H b ys/\xs≠[]/\xs.length+ys.length<=sizeLine /\
 (ys=[]->Q (.ref a) H)/\(ys≠[]->∀ p,H p=none->Q (.ref p) (upd H p (.tup (xs++ys))))
theorem Vals.nil_iff {xs:List V} {us:List Value} (r:Vals xs us):us=[]↔xs=[]:=by
 cases r with
 | nil=>simp
 | cons _ _=>simp
theorem QsH:OpR X (binaryOp .Add) (Qnw X.K):=by
 intro pins s σ H x y v u Q I rx ry h
 obtain ⟨a,b,xs,ys,rfl,rfl,ha,hb,hx,hz,q1,q2⟩:=h
 cases rx
 cases ry
 obtain ⟨its,r1,p1,_⟩:=I.tuple ha
 obtain ⟨its2,r2,p2,_⟩:=I.tuple hb
 refine HT.cat_tup p1 p2 (fun z=>hx (r1.nil_iff.mp z)) (fun z=>⟨.ref a,H,I,rfl,q1 (r2.nil_iff.mp z)⟩) (fun z=>?_) (by rw [<- r1.length,<- r2.length];exact hz)
 refine ⟨.ref s.heap.objs.size,_,I.laid (t':=s.toks) (o:=.tup (xs++ys)) (fun b ob q=>Heap.get?_push_of_some _ q) (Nat.le_refl _) ?_,rfl,q2 (fun w=>z (r2.nil_iff.mpr w)) _ (I.hok.fresh (Nat.le_refl _))⟩
 exact ⟨by rw [List.length_append];exact hz,_,r1.append r2,IsTup.new _ _⟩
end
end L2
namespace L2
open PySem PySem.Spec PyProof.Rows
def ixN (n:Nat) (i:Int):Option Nat:=if 0<=i then (if i<n then some i.toNat else none) else if -(n:Int)<=i then some (i+n).toNat else none
def atI {α:Type} (xs:List α) (i:Int):Option α:=(ixN xs.length i).bind fun j=>xs[j]?
theorem Qs2 {n:Nat} {i:Int} {j:Nat} (h:ixN n i=some j):seqIndex? i n=some j/\j<n/\-(n:Int)<=i/\i<n:=by
 unfold ixN at h
 by_cases h0:0<=i
 ·rw [if_pos h0] at h
  by_cases h1:i<n
  ·rw [if_pos h1] at h
   have e:i.toNat=j:=Option.some.inj h
   exact ⟨by rw [seqIndex_of h0 h1,e],by omega,by omega,h1⟩
  ·rw [if_neg h1] at h;cases h
 ·rw [if_neg h0] at h
  by_cases h1:-(n:Int)<=i
  ·rw [if_pos h1] at h
   have e:(i+n).toNat=j:=Option.some.inj h
   exact ⟨by rw [seqIndex_neg (by omega) h1,e],by omega,h1,by omega⟩
  ·rw [if_neg h1] at h;cases h
theorem Qih {α:Type} {xs:List α} {i:Int} {v:α} (h:atI xs i=some v):∃ j,seqIndex? i xs.length=some j/\xs[j]?=some v/\j<xs.length/\-(xs.length:Int)<=i/\i<xs.length:=by
 unfold atI at h
 cases e:ixN xs.length i with
 | none=>rw [e] at h;cases h
 | some j =>
  rw [e] at h
  obtain ⟨h1,h2,h3,h4⟩:=Qs2 e
  exact ⟨j,h1,h,h2,h3,h4⟩
def Qij (b:Expr):Prop:=∀ o i,subscripted b false o i=operate [o,i] (getItem o i)
def IxR (X:Cx) (r:R2):Prop :=
 ∀ (value slice:Expr) (pins:List (Addr×Obj)) (s:Shared) (σ:St) (H:Hp) (x y:V) (v u:Value) (Q:VK),Inv X pins σ H s->RelV x v->RelV y u->r x y H Q ->
  subscripted slice false v u=operate [v,u] (getItem v u)->wpAny (model X.prog X.w) X.A (subscriptTail value slice v u) (EP X pins σ Q) X.xe s
def MtR (X:Cx) (id:String) (r:V->List V->Hp->VK->Prop):Prop :=
 ∀ (pins:List (Addr×Obj)) (s:Shared) (σ:St) (H:Hp) (x:V) (xs:List V) (v:Value) (us:List Value) (Q:VK),Inv X pins σ H s->RelV x v->Vals xs us->r x xs H Q ->
  wpAny (model X.prog X.w) X.A (call (.builtin id) (v::us)) (EP X pins σ Q) X.xe s
section
variable {X:Cx} {a b:Expr} {ta tb:TE} {pos:Pos}
theorem IxR.or {r r':R2} (h:IxR X r) (h':IxR X r'):IxR X (fun x y H Q=>r x y H Q\/r' x y H Q):=by
 intro value slice pins s σ H x y v u Q I rx ry q hs
 rcases q with q | q
 ·exact h value slice pins s σ H x y v u Q I rx ry q hs
 ·exact h' value slice pins s σ H x y v u Q I rx ry q hs
theorem MtR.or {id:String} {r r':V->List V->Hp->VK->Prop} (h:MtR X id r) (h':MtR X id r'):MtR X id (fun x xs H Q=>r x xs H Q\/r' x xs H Q):=by
 intro pins s σ H x xs v us Q I rx rs q
 rcases q with q | q
 ·exact h pins s σ H x xs v us Q I rx rs q
 ·exact h' pins s σ H x xs v us Q I rx rs q
theorem Qvf {r:R2} (hr:IxR X r) (ha:PE X a ta) (hb:PE X b tb) (hs:Qij b):PE X (.Subscript a b pos) (tOp r ta tb):=by
 intro pins s σ H Q I h
 exact Subscript_ (Qqu ha hb I h fun v u s2 x y H2 I2 rx ry q=>hr a b pins s2 σ H2 x y v u Q I2 rx ry q (hs _ _))
def QtA (K:PySem.W.Frag):R2:=fun x y H Q=>∃ p xs i v,x=.ref p/\y=.int i/\SqL K H p xs/\atI xs i=some v/\Q v H
def Qty (K:PySem.W.Frag):R2:=fun x y H Q=>∃ p xs i v,x=.ref p/\y=.int i/\SqT K H p xs/\atI xs i=some v/\Q v H
def Qtz:R2:=fun x y H Q=>∃ z i c,x=.str z/\y=.int i/\z.length<=sizeLine/\atI z.cps.toList i=some c/\Q (.str ⟨#[c]⟩) H
theorem ix_list:IxR X (QtA X.K):=by
 intro value slice pins s σ H x y v u Q I rx ry h hs
 obtain ⟨p,xs,i,z,rfl,rfl,hq,he,q⟩:=h
 cases rx
 obtain ⟨t,rfl⟩:=ry
 obtain ⟨its,r,pl,hz⟩:=I.list hq
 obtain ⟨j,h1,h2,h3,h4,h5⟩:=Qih he
 obtain ⟨w,ew,rw'⟩:=r.get h2
 have hl:=r.length
 have hn:=QeV
 have fin:EP X pins σ Q w s:=⟨z,H,I,rw',q⟩
 by_cases h0:0<=i
 ·have hj:i.toNat=j:=by
   rw [seqIndex_of h0 h5] at h1
   exact Option.some.inj h1
  exact item_listR pl.isList h0 (by omega) (by rw [hj];simpa using ew) fin hs
 ·have hj:(i+(its.toArray.size:Int)).toNat=j:=by
   rw [seqIndex_neg (by omega) h4] at h1
   rw [List.size_toArray,<- hl]
   exact Option.some.inj h1
  exact subscriptTail_builtinR (x:=w) pl.isList.typeIs slot_list_getitem.lookup
   (wpAny_getItem_list_neg (Q:=fun r s'=>r=w/\EP X pins σ Q r s') pl.isList (by omega) (by rw [List.size_toArray]<;>omega) (by omega) (by rw [hj];simpa using ew) ⟨rfl,fin⟩) hs
theorem ix_tup:IxR X (Qty X.K):=by
 intro value slice pins s σ H x y v u Q I rx ry h hs
 obtain ⟨p,xs,i,z,rfl,rfl,hq,he,q⟩:=h
 cases rx
 obtain ⟨t,rfl⟩:=ry
 obtain ⟨its,r,pl,hz⟩:=I.tuple hq
 obtain ⟨j,h1,h2,h3,h4,h5⟩:=Qih he
 obtain ⟨w,ew,rw'⟩:=r.get h2
 have hl:=r.length
 have hn:=QeV
 have fin:EP X pins σ Q w s:=⟨z,H,I,rw',q⟩
 exact subscriptTail_builtinR (x:=w) pl.typeIs slot_tuple_getitem.lookup
  (getItem_tuple (j:=j) (Q:=fun r s'=>r=w/\EP X pins σ Q r s') pl (by omega) (by omega) (by rw [List.size_toArray,<- hl];exact h1) (by simpa using ew) ⟨rfl,fin⟩) hs
theorem Quv:IxR X Qtz:=by
 intro value slice pins s σ H x y v u Q I rx ry h hs
 obtain ⟨z,i,c,rfl,rfl,hz,he,q⟩:=h
 obtain ⟨t,rfl⟩:=rx
 obtain ⟨t',rfl⟩:=ry
 obtain ⟨j,h1,h2,h3,h4,h5⟩:=Qih he
 have hl:z.cps.toList.length=z.length:=by simp [Str.length]
 rw [hl] at h1 h4 h5
 have hn:=QeV
 exact tail_any (typeIs_str s z t) slot_str_getitem.lookup (getItem_str (c:=c) (by
  have e1:decide (i < -(2^63:Int))=false:=decide_eq_false (by omega)
  have e2:decide (i ≥ 2^63)=false:=decide_eq_false (by omega)
  rw [e1,e2,Bool.or_false]) (by rw [h1];simpa using h2) ⟨.str ⟨#[c]⟩,H,I.tok _,⟨_,rfl⟩,q⟩) hs
def rIx (K:PySem.W.Frag):R2:=fun x y H Q=>QtA K x y H Q\/Qty K x y H Q\/Qtz x y H Q
theorem Quw:IxR X (rIx X.K):=ix_list.or (ix_tup.or Quv)
theorem Inv.lst {pins:List (Addr×Obj)} {σ:St} {H:Hp} {s:Shared} {p:Addr} {xs:List V} (I:Inv X pins σ H s) (h:H p=some (.lst xs)) :
  ∃ (its:List Value) (n:Nat),Vals xs its/\s.heap.get? p=some { cls:=.type "list",data:=.seq its.toArray n }/\xs.length<=sizeLine:=by
 obtain ⟨z,its,n,r,e⟩:=I.hok p _ h
 exact ⟨its,n,r,e,z⟩
theorem Qk3 (lo hi:Option Int) (n:Nat):(sliceBounds lo hi none n).1=((HT.sIx n 0 lo:Nat):Int)/\(sliceBounds lo hi none n).2.1=((HT.sIx n n hi:Nat):Int)/\(sliceBounds lo hi none n).2.2=1:=by
 refine ⟨?_,?_,rfl⟩
 ·cases lo with
  | none=>simp [sliceBounds,HT.sIx]
  | some i =>
   simp only [sliceBounds,HT.sIx,Option.getD_none,show (1:Int) > 0 by decide,if_true]
   by_cases h:i<0
   ·simp only [h,if_true]<;>omega
   ·simp only [h,if_false]<;>omega
 ·cases hi with
  | none=>simp [sliceBounds,HT.sIx]
  | some i =>
   simp only [sliceBounds,HT.sIx,Option.getD_none,show (1:Int) > 0 by decide,if_true]
   by_cases h:i<0
   ·simp only [h,if_true]<;>omega
   ·simp only [h,if_false]<;>omega
theorem Qjj (its:List Value) (lo hi:Option Int):slicePick its.toArray lo hi none=((its.drop (HT.sIx its.length 0 lo)).take (HT.sIx its.length its.length hi-HT.sIx its.length 0 lo)).toArray:=by
 obtain ⟨h1,h2,h3⟩:=Qk3 lo hi its.toArray.size
 unfold slicePick
 rw [h1,h2,h3]
 simp only [sliceRange_one,pick_run,List.size_toArray]<;>rfl
def QvY (K:PySem.W.Frag):V->Option Int->Option Int->Hp->VK->Prop:=fun x lo hi H Q=>∃ a xs,x=.ref a/\SqL K H a xs/\∀ p,H p=none->Q (.ref p) (upd H p (.lst (QbQ xs lo hi)))
theorem Qse:SlR X (QvY X.K):=by
 intro pins s σ H x v vl vu lo hi sl Q I rx hs pl pu h
 obtain ⟨a,xs,rfl,hx,q⟩:=h
 cases rx
 obtain ⟨its,r,ht,hz⟩:=I.list hx
 have hlen:=r.length
 refine ⟨"list",_,slot_list_getitem.lookup,ht.isList.typeIs,?_⟩
 refine wpAny_getItem_list_slice ht.isList hs pl pu .none (by simp) ?_ (by rw [List.size_toArray]<;>omega)
 rw [Qjj,<- hlen]
 refine ⟨.ref s.heap.objs.size,_,I.laid (t':=s.toks) (o:=.lst (QbQ xs lo hi)) (fun b ob q=>Heap.get?_push_of_some _ q) (Nat.le_refl _) ?_,rfl,q _ (I.hok.fresh (Nat.le_refl _))⟩
 exact ⟨Nat.le_trans (QfV xs lo hi) hz,_,0,(r.drop (HT.sIx xs.length 0 lo)).take (HT.sIx xs.length xs.length hi-HT.sIx xs.length 0 lo),Heap.get?_push_size _ rfl⟩
def Qbm:V->Bool
 | .non=>true
 | .bl _=>true
 | .int _=>true
 | .str _=>true
 | _=>false
def eqV:V->V->Bool
 | .non,.non=>true
 | .bl a,.bl b=>a==b
 | .bl a,.int b=>(if a then 1 else 0)==b
 | .int a,.bl b=>a==(if b then 1 else 0)
 | .int a,.int b=>a==b
 | .str a,.str b=>a==b
 | _,_=>false
theorem QuF {A:Around} {s:Shared} {y x:V} {u v:Value} (ry:RelV y u) (rx:RelV x v) (fy:Qbm y=true) (fx:Qbm x=true):SeqAt.EqAt A s u v (eqV y x):=by
 cases y with
 | non =>
  cases ry
  cases x with
  | non=>cases rx;exact SeqAt.EqAt.same _
  | bl b=>cases rx;exact SeqAt.EqAt.none_bool b
  | int b=>obtain ⟨t,rfl⟩:=rx;exact SeqAt.EqAt.none_int b t
  | str b=>obtain ⟨t,rfl⟩:=rx;exact SeqAt.EqAt.none_str b t
  | _=>exact absurd (show false=true from fx) Bool.false_ne_true
 | bl a =>
  cases ry
  cases x with
  | non=>cases rx;exact SeqAt.EqAt.bool_none a
  | bl b=>cases rx;exact SeqAt.EqAt.bool_bool a b
  | int b=>obtain ⟨t,rfl⟩:=rx;exact SeqAt.EqAt.bool_int a b t
  | str b=>obtain ⟨t,rfl⟩:=rx;exact SeqAt.EqAt.bool_str a b t
  | _=>exact absurd (show false=true from fx) Bool.false_ne_true
 | int a =>
  obtain ⟨t',rfl⟩:=ry
  cases x with
  | non=>cases rx;exact SeqAt.EqAt.int_none a t'
  | bl b=>cases rx;exact SeqAt.EqAt.int_bool a t' b
  | int b=>obtain ⟨t,rfl⟩:=rx;exact SeqAt.EqAt.int_int a t' b t
  | str b=>obtain ⟨t,rfl⟩:=rx;exact SeqAt.EqAt.int_str a t' b t
  | _=>exact absurd (show false=true from fx) Bool.false_ne_true
 | str a =>
  obtain ⟨t',rfl⟩:=ry
  cases x with
  | non=>cases rx;exact SeqAt.EqAt.str_none a t'
  | bl b=>cases rx;exact SeqAt.EqAt.str_bool a t' b
  | int b=>obtain ⟨t,rfl⟩:=rx;exact SeqAt.EqAt.str_int a t' b t
  | str b=>obtain ⟨t,rfl⟩:=rx;exact SeqAt.EqAt.str_str a t' b t
  | _=>exact absurd (show false=true from fx) Bool.false_ne_true
 | _=>exact absurd (show false=true from fy) Bool.false_ne_true
def eqU (x:V) (u:Value):Bool:=match u with
 | .none=>eqV .non x
 | .bool b=>eqV (.bl b) x
 | .int i _=>eqV (.int i) x
 | .str z _=>eqV (.str z) x
 | _=>false
theorem QoN {x y:V} {u:Value} (r:RelV y u) (f:Qbm y=true):eqU x u=eqV y x:=by
 cases y with
 | non=>cases r;rfl
 | bl b=>cases r;rfl
 | int i=>obtain ⟨t,rfl⟩:=r;rfl
 | str z=>obtain ⟨t,rfl⟩:=r;rfl
 | _=>exact absurd (show false=true from f) Bool.false_ne_true
theorem QdG {x:V}:∀ {xs:List V} {us:List Value},Vals xs us->xs.all Qbm=true->us.any (eqU x)=xs.any fun y=>eqV y x
 | _,_,.nil,_=>rfl
 | y::xs,u::us,.cons r t,f=>by
  rw [List.all_cons,Bool.and_eq_true] at f
  rw [List.any_cons,List.any_cons,QoN r f.1,QdG t f.2]
theorem Qct {A:Around} {s:Shared} {x:V} {v:Value} (rx:RelV x v) (fx:Qbm x=true):∀ {xs:List V} {us:List Value},Vals xs us->xs.all Qbm=true->∀ u∈us,SeqAt.EqAt A s u v (eqU x u)
 | _,_,.nil,_=>fun u hu=>by cases hu
 | y::xs,u::us,.cons r t,f=>fun u' hu=>by
  rw [List.all_cons,Bool.and_eq_true] at f
  rcases List.mem_cons.mp hu with rfl | hu
  ·rw [QoN r f.1];exact QuF r rx f.1 fx
  ·exact Qct rx fx t f.2 u' hu
def inV (x:V) (xs:List V):Bool:=xs.any fun y=>eqV y x
def rIn (K:PySem.W.Frag) (neg:Bool):R2:=fun x y H Q=>∃ p xs,y=.ref p/\(SqL K H p xs\/SqT K H p xs)/\Qbm x=true/\xs.all Qbm=true/\Q (.bl (if neg then !inV x xs else inV x xs)) H
theorem Qpo:OpR X (compareOp .In) (rIn X.K false):=by
 intro pins s σ H x y v u Q I rx ry h
 obtain ⟨p,xs,rfl,hq,fx,fs,q⟩:=h
 cases ry
 rcases hq with hq | hq
 ·obtain ⟨its,r,pl,hz⟩:=I.list hq
  refine SeqAt.in_listAt (eqU x) pl.isList (fun w hw=>Qct rx fx r fs w (by simpa using hw)) ⟨.bl _,H,I,rfl,?_⟩
  rw [show its.toArray.any (eqU x)=its.any (eqU x) by simp,QdG r fs]
  exact q
 ·obtain ⟨its,r,pl,hz⟩:=I.tuple hq
  refine SeqAt.in_tupleAt (eqU x) pl (fun w hw=>Qct rx fx r fs w (by simpa using hw)) ⟨.bl _,H,I,rfl,?_⟩
  rw [show its.toArray.any (eqU x)=its.any (eqU x) by simp,QdG r fs]
  exact q
theorem Qle:OpR X (compareOp .NotIn) (rIn X.K true):=by
 intro pins s σ H x y v u Q I rx ry h
 obtain ⟨p,xs,rfl,hq,fx,fs,q⟩:=h
 cases ry
 rcases hq with hq | hq
 ·obtain ⟨its,r,pl,hz⟩:=I.list hq
  refine SeqAt.notIn_listAt (eqU x) pl.isList (fun w hw=>Qct rx fx r fs w (by simpa using hw)) ⟨.bl _,H,I,rfl,?_⟩
  rw [show its.toArray.any (eqU x)=its.any (eqU x) by simp,QdG r fs]
  exact q
 ·obtain ⟨its,r,pl,hz⟩:=I.tuple hq
  refine SeqAt.notIn_tupleAt (eqU x) pl (fun w hw=>Qct rx fx r fs w (by simpa using hw)) ⟨.bl _,H,I,rfl,?_⟩
  rw [show its.toArray.any (eqU x)=its.any (eqU x) by simp,QdG r fs]
  exact q
theorem QlB:CallR X (.builtin "len") (fun xs H Q=>∃ p ys,xs=[.ref p]/\(SqL X.K H p ys\/SqT X.K H p ys)/\Q (.int ys.length) H):=by
 intro pins s σ H xs us Q I r h
 obtain ⟨p,ys,rfl,hq,q⟩:=h
 obtain ⟨u,rfl,rx⟩:=Qbj r
 cases rx
 have hn:=QeV
 rcases hq with hq | hq
 ·obtain ⟨its,r',pl,hz⟩:=I.list hq
  have hlen:=r'.length
  exact Calls.call_len_list pl.isList (by simp only [List.size_toArray]<;>omega) ⟨.int ys.length,H,I.tok _,⟨s.toks+1,by rw [List.size_toArray,hlen]⟩,q⟩
 ·obtain ⟨its,r',pl,hz⟩:=I.tuple hq
  have hlen:=r'.length
  exact len_tuple pl (by simp only [List.size_toArray]<;>omega) ⟨.int ys.length,H,I.tok _,⟨s.toks+1,by rw [List.size_toArray,hlen]⟩,q⟩
theorem QlA:CallR X (.builtin "len") (fun xs H Q=>∃ z,xs=[.str z]/\z.length<=sizeLine/\Q (.int z.length) H):=by
 intro pins s σ H xs us Q I r h
 obtain ⟨z,rfl,hz,q⟩:=h
 obtain ⟨u,rfl,t,rfl⟩:=Qbj r
 have hn:=QeV
 exact len_str (by omega) ⟨.int z.length,H,I.tok _,⟨_,rfl⟩,q⟩
theorem CallR.or {f:Value} {r r':List V->Hp->VK->Prop} (h:CallR X f r) (h':CallR X f r'):CallR X f (fun xs H Q=>r xs H Q\/r' xs H Q):=by
 intro pins s σ H xs us Q I rs q
 rcases q with q | q
 ·exact h pins s σ H xs us Q I rs q
 ·exact h' pins s σ H xs us Q I rs q
theorem Qlz:CallR X (.type "list") (fun xs H Q=>∃ p ys,xs=[.ref p]/\(SqL X.K H p ys\/SqT X.K H p ys)/\∀ l,H l=none->Q (.ref l) (upd H l (.lst ys))):=by
 intro pins s σ H xs us Q I r h
 obtain ⟨p,ys,rfl,hq,q⟩:=h
 obtain ⟨u,rfl,rx⟩:=Qbj r
 cases rx
 have fin:∀ (its:List Value),Vals ys its->ys.length<=sizeLine->∀ (h':Heap) (c':Nat),(∀ b o',s.heap.get? b=some o'->h'.get? b=some o') ->
   h'.get? s.heap.objs.size=some { cls:=.type "list",dict:=none,data:=.seq its.toArray c',slots:=#[] }->EP X pins σ Q (.ref s.heap.objs.size) { s with heap:=h' }:=fun its r' hz h' c' kp e =>
  ⟨.ref s.heap.objs.size,_,I.laid (t':=s.toks) kp (Nat.le_refl _) (show ObjOk X.prog X.w _ h' _ (.lst ys) from ⟨hz,its,c',r',e⟩),rfl,q _ (I.hok.fresh (Nat.le_refl _))⟩
 rcases hq with hq | hq
 ·obtain ⟨its,r',pl,hz⟩:=I.list hq
  have hlen:=r'.length
  obtain ⟨o,ho,hc,n,hd⟩:=pl.isList
  exact call_list_seq p (.inl rfl) ho hc hd (fun h' c' kp e=>fin its r' hz h' c' kp e) (by simp only [List.size_toArray]<;>omega)
 ·obtain ⟨its,r',pl,hz⟩:=I.tuple hq
  have hlen:=r'.length
  obtain ⟨o,ho,hc,n,hd⟩:=pl
  exact call_list_seq p (.inr rfl) ho hc hd (fun h' c' kp e=>fin its r' hz h' c' kp e) (by simp only [List.size_toArray]<;>omega)
def tyV (K:PySem.W.Frag) (T:String) (x:V) (H:Hp):Prop:=match x with
 | .str _=>T="str"
 | .int _=>T="int"
 | .ref p=>(T="list"/\∃ xs,SqL K H p xs)\/(T="tuple"/\∃ o,K.lookup p=some o/\o.cls=.type "tuple"/\o.dict=none) \/
   (T="dict"/\((∃ kvs,H p=some (.dK kvs))\/∃ kvs,H p=some (.dT kvs)))\/(T="set"/\∃ S n,H p=some (.set S n))
 | _=>False
theorem Qos {pins:List (Addr×Obj)} {σ:St} {H:Hp} {s:Shared} {T:String} {x:V} {v:Value} (I:Inv X pins σ H s) (r:RelV x v) (ty:tyV X.K T x H) :
  s.TypeIs v T/\∀ a,v=.ref a->∃ ob,s.heap.get? a=some ob/\ob.dict=none:=by
 cases x with
 | str z =>
  obtain ⟨t,rfl⟩:=r
  cases (show T="str" from ty)
  exact ⟨typeIs_str s z t,fun _ e=>nomatch e⟩
 | int i =>
  obtain ⟨t,rfl⟩:=r
  cases (show T="int" from ty)
  exact ⟨typeIs_int s i t,fun _ e=>nomatch e⟩
 | ref p =>
  cases r
  rcases ty with ⟨rfl,xs,hq⟩ | ⟨rfl,o,hk,hc,hd⟩ | ⟨rfl,hk⟩ | ⟨rfl,S,n,hk⟩
  ·obtain ⟨its,_,pl,_⟩:=I.list hq
   refine ⟨pl.isList.typeIs,fun a e=>?_⟩
   cases e
   obtain ⟨o,n,e,c,hd,_⟩:=pl
   exact ⟨o,e,hd⟩
  ·refine ⟨⟨o,I.kIn p o hk,hc⟩,fun a e=>?_⟩
   cases e
   exact ⟨o,I.kIn _ o hk,hd⟩
  ·have z:∃ o,s.heap.get? p=some o/\o.ExactDict:=by
    rcases hk with ⟨kvs,hk⟩ | ⟨kvs,hk⟩
    ·obtain ⟨_,_,_,_,o,_,_,e,ex,_⟩:=I.hok p _ hk
     exact ⟨o,e,ex⟩
    ·obtain ⟨_,_,_,_,o,_,_,e,ex,_⟩:=I.hok p _ hk
     exact ⟨o,e,ex⟩
   obtain ⟨o,e,ex⟩:=z
   refine ⟨⟨o,e,ex.1⟩,fun a e2=>?_⟩
   cases e2
   exact ⟨o,e,ex.2.1⟩
  ·obtain ⟨o,_,_,_,e,ex,_⟩:=I.hok p _ hk
   refine ⟨⟨o,e,ex.1⟩,fun a e2=>?_⟩
   cases e2
   exact ⟨o,e,ex.2.1⟩
 | _=>exact False.elim ty
def QvU (K:PySem.W.Frag) (T:String) (r:V->List V->Hp->VK->Prop) (to:TE):TE:=fun σ H Q=>to σ H fun x H1=>tyV K T x H1/\r x [] H1 Q
def tBM (K:PySem.W.Frag) (T:String) (r:V->List V->Hp->VK->Prop) (to:TE) (t:TA):TE:=fun σ H Q=>to σ H fun x H1=>tyV K T x H1/\t σ H1 fun xs H2=>r x xs H2 Q
variable {o e:Expr} {es:List Expr} {to:TE} {t:TA} {name:Str} {apos cpos:Pos} {T id:String} {r:V->List V->Hp->VK->Prop}
theorem Qt7 (pa:PlainAttrs T) (slot:Slot T name id) (hty:typeOf (.builtin id)=pure (.type "method_descriptor")) (hm:MtR X id r) (ho:PE X o to)
  (hbase:attributeBase o name X.env (eval o X.env)=eval o X.env:=by rfl) (hline:(apos.endLine==cpos.line)=true:=by rfl):PE X (.Call (.Attribute o name apos) [] [] cpos) (QvU X.K T r to):=by
 intro pins s σ H Q I h
 refine wpAny_Call_method0_late hbase hline (thn (ho pins s σ H _ I h) fun v s1 ⟨x,H1,I1,r1,ty,q1⟩=>?_)
 obtain ⟨h1,h2⟩:=Qos I1 r1 ty
 exact ⟨T,id,pa,slot,hty,h1,h2,Calls.callWith_builtin rfl (PySem.evalArgs_none (hm pins s1 σ H1 x [] v [] Q I1 r1 .nil q1))⟩
theorem QrP (pa:PlainAttrs T) (slot:Slot T name id) (hty:typeOf (.builtin id)=pure (.type "method_descriptor")) (hm:MtR X id r) (ho:PE X o to) (ha:PA X (e::es) t)
  (hbase:attributeBase o name X.env (eval o X.env)=eval o X.env:=by rfl)
  (hfew:((backTo cpos (starEach (e::es) X.env)).all (fun x=>!x.1)&&(backToKw cpos (keywordEach [] X.env)).all (fun x=>x.1.isSome)
   && decide ((e::es).length+([]:List Keyword).length+(if ([]:List Keyword).isEmpty then 0 else 1)<30))=true:=by rfl)
  (hline:(apos.endLine==cpos.line)=true:=by rfl) (hs:starEach (e::es) X.env=(false,eval e X.env)::starEach es X.env:=by rfl) (hplain:(backTo cpos (starEach es X.env)).any (·.1)=false:=by rfl) :
  PE X (.Call (.Attribute o name apos) (e::es) [] cpos) (tBM X.K T r to t):=by
 intro pins s σ H Q I h
 refine wpAny_Call_method_late hbase hfew hline rfl (thn (ho pins s σ H _ I h) fun v s1 ⟨x,H1,I1,r1,ty,q1⟩=>?_)
 obtain ⟨h1,h2⟩:=Qos I1 r1 ty
 refine ⟨T,id,pa,slot,hty,h1,h2,?_⟩
 have hA:=ha cpos pins s1 σ H1 _ I1 q1
 rw [hs] at hA ⊢
 refine Calls.callWith_builtin (by show (false||(backTo cpos (starEach es X.env)).any (·.1))=false;rw [hplain]<;>rfl) (Calls.evalArgs_plain ?_)
 exact thn hA fun us s2 ⟨vs,H2,I2,r2,q2⟩=>hm pins s2 σ H2 x vs v us Q I2 r1 r2 q2
end
end L2
namespace L2
open PySem PySem.Spec PyProof.Rows
def MtM (X:Cx) (id:String) (r:V->List V->Hp->VK->Prop):Prop :=
 ∀ (pins:List (Addr×Obj)) (s:Shared) (σ:St) (H:Hp) (x:V) (xs:List V) (v:Value) (us:List Value) (Q:VK),Inv X pins σ H s->RelV x v->Vals xs us->r x xs H Q ->
  wpAny (model X.prog X.w) X.A (call (.builtin id) (v::us)) (EP X pins σ Q) X.xe s
theorem Vals.one:∀ {x:V} {us:List Value},Vals [x] us->∃ u,us=[u]/\RelV x u
 | _,_,.cons r .nil=>⟨_,rfl,r⟩
theorem Vals.zero:∀ {us:List Value},Vals [] us->us=[]
 | _,.nil=>rfl
theorem Vals.rep {xs:List V} {us:List Value} (h:Vals xs us):∀ k:Nat,Vals (List.replicate k xs).flatten (List.replicate k us).flatten
 | 0=>.nil
 | k+1=>by
  rw [List.replicate_succ,List.replicate_succ,List.flatten_cons,List.flatten_cons]
  exact Vals.append h (Vals.rep h k)
theorem QiR (its:List Value):∀ (k:Nat) (acc:List Value),
  List.foldl (fun x1 x2=>x1++x2) acc.toArray (List.replicate k its.toArray)=(acc++(List.replicate k its).flatten).toArray
 | 0,acc=>by simp
 | k+1,acc=>by
  have e:acc.toArray++its.toArray=(acc++its).toArray:=by simp
  have e2:(acc++its)++(List.replicate k its).flatten=acc++(List.replicate (k+1) its).flatten:=by
   rw [List.replicate_succ,List.flatten_cons,List.append_assoc]
  rw [<- e2,<- QiR its k (acc++its),<- e,List.replicate_succ,List.foldl_cons]
section
variable {X:Cx} {pins:List (Addr×Obj)} {σ:St} {H:Hp} {s:Shared} {l b:Addr} {xs ys zs:List V}
theorem Inv.lset {its its':List Value} {n:Nat} {f:Array Value->Array Value} {t':Nat} (I:Inv X pins σ H s) (hH:H l=some (.lst xs))
  (e:s.heap.get? l=some { cls:=.type "list",data:=.seq its.toArray n }) (hf:f its.toArray=its'.toArray) (hv:Vals ys its') (hz:ys.length<=sizeLine) :
  Inv X pins σ (upd H l (.lst ys)) { s with heap:=s.heap.update l (Obj.mapSeq f),toks:=t' }:=by
 have q:=PySem.IsL.update e f
 rw [hf] at q
 refine I.write (x:=l) (e:=l) (by rw [hH];exact trivial) (.inl rfl) (fun b' u hb hu=>(Heap.get?_update_other s.heap (Obj.mapSeq f) (Ne.symm hb)).trans hu) ⟨_,q⟩ ?_
 exact ⟨hz,its',_,hv,q⟩
theorem Inv.lnew {its:List Value} {t':Nat} (I:Inv X pins σ H s) (hv:Vals ys its) (hz:ys.length<=sizeLine) :
  Inv X pins σ (upd H s.heap.objs.size (.lst ys)) { s with heap:=s.heap.push { cls:=.type "list",data:=.seq its.toArray },toks:=t' } :=
 I.laid (fun _ _ q=>Heap.get?_push_of_some _ q) (Nat.le_refl _) ⟨hz,its,0,hv,Heap.get?_push_size _ rfl⟩
theorem Inv.fresh (I:Inv X pins σ H s):H s.heap.objs.size=none:=I.hok.fresh (Nat.le_refl _)
theorem Inv.lstM (I:Inv X pins σ H s) (hH:H l=some (.lst xs)):xs.length<=sizeLine/\∃ (its:List Value) (n:Nat),Vals xs its/\xs.length=its.length/\s.heap.get? l=some { cls:=.type "list",data:=.seq its.toArray n }:=by
 obtain ⟨z,its,n,r,e⟩:=I.hok l _ hH
 exact ⟨z,its,n,r,r.length,e⟩
theorem Qkl {n:Nat} (h:n<=sizeLine):Builtin.List.listTooLong n=false:=by
 unfold Builtin.List.listTooLong
 exact decide_eq_false (by omega)
end
section
variable {X:Cx}
def Qso:V->List V->Hp->VK->Prop:=fun x vs H Q=>∃ l xs y,x=.ref l/\vs=[y]/\H l=some (.lst xs)/\xs.length<sizeLine/\Q .non (upd H l (.lst (xs++[y])))
theorem QiM:MtM X "list.append" Qso:=by
 intro pins s σ H x vs v us Q I rx rv h
 obtain ⟨l,xs,y,rfl,rfl,hH,hz,q⟩:=h
 cases rx
 obtain ⟨u,rfl,ru⟩:=rv.one
 obtain ⟨z,its,n,r,hl,e⟩:=I.lstM hH
 refine call_meets F.slot_list_append ⟨_,e,rfl⟩ F.entry_list_append (F.args_list_append_2 _ _) (PySem.list_append l its.toArray n u (by rw [List.size_toArray];omega)) ⟨e,?_⟩
 refine ⟨.non,_,I.lset (its':=its++[u]) hH e (by simp) (r.append (.cons ru .nil)) ?_,rfl,q⟩
 rw [List.length_append,List.length_singleton]
 omega
def Qsn:V->List V->Hp->VK->Prop:=fun x vs H Q=>∃ l b xs zs,x=.ref l/\vs=[.ref b]/\H l=some (.lst xs)/\H b=some (.lst zs)/\xs.length+zs.length<=sizeLine/\Q .non (upd H l (.lst (xs++zs)))
theorem QpE:MtM X "list.extend" Qsn:=by
 intro pins s σ H x vs v us Q I rx rv h
 obtain ⟨l,b,xs,zs,rfl,rfl,hH,hB,hz,q⟩:=h
 cases rx
 obtain ⟨u,rfl,ru⟩:=rv.one
 cases ru
 obtain ⟨z,its,n,r,hl,e⟩:=I.lstM hH
 obtain ⟨z2,its2,n2,r2,hl2,e2⟩:=I.lstM hB
 have hsz:its.toArray.size+its2.toArray.size<=sizeLine:=by rw [List.size_toArray,List.size_toArray];omega
 have hlong:¬ (!its.toArray.isEmpty&&Builtin.List.listTooLong (its.toArray.size+its2.toArray.size))=true:=by
  rw [Qkl hsz,Bool.and_false]
  exact Bool.false_ne_true
 refine call_meets F.slot_list_extend ⟨_,e,rfl⟩ F.entry_list_extend (F.args_list_extend_2 _ _)
  (AutoSeq1.list_extend_list_list_0 l its.toArray n b its2.toArray n2 hlong (by rw [List.size_toArray];omega) (by omega)) ⟨e,e2,?_⟩
 refine ⟨.non,_,I.lset (its':=its++its2) hH e (by simp) (r.append r2) ?_,rfl,q⟩
 rw [List.length_append]
 omega
def Qqq:R2:=fun x y H Q=>∃ l b xs zs,x=.ref l/\y=.ref b/\H l=some (.lst xs)/\H b=some (.lst zs)/\xs.length+zs.length<=sizeLine/\∀ p,H p=none->Q (.ref p) (upd H p (.lst (xs++zs)))
theorem Qug:OpR X (binaryOp .Add) Qqq:=by
 intro pins s σ H x y v u Q I rx ry h
 obtain ⟨l,b,xs,zs,rfl,rfl,hH,hB,hz,q⟩:=h
 cases rx
 cases ry
 obtain ⟨z,its,n,r,hl,e⟩:=I.lstM hH
 obtain ⟨z2,its2,n2,r2,hl2,e2⟩:=I.lstM hB
 refine PySem.P.add_list e e2 ?_ (by rw [List.size_toArray,List.size_toArray];omega)
 have ea:its.toArray++its2.toArray=(its++its2).toArray:=by simp
 rw [ea]
 exact ⟨.ref _,_,I.lnew (t':=s.toks) (r.append r2) (by rw [List.length_append];omega),rfl,q _ I.fresh⟩
def Qqo:R2:=fun x y H Q=>∃ l k xs,x=.ref l/\y=.int k/\H l=some (.lst xs)/\-(2^63)<=k/\k<2^63/\xs.length*k.toNat<=sizeLine /\
 ∀ p,H p=none->Q (.ref p) (upd H p (.lst (List.replicate k.toNat xs).flatten))
theorem QsV {α:Type} (xs:List α) (k:Nat):(List.replicate k xs).flatten.length=k*xs.length:=by
 induction k with
 | zero=>simp
 | succ k ih=>rw [List.replicate_succ,List.flatten_cons,List.length_append,ih,Nat.succ_mul,Nat.add_comm]
theorem Qub:OpR X (binaryOp .Mult) Qqo:=by
 intro pins s σ H x y v u Q I rx ry h
 obtain ⟨l,k,xs,rfl,rfl,hH,h1,h2,hz,q⟩:=h
 cases rx
 obtain ⟨t,rfl⟩:=ry
 obtain ⟨z,its,n,r,hl,e⟩:=I.lstM hH
 have hlen:its.toArray.size*k.toNat<=sizeLine:=by rw [List.size_toArray,<- hl];exact hz
 have hcap:¬ its.toArray.size*k.toNat > (2^63-1)/8:=by
  have:(sizeLine:Nat)<=(2^63-1)/8:=by decide
  omega
 have hfit:¬ (!Builtin.List.listFitsIndex k)=true:=by
  rw [fitsIndex_both h1 h2]
  exact Bool.false_ne_true
 have hlong:¬ Builtin.List.listTooLong (its.toArray.size*k.toNat)=true:=by
  rw [Qkl hlen]
  exact Bool.false_ne_true
 have hnew:List.foldl (fun x1 x2=>x1++x2) #[] (List.replicate (if its.toArray.isEmpty=true then 0 else k.toNat) its.toArray)=(List.replicate k.toNat its).flatten.toArray:=by
  have f0:∀ m:Nat,List.foldl (fun x1 x2=>x1++x2) #[] (List.replicate m its.toArray)=(List.replicate m its).flatten.toArray:=fun m=>by
   have:=QiR its m []
   rw [List.nil_append] at this
   exact this
  rw [f0]
  cases its with
  | nil=>simp
  | cons a r'=>rw [if_neg (by simp)]
 refine wpAny_binaryOp_repeat_ref (T:="list") (U:="int") (by decide) ⟨_,e,rfl⟩ (fun s'=>typeIs_int s' k t) noFill_list_mul F.fills_int_mul F.slot_int_rmul repeat_list F.slot_int_index.lookup
  (call_meets F.slot_int_rmul (typeIs_int s k t) F.entry_int_rmul (F.args_int_rmul_2 _ _) (int___rmul___int_list k t l its.toArray n)
   ⟨e,rfl,⟨_,e,rfl⟩,call_meets F.slot_list_mul ⟨_,e,rfl⟩ F.entry_list_mul (F.args_list_mul_2 _ _) (AutoListH.list___mul___list_int_3 l its.toArray n k t hfit hcap hlong) ⟨e,?_⟩⟩)
 rw [hnew]
 exact ⟨.ref _,_,I.lnew (t':=s.toks) (r.rep k.toNat) (by rw [QsV,Nat.mul_comm];exact hz),rfl,q _ I.fresh⟩
end
section
variable {prog:Program} {w:World} {A:Around} {E:Value->Shared->Prop} {s:Shared}
end
section
variable {X:Cx}
end
end L2
namespace Att
open PySem PySem.W PySem.Calls PyProof.Rows
theorem QhI {P:Params} {h:Heap}:∀ (ns:List Int) (vs:List Value),WellAll P h vs (ns.map WData.int)->IntsAre vs ns:=by
 intro ns
 induction ns with
 | nil =>
  intro vs w
  rw [List.map_nil] at w
  cases w
  exact .nil
 | cons n ns ih =>
  intro vs w
  rw [List.map_cons] at w
  cases w with
  | cons a b =>
   cases a
   exact .cons _ _ (ih _ b)
theorem Qo6 {l:OpenLaw} {n:Nat} (hn:l.most=some n) {P:Params} {h:Heap} {args:List WData} {vals:List Value}
  (hpre:l.row.toRowW.claim.pre args=true) (hwl:WellAll P h vals args) :
  ∃ a vs ns,vals=[Value.ref a]/\args=[WData.list (ns.map WData.int)]/\h.get? a=some { cls:=.type "list",data:=.seq vs.toArray }/\IntsAre vs ns/\ns.length<=n:=by
 have hsh:WShape.hasAll [] args [.list .int]=true:=(pre_splitW hpre).1
 have hc:l.pre.holds [] { args:=args }=true:=(pre_splitW hpre).2
 obtain ⟨d,r,rfl,h1,h2⟩:=hasAllW_cons hsh
 obtain rfl:=hasAllW_nil h2
 obtain ⟨xs,rfl,h3⟩:=hasW_list h1
 obtain ⟨ns,rfl⟩:=items_int h3
 have hlen:ns.length<=n:=by
  unfold OpenLaw.pre at hc
  have h4:(WTm.not (.lt (.lit (.int (n:Int))) (.len (.arg 0)))).holds [] { args:=[.list (ns.map .int)] }=true:=by
   have h4:=(holds_andW hc).1
   rw [hn] at h4
   exact h4
  have h5:=condW_of h4 (w_not (w_lt w_lit (w_len_list (w_arg rfl))))
  rw [List.length_map] at h5
  refine Nat.le_of_not_lt fun q=>?_
  have q':(n:Int)<((ns.length:Nat):Int):=by omega
  first
   | (rw [decide_eq_true q'] at h5;exact absurd h5 (by decide))
   | (simp at h5;omega)
 cases hwl with
 | cons w1 w2 =>
  cases w2
  cases w1 with
  | list ho hall=>exact ⟨_,_,ns,rfl,rfl,ho,QhI ns _ hall,hlen⟩
theorem Qph (l:OpenLaw) (args:List WData):l.row.toRowW.claim.post args (.bool true) args=true :=
 postW_of (r:=l.row.toRowW) (X:=(true==true))
  (show WShape.has [] (.bool true) .bool=true by first | rfl | decide | simp [WShape.has,WShape.arms,WShape.armsAll])
  (show (WTm.eq .res (.lit (.bool true))).value [] { args:=args,res:=some (.bool true),after:=args }=some (.bool (true==true)) from w_eq_bool (w_res rfl) w_lit) rfl
theorem attach_call {l:OpenLaw} {n:Nat} {q:Program} {loose:List Str} {XP:(Str->Option Value)->Heap->Prop} {YP:World->Heap->Prop} {d:DefRec}
  (hn:l.most=some n) (hdf:d.params.defaults=[])
  (call:∀ (w:World) (s₀ s₁:Shared) (mg mb:Str->Option Value) (fa:Addr) (o:Obj) (pm cd doc:Value) (a:Addr) (vs:List Value) (ns:List Int),
   Ground q loose [] XP w s₀ mg mb s₁.heap->YP w s₁.heap ->
   s₁.heap.get? fa=some o->o.data=.func (docDef d.name d.params d.body d.scope pm cd doc)->s₁.heap.CodeRec cd d.name->mg d.name=some (.ref fa) ->
   s₁.heap.get? a=some { cls:=.type "list",data:=.seq vs.toArray }->IntsAre vs ns->ns.length<=n->s₁.gens=#[] ->
   codeAny (model l.prog w) callerA (.call (.ref fa) ⟨[.ref a],[]⟩) (fun r s'=>r=.ok (.ret (.bool true))/\OldK s₁.heap s'.heap/\s'.os=s₁.os/\AllBare s'.gens) s₁) :
  WalkO q loose XP YP l.row.toRowW d [] (fun f vs=>PySem.call f vs):=by
 intro w s₀ s₁ mg mb G Y fa o pm cd doc dV kV ho hd hcd hD hmg hg args vals as hpre hlay hrd hwl hlo
 obtain rfl:dV=.none:=Dflts.none hD hdf
 obtain rfl:kV=.none:=Dflts.noKw hD
 obtain ⟨a,vs,ns,rfl,rfl,hobj,hints,hlen⟩:=Qo6 hn hpre hwl
 refine enter_call (codeAny_mono (call w s₀ s₁ mg mb fa o pm cd doc a vs ns G Y ho (fd_plain hd) hcd hmg hobj hints hlen hg) fun r s' hq=>?_)
 obtain ⟨rfl,h2,h3,h4⟩:=hq
 exact ⟨.inl ⟨.bool true,.bool true,[],rfl,fun _=>rfl,.bool true,Qph l _,fun _=>⟨List.Pairwise.nil,fun _ hm=>(nomatch hm)⟩⟩,h2,h3,h4⟩
section
variable {prog:Program} {w:World} {A:Around} {E:Value->Shared->Prop} {s:Shared} {K:Frag}
end
end Att
namespace L2
open PySem PySem.Spec PyProof.Rows
theorem QiC:∀ {vs:List Value} {ns:List Int},IntsAre vs ns->Vals (ns.map V.int) vs
 | _,_,.nil=>.nil
 | _,_,.cons n t h=>.cons ⟨t,rfl⟩ (QiC h)
def Qqw (H:Hp):Prop:=∀ b,H b=none\/∃ o xs,H b=some (.frz o (.lst xs))
theorem Qre {P:Program} {w:World} {K:PySem.W.Frag} {mg mb:Str->Option Value} {CX:CXT} {k:Nat} {fa a:Addr} {fd:FuncData} {x:Str} {sp:Sp} {s₁:Shared} {vs:List Value} {ns:List Int}
  (KX:K.In s₁.heap) (hns:s₁.heap.Ns mainGlobals mg) (hb:s₁.heap.Ns builtinsNs mb) (hbb:∀ x:Str,x≠"__name__"->mb x=bootBuiltins x) (hlim:s₁.heap.NoLimit) (hg:s₁.gens=#[])
  (ha:s₁.heap.get? a=some { cls:=.type "list",data:=.seq vs.toArray }) (hi:IntsAre vs ns) (hl:ns.length<=sizeLine) (hr:Room k callerA)
  (F:∀ base:Heap,K.In base->base.Ns mainGlobals mg->FnOk P w K mg base CX k fa fd [x] sp) (hbind:∀ (s:Shared) (u:Value),BindsTo s fd ⟨[u],[]⟩ [(x,u)])
  (hsp:∀ H:Hp,Qqw H->SqL K H a (ns.map V.int)->sp [.ref a] H (fun v _=>v=.bl true) fun _ _ _=>False)
  (hCX:∀ H e s',CX [] H s₁ (fun _ _ _=>False) e s'->False) :
  codeAny (model P w) callerA (.call (.ref fa) ⟨[.ref a],[]⟩) (fun r s'=>r=.ok (.ret (.bool true))/\OldK s₁.heap s'.heap/\s'.os=s₁.os/\AllBare s'.gens) s₁:=by
 have rv:=QiC hi
 have lenV:=hi.length
 have core:∀ H:Hp,Qqw H->SqL K H a (ns.map V.int)->HOk P w H s₁.heap->(∀ b,H b≠none->b=a)->(H a≠none->K.lookup a=none) ->
   codeAny (model P w) callerA (.call (.ref fa) ⟨[.ref a],[]⟩) (fun r s'=>r=.ok (.ret (.bool true))/\OldK s₁.heap s'.heap/\s'.os=s₁.os/\AllBare s'.gens) s₁:=by
  intro H hO hS hok hA hK
  have base_of:∀ {b:Addr} {o:Obj},s₁.heap.get? b=some o->H b=none->(QdQ s₁.heap H).get? b=some o:=fun e n=>Qrj e n
  have noA:∀ {b:Addr} {o:Obj} {es:Array DictEntry} {ep:Nat},s₁.heap.get? b=some o->o.data=.dict es ep->H b=none:=fun {b o es ep} e d=>by
   cases q:H b with
   | none=>rfl
   | some u =>
    have e':b=a:=hA b (by rw [q];simp)
    subst e'
    rw [ha] at e;cases e
    have d':Data.seq vs.toArray _=Data.dict es ep:=d
    cases d'
  have nsK:∀ {b:Addr} {m:Str->Option Value},s₁.heap.Ns b m->(QdQ s₁.heap H).Ns b m:=fun {b m} ⟨o,es,ep,e,d,r⟩=>⟨o,es,ep,base_of e (noA e d),d,r⟩
  have hKb:K.In (QdQ s₁.heap H):=fun b o e=>base_of (KX b o e) (by
   cases q:H b with
   | none=>rfl
   | some u =>
    have e':b=a:=hA b (by rw [q];simp)
    subst e'
    rw [hK (by rw [q];simp)] at e;cases e)
  have hM:Mod K mg (QdQ s₁.heap H):=⟨hKb,nsK hns,⟨mb,nsK hb,hbb⟩,let ⟨mc,h1,h2⟩:=hlim;⟨mc,nsK h1,h2⟩⟩
  have e0:Env0 P w K mg (QdQ s₁.heap H) callerA [] s₁ H:=⟨rfl,hM,fun b o e=>QsN e,Nat.le_of_eq (QpM _ _),trivial,fun b hb=>absurd (show b∈([]:List Addr) from hb) (by simp),hok,.of_eq hg⟩
  refine codeAny_mono ((F _ hKb (nsK hns)).run callerA [] s₁ H ⟨[.ref a],[]⟩ [.ref a] [.ref a] _ _ hr e0 (hbind s₁ (.ref a)) (.cons rfl .nil) (hsp H hO hS)) fun r s' h=>?_
  cases r with
  | error e=>exact (hCX H e s' h).elim
  | ok fl =>
   cases fl with
   | next=>exact False.elim h
   | brk=>exact False.elim h
   | cont=>exact False.elim h
   | ret u =>
    obtain ⟨v,H',os,bare,un,hok',r',q⟩:=h
    have q':v=.bl true:=q
    subst q'
    obtain rfl:u=Value.bool true:=r'
    refine ⟨rfl,OldK.of_keep fun b o e=>?_,os,bare⟩
    cases q:H b with
    | none=>exact un.keep b o e q (by intro z;exact absurd (show b∈([]:List Addr) from z) (by simp)) (by simp)
    | some u =>
     rcases hO b with z | ⟨ob,xs,z⟩
     ·rw [q] at z;cases z
     ·have z2:=un.frzs b ob _ z
      obtain ⟨e1,_⟩:=hok b _ z
      obtain ⟨e2,_⟩:=hok' b _ z2
      rw [e] at e1;cases e1
      exact e2
 cases hk:K.lookup a with
 | some o =>
  have e:=KX a o hk
  rw [ha] at e
  cases e
  refine core (fun _=>none) (fun _=>.inl rfl) (.inr ⟨_,vs.toArray,_,hk,rfl,rfl,rfl,by rw [List.size_toArray,lenV];exact hl,by simpa using rv⟩) (fun b u z=>by have z':(none:Option HO)=some u:=z;cases z') (fun b z=>absurd rfl z) fun z=>absurd rfl z
 | none =>
  refine core (fun b=>if b=a then some (.frz { cls:=.type "list",data:=.seq vs.toArray } (.lst (ns.map V.int))) else none) (fun b=>?_) (.inl (.inr ⟨{ cls:=.type "list",data:=.seq vs.toArray },if_pos rfl⟩)) (fun b u z=>?_) (fun b z=>?_) fun _=>hk
  ·by_cases hb:b=a
   ·exact .inr ⟨_,_,if_pos hb⟩
   ·exact .inl (if_neg hb)
  ·by_cases hb:b=a
   ·have z':=(if_pos hb).symm.trans z
    cases z'
    subst hb
    exact ⟨ha,by rw [List.length_map];exact hl,vs,_,rv,ha⟩
   ·have z':=(if_neg hb).symm.trans z
    cases z'
  ·by_cases hb:b=a
   ·exact hb
   ·exact absurd (if_neg hb) z
end L2
namespace L2
open PySem PySem.Spec PyProof.Rows
theorem walk_of {l:PySem.W.OpenLaw} {n k:Nat} {q:Program} {loose:List Str} {XP:(Str->Option Value)->Heap->Prop} {YP:World->Heap->Prop} {d:DefRec} {K:Params->PySem.W.Frag} {CX:World->CXT} {sp:World->Sp} {x:Str}
  (hn:l.most=some n) (hn2:n<=sizeLine) (hdf:d.params.defaults=[]) (hr:Room k callerA)
  (hY:∀ (w:World) (h:Heap),YP w h->(K w.params).In h)
  (F:∀ (w:World) (mg:Str->Option Value) (fa:Addr) (h:Heap),(K w.params).In h->h.Ns mainGlobals mg->mg d.name=some (.ref fa) ->
   ∃ fd:FuncData,(∀ (s:Shared) (u:Value),BindsTo s fd ⟨[u],[]⟩ [(x,u)]) /\
    ∀ base:Heap,(K w.params).In base->base.Ns mainGlobals mg->FnOk l.prog w (K w.params) mg base (CX w) k fa fd [x] (sp w))
  (hsp:∀ (w:World) (H:Hp) (a:Addr) (ns:List Int),ns.length<=n->Qqw H->SqL (K w.params) H a (ns.map V.int)->sp w [.ref a] H (fun v _=>v=.bl true) fun _ _ _=>False)
  (hCX:∀ (w:World) (H:Hp) (s:Shared) (e:Value) (s':Shared),CX w [] H s (fun _ _ _=>False) e s'->False) :
  PySem.W.WalkO q loose XP YP l.row.toRowW d [] (fun f vs=>PySem.call f vs):=by
 refine Att.attach_call hn hdf fun w s₀ s₁ mg mb fa o pm cd doc a vs ns G Y ho hd hcd hmg hobj hints hlen hg=>?_
 have KX:=hY w _ Y
 obtain ⟨fd,hb,hF⟩:=F w mg fa _ KX G.T.g hmg
 exact Qre KX G.T.g G.T.b G.T.builtins G.T.nolimit hg hobj hints (Nat.le_trans hlen hn2) hr hF hb (fun H hO hS=>hsp w H a ns hlen hO hS) fun H e s'=>hCX w H s₁ e s'
end L2
namespace L2
open PySem PySem.Spec PyProof.Rows
def Yj (s:Stmt):Arguments:=match s with
 | .FunctionDef _ a _ _ _ _ _ _ _ _=>a
 | _=>{ posonlyargs:=[],args:=[],vararg:=none,kwonlyargs:=[],kw_defaults:=[],kwarg:=none,defaults:=[] }
def ZC (s:Stmt):List Stmt:=match s with
 | .FunctionDef _ _ b _ _ _ _ _ _ _=>b
 | _=>[]
def Qb (s:Stmt):Scope:=match s with
 | .FunctionDef _ _ _ _ _ _ sc _ _ _=>sc
 | _=>{ kind:=.function,names:=[],isGenerator:=false,isCoroutine:=false }
abbrev CX0:CXT:=fun _ _ _ _ _ _=>False
abbrev E0:XK:=fun _ _ _=>False
theorem QrR {X:Cx}:Qj5 CX0 X E0:=fun _ _ _ _ _ _ _ h=>h.elim
structure Fun (K:PySem.W.Frag) (x qual:Str) (st:Stmt) (f:Addr) (fd:FuncData):Prop where
 ex:∃ (oc:Value) (od:Option Addr) (kV doc pm:Value) (an:Option Addr) (cdv ct:Value) (osl:Array (Option Value)),
  fd=PySem.W.fnOf x qual (Yj st) (ZC st) (Qb st) .none kV doc pm an cdv ct/\K.lookup f=some ⟨oc,od,.func fd,osl⟩/\PySem.W.codeIn K cdv qual=true
 kp:PySem.W.keepIn K (.ref f)=true
section
variable {P:Program} {w:World} {K:PySem.W.Frag} {mg:Str->Option Value} {base:Heap}
theorem Fun.ok {x qual:Str} {st:Stmt} {f:Addr} {fd:FuncData} {N ps:List Str} {k:Nat} {sp:Sp} (F:Fun K x qual st f fd) (S:FnScope N ps (Qb st)) (len:∀ vs H Q E,sp vs H Q E->vs.length=ps.length)
  (hbody:∀ (cdv:Value) (A:Around) (outer:List Env) (s:Shared) (H:Hp) (vs:List V) (Q:VK) (E:XK),Room k (A.deeper (envOfC qual (Qb st) s.heap.objs.size f cdv))->sp vs H Q E ->
   ∃ t,PSs (Qap CX0 P w K mg base N qual (Qb st) f cdv A outer s H E).nox (ZC st) t/\t { nx:=fun _ H'=>Q .non H',rt:=Q } (Qau N vs) H):FnOk P w K mg base CX0 (k+1) f fd ps sp:=by
 obtain ⟨oc,od,kV,doc,pm,an,cdv,ct,osl,rfl,lk,hcd⟩:=F.ex
 refine Qvr lk hcd S len fun A outer s H vs Q E hr hsp=>?_
 obtain ⟨t,h,q⟩:=hbody cdv A outer s H vs Q E hr hsp
 exact ⟨t,h.nox,q⟩
theorem Fun.binds {x qual:Str} {st:Stmt} {f:Addr} {fd:FuncData} {ps:List Str} (F:Fun K x qual st f fd)
  (h:∀ (kV doc pm:Value) (an:Option Addr) (cdv ct:Value) (us:List Value),us.length=ps.length->bindArgs (PySem.W.fnOf x qual (Yj st) (ZC st) (Qb st) .none kV doc pm an cdv ct) ⟨us,[]⟩=pure (ps.zip us)):Binds K fd ps []:=by
 obtain ⟨oc,od,kV,doc,pm,an,cdv,ct,osl,rfl,lk,hcd⟩:=F.ex
 exact .all (h kV doc pm an cdv ct)
theorem QjU {x qual:Str} {st:Stmt} {f:Addr} {oc:Value} {od an:Option Addr} {osl:Array (Option Value)} {kV doc pm cdv ct:Value} (l:K.lookup f=some ⟨oc,od,.func (PySem.W.fnOf x qual (Yj st) (ZC st) (Qb st) .none kV doc pm an cdv ct),osl⟩)
  (c:PySem.W.codeIn K cdv qual=true) (k:PySem.W.keepIn K (.ref f)=true):Fun K x qual st f (PySem.W.fnOf x qual (Yj st) (ZC st) (Qb st) .none kV doc pm an cdv ct):=⟨⟨oc,od,kV,doc,pm,an,cdv,ct,osl,rfl,l,c⟩,k⟩
end
section
variable {X:Cx}
end
theorem Qgb {A B:Prop} (h:B):if false=true then A else B:=by
 rw [if_neg Bool.false_ne_true]
 exact h
theorem Qga {A B:Prop} (h:A):if true=true then A else B:=by
 rw [if_pos rfl]
 exact h
def Same (H H':Hp):Prop:=∀ b o,H b=some o->H' b=some o
theorem Same.refl (H:Hp):Same H H:=fun _ _ h=>h
theorem Same.trans {H H1 H2:Hp} (a:Same H H1) (b:Same H1 H2):Same H H2:=fun c o h=>b c o (a c o h)
theorem Same.free {H H':Hp} (e:Same H H') {l:Addr} (h:H' l=Option.none):H l=Option.none:=by
 cases q:H l with
 | none=>rfl
 | some o =>
  rw [e l o q] at h
  cases h
theorem Same.seq {K:PySem.W.Frag} {H H':Hp} {a:Addr} {xs:List V} (e:Same H H') (h:SqL K H a xs):SqL K H' a xs:=by
 rcases h with (h | ⟨o,h⟩) | h
 ·exact .inl (.inl (e _ _ h))
 ·exact .inl (.inr ⟨o,e _ _ h⟩)
 ·exact .inr h
end L2
namespace L2
open PySem PySem.Spec PyProof.Rows
section
variable {κ:Type} [DecidableEq κ]
def Vm (kvs:List (κ×V)) (k:κ):Option V:=(kvs.find? fun kv=>decide (kv.1=k)).map (·.2)
def V7 (kvs:List (κ×V)) (k:κ) (v:V):List (κ×V) :=
 if (kvs.any fun kv=>decide (kv.1=k))=true then kvs.map (fun kv=>if kv.1=k then (kv.1,v) else kv) else kvs++[(k,v)]
def Qwe (kvs:List (κ×V)) (k:κ):List (κ×V):=kvs.filter fun kv=>decide (kv.1≠k)
theorem QdX {p:κ×V} {r:List (κ×V)} {k:κ} (e:p.1=k):Vm (p::r) k=some p.2:=by simp [Vm,List.find?_cons,e]
theorem QdY {p:κ×V} {r:List (κ×V)} {k:κ} (e:¬ p.1=k):Vm (p::r) k=Vm r k:=by simp [Vm,List.find?_cons,e]
theorem Qka (k:κ):∀ kvs:List (κ×V),(kvs.any fun kv=>decide (kv.1=k))=(Vm kvs k).isSome
 | []=>rfl
 | p::r=>by
  rw [List.any_cons]
  by_cases e:p.1=k
  ·simp only [QdX e,decide_eq_true e,Bool.true_or,Option.isSome_some]
  ·rw [QdY e,decide_eq_false e,Bool.false_or];exact Qka k r
theorem QfS (kvs:List (κ×V)) (k:κ) (v:V):(V7 kvs k v).length<=kvs.length+1:=by
 unfold V7
 split
 ·rw [List.length_map];omega
 ·rw [List.length_append,List.length_cons,List.length_nil];omega
theorem RelO.isSome_eq {o:Option V} {u:Option Value} (r:RelO o u):o.isSome=u.isSome:=by
 cases o with
 | none=>cases u with
  | none=>rfl
  | some _=>exact (show False from r).elim
 | some _=>cases u with
  | none=>exact (show False from r).elim
  | some _=>rfl
theorem RelO.getD {o:Option V} {u:Option Value} {d:V} {d':Value} (r:RelO o u) (rd:RelV d d'):RelV (o.getD d) (u.getD d'):=by
 cases o with
 | none=>cases u with
  | none=>exact rd
  | some _=>exact (show False from r).elim
 | some _=>cases u with
  | none=>exact (show False from r).elim
  | some _=>exact r
theorem KV.val {kvs:List (κ×V)} {vs:List (κ×Value)} (r:KV kvs vs) (k:κ):RelO (Vm kvs k) (valueAt vs k):=by
 unfold KV at r
 induction r with
 | nil=>exact True.intro
 | @cons p q ps qs h t ih =>
  obtain ⟨h1,h2⟩:=h
  by_cases e:p.1=k
  ·have e':q.1=k:=h1.symm.trans e
   have b:valueAt (q::qs) k=some q.2:=by simp [valueAt,List.find?_cons,e']
   rw [QdX e,b];exact h2
  ·have e':¬ q.1=k:=fun z=>e (h1.trans z)
   have b:valueAt (q::qs) k=valueAt qs k:=by simp [valueAt,List.find?_cons,e']
   rw [QdY e,b];exact ih
theorem KV.any {kvs:List (κ×V)} {vs:List (κ×Value)} (r:KV kvs vs) (k:κ):(kvs.any fun kv=>decide (kv.1=k))=vs.any fun kv=>decide (kv.1=k):=by
 unfold KV at r
 induction r with
 | nil=>rfl
 | cons h t ih=>rw [List.any_cons,List.any_cons,ih,h.1]
theorem KV.repl {kvs:List (κ×V)} {vs:List (κ×Value)} (r:KV kvs vs) (k:κ) {y:V} {u:Value} (ry:RelV y u) :
  KV (kvs.map fun kv=>if kv.1=k then (kv.1,y) else kv) (vs.map fun kv=>if kv.1=k then (kv.1,u) else kv):=by
 unfold KV at r ⊢
 induction r with
 | nil=>exact .nil
 | @cons p q ps qs h t ih =>
  rw [List.map_cons,List.map_cons]
  refine .cons ?_ ih
  obtain ⟨h1,h2⟩:=h
  by_cases e:p.1=k
  ·rw [if_pos e,if_pos (h1.symm.trans e)];exact ⟨h1,ry⟩
  ·rw [if_neg e,if_neg (fun z=>e (h1.trans z))];exact ⟨h1,h2⟩
theorem KV.put {kvs:List (κ×V)} {vs:List (κ×Value)} (r:KV kvs vs) (k:κ) {y:V} {u:Value} (ry:RelV y u):KV (V7 kvs k y) (stored vs k u):=by
 unfold V7 stored
 rw [r.any k]
 by_cases e:(vs.any fun kv=>decide (kv.1=k))=true
 ·rw [if_pos e,if_pos e];exact r.repl k ry
 ·rw [if_neg e,if_neg e];exact Paired.snoc r ⟨rfl,ry⟩
theorem KV.length {kvs:List (κ×V)} {vs:List (κ×Value)} (r:KV kvs vs):kvs.length=vs.length:=Paired.length r
end
theorem QgT {P:Program} {w:World} {k:Key} {u:Value} (r:RelV (kV k) u):(Z7 P w).is k u=true:=by
 cases k with
 | inl i=>obtain ⟨t,e⟩:=(show ∃ t,u=Value.int i t from r);subst e;exact Ql8 P w i t
 | inr x=>obtain ⟨t,e⟩:=(show ∃ t,u=Value.str x t from r);subst e;exact Ql7 P w x t
theorem QiP {P:Program} {w:World}:∀ {ks:List Key} {us:List Value},Vals (ks.map kV) us->ItemsAre (Z7 P w) ks us
 | [],_,r=>by rw [List.map_nil] at r;cases r;exact .nil
 | k::ks,_,r=>by
  rw [List.map_cons] at r
  cases r with
  | cons h t=>exact .cons (QgT h) (QiP t)
abbrev KT (H:Hp):List (List Key×V)->List (List Key×Addr×Value)->Prop:=Paired fun p q=>p.1=q.1/\H q.2.1=some (.tup (p.1.map kV))/\RelV p.2 q.2.2
theorem KT.val {H:Hp} {kvs:List (List Key×V)} {xs:List (List Key×Addr×Value)} (r:KT H kvs xs) (k:List Key):RelO (Vm kvs k) ((atKey xs k).map (·.2)):=by
 induction r with
 | nil=>exact True.intro
 | @cons p q ps qs h t ih =>
  obtain ⟨h1,_,h2⟩:=h
  by_cases e:p.1=k
  ·have e':q.1=k:=h1.symm.trans e
   have b:atKey (q::qs) k=some q.2:=by simp [atKey,List.find?_cons,e']
   rw [QdX e,b];exact h2
  ·have e':¬ q.1=k:=fun z=>e (h1.trans z)
   have b:atKey (q::qs) k=atKey qs k:=by simp [atKey,List.find?_cons,e']
   rw [QdY e,b];exact ih
theorem KT.repl {H:Hp} {kvs:List (List Key×V)} {xs:List (List Key×Addr×Value)} (r:KT H kvs xs) (k:List Key) {y:V} {u:Value} (ry:RelV y u) :
  KT H (kvs.map fun kv=>if kv.1=k then (kv.1,y) else kv) (xs.map (putAt k u)):=by
 induction r with
 | nil=>exact .nil
 | @cons p q ps qs h t ih =>
  rw [List.map_cons,List.map_cons]
  refine .cons ?_ ih
  obtain ⟨h1,h2,h3⟩:=h
  unfold putAt
  by_cases e:p.1=k
  ·rw [if_pos e,if_pos (h1.symm.trans e)];exact ⟨h1,h2,ry⟩
  ·rw [if_neg e,if_neg (fun z=>e (h1.trans z))];exact ⟨h1,h2,h3⟩
theorem KT.put {H:Hp} {kvs:List (List Key×V)} {xs:List (List Key×Addr×Value)} (r:KT H kvs xs) (k:List Key) {b:Addr} {y:V} {u:Value} (hb:H b=some (.tup (k.map kV))) (ry:RelV y u) :
  KT H (V7 kvs k y) (storedH xs k b u):=by
 have e:(kvs.any fun kv=>decide (kv.1=k))=(atKey xs k).isSome:=by
  rw [Qka,(r.val k).isSome_eq,Option.isSome_map]
 unfold V7 storedH
 rw [e]
 by_cases q:(atKey xs k).isSome=true
 ·rw [if_pos q,if_pos q];exact r.repl k ry
 ·rw [if_neg q,if_neg q];exact Paired.snoc r ⟨rfl,hb,ry⟩
theorem KT.keeps {H H':Hp} {kvs:List (List Key×V)} {xs:List (List Key×Addr×Value)} (r:KT H kvs xs) (ht:∀ b ys,H b=some (.tup ys)->H' b=some (.tup ys)):KT H' kvs xs :=
 Paired.mapP r fun _ _ z=>⟨z.1,ht _ _ z.2.1,z.2.2⟩
section
variable {P:Program} {w:World} {H:Hp} {h:Heap} {a:Addr}
theorem QrN {u:HO} (ok:HOk P w H h) (e:Rd H a u):ObjOk P w H h a u:=e.ok ok
theorem QgV {kvs:List (Key×V)} (ok:HOk P w H h) (e:Rd H a (.dK kvs)):kvs.length<=sizeLine/\(a==sysModules)=false/\∃ vs,KV kvs vs/\h.DictOf (Z7 P w) a vs :=
 show ObjOk P w H h a (.dK kvs) from QrN ok e
theorem Qvz {kvs:List (Key×V)} (ok:HOk P w H h) (e:H a=some (.dK kvs)):kvs.length<=sizeLine/\(a==sysModules)=false/\∃ vs,KV kvs vs/\h.DictOf (Z7 P w) a vs:=QgV ok (.inl e)
theorem QeW {ks:List Key} (ok:HOk P w H h) (e:H a=some (.tup (ks.map kV))):(tupleKind (Z7 P w)).is h ks a:=by
 obtain ⟨_,its,r,o,h1,h2,n,h3⟩:=(show ObjOk P w H h a (.tup (ks.map kV)) from ok a _ e)
 exact ⟨o,its.toArray,n,h1,h2,h3,by simpa using QiP r⟩
theorem QgU {kvs:List (List Key×V)} (ok:HOk P w H h) (e:Rd H a (.dT kvs)):kvs.length<=sizeLine/\(a==sysModules)=false /\
  ∃ xs,KT H kvs xs/\h.DictOfH (tupleKind (Z7 P w)) a xs:=by
 obtain ⟨z,y,xs,r,o,es,ep,h1,h2,h3,h4,h5⟩:=(show ObjOk P w H h a (.dT kvs) from QrN ok e)
 refine ⟨z,y,xs,r,o,es,ep,h1,h2,h3,h4,fun x hx=>?_,h5⟩
 have all:∀ {l:List (List Key×V)} {m:List (List Key×Addr×Value)},KT H l m->∀ x∈m,(tupleKind (Z7 P w)).is h x.1 x.2.1:=by
  intro l m q
  induction q with
  | nil=>intro x hx;exact nomatch hx
  | @cons p q ps qs hq t ih =>
   intro x hx
   rcases List.mem_cons.mp hx with e | hx
   ·subst e
    exact QeW ok (by rw [<- hq.1];exact hq.2.1)
   ·exact ih x hx
 exact all r x hx
theorem Qvy {kvs:List (List Key×V)} (ok:HOk P w H h) (e:H a=some (.dT kvs)):kvs.length<=sizeLine/\(a==sysModules)=false /\
  ∃ xs,KT H kvs xs/\h.DictOfH (tupleKind (Z7 P w)) a xs:=QgU ok (.inl e)
end
def DGet (H:Hp) (a:Addr) (y:V) (r:Option V):Prop :=
 (∃ kvs k,Rd H a (.dK kvs)/\y=kV k/\r=Vm kvs k)\/∃ kvs k b,Rd H a (.dT kvs)/\y=.ref b/\H b=some (.tup (k.map kV))/\r=Vm kvs k
def DPut (H:Hp) (a:Addr) (y v:V) (H':Hp):Prop :=
 (∃ kvs k,H a=some (.dK kvs)/\y=kV k/\kvs.length<sizeLine/\H'=upd H a (.dK (V7 kvs k v))) \/
 ∃ kvs k b,H a=some (.dT kvs)/\y=.ref b/\H b=some (.tup (k.map kV))/\kvs.length<sizeLine/\H'=upd H a (.dT (V7 kvs k v))
theorem DGet.k {H:Hp} {a:Addr} {kvs:List (Key×V)} {k:Key} (e:H a=some (.dK kvs)):DGet H a (kV k) (Vm kvs k):=.inl ⟨kvs,k,.inl e,rfl,rfl⟩
theorem DGet.t {H:Hp} {a b:Addr} {kvs:List (List Key×V)} {k:List Key} (e:H a=some (.dT kvs)) (eb:H b=some (.tup (k.map kV))):DGet H a (.ref b) (Vm kvs k):=.inr ⟨kvs,k,b,.inl e,rfl,eb,rfl⟩
theorem DPut.k {H:Hp} {a:Addr} {kvs:List (Key×V)} {k:Key} {v:V} (e:H a=some (.dK kvs)) (hl:kvs.length<sizeLine):DPut H a (kV k) v (upd H a (.dK (V7 kvs k v))):=.inl ⟨kvs,k,e,rfl,hl,rfl⟩
theorem DPut.t {H:Hp} {a b:Addr} {kvs:List (List Key×V)} {k:List Key} {v:V} (e:H a=some (.dT kvs)) (eb:H b=some (.tup (k.map kV))) (hl:kvs.length<sizeLine) :
  DPut H a (.ref b) v (upd H a (.dT (V7 kvs k v))):=.inr ⟨kvs,k,b,e,rfl,eb,hl,rfl⟩
section
variable {X:Cx} {pins:List (Addr×Obj)} {σ:St} {H:Hp} {s:Shared} {a:Addr} {y v:V} {u r:Value} {o:Option V} {A:Around} {E:Value->Shared->Prop}
theorem Inv.big (I:Inv X pins σ H s):sysModules<s.heap.objs.size:=by
 have h:mainGlobals<s.heap.objs.size:=(I.mod.glob.keeps I.bk).lt
 exact Nat.lt_trans (by decide) h
theorem Qp0 {Q:Value->Shared->Prop} (hu:A.units+1<cLine) (I:Inv X pins σ H s) (g:DGet H a y (some v)) (ry:RelV y u) (h:∀ w' s',Inv X pins σ H s'->RelV v w'->Q w' s') :
  wpAny (model X.prog X.w) A (getItem (.ref a) u) Q E s:=by
 rcases g with ⟨kvs,k,e,ey,l⟩ | ⟨kvs,k,b,e,ey,eb,l⟩
 ·subst ey
  obtain ⟨z,hd,vs,rel,dd⟩:=QgV I.hok e
  obtain ⟨w',hw,rw'⟩:=RelO.some_of (v:=v) (o:=valueAt vs k) (by rw [l];exact rel.val k)
  exact wpAny_getItem_of (QgT ry) dd.mapOf hw (h w' _ (I.tok _) rw')
 ·subst ey
  cases (show u=Value.ref b from ry)
  obtain ⟨z,hd,xs,rel,dd⟩:=QgU I.hok e
  obtain ⟨w',hw,rw'⟩:=RelO.some_of (v:=v) (o:=(atKey xs k).map (·.2)) (by rw [l];exact rel.val k)
  obtain ⟨p,hp,hp2⟩:=Option.map_eq_some_iff.mp hw
  refine wpAny_getItem_heap (tupleKind_room_in1 hu) (QeW I.hok eb) dd hp ?_
  rw [hp2]
  exact h w' _ (I.tok _) rw'
theorem Qv8 {Q:Value->Shared->Prop} (hu:A.units+1<cLine) (I:Inv X pins σ H s) (g:DGet H a y o) (ry:RelV y u) (h:∀ s',Inv X pins σ H s'->Q (.bool o.isSome) s') :
  wpAny (model X.prog X.w) A (compareOp .In u (.ref a)) Q E s:=by
 rcases g with ⟨kvs,k,e,ey,l⟩ | ⟨kvs,k,b,e,ey,eb,l⟩
 ·subst ey
  obtain ⟨z,hd,vs,rel,dd⟩:=QgV I.hok e
  refine wpAny_in_of (QgT ry) hd dd.mapOf ?_
  rw [<- (rel.val k).isSome_eq,<- l]
  exact h _ (I.tok _)
 ·subst ey
  cases (show u=Value.ref b from ry)
  obtain ⟨z,hd,xs,rel,dd⟩:=QgU I.hok e
  refine wpAny_in_heap (tupleKind_room_in1 hu) (QeW I.hok eb) hd dd ?_
  have q:=(rel.val k).isSome_eq
  rw [Option.isSome_map] at q
  rw [<- q,<- l]
  exact h _ (I.tok _)
theorem Qtg {Q:Value->Shared->Prop} (hu:A.units+1<cLine) (I:Inv X pins σ H s) (g:DGet H a y o) (ry:RelV y u) (h:∀ s',Inv X pins σ H s'->Q (.bool (!o.isSome)) s') :
  wpAny (model X.prog X.w) A (compareOp .NotIn u (.ref a)) Q E s:=by
 rcases g with ⟨kvs,k,e,ey,l⟩ | ⟨kvs,k,b,e,ey,eb,l⟩
 ·subst ey
  obtain ⟨z,hd,vs,rel,dd⟩:=QgV I.hok e
  refine wpAny_notIn_of (QgT ry) hd dd.mapOf ?_
  rw [<- (rel.val k).isSome_eq,<- l]
  exact h _ (I.tok _)
 ·subst ey
  cases (show u=Value.ref b from ry)
  obtain ⟨z,hd,xs,rel,dd⟩:=QgU I.hok e
  refine wpAny_notIn_heap (tupleKind_room_in1 hu) (QeW I.hok eb) hd dd ?_
  have q:=(rel.val k).isSome_eq
  rw [Option.isSome_map] at q
  rw [<- q,<- l]
  exact h _ (I.tok _)
theorem Qm0 {h':Heap} {t':Nat} {ob:HO} (I:Inv X pins σ H s) (mu:Mut (H a)) (hs:Heap.SameBut a s.heap h') (he:∃ q,h'.get? a=some q) (new:ObjOk X.prog X.w (upd H a ob) h' a ob) :
  Inv X pins σ (upd H a ob) { s with heap:=h',toks:=t' } :=
 I.write (x:=a) (e:=a) mu (.inl rfl) (fun b q hb z=>(hs.2 b hb).trans z) he new
theorem QuJ {P:Program} {w:World} {H':Hp} {h':Heap} {kvs:List (Key×V)} {vs:List (Key×Value)} (z:kvs.length<=sizeLine) (hd:(a==sysModules)=false) (rel:KV kvs vs) (dd:h'.DictOf (Z7 P w) a vs) :
  ObjOk P w H' h' a (.dK kvs):=⟨z,hd,vs,rel,dd⟩
theorem QpZ {H':Hp} {Q:Unit->Shared->Prop} (hu:A.units+1<cLine) (I:Inv X pins σ H s) (g:DPut H a y v H') (ry:RelV y u) (rv:RelV v r) (h:∀ s',Inv X pins σ H' s'->Q () s') :
  wpAny (model X.prog X.w) A (setItem (.ref a) u r) Q E s:=by
 rcases g with ⟨kvs,k,e,ey,l,eH⟩ | ⟨kvs,k,b,e,ey,eb,l,eH⟩
 ·subst ey eH
  obtain ⟨z,hd,vs,rel,dd⟩:=Qvz I.hok e
  have hz:vs.length<=sizeLine:=by rw [<- rel.length];exact z
  have hl:(V7 kvs k v).length<=sizeLine:=by have:=QfS kvs k v;omega
  refine wpAny_setItem_pairs (hsz:=hz) (QgT ry) dd fun h' dd' hs=>h _ ?_
  have he:∃ q,h'.get? a=some q:=let ⟨q,_,_,hq,_⟩:=dd';⟨q,hq⟩
  exact Qm0 I (by rw [e];exact True.intro) hs he (QuJ hl hd (rel.put k rv) dd')
 ·subst ey eH
  cases (show u=Value.ref b from ry)
  obtain ⟨z,hd,xs,rel,dd⟩:=Qvy I.hok e
  have hz:xs.length<=sizeLine:=by rw [<- Paired.length rel];exact z
  have hl:(V7 kvs k v).length<=sizeLine:=by have:=QfS kvs k v;omega
  refine wpAny_setItem_heap (hsz:=hz) (tupleKind_room_in1 hu) (QeW I.hok eb) dd fun h' dd' hs=>h _ ?_
  obtain ⟨q,es,ep,hq,h2,h3,h4,_,h5⟩:=dd'
  refine Qm0 I (by rw [e];exact True.intro) hs ⟨q,hq⟩ ⟨hl,hd,_,(rel.put k eb rv).keeps fun c ys ec=>?_,q,es,ep,hq,h2,h3,h4,h5⟩
  rw [QJ (Qvj ec e (fun z=>nomatch z))]
  exact ec
end
section
variable {X:Cx} {pins:List (Addr×Obj)} {σ:St} {H:Hp} {s:Shared} {a:Addr} {kvs:List (Key×V)} {k:Key} {u:Value} {A:Around} {E:Value->Shared->Prop}
end
def Qqx (i:Expr):Prop:=∀ ov iv,subscripted i false ov iv=operate [ov,iv] (getItem ov iv)
theorem Qsd {prog:Program} {w:World} {A:Around} {E:Value->Shared->Prop} {s:Shared} {env:Env} {value slice:Expr} {pos:Pos} {T id:String} {Q:Value->Shared->Prop}
  (hl:typeLookup (.type T) "__getitem__"=pure (some (.builtin id))) (hs:Qqx slice)
  (h:wpAny (model prog w) A (eval value env) (fun o s₁=>wpAny (model prog w) A (eval slice env) (fun i s₂=>s₂.TypeIs o T/\wpAny (model prog w) A (getItem o i) Q E s₂) E s₁) E s) :
  wpAny (model prog w) A (eval (.Subscript value slice pos) env) Q E s:=by
 refine Subscript_ (wpAny_mono h (fun o s₁ h₁=>wpAny_mono h₁ (fun i s₂ h₂=>?_) fun _ _ x=>x) fun _ _ x=>x)
 obtain ⟨hT,h₂⟩:=h₂
 unfold subscriptTail
 refine wpAny_bind ?_
 rw [getitemInPython_of_ne hT.not_modules]
 refine wpAny_bind (wpAny_specialOf hT hl ?_)
 have fin:wpAny (model prog w) A (subscripted slice false o i) (fun r s₃=>wpAny (model prog w) A (letTemporaryGo value o r >>= fun _=>pure r) Q E s₃) E s₂:=by
  rw [hs o i]
  exact wpAny_operating (wpAny_mono h₂ (fun r s₃ h₃=>wpAny_bind (wpAny_letTemporaryGo (wpAny_pure h₃))) fun _ _ x=>x)
 first
  | exact wpAny_pure (wpAny_bind fin)
  | exact wpAny_bind (wpAny_pure (wpAny_bind fin))
  | exact wpAny_bind fin
theorem Qmf {X:Cx} {pins:List (Addr×Obj)} {σ:St} {H:Hp} {s:Shared} {a:Addr} {y:V} {o:Option V} (I:Inv X pins σ H s) (g:DGet H a y o):s.TypeIs (.ref a) "dict":=by
 rcases g with ⟨kvs,k,e,_,_⟩ | ⟨kvs,k,b,e,_,_,_⟩
 ·obtain ⟨_,_,vs,_,dd⟩:=QgV I.hok e
  exact dd.typeIs
 ·obtain ⟨_,_,xs,_,dd⟩:=QgU I.hok e
  exact dd.typeIs
def Qu2 (td ty:TE):TE:=fun σ H Q=>td σ H fun x H1=>ty σ H1 fun y H2=>∃ a v,x=.ref a/\DGet H2 a y (some v)/\Q v H2
def QvT (ty td:TE):TE:=fun σ H Q=>ty σ H fun y H1=>td σ H1 fun x H2=>∃ a o,x=.ref a/\DGet H2 a y o/\Q (.bl o.isSome) H2
def Qsc (ty td:TE):TE:=fun σ H Q=>ty σ H fun y H1=>td σ H1 fun x H2=>∃ a o,x=.ref a/\DGet H2 a y o/\Q (.bl (!o.isSome)) H2
def Qu7 (td ty tv:TE):TS:=fun D σ H=>tv σ H fun v H1=>td σ H1 fun x H2=>ty σ H2 fun y H3=>∃ a H4,x=.ref a/\DPut H3 a y v H4/\D.nx σ H4
section
variable {X:Cx} {o i e value:Expr} {pos pos' tpos:Pos} {td ty tv:TE}
theorem QsA (hu:X.A.units+1<cLine) (ho:PE X o td) (hi:PE X i ty) (hs:Qqx i):PE X (.Subscript o i pos) (Qu2 td ty):=by
 intro pins s σ H Q I h
 refine Qsd PySem.F.slot_dict_getitem.lookup hs (thn (ho pins s σ H _ I h) fun u s1 ⟨x,H1,I1,rx,q1⟩=>thn (hi pins s1 σ H1 _ I1 q1) fun iv s2 ⟨y,H2,I2,ry,a,v,ex,g,q2⟩=>?_)
 subst ex
 obtain rfl:u=Value.ref a:=rx
 exact ⟨Qmf I2 g,Qp0 hu I2 g ry fun w' s3 I3 rw'=>⟨v,H2,I3,rw',q2⟩⟩
theorem Qt9 (hu:X.A.units+1<cLine) (hi:PE X i ty) (ho:PE X o td):PC X .In i o (QvT ty td):=by
 intro pins s σ H Q I h
 refine thn (hi pins s σ H _ I h) fun iv s1 ⟨y,H1,I1,ry,q1⟩=>thn (ho pins s1 σ H1 _ I1 q1) fun u s2 ⟨x,H2,I2,rx,a,ov,ex,g,q2⟩=>?_
 subst ex
 obtain rfl:u=Value.ref a:=rx
 exact Qv8 hu I2 g ry fun s3 I3=>⟨.bl ov.isSome,H2,I3,rfl,q2⟩
theorem Qpn (hu:X.A.units+1<cLine) (hi:PE X i ty) (ho:PE X o td):PC X .NotIn i o (Qsc ty td):=by
 intro pins s σ H Q I h
 refine thn (hi pins s σ H _ I h) fun iv s1 ⟨y,H1,I1,ry,q1⟩=>thn (ho pins s1 σ H1 _ I1 q1) fun u s2 ⟨x,H2,I2,rx,a,ov,ex,g,q2⟩=>?_
 subst ex
 obtain rfl:u=Value.ref a:=rx
 exact Qtg hu I2 g ry fun s3 I3=>⟨.bl (!ov.isSome),H2,I3,rfl,q2⟩
theorem Qst (hu:X.A.units+1<cLine) (ho:PE X o td) (hi:PE X i ty) (hv:PE X value tv) (hs:swapsWith value (some (.Subscript o i pos')) pos.line X.env=pure false) :
  PS X (.Assign [.Subscript o i pos'] value pos) (Qu7 td ty tv):=by
 intro pins s σ H D I h
 refine wpAny_Assign_Subscript (thn (hv pins s σ H _ I h) fun r s1 ⟨v,H1,I1,rv,q1⟩=>thn (ho pins s1 σ H1 _ I1 q1) fun u s2 ⟨x,H2,I2,rx,q2⟩=>thn (hi pins s2 σ H2 _ I2 q2) fun iv s3 ⟨y,H3,I3,ry,a,H4,ex,g,q3⟩=>?_) hs
 subst ex
 obtain rfl:u=Value.ref a:=rx
 exact QpZ hu I3 g ry rv fun s4 I4=>⟨σ,H4,I4,q3⟩
end
theorem Qrt {P:Program} {w:World} {H:Hp} (h:Heap) (hb:sysModules<h.objs.size):ObjOk P w H (h.push { cls:=.type "dict",data:=.dict #[] }) h.objs.size (.dK []) :=
 ⟨Nat.zero_le _,beq_eq_false_iff_ne.mpr (Ne.symm (Nat.ne_of_lt hb)),[],.nil,Heap.DictOf.new h⟩
def QtG:TE:=fun _ H Q=>∀ p,H p=none->Q (.ref p) (upd H p (.dK []))
section
variable {X:Cx} {pos:Pos}
theorem QqW:PE X (.Dict [] [] pos) QtG:=fun pins s σ H Q I h =>
 wpAny_Dict_empty ⟨.ref s.heap.objs.size,_,I.laid (a:=s.heap.objs.size) (o:=.dK []) (t':=s.toks) (fun _ _ q=>Heap.get?_push_of_some _ q) (Nat.le_refl _) (Qrt s.heap I.big),rfl,h _ (I.hok.fresh (Nat.le_refl _))⟩
end
end L2
namespace Wd
open PySem
abbrev Kd:=Sum Int Str
inductive D where
 | non | bl (b:Bool) | int (i:Int) | str (x:Str) | tup (xs:List D) | lst (xs:List D) | scr (ns:List Int) | dic (ks:List Kd) (xs:List D)
abbrev Qq:=List (Option D)
abbrev EvE:=Qq->Option D
abbrev EvL:=Qq->Option (List D)
abbrev EvO:=Qq->Option (Option Int)
abbrev EvG:=D->Qq->Option Qq
inductive Fl where
 | nx (e:Qq) | rt (d:D) | bk (e:Qq) | ct (e:Qq)
abbrev EvS:=Qq->Option Fl
def lI:Nat:=16777216
def ifO {α:Type}:Option D->Option α->Option α->Option α
 | some (.bl c),x,y=>if c=true then x else y
 | _,_,_=>none
def Qf8:Option D->Option D
 | some (.bl c)=>some (.bl (!c))
 | _=>none
theorem Qo {α:Type} (c:Bool) (x y:Option α):ifO (some (.bl c)) x y=if c=true then x else y:=rfl
theorem JS (c:Bool):Qf8 (some (.bl c))=some (.bl (!c)):=rfl
theorem JU {α:Type} {p:Prop} [Decidable p] (a b:Option D) (x y:Option α):ifO (if p then a else b) x y=if p then ifO a x y else ifO b x y:=by split<;>rfl
theorem Jv {p:Prop} [Decidable p] (a b:Option D):Qf8 (if p then a else b)=if p then Qf8 a else Qf8 b:=by split<;>rfl
mutual
def D.dep:D->Nat
 | .tup xs=>D.depL xs+1
 | .lst xs=>D.depL xs+1
 | .scr _=>1
 | .dic _ xs=>D.depL xs+1
 | _=>0
def D.depL:List D->Nat
 | []=>0
 | x::xs=>max (D.dep x) (D.depL xs)
end
theorem JL:D.dep .non=0:=by rw [D.dep];all_goals simp
theorem Za (b:Bool):D.dep (.bl b)=0:=by rw [D.dep];all_goals simp
theorem Qt (i:Int):D.dep (.int i)=0:=by rw [D.dep];all_goals simp
theorem Qz (x:Str):D.dep (.str x)=0:=by rw [D.dep];all_goals simp
theorem Jd (xs:List D):D.dep (.tup xs)=D.depL xs+1:=by rw [D.dep]
theorem Q8 (xs:List D):D.dep (.lst xs)=D.depL xs+1:=by rw [D.dep]
theorem Q4:D.depL []=0:=by rw [D.depL]
theorem QV (x:D) (xs:List D):D.depL (x::xs)=max (D.dep x) (D.depL xs):=by rw [D.depL]
def b2i (b:Bool):Int:=if b then 1 else 0
def Qns:Option Bool->Option Bool->Option Bool
 | some a,some b=>some (a&&b)
 | _,_=>none
theorem Q7 (a b:Bool):Qns (some a) (some b)=some (a&&b):=rfl
mutual
def D.eq:D->D->Option Bool
 | .non,.non=>some true
 | .bl a,.bl b=>some (a==b)
 | .bl a,.int j=>some (decide (b2i a=j))
 | .int i,.bl b=>some (decide (i=b2i b))
 | .int i,.int j=>some (decide (i=j))
 | .str x,.str y=>some (decide (x=y))
 | .tup xs,.tup ys=>D.eqL xs ys
 | .lst xs,.lst ys=>D.eqL xs ys
 | .scr _,_=>none
 | _,.scr _=>none
 | .dic _ _,_=>none
 | _,.dic _ _=>none
 | _,_=>some false
def D.eqL:List D->List D->Option Bool
 | [],[]=>some true
 | x::xs,y::ys=>Qns (D.eq x y) (D.eqL xs ys)
 | _,_=>some false
end
theorem QD (i j:Int):D.eq (.int i) (.int j)=some (decide (i=j)):=by rw [D.eq]
theorem ZI (i j:Bool):D.eq (.bl i) (.bl j)=some (i==j):=by rw [D.eq]
theorem QH (i j:Str):D.eq (.str i) (.str j)=some (decide (i=j)):=by rw [D.eq]
theorem Jl (xs ys:List D):D.eq (.tup xs) (.tup ys)=D.eqL xs ys:=by rw [D.eq]
theorem JJ (xs ys:List D):D.eq (.lst xs) (.lst ys)=D.eqL xs ys:=by rw [D.eq]
theorem Jm:D.eqL [] []=some true:=by rw [D.eqL]
theorem Jh (x y:D) (xs ys:List D):D.eqL (x::xs) (y::ys)=Qns (D.eq x y) (D.eqL xs ys):=by rw [D.eqL]
def D.cmp (o:Option Bool):Option D:=o.map .bl
def D.cmpN (o:Option Bool):Option D:=o.map fun b=>.bl (!b)
def D.eqO (x y:D):Option D:=if x.dep<=40 then D.cmp (D.eq x y) else none
def D.neO (x y:D):Option D:=if x.dep<=40 then D.cmpN (D.eq x y) else none
def intsOf:List D->Option (List Int)
 | []=>some []
 | .int i::r=>(intsOf r).map (i::·)
 | _=>none
def V3:List Int->List Int->Bool
 | [],_=>true
 | _::_,[]=>false
 | x::xs,y::ys=>if x=y then V3 xs ys else decide (x<y)
def D.lt:D->D->Option D
 | .int i,.int j=>some (.bl (decide (i<j)))
 | _,_=>none
def D.le:D->D->Option D
 | .int i,.int j=>some (.bl (decide (i<=j)))
 | .tup xs,.tup ys=>match intsOf xs,intsOf ys with
  | some a,some b=>some (.bl (V3 a b))
  | _,_=>none
 | _,_=>none
def D.gt:D->D->Option D
 | .int i,.int j=>some (.bl (decide (j<i)))
 | _,_=>none
def D.ge:D->D->Option D
 | .int i,.int j=>some (.bl (decide (j<=i)))
 | _,_=>none
def D.len:D->Option D
 | .str x=>if x.length<=lI then some (.int x.length) else none
 | .tup xs=>some (.int xs.length)
 | .lst xs=>some (.int xs.length)
 | .scr ns=>some (.int ns.length)
 | _=>none
def D.add:D->D->Option D
 | .int i,.int j=>some (.int (i+j))
 | .str x,.str y=>if x.length+y.length<=lI then some (.str (x++y)) else none
 | .lst xs,.lst ys=>if xs.length+ys.length<=lI then some (.lst (xs++ys)) else none
 | .tup (x::xs),.tup ys=>if xs.length+1+ys.length<=lI then some (.tup (x::xs++ys)) else none
 | _,_=>none
def D.addI:D->D->Option D
 | .int i,.int j=>some (.int (i+j))
 | .str x,.str y=>if x.length+y.length<=lI then some (.str (x++y)) else none
 | _,_=>none
def D.sub:D->D->Option D
 | .int i,.int j=>some (.int (i-j))
 | _,_=>none
def D.mul:D->D->Option D
 | .int i,.int j=>if (-(2^64)<i/\i<2^64)\/(-(2^64)<j/\j<2^64) then some (.int (i*j)) else none
 | _,_=>none
def D.mod:D->D->Option D
 | .int i,.int j=>if 0<j then some (.int (i%j)) else none
 | _,_=>none
def D.fdiv:D->D->Option D
 | .int i,.int j=>if 0<j/\j<1073741824 then some (.int (i/j)) else none
 | _,_=>none
def D.pow:D->D->Option D
 | .int i,.int j=>if 0<=j/\j<=1000000/\i.natAbs<2^64 then some (.int (i^j.toNat)) else none
 | _,_=>none
def D.neg:D->Option D
 | .int i=>some (.int (-i))
 | _=>none
theorem QdU {i j:Int} (h:-(2^64)<i/\i<2^64):D.mul (.int i) (.int j)=some (.int (i*j)):=if_pos (.inl h)
theorem QgS {i j:Int} (h:-(2^64)<j/\j<2^64):D.mul (.int i) (.int j)=some (.int (i*j)):=if_pos (.inr h)
theorem Qbk {i j:Int} (h:0<j):D.mod (.int i) (.int j)=some (.int (i%j)):=if_pos h
theorem QuC {i j:Int} (h:0<j/\j<1073741824):D.fdiv (.int i) (.int j)=some (.int (i/j)):=if_pos h
theorem QrO {i j:Int} (h:0<=j/\j<=1000000/\i.natAbs<2^64):D.pow (.int i) (.int j)=some (.int (i^j.toNat)):=if_pos h
def D.strI:D->Option D
 | .int i=>if i.natAbs<2^1900 then some (.str (Str.ofString (toString i))) else none
 | _=>none
def D.intB:D->Option D
 | .int i=>some (.int i)
 | .bl b=>some (.int (if b then 1 else 0))
 | _=>none
def D.min2:D->D->Option D
 | .int i,.int j=>some (.int (if j<i then j else i))
 | _,_=>none
def D.max2:D->D->Option D
 | .int i,.int j=>some (.int (if j > i then j else i))
 | _,_=>none
def D.isT:D->Option D
 | .bl b=>some (.bl b)
 | .int _=>some (.bl false)
 | _=>none
def tyD:D->String
 | .non=>"NoneType"
 | .bl _=>"bool"
 | .int _=>"int"
 | .str _=>"str"
 | .tup _=>"tuple"
 | .lst _=>"list"
 | .scr _=>"list"
 | .dic _ _=>"dict"
def D.inst (t:String) (d:D):Option D:=match d with
 | .scr _=>none
 | d=>some (.bl (decide (tyD d=t)||(decide (t="int")&&decide (tyD d="bool"))))
def ixD (n:Nat) (i:Int):Option Nat:=if 0<=i then (if i<n then some i.toNat else none) else if -(n:Int)<=i then some (i+n).toNat else none
def D.ix:D->D->Option D
 | .tup xs,.int i=>(ixD xs.length i).bind fun k=>xs[k]?
 | .lst xs,.int i=>(ixD xs.length i).bind fun k=>xs[k]?
 | .scr ns,.int i=>(ixD ns.length i).bind fun k=>(ns[k]?).map .int
 | .str x,.int i=>if x.length<=lI then (ixD x.length i).bind fun k=>(x.cps[k]?).map fun c=>.str ⟨#[c]⟩ else none
 | _,_=>none
def Ys (n d:Nat):Option Int->Nat
 | none=>d
 | some v=>if v<0 then (v+(n:Int)).toNat else min v.toNat n
def ZY {α:Type} (xs:List α) (lo hi:Option Int):List α:=(xs.drop (Ys xs.length 0 lo)).take (Ys xs.length xs.length hi-Ys xs.length 0 lo)
def D.cut:D->Option Int->Option Int->Option D
 | .lst xs,lo,hi=>some (.lst (ZY xs lo hi))
 | .tup xs,lo,hi=>if Ys xs.length 0 lo=0/\Ys xs.length xs.length hi=xs.length then none else some (.tup (ZY xs lo hi))
 | .scr ns,lo,hi=>some (.lst ((ZY ns lo hi).map .int))
 | _,_,_=>none
def Qv9 (x:D) (lo hi:Option Int):Option D:=D.cut x lo hi
def eV (i:Nat):EvE:=fun e=>(e[i]?).join
def eC (d:D):EvE:=fun _=>some d
def eOp (g:D->D->Option D) (a b:EvE):EvE:=fun e=>(a e).bind fun x=>(b e).bind fun y=>g x y
def eUn (g:D->Option D) (a:EvE):EvE:=fun e=>(a e).bind fun x=>g x
def Q9 (a:EvE):EvE:=fun e=>Qf8 (a e)
def QN (a b:EvE):EvE:=fun e=>ifO (a e) (b e) (some (.bl false))
def eOr (a b:EvE):EvE:=fun e=>ifO (a e) (some (.bl true)) (b e)
def eIf (c a b:EvE):EvE:=fun e=>ifO (c e) (a e) (b e)
def JO (g g':D->D->Option D) (a b c:EvE):EvE:=fun e=>(a e).bind fun x=>(b e).bind fun y=>ifO (g x y) ((c e).bind fun z=>g' y z) (some (.bl false))
def lN:EvL:=fun _=>some []
def lC (a:EvE) (l:EvL):EvL:=fun e=>(a e).bind fun x=>(l e).map fun xs=>x::xs
def Qp (l:EvL):EvE:=fun e=>(l e).map .tup
def Qi (l:EvL):EvE:=fun e=>(l e).map .lst
def eK (f:List D->Option D) (l:EvL):EvE:=fun e=>(l e).bind f
def J5 (t:String) (a:EvE):EvE:=fun e=>(a e).bind fun x=>D.inst t x
def oNo:EvO:=fun _=>some none
def oAt (a:EvE):EvO:=fun e=>(a e).bind fun d=>match d with
 | .int i=>some (some i)
 | _=>none
def ZQ (a:EvE) (lo hi:EvO):EvE:=fun e=>(a e).bind fun x=>(lo e).bind fun l=>(hi e).bind fun h=>Qv9 x l h
def gS (i:Nat):EvG:=fun d e=>some (e.set i (some d))
def Zn:List EvG->List D->Qq->Option Qq
 | [],[],e=>some e
 | g::gs,d::ds,e=>(g d e).bind fun e'=>Zn gs ds e'
 | _,_,_=>none
def JN (gs:List EvG):EvG:=fun d e=>match d with
 | .tup ds=>Zn gs ds e
 | _=>none
def Qc4:Option Fl->EvS->Option Fl
 | some (.nx e),k=>k e
 | some (.rt d),_=>some (.rt d)
 | some (.bk e),_=>some (.bk e)
 | some (.ct e),_=>some (.ct e)
 | none,_=>none
theorem QM (e:Qq) (k:EvS):Qc4 (some (.nx e)) k=k e:=rfl
theorem QS (d:D) (k:EvS):Qc4 (some (.rt d)) k=some (.rt d):=rfl
theorem JR (e:Qq) (k:EvS):Qc4 (some (.bk e)) k=some (.bk e):=rfl
theorem JQ (e:Qq) (k:EvS):Qc4 (some (.ct e)) k=some (.ct e):=rfl
theorem Jj (k:EvS):Qc4 none k=none:=rfl
theorem Ju {c:Prop} [Decidable c] (a b:Option Fl) (k:EvS):Qc4 (if c then a else b) k=if c then Qc4 a k else Qc4 b k:=by split<;>rfl
def sQ (a b:EvS):EvS:=fun e=>Qc4 (a e) b
def sIf (c:EvE) (a b:EvS):EvS:=fun e=>ifO (c e) (a e) (b e)
def Qj (a:EvE):EvS:=fun e=>(a e).map .rt
def ZP:EvS:=fun _=>some (.rt .non)
def Qd (a:EvE) (g:EvG):EvS:=fun e=>(a e).bind fun d=>(g d e).map .nx
def Zu (i:Nat) (g:D->D->Option D) (a:EvE):EvS:=fun e=>(eV i e).bind fun x=>(a e).bind fun y=>(g x y).map fun z=>.nx (e.set i (some z))
def JY (a:EvE):EvS:=fun e=>(a e).map fun _=>.nx e
def sNx:EvS:=fun e=>some (.nx e)
def Yt:EvS:=fun e=>some (.bk e)
def Z2:EvS:=fun e=>some (.ct e)
def D.app:D->D->Option D
 | .lst xs,d=>if xs.length<lI then some (.lst (xs++[d])) else none
 | _,_=>none
def D.ext:D->D->Option D
 | .lst xs,.lst ys=>if xs.length+ys.length<=lI then some (.lst (xs++ys)) else none
 | _,_=>none
def sP (i:Nat) (a:EvE):EvS:=fun e=>(eV i e).bind fun x=>(a e).bind fun d=>(D.app x d).map fun z=>.nx (e.set i (some z))
def Qqn (i:Nat) (a:EvE):EvS:=fun e=>(eV i e).bind fun x=>(a e).bind fun d=>(D.ext x d).map fun z=>.nx (e.set i (some z))
def YU:Option Fl->EvS->Option Fl
 | some (.nx e),k=>k e
 | some (.ct e),k=>k e
 | some (.bk e),_=>some (.nx e)
 | some (.rt d),_=>some (.rt d)
 | none,_=>none
theorem Qkb (e:Qq) (k:EvS):YU (some (.nx e)) k=k e:=rfl
def YF (g:EvG) (b:EvS):List D->EvS
 | [],e=>some (.nx e)
 | d::ds,e=>YU ((g d e).bind b) (YF g b ds)
abbrev EvI:=Qq->Option (List D)
def Jn (it:EvI) (g:EvG) (b:EvS):EvS:=fun e=>(it e).bind fun ds=>YF g b ds e
def rD (lo:Int) (n:Nat):List D:=(List.range n).map fun i:Nat=>.int (lo+(i:Int))
def VE:Nat->List D->List D
 | _,[]=>[]
 | n,d::ds=>.tup [.int n,d]::VE (n+1) ds
def D.rng:D->Option (List D)
 | .int n=>if n.natAbs<4611686018427387904 then some (rD 0 n.toNat) else none
 | _=>none
def D.its:D->Option (List D)
 | .lst xs=>some xs
 | .scr ns=>some (ns.map .int)
 | _=>none
def D.itsT:D->Option (List D)
 | .tup xs=>some xs
 | _=>none
def YR (a:EvE):EvI:=fun e=>(a e).bind fun d=>D.rng d
def Q1 (a:EvE):EvI:=fun e=>(a e).bind fun d=>D.its d
def Qbl (a:EvE):EvI:=fun e=>(a e).bind fun d=>(D.its d).map fun ds=>VE 0 ds
def QeK:Option Fl->Option D
 | some (.rt d)=>some d
 | some (.nx _)=>some .non
 | _=>none
theorem JV (d:D):QeK (some (.rt d))=some d:=rfl
theorem JW (e:Qq):QeK (some (.nx e))=some .non:=rfl
theorem Jw {c:Prop} [Decidable c] (a b:Option Fl):QeK (if c then a else b)=if c then QeK a else QeK b:=by split<;>rfl
theorem Jy {α β:Type} {c:Prop} [Decidable c] (a b:Option α) (f:α->Option β):(if c then a else b).bind f=if c then a.bind f else b.bind f:=by split<;>rfl
theorem JT {α β:Type} {c:Prop} [Decidable c] (a b:Option α) (f:α->β):(if c then a else b).map f=if c then a.map f else b.map f:=by split<;>rfl
def sD (n:Nat) (ds:List D):Qq:=ds.map some++List.replicate (n-ds.length) none
def QA (n k:Nat) (b:EvS) (ds:List D):Option D:=if ds.length=k then QeK (b (sD n ds)) else none
end Wd
namespace Wd
open PySem
def Qav (g:EvG) (c el:EvE):List D->Qq->Option (List D)
 | [],_=>some []
 | d::ds,e=>(g d e).bind fun e1=>ifO (c e1) ((el e1).bind fun x=>(Qav g c el ds e1).map fun r=>x::r) (Qav g c el ds e1)
def QbR (n:Nat) (caps:List Nat) (e:Qq):Qq:=List.replicate n none++caps.map fun i=>(e[i]?).join
def QR (n:Nat) (caps:List Nat) (it:EvI) (g:EvG) (c el:EvE):EvE:=fun e=>(it e).bind fun ds=>if ds.length<=lI then (Qav g c el ds (QbR n caps e)).map .lst else none
end Wd
namespace Wd
open PySem
def Qaq (x:Str) (lo hi:Option Int):Str:=⟨(ZY x.cps.toList lo hi).toArray⟩
def Z9 (x:Str) (n:Int):Str:=⟨(List.replicate n.toNat x.cps.toList).flatten.toArray⟩
def Zw (x:D) (lo hi:Option Int):Option D:=match x with
 | .str z=>if z.length<=lI then some (.str (Qaq z lo hi)) else none
 | d=>D.cut d lo hi
def J1 (a:EvE) (lo hi:EvO):EvE:=fun e=>(a e).bind fun x=>(lo e).bind fun l=>(hi e).bind fun h=>Zw x l h
def D.strip:D->Option D
 | .str x=>if x.length<=lI then some (.str (Txt.strip x)) else none
 | _=>none
def D.mulA:D->D->Option D
 | .int i,.int j=>D.mul (.int i) (.int j)
 | .str x,.int n=>if -1073741824<n/\n<1073741824/\x.length*n.toNat<=lI then some (.str (Z9 x n)) else none
 | .lst xs,.int n=>if -1073741824<n/\n<1073741824/\xs.length*n.toNat<=lI then some (.lst (List.replicate n.toNat xs).flatten) else none
 | _,_=>none
def Zo:D->Bool
 | .non | .bl _ | .int _ | .str _=>true
 | _=>false
def inD (x:D):List D->Bool
 | []=>false
 | y::ys=>(D.eq y x==some true)||inD x ys
def D.inO (x y:D):Option D:=match y with
 | .tup ys=>if Zo x=true/\ys.all Zo=true then some (.bl (inD x ys)) else none
 | .lst ys=>if Zo x=true/\ys.all Zo=true then some (.bl (inD x ys)) else none
 | _=>none
def D.notInO (x y:D):Option D:=match y with
 | .tup ys=>if Zo x=true/\ys.all Zo=true then some (.bl (!inD x ys)) else none
 | .lst ys=>if Zo x=true/\ys.all Zo=true then some (.bl (!inD x ys)) else none
 | _=>none
def D.listOf:D->Option D
 | .lst xs=>some (.lst xs)
 | .tup xs=>some (.lst xs)
 | .scr ns=>some (.lst (ns.map .int))
 | _=>none
end Wd
namespace Wd
open PySem
def J7:Int->List Int->Int
 | m,[]=>m
 | m,n::ns=>J7 (if n > m then n else m) ns
theorem QbG:∀ (ns:List Int) (m:Int),(J7 m ns=m\/J7 m ns∈ns)/\m<=J7 m ns/\∀ a∈ns,a<=J7 m ns
 | [],m=>⟨.inl rfl,Int.le_refl _,fun _ h=>by cases h⟩
 | n::ns,m=>by
  obtain ⟨h1,h2,h3⟩:=QbG ns (if n > m then n else m)
  show (J7 (if n > m then n else m) ns=m\/_)/\_
  refine ⟨?_,?_,fun a ha=>?_⟩
  ·rcases h1 with h | h
   ·by_cases z:n > m
    ·right;show J7 (if n > m then n else m) ns∈n::ns;rw [h,if_pos z];exact List.mem_cons_self
    ·left;rw [h,if_neg z]
   ·right;exact List.mem_cons_of_mem _ h
  ·show m<=J7 (if n > m then n else m) ns
   refine Int.le_trans ?_ h2
   split<;>omega
  ·show a<=J7 (if n > m then n else m) ns
   rcases List.mem_cons.mp ha with z | z
   ·subst z
    refine Int.le_trans ?_ h2
    split<;>omega
   ·exact h3 a z
def D.maxL:D->Option D
 | .lst xs=>match intsOf xs with
  | some (m::ns)=>some (.int (J7 m ns))
  | _=>none
 | _=>none
def D.sumL:D->Option D
 | .lst xs=>(intsOf xs).map fun ns=>.int ns.sum
 | _=>none
def VL:List D->Option (List Bool)
 | []=>some []
 | .bl b::r=>(VL r).map (b::·)
 | _=>none
def D.anyL:D->Option D
 | .lst xs=>(VL xs).map fun bs=>.bl (bs.any id)
 | _=>none
end Wd
namespace Wd
open PySem
def Vb:EvS:=fun _=>none
theorem QF (i j:Int):D.mulA (.int i) (.int j)=D.mul (.int i) (.int j):=rfl
end Wd
namespace Wd
open PySem
def kOf:D->Option Kd
 | .str x=>some (.inr x)
 | .int i=>some (.inl i)
 | _=>none
def hasK (k:Kd) (ks:List Kd):Bool:=ks.any fun c=>decide (c=k)
def Qc6:List Kd->List D->Kd->Option D
 | c::ks,d::ds,k=>if c=k then some d else Qc6 ks ds k
 | _,_,_=>none
def Qnp:List Kd->List D->Kd->D->List D
 | c::ks,d::ds,k,v=>(if c=k then v else d)::Qnp ks ds k v
 | _,_,_,_=>[]
def D.dget:D->D->Option D
 | .dic ks ds,y=>(kOf y).bind fun k=>Qc6 ks ds k
 | _,_=>none
def D.dIn (y d:D):Option D:=match d with
 | .dic ks _=>(kOf y).map fun k=>.bl (hasK k ks)
 | _=>none
def D.dNotIn (y d:D):Option D:=match d with
 | .dic ks _=>(kOf y).map fun k=>.bl (!hasK k ks)
 | _=>none
def QeL (ks:List Kd) (ds:List D) (k:Kd) (v:D):D:=if hasK k ks=true then .dic ks (Qnp ks ds k v) else .dic (ks++[k]) (ds++[v])
def D.put (x y v:D):Option D:=match x with
 | .dic ks ds=>(kOf y).bind fun k=>if ks.length<lI then some (QeL ks ds k v) else none
 | _=>none
def QdT (i:Nat) (key val:EvE):EvS:=fun e=>(val e).bind fun v=>(eV i e).bind fun x=>(key e).bind fun y=>(D.put x y v).map fun z=>.nx (e.set i (some z))
def Qc5 (n k:Nat) (b:EvS) (ds:List D):Option D:=if ds.length=k then match b (sD n ds) with
 | some (.nx e)=>(e[k-1]?).join
 | _=>none else none
def Vu (i:Nat) (f:List D->Option D) (l:EvL):EvS:=fun e=>(l e).bind fun ds=>(eV i e).bind fun d=>(f (ds++[d])).map fun z=>.nx (e.set i (some z))
def Qao:List D->List D->List D
 | a::as,b::bs=>.tup [a,b]::Qao as bs
 | _,_=>[]
def Qqt (a b:EvE):EvI:=fun e=>(a e).bind fun x=>(b e).bind fun y=>(D.its x).bind fun xs=>(D.its y).map fun ys=>Qao xs ys
end Wd
namespace Wd
open PySem
def Va (c:EvE) (b:EvS):Nat->EvS
 | 0,_=>none
 | n+1,e=>ifO (c e) (YU (b e) (Va c b n)) (some (.nx e))
def Qow (c:EvE) (b:EvS):EvS:=Va c b 100000
theorem QnE {o:Option Fl} {k k':EvS} {r:Fl} (h:∀ e r,k e=some r->k' e=some r) (q:YU o k=some r):YU o k'=some r:=by
 cases o with
 | none=>cases q
 | some f=>cases f with
  | nx e=>exact h e r q
  | ct e=>exact h e r q
  | bk e=>exact q
  | rt d=>exact q
theorem QfL (c:EvE) (b:EvS):∀ (n m:Nat),n<=m->∀ e r,Va c b n e=some r->Va c b m e=some r
 | 0,_,_,e,r,h=>by cases h
 | n+1,0,hm,_,_,_=>by omega
 | n+1,m+1,hm,e,r,h=>by
  have h':ifO (c e) (YU (b e) (Va c b n)) (some (.nx e))=some r:=h
  show ifO (c e) (YU (b e) (Va c b m)) (some (.nx e))=some r
  cases q:c e with
  | none=>rw [q] at h';cases h'
  | some d=>cases d with
   | bl k =>
    rw [q] at h'
    cases k with
    | true=>exact QnE (QfL c b n m (by omega)) h'
    | false=>exact h'
   | _=>rw [q] at h';cases h'
end Wd
namespace Wd
open PySem
end Wd
namespace Wd
open PySem
end Wd
namespace Wd
open PySem
def D.isNT:D->Option D
 | .bl b=>some (.bl (!b))
 | _=>none
def Qb0 (a b:EvE):EvI:=fun e=>(a e).bind fun x=>(b e).bind fun y=>match x,y with
 | .int i,.int j=>if i.natAbs<4611686018427387904/\j.natAbs<4611686018427387904 then some (rD i (j-i).toNat) else none
 | _,_=>none
end Wd
namespace Wd
open PySem PySem.Spec PyProof.Rows L2
abbrev Fg:=PySem.W.Frag
def Sm (F H:Hp):Prop:=∀ a o,F a=some o->H a=some o
theorem Sm.refl (F:Hp):Sm F F:=fun _ _ h=>h
theorem Sm.trans {F G H:Hp} (a:Sm F G) (b:Sm G H):Sm F H:=fun x o h=>b x o (a x o h)
theorem Sm.none {F H:Hp} (s:Sm F H) {a:Addr} (h:H a=none):F a=none:=by
 cases e:F a with
 | none=>rfl
 | some o=>rw [s a o e] at h;cases h
theorem Sm.upd {F H:Hp} (s:Sm F H) {p:Addr} (o:HO) (h:F p=Option.none):Sm F (L2.upd H p o):=fun a x e=>by
 have:a≠p:=fun z=>by rw [z,h] at e;cases e
 rw [QJ this];exact s a x e
theorem Sm.upd2 {F H:Hp} (s:Sm F H) (p:Addr) (o:HO):Sm (L2.upd F p o) (L2.upd H p o):=fun a x e=>by
 by_cases z:a=p
 ·subst z;rw [Jb] at e ⊢;exact e
 ·rw [QJ z] at e ⊢;exact s a x e
theorem Sm.sqL {K:Fg} {F H:Hp} (s:Sm F H) {a:Addr} {xs:List V} (h:SqL K F a xs):SqL K H a xs:=by
 rcases h with (h | ⟨o,h⟩) | h
 ·exact .inl (.inl (s _ _ h))
 ·exact .inl (.inr ⟨o,s _ _ h⟩)
 ·exact .inr h
mutual
inductive Rep (K:Fg) (F:Hp):V->D->Prop where
 | non:Rep K F .non .non
 | bl (b:Bool):Rep K F (.bl b) (.bl b)
 | int (i:Int):Rep K F (.int i) (.int i)
 | str (x:Str):Rep K F (.str x) (.str x)
 | tup {a:Addr} {xs:List V} {ds:List D} (h:F a=some (.tup xs)) (r:Reps K F xs ds):Rep K F (.ref a) (.tup ds)
 | lst {a:Addr} {xs:List V} {ds:List D} (h:F a=some (.lst xs)) (r:Reps K F xs ds):Rep K F (.ref a) (.lst ds)
 | scr {a:Addr} {ns:List Int} (h:SqL K F a (ns.map V.int)):Rep K F (.ref a) (.scr ns)
 | dic {a:Addr} {o:Obj} {ks:List Kd} {xs:List V} {ds:List D} (h:F a=some (.frz o (.dK (ks.zip xs)))) (hl:ks.length=xs.length) (r:Reps K F xs ds):Rep K F (.ref a) (.dic ks ds)
inductive Reps (K:Fg) (F:Hp):List V->List D->Prop where
 | nil:Reps K F [] []
 | cons {x:V} {d:D} {xs:List V} {ds:List D} (h:Rep K F x d) (r:Reps K F xs ds):Reps K F (x::xs) (d::ds)
end
mutual
theorem Rep.mono {K:Fg} {F F':Hp} (s:Sm F F'):∀ {v:V} {d:D},Rep K F v d->Rep K F' v d
 | _,_,.non=>.non
 | _,_,.bl b=>.bl b
 | _,_,.int i=>.int i
 | _,_,.str x=>.str x
 | _,_,.tup h r=>.tup (s _ _ h) (Reps.mono s r)
 | _,_,.lst h r=>.lst (s _ _ h) (Reps.mono s r)
 | _,_,.scr h=>.scr (s.sqL h)
 | _,_,.dic h hl r=>.dic (s _ _ h) hl (Reps.mono s r)
theorem Reps.mono {K:Fg} {F F':Hp} (s:Sm F F'):∀ {vs:List V} {ds:List D},Reps K F vs ds->Reps K F' vs ds
 | _,_,.nil=>.nil
 | _,_,.cons h r=>.cons (Rep.mono s h) (Reps.mono s r)
end
section
variable {K:Fg} {F H:Hp}
theorem Reps.length:∀ {vs:List V} {ds:List D},Reps K F vs ds->vs.length=ds.length
 | _,_,.nil=>rfl
 | _,_,.cons _ r=>by rw [List.length_cons,List.length_cons,r.length]
theorem Reps.get:∀ {vs:List V} {ds:List D} {i:Nat} {d:D},Reps K F vs ds->ds[i]?=some d->∃ v,vs[i]?=some v/\Rep K F v d
 | _,_,_,_,.nil,e=>by simp at e
 | _,_,0,_,.cons h _,e=>by simp at e;subst e;exact ⟨_,rfl,h⟩
 | _,_,i+1,d,.cons _ r,e=>by
  obtain ⟨v,h1,h2⟩:=Reps.get (i:=i) (d:=d) r (by simpa using e)
  exact ⟨v,by simpa using h1,h2⟩
theorem Reps.getV:∀ {vs:List V} {ds:List D} {i:Nat} {v:V},Reps K F vs ds->vs[i]?=some v->∃ d,ds[i]?=some d/\Rep K F v d
 | _,_,_,_,.nil,e=>by simp at e
 | _,_,0,_,.cons h _,e=>by simp at e;subst e;exact ⟨_,rfl,h⟩
 | _,_,i+1,v,.cons _ r,e=>by
  obtain ⟨d,h1,h2⟩:=Reps.getV (i:=i) (v:=v) r (by simpa using e)
  exact ⟨d,by simpa using h1,h2⟩
theorem Reps.append:∀ {vs ws:List V} {ds es:List D},Reps K F vs ds->Reps K F ws es->Reps K F (vs++ws) (ds++es)
 | _,_,_,_,.nil,s=>s
 | _,_,_,_,.cons h r,s=>.cons h (Reps.append r s)
theorem Reps.drop:∀ {vs:List V} {ds:List D} (n:Nat),Reps K F vs ds->Reps K F (vs.drop n) (ds.drop n)
 | _,_,0,r=>r
 | _,_,_+1,.nil=>.nil
 | _,_,n+1,.cons _ r=>Reps.drop n r
theorem Reps.take:∀ {vs:List V} {ds:List D} (n:Nat),Reps K F vs ds->Reps K F (vs.take n) (ds.take n)
 | _,_,0,_=>.nil
 | _,_,_+1,.nil=>.nil
 | _,_,n+1,.cons h r=>.cons h (Reps.take n r)
theorem Reps.ints:∀ (ns:List Int),Reps K F (ns.map V.int) (ns.map D.int)
 | []=>.nil
 | n::ns=>.cons (.int n) (Reps.ints ns)
theorem Reps.intsOf:∀ {vs:List V} {ds:List D} {ns:List Int},Reps K F vs ds->Wd.intsOf ds=some ns->vs=ns.map V.int
 | _,_,ns,.nil,e=>by cases e;rfl
 | _,_,ns,.cons (d:=d) h r,e=>by
  cases h with
  | int i =>
   simp only [Wd.intsOf] at e
   cases q:Wd.intsOf _ with
   | none=>rw [q] at e;cases e
   | some ms =>
    rw [q] at e
    cases e
    rw [Reps.intsOf r q];rfl
  | _=>simp [Wd.intsOf] at e
end
def ho:Option (List Kd)->List V->HO
 | none,xs=>.lst xs
 | some ks,xs=>.dK (ks.zip xs)
def dOf:Option (List Kd)->List D->D
 | none,ds=>.lst ds
 | some ks,ds=>.dic ks ds
def Qar:Option (List Kd)->List V->Prop
 | none,_=>True
 | some ks,xs=>ks.length=xs.length
def hz (o:Obj):Option (List Kd)->List V->HO
 | none,xs=>.lst xs
 | some ks,xs=>.frz o (.dK (ks.zip xs))
theorem Rep.hz {K:Fg} {F:Hp} {p:Addr} {o:Obj}:∀ {k:Option (List Kd)} {xs:List V} {ds:List D},F p=some (hz o k xs)->Qar k xs->Reps K F xs ds->Rep K F (.ref p) (dOf k ds)
 | none,_,_,h,_,r=>.lst h r
 | some _,_,_,h,hl,r=>.dic h hl r
def RdD (K:Fg) (F H:Hp) (v:V) (d:D):Prop:=Rep K F v d\/∃ p k xs ds,v=.ref p/\H p=some (ho k xs)/\Reps K F xs ds/\d=dOf k ds/\Qar k xs
structure Gr (F H F' H':Hp):Prop where
 ff:Sm F F'
 hh:Sm H H'
 fh:Sm F' H'
 fr:∀ a o,F' a=some o->F a=some o\/H a=none
theorem Gr.refl {F H:Hp} (s:Sm F H):Gr F H F H:=⟨.refl _,.refl _,s,fun _ _ h=>.inl h⟩
theorem Gr.trans {F H F1 H1 F2 H2:Hp} (a:Gr F H F1 H1) (b:Gr F1 H1 F2 H2):Gr F H F2 H2 :=
 ⟨a.ff.trans b.ff,a.hh.trans b.hh,b.fh,fun x o h=>by
  rcases b.fr x o h with h | h
  ·exact a.fr x o h
  ·exact .inr (a.hh.none h)⟩
theorem Gr.new {F H:Hp} (s:Sm F H) {p:Addr} (h:H p=none) (o:HO):Gr F H (upd F p o) (upd H p o) :=
 ⟨(Sm.refl F).upd o (s.none h),(Sm.refl H).upd o h,s.upd2 p o,fun a x e=>by
  by_cases z:a=p
  ·subst z;exact .inr h
  ·rw [QJ z] at e;exact .inl e⟩
theorem Gr.newO {F H:Hp} (s:Sm F H) {p:Addr} (h:H p=none) (o:HO):Gr F H F (upd H p o) :=
 ⟨.refl F,(Sm.refl H).upd o h,s.upd o (s.none h),fun _ _ e=>.inl e⟩
theorem RdD.gr {K:Fg} {F H F' H':Hp} {v:V} {d:D} (g:Gr F H F' H') (r:RdD K F H v d):RdD K F' H' v d:=by
 rcases r with r | ⟨p,k,xs,ds,rfl,h,r,rfl,hk⟩
 ·exact .inl (r.mono g.ff)
 ·exact .inr ⟨p,k,xs,ds,rfl,g.hh _ _ h,r.mono g.ff,rfl,hk⟩
structure Fz where
 f:Hp
 h:Hp
 p:Option Addr
def Yi (i:Nat):Nat:=1000+i
structure RS (K:Fg) (H₀:Hp) (F0:Fz) (F H:Hp) (σ:L2.St) (e:Qq) (O:List Nat):Prop where
 fh:Sm F H
 hh:Sm F0.h H
 ff:Sm F0.f F
 fr:∀ a o,F a=some o->F0.f a=some o\/F0.h a=none
 slot:∀ i d,e[i]?=some (some d)->i∉O->∃ v,σ[i]?=some (some v)/\Rep K F v d
 own:∀ i d,e[i]?=some (some d)->i∈O->∃ p k xs ds,σ[i]?=some (some (.ref p))/\F0.h p=none/\F p=none/\H p=some (ho k xs)/\Reps K F xs ds/\d=dOf k ds/\Qar k xs
 dis:∀ i j p d d',i∈O->j∈O->e[i]?=some (some d)->e[j]?=some (some d')->σ[i]?=some (some (.ref p))->σ[j]?=some (some (.ref p))->i=j
 pin:∀ i,Yi i∈O->∃ p,F0.p=some p/\σ[i]?=some (some (.ref p))
 len:σ.length=e.length
theorem RS.grow {K:Fg} {H₀:Hp} {F0:Fz} {F H F' H':Hp} {σ:L2.St} {e:Qq} {O:List Nat} (r:RS K H₀ F0 F H σ e O) (g:Gr F H F' H'):RS K H₀ F0 F' H' σ e O where
 fh:=g.fh
 hh:=r.hh.trans g.hh
 ff:=r.ff.trans g.ff
 fr:=fun a o h=>by
  rcases g.fr a o h with h | h
  ·exact r.fr a o h
  ·exact .inr (r.hh.none h)
 slot:=fun i d h hi=>by
  obtain ⟨v,h1,h2⟩:=r.slot i d h hi
  exact ⟨v,h1,h2.mono g.ff⟩
 own:=fun i d h hi=>by
  obtain ⟨p,k,xs,ds,h1,h2,h3,h4,h5,h6⟩:=r.own i d h hi
  refine ⟨p,k,xs,ds,h1,h2,?_,g.hh _ _ h4,h5.mono g.ff,h6⟩
  cases q:F' p with
  | none=>rfl
  | some o =>
   rcases g.fr p o q with z | z
   ·rw [h3] at z;cases z
   ·rw [h4] at z;cases z
 dis:=r.dis
 pin:=r.pin
 len:=r.len
section
variable (X:Cx) (O:List Nat)
def tD (ev:EvE):TE:=fun σ H Q=>∃ F0 F e d,RS X.K X.H₀ F0 F H σ e O/\ev e=some d/\∀ v F' H',Gr F H F' H'->Rep X.K F' v d->Q v H'
def tR (ev:EvE):TE:=fun σ H Q=>∃ F0 F e d,RS X.K X.H₀ F0 F H σ e O/\ev e=some d/\∀ v F' H',Gr F H F' H'->RdD X.K F' H' v d->Q v H'
def tO (ev:EvE):TE:=fun σ H Q=>∃ F0 F e d,RS X.K X.H₀ F0 F H σ e O/\ev e=some d/\∀ p k xs ds F' H',Gr F H F' H'->H p=none->F' p=none->H' p=some (ho k xs)->Reps X.K F' xs ds->d=dOf k ds->Qar k xs->Q (.ref p) H'
def tDT (ev:EvE):TT:=fun σ H Q=>∃ F0 F e b,RS X.K X.H₀ F0 F H σ e O/\ev e=some (.bl b)/\∀ F' H',Gr F H F' H'->Q b H'
def tL (l:EvL):TA:=fun σ H Q=>∃ F0 F e ds,RS X.K X.H₀ F0 F H σ e O/\l e=some ds/\∀ vs F' H',Gr F H F' H'->Reps X.K F' vs ds->Q vs H'
def tOI (l:EvO):TO:=fun σ H Q=>∃ F0 F e o,RS X.K X.H₀ F0 F H σ e O/\l e=some o/\∀ F' H',Gr F H F' H'->Q o H'
end
section
variable {X:Cx} {O:List Nat} {e a b c:Expr} {pos:Pos}
theorem PE.imp {t t':TE} (h:PE X e t) (q:∀ σ H Q,t' σ H Q->t σ H Q):PE X e t':=fun pins s σ H Q I z=>h pins s σ H Q I (q σ H Q z)
theorem PT.imp {t t':TT} (h:PT X e t) (q:∀ σ H Q,t' σ H Q->t σ H Q):PT X e t':=fun pins s σ H Q I z=>h pins s σ H Q I (q σ H Q z)
theorem PW.imp {t t':TT} (h:PW X e t) (q:∀ σ H Q,t' σ H Q->t σ H Q):PW X e t':=fun w pins s σ H Q I z=>h w pins s σ H Q I (q σ H Q z)
theorem PA.imp {es:List Expr} {t t':TA} (h:PA X es t) (q:∀ σ H Q,t' σ H Q->t σ H Q):PA X es t':=fun p pins s σ H Q I z=>h p pins s σ H Q I (q σ H Q z)
theorem PS.imp {st:Stmt} {t t':TS} (h:PS X st t) (q:∀ D σ H,t' D σ H->t D σ H):PS X st t':=fun pins s σ H D I z=>h pins s σ H D I (q D σ H z)
theorem PSs.imp {st:List Stmt} {t t':TS} (h:PSs X st t) (q:∀ D σ H,t' D σ H->t D σ H):PSs X st t':=fun pins s σ H D I z=>h pins s σ H D I (q D σ H z)
theorem dr {ev:EvE} (h:PE X e (tD X O ev)):PE X e (tR X O ev):=PE.imp h fun σ H Q ⟨F0,F,en,d,r,w,k⟩=>⟨F0,F,en,d,r,w,fun v F' H' g q=>k v F' H' g (.inl q)⟩
theorem dC {v:V} {d:D} (hr:∀ K F,Rep K F v d) (h:PE X e (tC v)):PE X e (tD X O (eC d)) :=
 PE.imp h fun σ H Q ⟨F0,F,en,d',r,w,k⟩=>by
  cases w
  exact k v F H (.refl r.fh) (hr _ _)
theorem Qb1 {b:Bool} {j}:PE X (.Constant (.bool b) j pos) (tD X O (eC (.bl b))):=dC (fun _ _=>.bl b) QrQ
theorem Qw {i:Int} {j}:PE X (.Constant (.int i) j pos) (tD X O (eC (.int i))):=dC (fun _ _=>.int i) Qt6
theorem Qe {x:Str} {j}:PE X (.Constant (.str x) j pos) (tD X O (eC (.str x))):=dC (fun _ _=>.str x) Qt3
theorem QQ {x:Str} {i:Int} (hm:∃ t,X.mg x=some (.int i t)) (hg:Gl X x) (hd:(x==("__debug__":Str))=false:=by decide):PE X (.Name x pos) (tD X O (eC (.int i))):=by
 obtain ⟨t,hm⟩:=hm
 exact dC (fun _ _=>.int i) (Qsz hg hm (show RelV (.int i) _ from ⟨t,rfl⟩) hd)
theorem Zq {i:Nat} {en:Qq} {d:D} (h:eV i en=some d):en[i]?=some (some d):=by
 unfold eV at h
 cases q:en[i]? with
 | none=>rw [q] at h;cases h
 | some o=>rw [q] at h;cases o with
  | none=>cases h
  | some x=>cases h;rfl
theorem Qu (i:Nat) {x:Str} (hN:X.N[i]?=some x:=by rfl) (hv:Vis X.env.scope x:=by first | exact Or.inl rfl | exact Or.inr (Or.inl rfl) | exact Or.inr (Or.inr rfl)) (hO:i∉O:=by decide) (hd:(x==("__debug__":Str))=false:=by decide) (hcd:(x==("__classdict__":Str))=false:=by decide) :
  PE X (.Name x pos) (tD X O (eV i)) :=
 PE.imp (Qdo hN hv hd hcd) fun σ H Q ⟨F0,F,en,d,r,w,k⟩=>by
  obtain ⟨v,h1,h2⟩:=r.slot i d (Zq w) hO
  exact ⟨v,h1,k v F H (.refl r.fh) h2⟩
theorem VU (i:Nat) {x:Str} (hN:X.N[i]?=some x:=by rfl) (hv:Vis X.env.scope x:=by first | exact Or.inl rfl | exact Or.inr (Or.inl rfl) | exact Or.inr (Or.inr rfl)) (hd:(x==("__debug__":Str))=false:=by decide) (hcd:(x==("__classdict__":Str))=false:=by decide) :
  PE X (.Name x pos) (tR X O (eV i)) :=
 PE.imp (Qdo hN hv hd hcd) fun σ H Q ⟨F0,F,en,d,r,w,k⟩=>by
  by_cases hO:i∈O
  ·obtain ⟨p,kk,xs,ds,h1,_,_,h4,h5,h6,h7⟩:=r.own i d (Zq w) hO
   exact ⟨_,h1,k _ F H (.refl r.fh) (.inr ⟨p,kk,xs,ds,rfl,h4,h5,h6,h7⟩)⟩
  ·obtain ⟨v,h1,h2⟩:=r.slot i d (Zq w) hO
   exact ⟨v,h1,k v F H (.refl r.fh) (.inl h2)⟩
def Op2 (X:Cx) (r:R2) (g:D->D->Option D):Prop:=∀ (F H:Hp) (x y:V) (dx dy d:D) (Q:VK),Sm F H->RdD X.K F H x dx->RdD X.K F H y dy->g dx dy=some d->(∀ v F' H',Gr F H F' H'->Rep X.K F' v d->Q v H')->r x y H Q
theorem Qb3 {α β γ:Type} {a:Option α} {b:Option β} {g:α->β->Option γ} {d:γ} (h:(a.bind fun x=>b.bind fun y=>g x y)=some d):∃ x y,a=some x/\b=some y/\g x y=some d:=by
 cases a with
 | none=>cases h
 | some x=>cases b with
  | none=>cases h
  | some y=>exact ⟨x,y,rfl,rfl,h⟩
theorem Q5 {α β:Type} {a:Option α} {g:α->Option β} {d:β} (h:(a.bind fun x=>g x)=some d):∃ x,a=some x/\g x=some d:=by
 cases a with
 | none=>cases h
 | some x=>exact ⟨x,rfl,h⟩
theorem Zv {α β:Type} {a:Option α} {g:α->β} {d:β} (h:a.map g=some d):∃ x,a=some x/\g x=d:=by
 cases a with
 | none=>cases h
 | some x=>cases h;exact ⟨x,rfl,rfl⟩
theorem QjA {r:R2} {g:D->D->Option D} {ea eb:EvE} (ho:Op2 X r g) {σ:L2.St} {H:Hp} {Q:VK} (h:tD X O (eOp g ea eb) σ H Q):tOp r (tR X O ea) (tR X O eb) σ H Q:=by
 obtain ⟨F0,F,en,d,rs,w,k⟩:=h
 obtain ⟨dx,dy,e1,e2,e3⟩:=Qb3 w
 refine ⟨F0,F,en,dx,rs,e1,fun x F1 H1 g1 r1=>?_⟩
 refine ⟨F0,F1,en,dy,rs.grow g1,e2,fun y F2 H2 g2 r2=>?_⟩
 exact ho F2 H2 x y dx dy d Q g2.fh (r1.gr g2) r2 e3 fun v F' H' g3 r3=>k v F' H' ((g1.trans g2).trans g3) r3
theorem Qa {op:Operator} {r:R2} {g:D->D->Option D} {ea eb:EvE} (ho:OpR X (binaryOp op) r/\Op2 X r g) (ha:PE X a (tR X O ea)) (hb:PE X b (tR X O eb)):PE X (.BinOp a op b pos) (tD X O (eOp g ea eb)) :=
 PE.imp (Qve ho.1 ha hb) fun σ H Q=>QjA ho.2
theorem JB {op:CmpOp} {r:R2} {g:D->D->Option D} {ea eb:EvE} (ho:OpR X (compareOp op) r/\Op2 X r g) (ha:PE X a (tR X O ea)) (hb:PE X b (tR X O eb)) (hm:behindInMarks op b=false):PE X (.Compare a [op] [b] pos) (tD X O (eOp g ea eb)) :=
 PE.imp (QsB ho.1 ha hb hm) fun σ H Q=>QjA ho.2
theorem QuM {ea eb:EvE} {r:R2} (ho:IxR X r/\Op2 X r D.ix) (ha:PE X a (tR X O ea)) (hb:PE X b (tR X O eb)) (hs:Qij b:=by intro _ _;rfl):PE X (.Subscript a b pos) (tD X O (eOp D.ix ea eb)) :=
 PE.imp (Qvf ho.1 ha hb hs) fun σ H Q=>QjA ho.2
end
end Wd
namespace Wd
open PySem PySem.Spec PyProof.Rows L2
section
variable {K:Fg} {F H:Hp} {v:V}
theorem RdD.int {i:Int} (r:RdD K F H v (.int i)):v=.int i:=by
 rcases r with r | ⟨_,k,_,_,_,_,_,z,_⟩
 ·cases r;rfl
 ·cases k<;>cases z
theorem RdD.bl {b:Bool} (r:RdD K F H v (.bl b)):v=.bl b:=by
 rcases r with r | ⟨_,k,_,_,_,_,_,z,_⟩
 ·cases r;rfl
 ·cases k<;>cases z
theorem RdD.str {x:Str} (r:RdD K F H v (.str x)):v=.str x:=by
 rcases r with r | ⟨_,k,_,_,_,_,_,z,_⟩
 ·cases r;rfl
 ·cases k<;>cases z
theorem RdD.non (r:RdD K F H v .non):v=.non:=by
 rcases r with r | ⟨_,k,_,_,_,_,_,z,_⟩
 ·cases r;rfl
 ·cases k<;>cases z
theorem RdD.tup {ds:List D} (r:RdD K F H v (.tup ds)):∃ p xs,v=.ref p/\F p=some (.tup xs)/\Reps K F xs ds:=by
 rcases r with r | ⟨_,k,_,_,_,_,_,z,_⟩
 ·cases r with
  | tup h r=>exact ⟨_,_,rfl,h,r⟩
 ·cases k<;>cases z
theorem RdD.lst {ds:List D} (s:Sm F H) (r:RdD K F H v (.lst ds)):∃ p xs,v=.ref p/\H p=some (.lst xs)/\Reps K F xs ds:=by
 rcases r with r | ⟨p,k,xs,ds',h1,h2,h3,z,_⟩
 ·cases r with
  | lst h r=>exact ⟨_,_,rfl,s _ _ h,r⟩
 ·cases k with
  | none=>cases z;exact ⟨p,xs,h1,h2,h3⟩
  | some ks=>cases z
theorem RdD.dic {ks:List Kd} {ds:List D} (s:Sm F H) (r:RdD K F H v (.dic ks ds)):∃ p xs,v=.ref p/\Rd H p (.dK (ks.zip xs))/\ks.length=xs.length/\Reps K F xs ds:=by
 rcases r with r | ⟨p,k,xs,ds',h1,h2,h3,z,h4⟩
 ·cases r with
  | dic h hl r=>exact ⟨_,_,rfl,.inr ⟨_,s _ _ h⟩,hl,r⟩
 ·cases k with
  | none=>cases z
  | some ks'=>cases z;exact ⟨p,xs,h1,.inl h2,h4,h3⟩
theorem RdD.scr {ns:List Int} (r:RdD K F H v (.scr ns)):∃ p,v=.ref p/\SqL K F p (ns.map V.int):=by
 rcases r with r | ⟨_,k,_,_,_,_,_,z,_⟩
 ·cases r with
  | scr h=>exact ⟨_,rfl,h⟩
 ·cases k<;>cases z
theorem RdD.rep {d:D} (s:Sm F H) (hd:∀ ks ds,d≠.dic ks ds) (r:RdD K F H v d):Rep K H v d:=by
 rcases r with r | ⟨p,k,xs,ds',rfl,h2,h3,rfl,h4⟩
 ·exact r.mono s
 ·cases k with
  | none=>exact .lst h2 (h3.mono s)
  | some ks=>exact absurd rfl (hd ks ds')
end
section
variable {X:Cx}
theorem Yl:sizeLine=lI:=by decide
theorem Qh:OpR X (binaryOp .Add) (fun x y H Q=>((∃ i j,x=.int i/\y=.int j/\Q (.int (i+j)) H)\/(∃ i j,x=.str i/\y=.str j/\i.length+j.length<=sizeLine/\Q (.str (i++j)) H))\/(Qqq x y H Q\/Qnw X.K x y H Q)) /\
  Op2 X (fun x y H Q=>((∃ i j,x=.int i/\y=.int j/\Q (.int (i+j)) H)\/(∃ i j,x=.str i/\y=.str j/\i.length+j.length<=sizeLine/\Q (.str (i++j)) H))\/(Qqq x y H Q\/Qnw X.K x y H Q)) D.add:=by
 refine ⟨(OpR.or (OpR.or Quh QnR) (OpR.or Qug QsH)),fun F H x y dx dy d Q s rx ry e k=>?_⟩
 cases dx<;>cases dy<;>try (simp [D.add] at e;done)
 case int.int i j =>
  cases e
  exact .inl (.inl ⟨i,j,rx.int,ry.int,k _ F H (.refl s) (.int _)⟩)
 case str.str i j =>
  simp only [D.add] at e
  split at e
  ·rename_i hz
   cases e
   exact .inl (.inr ⟨i,j,rx.str,ry.str,by rw [Yl];exact hz,k _ F H (.refl s) (.str _)⟩)
  ·cases e
 case lst.lst xs ys =>
  simp only [D.add] at e
  split at e
  ·rename_i hz
   cases e
   obtain ⟨p,us,rfl,h1,r1⟩:=rx.lst s
   obtain ⟨q,ws,rfl,h2,r2⟩:=ry.lst s
   refine .inr (.inl ⟨p,q,us,ws,rfl,rfl,h1,h2,by rw [Yl,r1.length,r2.length];exact hz,fun l hl=>?_⟩)
   have g:=Gr.new s hl (.lst (us++ws))
   exact k _ _ _ g (.lst Jb ((r1.append r2).mono g.ff))
  ·cases e
 case tup.tup xs ys =>
  cases xs with
  | nil=>simp [D.add] at e
  | cons z xs =>
   simp only [D.add] at e
   split at e
   ·rename_i hz
    cases e
    obtain ⟨p,us,rfl,h1,r1⟩:=rx.tup
    obtain ⟨q,ws,rfl,h2,r2⟩:=ry.tup
    have hu:us≠[]:=fun z=>by subst z;cases r1
    refine .inr (.inr ⟨p,q,us,ws,rfl,rfl,SqT.of (s _ _ h1),SqT.of (s _ _ h2),hu,?_,fun z=>?_,fun _ l hl=>?_⟩)
    ·rw [Yl,r1.length,r2.length];exact hz
    ·subst z
     cases r2
     refine k _ F H (.refl s) ?_
     rw [List.append_nil]
     exact .tup h1 r1
    ·have g:=Gr.new s hl (.tup (us++ws))
     exact k _ _ _ g (.tup Jb ((r1.append r2).mono g.ff))
   ·cases e
theorem QjD {g:D->D->Option D} (h:∀ dx dy d,g dx dy=some d->∃ i j,dx=.int i/\dy=.int j) {C:Int->Int->Prop} {f:Int->Int->V} {fd:Int->Int->D} (hg:∀ i j d,g (.int i) (.int j)=some d->C i j/\d=fd i j) (hf:∀ K F i j,Rep K F (f i j) (fd i j)):Op2 X (rI C f) g:=fun F H x y dx dy d Q s rx ry e k=>by
 obtain ⟨i,j,rfl,rfl⟩:=h dx dy d e
 obtain ⟨c,rfl⟩:=hg i j d e
 exact ⟨i,j,rx.int,ry.int,c,k _ F H (.refl s) (hf _ _ i j)⟩
theorem Qg2 {g:D->D->Option D} (h:∀ dx dy d,g dx dy=some d->∃ i j,dx=.int i/\dy=.int j) {f:Int->Int->V} {fd:Int->Int->D} (hg:∀ i j d,g (.int i) (.int j)=some d->d=fd i j) (hf:∀ K F i j,Rep K F (f i j) (fd i j)):Op2 X (rI0 f) g:=fun F H x y dx dy d Q s rx ry e k=>by
 obtain ⟨i,j,rfl,rfl⟩:=h dx dy d e
 cases hg i j d e
 exact ⟨i,j,rx.int,ry.int,k _ F H (.refl s) (hf _ _ i j)⟩
theorem Z6:OpR X (binaryOp .Sub) (rI0 fun i j=>.int (i-j))/\Op2 X (rI0 fun i j=>.int (i-j)) D.sub :=
 ⟨Qua,Qg2 (fd:=fun i j=>.int (i-j)) (fun dx dy d e=>by cases dx<;>cases dy<;>simp [D.sub] at e ⊢) (fun i j d e=>by cases e;rfl) fun _ _ _ _=>.int _⟩
theorem QsE:OpR X (binaryOp .Mult) (rI CMul fun i j=>.int (i*j))/\Op2 X (rI CMul fun i j=>.int (i*j)) D.mul :=
 ⟨QoD,QjD (fd:=fun i j=>.int (i*j)) (fun dx dy d e=>by cases dx<;>cases dy<;>simp [D.mul] at e ⊢) (fun i j d e=>by
  simp only [D.mul] at e
  split at e
  ·rename_i h;cases e;exact ⟨h,rfl⟩
  ·cases e) fun _ _ _ _=>.int _⟩
theorem QP:OpR X (binaryOp .Mod) (rI (fun _ j=>0<j) fun i j=>.int (i%j))/\Op2 X (rI (fun _ j=>0<j) fun i j=>.int (i%j)) D.mod :=
 ⟨Qud,QjD (fd:=fun i j=>.int (i%j)) (fun dx dy d e=>by cases dx<;>cases dy<;>simp [D.mod] at e ⊢) (fun i j d e=>by
  simp only [D.mod] at e
  split at e
  ·rename_i h;cases e;exact ⟨h,rfl⟩
  ·cases e) fun _ _ _ _=>.int _⟩
theorem Jp:OpR X (binaryOp .FloorDiv) (rI Qqz fun i j=>.int (i/j))/\Op2 X (rI Qqz fun i j=>.int (i/j)) D.fdiv :=
 ⟨QsG,QjD (fd:=fun i j=>.int (i/j)) (fun dx dy d e=>by cases dx<;>cases dy<;>simp [D.fdiv] at e ⊢) (fun i j d e=>by
  simp only [D.fdiv] at e
  split at e
  ·rename_i h;cases e;exact ⟨h,rfl⟩
  ·cases e) fun _ _ _ _=>.int _⟩
theorem QmC:OpR X (binaryOp .Pow) (rI Qqy fun i j=>.int (i^j.toNat))/\Op2 X (rI Qqy fun i j=>.int (i^j.toNat)) D.pow :=
 ⟨Quc,QjD (fd:=fun i j=>.int (i^j.toNat)) (fun dx dy d e=>by cases dx<;>cases dy<;>simp [D.pow] at e ⊢) (fun i j d e=>by
  simp only [D.pow] at e
  split at e
  ·rename_i h;cases e;exact ⟨h,rfl⟩
  ·cases e) fun _ _ _ _=>.int _⟩
theorem Qg0:OpR X (compareOp .Lt) (rI0 fun i j=>.bl (decide (i<j)))/\Op2 X (rI0 fun i j=>.bl (decide (i<j))) D.lt :=
 ⟨Qvg,Qg2 (fd:=fun i j=>.bl (decide (i<j))) (fun dx dy d e=>by cases dx<;>cases dy<;>simp [D.lt] at e ⊢) (fun i j d e=>by cases e;rfl) fun _ _ _ _=>.bl _⟩
theorem VS:OpR X (compareOp .Gt) (rI0 fun i j=>.bl (decide (j<i)))/\Op2 X (rI0 fun i j=>.bl (decide (j<i))) D.gt :=
 ⟨Qvi,Qg2 (fd:=fun i j=>.bl (decide (j<i))) (fun dx dy d e=>by cases dx<;>cases dy<;>simp [D.gt] at e ⊢) (fun i j d e=>by cases e;rfl) fun _ _ _ _=>.bl _⟩
theorem Qj1 {xs:List V} {ds:List D} {F:Hp} {i:Int} {d:D} (r:Reps X.K F xs ds) (e:((ixD ds.length i).bind fun k=>ds[k]?)=some d):∃ v,atI xs i=some v/\Rep X.K F v d:=by
 obtain ⟨k,e1,e2⟩:=Q5 e
 obtain ⟨v,h1,h2⟩:=r.get e2
 refine ⟨v,?_,h2⟩
 unfold atI
 rw [r.length,show ixN ds.length i=some k from e1]
 exact h1
theorem Qui:Op2 X (rIx X.K) D.ix:=fun F H x y dx dy d Q s rx ry e k=>by
 cases dx<;>cases dy<;>try (simp [D.ix] at e;done)
 case str.int z i =>
  simp only [D.ix] at e
  split at e
  ·rename_i hz
   obtain ⟨j,e1,e2⟩:=Q5 e
   obtain ⟨c,e3,rfl⟩:=Zv e2
   refine .inr (.inr ⟨z,i,c,rx.str,ry.int,by rw [Yl];exact hz,?_,k _ F H (.refl s) (.str _)⟩)
   unfold atI
   have hl:z.cps.toList.length=z.length:=by simp [Str.length]
   rw [hl,show ixN z.length i=some j from e1]
   simpa using e3
  ·cases e
 case tup.int ds i =>
  obtain ⟨p,xs,rfl,h,r⟩:=rx.tup
  obtain ⟨v,h1,h2⟩:=Qj1 r e
  exact .inr (.inl ⟨p,xs,i,v,rfl,ry.int,SqT.of (s _ _ h),h1,k _ F H (.refl s) h2⟩)
 case lst.int ds i =>
  obtain ⟨p,xs,rfl,h,r⟩:=rx.lst s
  obtain ⟨v,h1,h2⟩:=Qj1 r e
  exact .inl ⟨p,xs,i,v,rfl,ry.int,SqL.of h,h1,k _ F H (.refl s) h2⟩
 case scr.int ns i =>
  obtain ⟨p,rfl,h⟩:=rx.scr
  have r:Reps X.K F (ns.map V.int) (ns.map D.int):=Reps.ints ns
  have e':((ixD (ns.map D.int).length i).bind fun k=>(ns.map D.int)[k]?)=some d:=by
   rw [List.length_map]
   simp only [D.ix] at e
   simpa using e
  obtain ⟨v,h1,h2⟩:=Qj1 r e'
  exact .inl ⟨p,_,i,v,rfl,ry.int,s.sqL h,h1,k _ F H (.refl s) h2⟩
theorem Quf:IxR X (rIx X.K)/\Op2 X (rIx X.K) D.ix:=⟨Quw,Qui⟩
theorem Qc {O:List Nat} {a b:Expr} {pos:Pos} {ea eb:EvE} (ha:PE X a (tR X O ea)) (hb:PE X b (tR X O eb)) (hs:Qij b:=by intro _ _;rfl):PE X (.Subscript a b pos) (tD X O (eOp D.ix ea eb)):=QuM Quf ha hb hs
end
end Wd
namespace Wd
open PySem PySem.Spec PyProof.Rows L2
def eAt (ds es:List D) (j:Nat):Bool:=match ds[j]?,es[j]? with
 | some d,some e=>(D.eq d e).getD false
 | _,_=>false
theorem Qrp (d e:D) (ds es:List D) (j:Nat):eAt (d::ds) (e::es) (j+1)=eAt ds es j:=by simp [eAt]
theorem Qd2:∀ (ds es:List D) (b:Bool),D.eqL ds es=some b ->
  (∀ (j:Nat) (d e:D),ds[j]?=some d->es[j]?=some e->∃ c,D.eq d e=some c)/\b=((List.range (min ds.length es.length)).all (eAt ds es)&&ds.length==es.length)
 | [],[],b,h=>by
  rw [D.eqL] at h;cases h
  exact ⟨fun j d e h=>by simp at h,by simp⟩
 | [],e::es,b,h=>by
  rw [D.eqL] at h
  ·cases h;exact ⟨fun j d e h=>by simp at h,by simp⟩
  all_goals simp
 | d::ds,[],b,h=>by
  rw [D.eqL] at h
  ·cases h;exact ⟨fun j d e _ h=>by simp at h,by simp⟩
  all_goals simp
 | d::ds,e::es,b,h=>by
  rw [D.eqL] at h
  cases q1:D.eq d e with
  | none=>rw [q1] at h;cases h
  | some b1 =>
   cases q2:D.eqL ds es with
   | none=>rw [q1,q2] at h;cases h
   | some b2 =>
    rw [q1,q2,Q7] at h
    cases h
    obtain ⟨i1,i2⟩:=Qd2 ds es b2 q2
    refine ⟨fun j d' e' h1 h2=>?_,?_⟩
    ·cases j with
     | zero=>simp at h1 h2;subst h1 h2;exact ⟨b1,q1⟩
     | succ j=>exact i1 j d' e' (by simpa using h1) (by simpa using h2)
    ·have hm:min (d::ds).length (e::es).length=min ds.length es.length+1:=by simp only [List.length_cons];omega
     rw [hm,List.range_succ_eq_map,List.all_cons,List.all_map]
     have h0:eAt (d::ds) (e::es) 0=b1:=by simp [eAt,q1]
     have hf:(eAt (d::ds) (e::es)∘Nat.succ)=eAt ds es:=funext fun j=>Qrp d e ds es j
     rw [h0,hf,i2]
     simp [Bool.and_assoc]
mutual
theorem Qs8 {K:Fg} {H:Hp}:∀ {x:V} {d e:D} {b:Bool},Rep K H x d->Rep K H x e->D.eq d e=some b->b=true
 | _,_,_,b,.non,r,h=>by cases r;simp [D.eq] at h;exact h
 | _,_,_,b,.bl c,r,h=>by cases r;simp [D.eq] at h;exact h
 | _,_,_,b,.int c,r,h=>by cases r;simp [D.eq] at h;exact h
 | _,_,_,b,.str c,r,h=>by cases r;simp [D.eq] at h;exact h
 | _,_,_,b,.tup h1 r1,r,h=>by
  cases r with
  | tup h2 r2 =>
   rw [h1] at h2;cases h2
   rw [D.eq] at h
   exact eqs_same r1 r2 h
  | lst h2 r2=>rw [h1] at h2;cases h2
  | scr h2=>simp [D.eq] at h
  | dic h2 hl2 r2=>simp [D.eq] at h
 | _,_,_,b,.lst h1 r1,r,h=>by
  cases r with
  | lst h2 r2 =>
   rw [h1] at h2;cases h2
   rw [D.eq] at h
   exact eqs_same r1 r2 h
  | tup h2 r2=>rw [h1] at h2;cases h2
  | scr h2=>simp [D.eq] at h
  | dic h2 hl2 r2=>simp [D.eq] at h
 | _,_,_,b,.scr h1,r,h=>by
  rw [D.eq] at h
  ·cases h
  all_goals simp
 | _,_,_,b,.dic h1 _ _,r,h=>by
  cases r<;>simp [D.eq] at h
theorem eqs_same {K:Fg} {H:Hp}:∀ {xs:List V} {ds es:List D} {b:Bool},Reps K H xs ds->Reps K H xs es->D.eqL ds es=some b->b=true
 | _,_,_,b,.nil,r,h=>by cases r;rw [D.eqL] at h;cases h;rfl
 | _,_,_,b,.cons (d:=d) (ds:=ds) h1 r1,.cons (d:=e) (ds:=es) h2 r2,h=>by
  rw [D.eqL] at h
  cases q1:D.eq d e with
  | none=>rw [q1] at h;cases h
  | some b1 =>
   cases q2:D.eqL ds es with
   | none=>rw [q1,q2] at h;cases h
   | some b2 =>
    rw [q1,q2,Q7] at h
    cases h
    rw [Qs8 h1 h2 q1,eqs_same r1 r2 q2]
    rfl
end
theorem Qib (i j:Int):(i==j)=decide (i=j):=by by_cases h:i=j<;>simp [h]
theorem QkD:∀ {ds:List D} {j:Nat} {d:D},ds[j]?=some d->d.dep<=D.depL ds
 | [],_,_,h=>by simp at h
 | d::ds,0,_,h=>by simp at h;subst h;rw [QV];exact Nat.le_max_left _ _
 | d::ds,j+1,x,h=>by
  rw [QV]
  exact Nat.le_trans (QkD (ds:=ds) (j:=j) (by simpa using h)) (Nat.le_max_right _ _)
section
variable {X:Cx} {pins:List (Addr×Obj)} {σ:L2.St} {H:Hp} {s:Shared}
def Qnt (A:Around) (s:Shared) (v u:Value) (b:Bool):Prop:=SeqAt.RcAt A s v u b/\SeqAt.EqAt A s v u b/\SeqAt.RcNeAt A s v u (!b)
theorem Qku (I:Inv X pins σ H s) {n:Nat} {ds es:List D} {xs ys:List V} {us ws:List Value} {A:Around} {b:Bool} (hn:D.depL ds<=n) (hA:A.units+n<cLine)
  (ih:∀ (d e:D) (x y:V) (v u:Value) (b:Bool),d.dep<=n->Rep X.K H x d->Rep X.K H y e->RelV x v->RelV y u->D.eq d e=some b->Qnt A s v u b)
  (r1:Reps X.K H xs ds) (r2:Reps X.K H ys es) (v1:Vals xs us) (v2:Vals ys ws) (h:D.eqL ds es=some b) :
  ∀ j (h1:j<us.toArray.size) (h2:j<ws.toArray.size),SeqAt.EqAt A s us.toArray[j] ws.toArray[j] (eAt ds es j):=fun j h1 h2=>by
 obtain ⟨q1,q2⟩:=Qd2 ds es b h
 have l1:=r1.length
 have l2:=r2.length
 have l3:=v1.length
 have l4:=v2.length
 simp only [List.size_toArray] at h1 h2
 have hd:j<ds.length:=by omega
 have he:j<es.length:=by omega
 obtain ⟨x,hx,rx⟩:=r1.get (List.getElem?_eq_getElem hd)
 obtain ⟨y,hy,ry⟩:=r2.get (List.getElem?_eq_getElem he)
 obtain ⟨u,hu,ru⟩:=v1.get hx
 obtain ⟨w,hw,rw'⟩:=v2.get hy
 obtain ⟨c,hc⟩:=q1 j _ _ (List.getElem?_eq_getElem hd) (List.getElem?_eq_getElem he)
 have e1:us.toArray[j]=u:=by
  rw [List.getElem?_eq_getElem h1] at hu
  simpa using Option.some.inj hu
 have e2:ws.toArray[j]=w:=by
  rw [List.getElem?_eq_getElem h2] at hw
  simpa using Option.some.inj hw
 have e3:eAt ds es j=c:=by simp [eAt,List.getElem?_eq_getElem hd,List.getElem?_eq_getElem he,hc]
 rw [e1,e2,e3]
 exact (ih _ _ x y u w c (Nat.le_trans (QkD (List.getElem?_eq_getElem hd)) hn) rx ry ru rw' hc).2.1
theorem Qgn {A:Around} {p q:Addr} {b:Bool} (h:SeqAt.RcAt A s (.ref p) (.ref q) b) (hn:SeqAt.RcNeAt A s (.ref p) (.ref q) (!b)) (hs:p=q->b=true):Qnt A s (.ref p) (.ref q) b:=by
 refine ⟨h,?_,hn⟩
 by_cases e:p=q
 ·rw [hs e,e];exact SeqAt.EqAt.same _
 ·exact SeqAt.EqAt.of_refs e h
theorem QmU (I:Inv X pins σ H s) {d e:D} {x y:V} {v u:Value} {A:Around} {b:Bool} (hd:d.dep=0) (hu:A.units<cLine) (rx:Rep X.K H x d) (ry:Rep X.K H y e) (rv:RelV x v) (ru:RelV y u) (h:D.eq d e=some b):Qnt A s v u b:=by
 have L:∀ {a:Addr} {xs:List V},H a=some (.lst xs)->∃ its,s.heap.IsList a its:=fun h=>let ⟨its,_,pl,_⟩:=I.list (SqL.of h);⟨_,pl.isList⟩
 have T:∀ {a:Addr} {xs:List V},H a=some (.tup xs)->∃ its,s.heap.IsTuple a its:=fun h=>let ⟨its,_,pl,_⟩:=I.tuple (SqT.of h);⟨_,pl⟩
 cases rx with
 | tup h1 r1=>rw [Jd] at hd;omega
 | lst h1 r1=>rw [Q8] at hd;omega
 | scr h1 =>
  rw [D.eq] at h
  ·cases h
  all_goals simp
 | dic h1 hl1 r1=>cases ry<;>simp [D.eq] at h
 | non =>
  cases (show v=Value.none from rv)
  cases ry with
  | non =>
   cases (show u=Value.none from ru)
   simp [D.eq] at h;subst h
   exact ⟨SeqAt.RcAt.none_none,SeqAt.EqAt.same _,SeqAt.RcNeAt.none_none⟩
  | bl c2 =>
   cases (show u=Value.bool c2 from ru)
   simp [D.eq] at h;subst h
   exact ⟨SeqAt.RcAt.none_bool _,SeqAt.EqAt.none_bool _,SeqAt.RcNeAt.none_bool _⟩
  | int i2 =>
   obtain ⟨tu,qu⟩:=(show ∃ t,u=Value.int i2 t from ru);cases qu
   simp [D.eq] at h;subst h
   exact ⟨SeqAt.RcAt.none_int _ _,SeqAt.EqAt.none_int _ _,SeqAt.RcNeAt.none_int _ _⟩
  | str z2 =>
   obtain ⟨tu,qu⟩:=(show ∃ t,u=Value.str z2 t from ru);cases qu
   simp [D.eq] at h;subst h
   exact ⟨SeqAt.RcAt.none_str _ _,SeqAt.EqAt.none_str _ _,SeqAt.RcNeAt.none_str _ _⟩
  | tup h2 r2 =>
   cases (show u=Value.ref _ from ru)
   simp [D.eq] at h;subst h
   obtain ⟨its,hi⟩:=T h2
   exact ⟨SeqAt.RcAt.none_tuple hi hu,SeqAt.EqAt.none_tuple hi hu,SeqAt.RcNeAt.none_tuple hi hu⟩
  | lst h2 r2 =>
   cases (show u=Value.ref _ from ru)
   simp [D.eq] at h;subst h
   obtain ⟨its,hi⟩:=L h2
   exact ⟨SeqAt.RcAt.none_list hi hu,SeqAt.EqAt.none_list hi hu,SeqAt.RcNeAt.none_list hi hu⟩
  | scr h2=>simp [D.eq] at h
  | dic h2 hl2 r2=>simp [D.eq] at h
 | bl c =>
  cases (show v=Value.bool c from rv)
  cases ry with
  | non =>
   cases (show u=Value.none from ru)
   simp [D.eq] at h;subst h
   exact ⟨SeqAt.RcAt.bool_none _,SeqAt.EqAt.bool_none _,SeqAt.RcNeAt.bool_none _⟩
  | bl c2 =>
   cases (show u=Value.bool c2 from ru)
   simp only [D.eq] at h
   have hb:b=(c==c2):=(Option.some.inj h).symm
   subst hb
   exact ⟨SeqAt.RcAt.bool_bool _ _,SeqAt.EqAt.bool_bool _ _,SeqAt.RcNeAt.bool_bool _ _⟩
  | int i2 =>
   obtain ⟨tu,qu⟩:=(show ∃ t,u=Value.int i2 t from ru);cases qu
   simp only [D.eq] at h
   have hb:b=((if c then 1 else 0)==i2):=by rw [<- Option.some.inj h,Qib];rfl
   subst hb
   exact ⟨SeqAt.RcAt.bool_int _ _ _,SeqAt.EqAt.bool_int _ _ _,SeqAt.RcNeAt.bool_int _ _ _⟩
  | str z2 =>
   obtain ⟨tu,qu⟩:=(show ∃ t,u=Value.str z2 t from ru);cases qu
   simp [D.eq] at h;subst h
   exact ⟨SeqAt.RcAt.bool_str _ _ _,SeqAt.EqAt.bool_str _ _ _,SeqAt.RcNeAt.bool_str _ _ _⟩
  | tup h2 r2 =>
   cases (show u=Value.ref _ from ru)
   simp [D.eq] at h;subst h
   obtain ⟨its,hi⟩:=T h2
   exact ⟨SeqAt.RcAt.bool_tuple _ hi hu,SeqAt.EqAt.bool_tuple _ hi hu,SeqAt.RcNeAt.bool_tuple _ hi hu⟩
  | lst h2 r2 =>
   cases (show u=Value.ref _ from ru)
   simp [D.eq] at h;subst h
   obtain ⟨its,hi⟩:=L h2
   exact ⟨SeqAt.RcAt.bool_list _ hi hu,SeqAt.EqAt.bool_list _ hi hu,SeqAt.RcNeAt.bool_list _ hi hu⟩
  | scr h2=>simp [D.eq] at h
  | dic h2 hl2 r2=>simp [D.eq] at h
 | int i =>
  obtain ⟨tv,qv⟩:=(show ∃ t,v=Value.int i t from rv);cases qv
  cases ry with
  | non =>
   cases (show u=Value.none from ru)
   simp [D.eq] at h;subst h
   exact ⟨SeqAt.RcAt.int_none _ _,SeqAt.EqAt.int_none _ _,SeqAt.RcNeAt.int_none _ _⟩
  | bl c2 =>
   cases (show u=Value.bool c2 from ru)
   simp only [D.eq] at h
   have hb:b=(i==(if c2 then 1 else 0)):=by rw [<- Option.some.inj h,Qib];rfl
   subst hb
   exact ⟨SeqAt.RcAt.int_bool _ _ _,SeqAt.EqAt.int_bool _ _ _,SeqAt.RcNeAt.int_bool _ _ _⟩
  | int i2 =>
   obtain ⟨tu,qu⟩:=(show ∃ t,u=Value.int i2 t from ru);cases qu
   simp only [D.eq] at h
   have hb:b=(i==i2):=by rw [<- Option.some.inj h,Qib]
   subst hb
   exact ⟨SeqAt.RcAt.int_int _ _ _ _,SeqAt.EqAt.int_int _ _ _ _,SeqAt.RcNeAt.int_int _ _ _ _⟩
  | str z2 =>
   obtain ⟨tu,qu⟩:=(show ∃ t,u=Value.str z2 t from ru);cases qu
   simp [D.eq] at h;subst h
   exact ⟨SeqAt.RcAt.int_str _ _ _ _,SeqAt.EqAt.int_str _ _ _ _,SeqAt.RcNeAt.int_str _ _ _ _⟩
  | tup h2 r2 =>
   cases (show u=Value.ref _ from ru)
   simp [D.eq] at h;subst h
   obtain ⟨its,hi⟩:=T h2
   exact ⟨SeqAt.RcAt.int_tuple _ _ hi hu,SeqAt.EqAt.int_tuple _ _ hi hu,SeqAt.RcNeAt.int_tuple _ _ hi hu⟩
  | lst h2 r2 =>
   cases (show u=Value.ref _ from ru)
   simp [D.eq] at h;subst h
   obtain ⟨its,hi⟩:=L h2
   exact ⟨SeqAt.RcAt.int_list _ _ hi hu,SeqAt.EqAt.int_list _ _ hi hu,SeqAt.RcNeAt.int_list _ _ hi hu⟩
  | scr h2=>simp [D.eq] at h
  | dic h2 hl2 r2=>simp [D.eq] at h
 | str z =>
  obtain ⟨tv,qv⟩:=(show ∃ t,v=Value.str z t from rv);cases qv
  cases ry with
  | non =>
   cases (show u=Value.none from ru)
   simp [D.eq] at h;subst h
   exact ⟨SeqAt.RcAt.str_none _ _,SeqAt.EqAt.str_none _ _,SeqAt.RcNeAt.str_none _ _⟩
  | bl c2 =>
   cases (show u=Value.bool c2 from ru)
   simp [D.eq] at h;subst h
   exact ⟨SeqAt.RcAt.str_bool _ _ _,SeqAt.EqAt.str_bool _ _ _,SeqAt.RcNeAt.str_bool _ _ _⟩
  | int i2 =>
   obtain ⟨tu,qu⟩:=(show ∃ t,u=Value.int i2 t from ru);cases qu
   simp [D.eq] at h;subst h
   exact ⟨SeqAt.RcAt.str_int _ _ _ _,SeqAt.EqAt.str_int _ _ _ _,SeqAt.RcNeAt.str_int _ _ _ _⟩
  | str z2 =>
   obtain ⟨tu,qu⟩:=(show ∃ t,u=Value.str z2 t from ru);cases qu
   simp only [D.eq] at h
   have hb:b=(z==z2):=by
    rw [<- Option.some.inj h]
    by_cases q:z=z2<;>simp [q]
   subst hb
   exact ⟨SeqAt.RcAt.str_str _ _ _ _,SeqAt.EqAt.str_str _ _ _ _,SeqAt.RcNeAt.str_str _ _ _ _⟩
  | tup h2 r2 =>
   cases (show u=Value.ref _ from ru)
   simp [D.eq] at h;subst h
   obtain ⟨its,hi⟩:=T h2
   exact ⟨SeqAt.RcAt.str_tuple _ _ hi hu,SeqAt.EqAt.str_tuple _ _ hi hu,SeqAt.RcNeAt.str_tuple _ _ hi hu⟩
  | lst h2 r2 =>
   cases (show u=Value.ref _ from ru)
   simp [D.eq] at h;subst h
   obtain ⟨its,hi⟩:=L h2
   exact ⟨SeqAt.RcAt.str_list _ _ hi hu,SeqAt.EqAt.str_list _ _ hi hu,SeqAt.RcNeAt.str_list _ _ hi hu⟩
  | scr h2=>simp [D.eq] at h
  | dic h2 hl2 r2=>simp [D.eq] at h
theorem QmV (I:Inv X pins σ H s):∀ (n:Nat) (d e:D) (x y:V) (v u:Value) (A:Around) (b:Bool),d.dep<=n->A.units+n<cLine->Rep X.K H x d->Rep X.K H y e->RelV x v->RelV y u->D.eq d e=some b->Qnt A s v u b:=by
 have L:∀ {a:Addr} {xs:List V},H a=some (.lst xs)->∃ its:List Value,Vals xs its/\s.heap.IsList a its.toArray:=fun h=>let ⟨its,r,pl,_⟩:=I.list (SqL.of h);⟨its,r,pl.isList⟩
 have T:∀ {a:Addr} {xs:List V},H a=some (.tup xs)->∃ its:List Value,Vals xs its/\s.heap.IsTuple a its.toArray:=fun h=>let ⟨its,r,pl,_⟩:=I.tuple (SqT.of h);⟨its,r,pl⟩
 intro n
 induction n with
 | zero =>
  intro d e x y v u A b hd hA rx ry rv ru h
  exact QmU I (by omega) (by omega) rx ry rv ru h
 | succ n ih =>
  intro d e x y v u A b hd hA rx ry rv ru h
  have hu:A.units<cLine:=by omega
  have hA1:A.in1.units+n<cLine:=by show A.units+1+n<cLine;omega
  by_cases h0:d.dep=0
  ·exact QmU I h0 hu rx ry rv ru h
  cases rx with
  | non=>exact absurd JL h0
  | bl c=>exact absurd (Za c) h0
  | int c=>exact absurd (Qt c) h0
  | str c=>exact absurd (Qz c) h0
  | scr h1 =>
   rw [D.eq] at h
   ·cases h
   all_goals simp
  | dic h1 hl1 r1=>cases ry<;>simp [D.eq] at h
  | @tup p xs ds h1 r1 =>
   cases (show v=Value.ref p from rv)
   rw [Jd] at hd
   obtain ⟨us,v1,t1⟩:=T h1
   cases ry with
   | scr h2=>simp [D.eq] at h
   | dic h2 hl2 r2=>simp [D.eq] at h
   | non =>
    cases (show u=Value.none from ru)
    simp [D.eq] at h;subst h
    exact ⟨SeqAt.RcAt.tuple_none t1 hu,SeqAt.EqAt.tuple_none t1 hu,SeqAt.RcNeAt.tuple_none t1 hu⟩
   | bl c2 =>
    cases (show u=Value.bool c2 from ru)
    simp [D.eq] at h;subst h
    exact ⟨SeqAt.RcAt.tuple_bool _ t1 hu,SeqAt.EqAt.tuple_bool _ t1 hu,SeqAt.RcNeAt.tuple_bool _ t1 hu⟩
   | int i2 =>
    obtain ⟨tu,qu⟩:=(show ∃ t,u=Value.int i2 t from ru);cases qu
    simp [D.eq] at h;subst h
    exact ⟨SeqAt.RcAt.tuple_int _ _ t1 hu,SeqAt.EqAt.tuple_int _ _ t1 hu,SeqAt.RcNeAt.tuple_int _ _ t1 hu⟩
   | str z2 =>
    obtain ⟨tu,qu⟩:=(show ∃ t,u=Value.str z2 t from ru);cases qu
    simp [D.eq] at h;subst h
    exact ⟨SeqAt.RcAt.tuple_str _ _ t1 hu,SeqAt.EqAt.tuple_str _ _ t1 hu,SeqAt.RcNeAt.tuple_str _ _ t1 hu⟩
   | @lst q ys es h2 r2 =>
    cases (show u=Value.ref q from ru)
    obtain ⟨ws,v2,t2⟩:=L h2
    simp [D.eq] at h;subst h
    exact ⟨SeqAt.RcAt.tuple_list t1 t2 hu,SeqAt.EqAt.tuple_list t1 t2 hu,SeqAt.RcNeAt.tuple_list t1 t2 hu⟩
   | @tup q ys es h2 r2 =>
    cases (show u=Value.ref q from ru)
    obtain ⟨ws,v2,t2⟩:=T h2
    rw [D.eq] at h
    have hi:=Qku (A:=A.in1) I (by omega) hA1 (fun d e x y v u b hd rx ry rv ru h=>ih d e x y v u A.in1 b hd hA1 rx ry rv ru h) r1 r2 v1 v2 h
    have hr:=SeqAt.RcAt.tuples t1 t2 hu hi
    have hn:=SeqAt.RcNeAt.tuples t1 t2 hu hi
    have hb:b=((List.range (min us.toArray.size ws.toArray.size)).all (eAt ds es)&&us.toArray.size==ws.toArray.size):=by
     rw [(Qd2 ds es b h).2]
     simp only [List.size_toArray]
     rw [<- v1.length,<- v2.length,r1.length,r2.length]
    rw [<- hb] at hr hn
    refine Qgn hr hn fun z=>?_
    subst z
    rw [h1] at h2;cases h2
    exact eqs_same r1 r2 h
  | @lst p xs ds h1 r1 =>
   cases (show v=Value.ref p from rv)
   rw [Q8] at hd
   obtain ⟨us,v1,t1⟩:=L h1
   cases ry with
   | scr h2=>simp [D.eq] at h
   | dic h2 hl2 r2=>simp [D.eq] at h
   | non =>
    cases (show u=Value.none from ru)
    simp [D.eq] at h;subst h
    exact ⟨SeqAt.RcAt.list_none t1 hu,SeqAt.EqAt.list_none t1 hu,SeqAt.RcNeAt.list_none t1 hu⟩
   | bl c2 =>
    cases (show u=Value.bool c2 from ru)
    simp [D.eq] at h;subst h
    exact ⟨SeqAt.RcAt.list_bool _ t1 hu,SeqAt.EqAt.list_bool _ t1 hu,SeqAt.RcNeAt.list_bool _ t1 hu⟩
   | int i2 =>
    obtain ⟨tu,qu⟩:=(show ∃ t,u=Value.int i2 t from ru);cases qu
    simp [D.eq] at h;subst h
    exact ⟨SeqAt.RcAt.list_int _ _ t1 hu,SeqAt.EqAt.list_int _ _ t1 hu,SeqAt.RcNeAt.list_int _ _ t1 hu⟩
   | str z2 =>
    obtain ⟨tu,qu⟩:=(show ∃ t,u=Value.str z2 t from ru);cases qu
    simp [D.eq] at h;subst h
    exact ⟨SeqAt.RcAt.list_str _ _ t1 hu,SeqAt.EqAt.list_str _ _ t1 hu,SeqAt.RcNeAt.list_str _ _ t1 hu⟩
   | @tup q ys es h2 r2 =>
    cases (show u=Value.ref q from ru)
    obtain ⟨ws,v2,t2⟩:=T h2
    simp [D.eq] at h;subst h
    exact ⟨SeqAt.RcAt.list_tuple t1 t2 hu,SeqAt.EqAt.list_tuple t1 t2 hu,SeqAt.RcNeAt.list_tuple t1 t2 hu⟩
   | @lst q ys es h2 r2 =>
    cases (show u=Value.ref q from ru)
    obtain ⟨ws,v2,t2⟩:=L h2
    rw [D.eq] at h
    have hb:=(Qd2 ds es b h).2
    have l1:=r1.length
    have l2:=r2.length
    have l3:=v1.length
    have l4:=v2.length
    by_cases hz:ds.length=es.length
    ·have hi:=Qku (A:=A.in1) I (by omega) hA1 (fun d e x y v u b hd rx ry rv ru h=>ih d e x y v u A.in1 b hd hA1 rx ry rv ru h) r1 r2 v1 v2 h
     have hr:=SeqAt.RcAt.lists t1 t2 (by simp only [List.size_toArray];omega) hu hi
     have hn:=SeqAt.RcNeAt.lists t1 t2 (by simp only [List.size_toArray];omega) hu hi
     have hb':b=((List.range us.toArray.size).all (eAt ds es)):=by
      rw [hb]
      simp only [List.size_toArray]
      rw [<- l3,l1,hz,Nat.min_self]
      simp
     rw [<- hb'] at hr hn
     refine Qgn hr hn fun z=>?_
     subst z
     rw [h1] at h2;cases h2
     exact eqs_same r1 r2 h
    ·have hr:=SeqAt.RcAt.lists_lengths (A:=A) t1 t2 (by simp only [List.size_toArray,bne_iff_ne];omega) hu
     have hn:=SeqAt.RcNeAt.lists_lengths (A:=A) t1 t2 (by simp only [List.size_toArray,bne_iff_ne];omega) hu
     have hb':b=false:=by rw [hb];simp [hz]
     rw [hb']
     refine Qgn hr hn fun z=>?_
     subst z
     rw [h1] at h2;cases h2
     omega
theorem QkB {dx dy:D} {b:Bool} (h:D.eq dx dy=some b) (ks:List Kd) (ds:List D):dx≠.dic ks ds:=by
 rintro rfl
 cases dy<;>simp [D.eq] at h
theorem QkA {dx dy:D} {b:Bool} (h:D.eq dx dy=some b) (ks:List Kd) (ds:List D):dy≠.dic ks ds:=by
 rintro rfl
 cases dx<;>simp [D.eq] at h
def Qnl (X:Cx) (g:Bool->Bool):R2:=fun x y H Q=>∃ F dx dy b,Sm F H/\RdD X.K F H x dx/\RdD X.K F H y dy/\dx.dep<=40/\D.eq dx dy=some b/\Q (.bl (g b)) H
theorem Qr (hu:X.A.units+64<cLine):OpR X (compareOp .Eq) (Qnl X id)/\Op2 X (Qnl X id) D.eqO:=by
 refine ⟨fun pins s σ H x y v u Q I rx ry ⟨F,dx,dy,b,sm,r1,r2,hd,h,q⟩=>?_,fun F H x y dx dy d Q sm rx ry e k=>?_⟩
 ·have:=(QmV I 40 dx dy x y v u X.A b hd (by omega) (r1.rep sm (QkB h)) (r2.rep sm (QkA h)) rx ry h).1
  exact this X.prog X.w X.xe _ ⟨.bl b,H,I,rfl,q⟩
 ·simp only [D.eqO] at e
  split at e
  ·rename_i hd
   obtain ⟨b,e1,rfl⟩:=Zv e
   exact ⟨F,dx,dy,b,sm,rx,ry,hd,e1,k _ F H (.refl sm) (.bl b)⟩
  ·cases e
theorem Z1 (hu:X.A.units+64<cLine):OpR X (compareOp .NotEq) (Qnl X (!·))/\Op2 X (Qnl X (!·)) D.neO:=by
 refine ⟨fun pins s σ H x y v u Q I rx ry ⟨F,dx,dy,b,sm,r1,r2,hd,h,q⟩=>?_,fun F H x y dx dy d Q sm rx ry e k=>?_⟩
 ·have:=(QmV I 40 dx dy x y v u X.A b hd (by omega) (r1.rep sm (QkB h)) (r2.rep sm (QkA h)) rx ry h).2.2
  exact this X.prog X.w X.xe _ ⟨.bl (!b),H,I,rfl,q⟩
 ·simp only [D.neO] at e
  split at e
  ·rename_i hd
   obtain ⟨b,e1,rfl⟩:=Zv e
   exact ⟨F,dx,dy,b,sm,rx,ry,hd,e1,k _ F H (.refl sm) (.bl (!b))⟩
  ·cases e
end
end Wd
namespace Wd
open PySem PySem.Spec PyProof.Rows L2
theorem QqO (A:Around) (s:Shared) (a:Int) (t:Tok) (c:Int) (u:Tok) (prog:Program) (w:World) (E:Value->Shared->Prop) (Q:Value->Shared->Prop) (h:Q (.bool (decide (a<=c))) s) :
  wpAny (model prog w) A (richCompare .LtE (.int a t) (.int c u)) Q E s :=
 (PyProof.Rows.le_int h:wpAny (model prog w) A (compareOp .LtE (.int a t) (.int c u)) Q E s)
section
open PySem.SeqAt
open PySem.AutoSeq1 (wpAny_loadPart')
open PySem.MeetsSeq PySem.MeetsSeq2 PySem.MeetsSeq3
theorem QnX (x y:Int) (xs ys:List Int):V3 (x::xs) (y::ys)=if x=y then V3 xs ys else decide (x<y):=rfl
theorem Qji (l b:Addr) (items items2:Array Value) (n n2:Nat) (dd dd2:Option Addr) (sl sl2:Array (Option Value)) (ns ms:List Int) (hi:IntsAre items.toList ns) (hj:IntsAre items2.toList ms) :
  Meets (Builtin.«tuple.__le__» ⟨[.ref l,.ref b],[]⟩)
   (fun _ R s=>s.heap.get? l=some { cls:=.type "tuple",dict:=dd,data:=.seq items n,slots:=sl }/\s.heap.get? b=some { cls:=.type "tuple",dict:=dd2,data:=.seq items2 n2,slots:=sl2 } /\
    R (.ok (.ret (.bool (V3 ns ms)))) s) :=
 .of_wp fun prog w A R s h=>by
  obtain ⟨hp,g,d,tk,os⟩:=s;obtain ⟨hl,hb,h⟩:=h
  have f2:=AutoSeq1.sub_tuple_tuple
  have z1:items.size=ns.length:=by rw [<- hi.length];simp
  have z2:items2.size=ms.length:=by rw [<- hj.length];simp
  wp_walk using wpAny_loadPart' hl,wpAny_loadPart' hb,wpAny_forIn_list _ (fun rest b s'=>b.1=none/\s'=⟨hp,g,d,tk,os⟩/\∃ (vs ws:List Value) (ns' ms':List Int),rest=vs.zip ws /\
   IntsAre vs ns'/\IntsAre ws ms'/\ns'.length+items2.size=ms'.length+items.size/\R (.ok (.ret (.bool (V3 ns' ms')))) ⟨hp,g,d,tk,os⟩) _
  case turn =>
   rintro ⟨y,x⟩ rest b s' ⟨hb',rfl,vs,ws,ns',ms',hz,hvi,hwi,hlen,hR⟩
   cases hvi with
   | nil=>rw [List.zip_nil_left] at hz;cases hz
   | cons a t hvi' =>
    cases hwi with
    | nil=>rw [List.zip_nil_right] at hz;cases hz
    | cons c u hwi' =>
     rw [List.zip_cons_cons] at hz
     injection hz with hyx hrest
     injection hyx with hy hx
     subst hy hx
     rw [QnX] at hR
     simp only [List.length_cons] at hlen
     obtain ⟨e,he,hiff⟩:=HT.eqAt_int A.in1 ⟨hp,g,d,tk,os⟩ a t c u
     refine wpAny_bind (he prog w _ _ ?_)
     cases e with
     | true =>
      rw [if_pos (hiff.mp rfl)] at hR
      wp_walk
      exact ⟨rfl,rfl,_,_,_,_,hrest,hvi',hwi',by omega,hR⟩
     | false =>
      have hac:a≠c:=fun q=>absurd (hiff.mpr q) Bool.false_ne_true
      rw [if_neg hac] at hR
      have hd:decide (a<c)=decide (a<=c):=by
       by_cases z:a<c
       ·rw [decide_eq_true z,decide_eq_true (by omega)]
       ·rw [decide_eq_false z,decide_eq_false (by omega)]
      rw [hd] at hR
      have hri:=QqO A.in1 ⟨hp,g,d,tk,os⟩ a t c u prog w
      wp_walk using hri
      exact ⟨_,rfl,by simpa using hR⟩
  case fin =>
   rintro ⟨b1,b2⟩ s' ⟨hb',rfl,vs,ws,ns',ms',hz,hvi,hwi,hlen,hR⟩
   simp only at hb'
   subst hb'
   have hv:V3 ns' ms'=decide (items.size<=items2.size):=by
    cases hvi with
    | nil =>
     simp only [List.length_nil] at hlen
     show true=_
     exact (decide_eq_true (by omega)).symm
    | cons a t hv =>
     cases hwi with
     | nil =>
      simp only [List.length_nil,List.length_cons] at hlen
      show false=_
      exact (decide_eq_false (by omega)).symm
     | cons c u hw =>
      rw [List.zip_cons_cons] at hz
      cases hz
   rw [hv] at hR
   wp_walk
   exact ⟨_,rfl,by simpa [Builtin.Tuple.tupleCompareSizes] using hR⟩
  case h =>
   exact ⟨rfl,rfl,items.toList,items2.toList,ns,ms,rfl,hi,hj,by omega,h⟩
end
theorem QnY {prog:Program} {w:World} {A:Around} {E:Value->Shared->Prop} {s:Shared} {l b:Addr} {items items2:Array Value} {ns ms:List Int} {Q:Value->Shared->Prop} (hl:IsTup s.heap l items) (hb:IsTup s.heap b items2) (hi:IntsAre items.toList ns) (hj:IntsAre items2.toList ms)
  (hu:A.units<cLine) (h:Q (.bool (V3 ns ms)) s):wpAny (model prog w) A (compareOp .LtE (.ref l) (.ref b)) Q E s:=by
 obtain ⟨⟨cls,dd,data,sl⟩,ho,hc,n,hd⟩:=id hl
 obtain ⟨⟨cls2,dd2,data2,sl2⟩,ho2,hc2,n2,hd2⟩:=id hb
 simp only at hc hd hc2 hd2
 subst hc hd hc2 hd2
 exact richCompare_meets_room (op:=.LtE) ⟨_,ho,rfl⟩ ⟨_,ho2,rfl⟩ PySem.F.slot_tuple_le PySem.F.entry_tuple_le (PySem.F.args_tuple_le_2 _ _) (Qji l b items items2 n n2 dd dd2 sl sl2 ns ms hi hj)
  ⟨ho,ho2,show Value.bool (V3 ns ms)≠Value.notImplemented/\Q (.bool (V3 ns ms)) s from ⟨(fun x=>nomatch x),h⟩⟩ hu
section
variable {X:Cx} {O:List Nat} {e a b c:Expr} {pos:Pos}
def Qqp (K:Fg):R2:=fun x y H Q=>∃ a b ns ms,x=.ref a/\y=.ref b/\SqT K H a (ns.map V.int)/\SqT K H b (ms.map V.int)/\Q (.bl (V3 ns ms)) H
theorem Que (hu:X.A.units<cLine):OpR X (compareOp .LtE) (Qqp X.K):=by
 intro pins s σ H x y v u Q I rx ry h
 obtain ⟨a,b,ns,ms,rfl,rfl,ha,hb,q⟩:=h
 cases rx
 cases ry
 obtain ⟨its,r1,p1,_⟩:=I.tuple ha
 obtain ⟨its2,r2,p2,_⟩:=I.tuple hb
 have i1:IntsAre its.toArray.toList ns:=Qhg r1
 have i2:IntsAre its2.toArray.toList ms:=Qhg r2
 exact QnY p1 p2 i1 i2 hu ⟨.bl (V3 ns ms),H,I,rfl,q⟩
theorem Qdp (hu:X.A.units<cLine):OpR X (compareOp .LtE) (fun x y H Q=>(rI0 fun i j=>.bl (decide (i<=j))) x y H Q\/Qqp X.K x y H Q)/\Op2 X (fun x y H Q=>(rI0 fun i j=>.bl (decide (i<=j))) x y H Q\/Qqp X.K x y H Q) D.le:=by
 refine ⟨OpR.or Qvh (Que hu),fun F H x y dx dy d Q s rx ry e k=>?_⟩
 cases dx<;>cases dy<;>try (simp [D.le] at e;done)
 case int.int i j =>
  cases e
  exact .inl ⟨i,j,rx.int,ry.int,k _ F H (.refl s) (.bl _)⟩
 case tup.tup xs ys =>
  simp only [D.le] at e
  split at e
  ·rename_i na nb e1 e2
   cases e
   obtain ⟨p,us,rfl,h1,r1⟩:=rx.tup
   obtain ⟨q,ws,rfl,h2,r2⟩:=ry.tup
   have z1:=r1.intsOf e1
   have z2:=r2.intsOf e2
   subst z1 z2
   exact .inr ⟨p,q,na,nb,rfl,rfl,SqT.of (s _ _ h1),SqT.of (s _ _ h2),k _ F H (.refl s) (.bl _)⟩
  ·cases e
theorem Qtv {ev:EvE} {σ:L2.St} {H:Hp} {Q:Bool->Hp->Prop} (h:tDT X O ev σ H Q):tD X O ev σ H fun x H'=>∃ k,x=.bl k/\Q k H':=by
 obtain ⟨F0,F,en,b,rs,w,k⟩:=h
 refine ⟨F0,F,en,.bl b,rs,w,fun v F' H' g r=>?_⟩
 cases r
 exact ⟨b,rfl,k F' H' g⟩
theorem QvN {ev:EvE} {σ:L2.St} {H:Hp} {Q:Bool->Hp->Prop} (h:tDT X O ev σ H Q):tR X O ev σ H fun x H'=>∃ k,x=.bl k/\Q k H':=by
 obtain ⟨F0,F,en,b,rs,w,k⟩:=h
 refine ⟨F0,F,en,.bl b,rs,w,fun v F' H' g r=>?_⟩
 exact ⟨b,r.bl,k F' H' g⟩
theorem Qn {op:CmpOp} {r:R2} {g:D->D->Option D} {ea eb:EvE} (ho:OpR X (compareOp op) r/\Op2 X r g) (ha:PE X a (tR X O ea)) (hb:PE X b (tR X O eb)) (hm:behindInMarks op b=false):PT X (.Compare a [op] [b] pos) (tDT X O (eOp g ea eb)) :=
 PT.imp (Qmx ho.1 ha hb hm) fun σ H Q h=>QjA ho.2 (Qtv h)
theorem JA {ev:EvE} (h:PE X e (tR X O ev)) (he:∀ whole,isTrue e X.env whole=(do let v <- whole;standAt e.pos;holding [v] (truthy v)):=by intro _;rfl):PT X e (tDT X O ev) :=
 PT.imp (QtS h he) fun σ H Q h=>QvN h
theorem YZ {α:Type} {o:Option D} {x y:Option α} {r:α} (h:ifO o x y=some r):∃ c,o=some (.bl c)/\(if c=true then x else y)=some r:=by
 cases o with
 | none=>cases h
 | some d=>cases d with
  | bl c=>exact ⟨c,rfl,h⟩
  | _=>cases h
theorem tDT.of {ev:EvE} {F0:Fz} {F:Hp} {en:Qq} {σ:L2.St} {H:Hp} {Q:Bool->Hp->Prop} {b:Bool} (rs:RS X.K X.H₀ F0 F H σ en O) (w:ev en=some (.bl b)) (k:∀ F' H',Gr F H F' H'->Q b H'):tDT X O ev σ H Q:=⟨F0,F,en,b,rs,w,k⟩
theorem QvE {ea eb:EvE} {σ:L2.St} {H:Hp} {Q:Bool->Hp->Prop} (h:tDT X O (QN ea eb) σ H Q):Qtw (tDT X O ea) (tDT X O eb) σ H Q:=by
 obtain ⟨F0,F,en,b,rs,w,k⟩:=h
 obtain ⟨c,e1,e2⟩:=YZ w
 refine ⟨F0,F,en,c,rs,e1,fun F1 H1 g1=>?_⟩
 cases c with
 | true=>exact Qga (.of (rs.grow g1) e2 fun F' H' g=>k F' H' (g1.trans g))
 | false=>cases e2;exact Qgb (k F1 H1 g1)
theorem Qv0 {ea eb:EvE} {σ:L2.St} {H:Hp} {Q:Bool->Hp->Prop} (h:tDT X O (eOr ea eb) σ H Q):tOr (tDT X O ea) (tDT X O eb) σ H Q:=by
 obtain ⟨F0,F,en,b,rs,w,k⟩:=h
 obtain ⟨c,e1,e2⟩:=YZ w
 refine ⟨F0,F,en,c,rs,e1,fun F1 H1 g1=>?_⟩
 cases c with
 | true=>cases e2;exact Qga (k F1 H1 g1)
 | false=>exact Qgb (.of (rs.grow g1) e2 fun F' H' g=>k F' H' (g1.trans g))
theorem Zp {ev:EvE} {op} (h:PT X a (tDT X O ev)):PW X (.BoolOp op [a] pos) (tDT X O ev):=by
 cases op
 ·exact Qsp h
 ·exact QtQ h
theorem Qay {rest:List Expr} {ea eb:EvE} (ha:PT X a (tDT X O ea)) (hb:PW X (.BoolOp .And (b::rest) pos) (tDT X O eb)):PW X (.BoolOp .And (a::b::rest) pos) (tDT X O (QN ea eb)) :=
 PW.imp (QtR ha hb) fun σ H Q h=>QvE h
theorem YV {rest:List Expr} {ea eb:EvE} (ha:PT X a (tDT X O ea)) (hb:PW X (.BoolOp .Or (b::rest) pos) (tDT X O eb)):PW X (.BoolOp .Or (a::b::rest) pos) (tDT X O (eOr ea eb)) :=
 PW.imp (Qu9 ha hb) fun σ H Q h=>Qv0 h
theorem Qbz {ev:EvE} (ha:PT X a (tDT X O ev)):PT X (.UnaryOp .Not a pos) (tDT X O (Q9 ev)) :=
 PT.imp (QtU ha) fun σ H Q ⟨F0,F,en,b,rs,w,k⟩=>by
  have w':Qf8 (ev en)=some (.bl b):=w
  cases q:ev en with
  | none=>rw [q] at w';cases w'
  | some d =>
   rw [q] at w'
   cases d with
   | bl c=>cases w';exact ⟨F0,F,en,c,rs,q,k⟩
   | _=>cases w'
theorem VV {ev:EvE} {op} (h:PE X a (tD X O ev)):PE X (.BoolOp op [a] pos) (tD X O ev):=Qt4 h
theorem QbB {rest:List Expr} {ea eb:EvE} (ha:PE X a (tR X O ea)) (hb:PE X (.BoolOp .And (b::rest) pos) (tD X O eb)):PE X (.BoolOp .And (a::b::rest) pos) (tD X O (QN ea eb)) :=
 PE.imp (Qt8 ha hb) fun σ H Q ⟨F0,F,en,d,rs,w,k⟩=>by
  obtain ⟨c,e1,e2⟩:=YZ w
  refine ⟨F0,F,en,.bl c,rs,e1,fun v F1 H1 g1 r1=>⟨c,r1.bl,?_⟩⟩
  cases c with
  | true=>exact Qga ⟨F0,F1,en,d,rs.grow g1,e2,fun v F' H' g r=>k v F' H' (g1.trans g) r⟩
  | false=>cases e2;exact Qgb (k _ F1 H1 g1 (.bl _))
theorem Qr4 {rest:List Expr} {ea eb:EvE} (ha:PE X a (tR X O ea)) (hb:PE X (.BoolOp .Or (b::rest) pos) (tD X O eb)):PE X (.BoolOp .Or (a::b::rest) pos) (tD X O (eOr ea eb)) :=
 PE.imp (Qvd ha hb) fun σ H Q ⟨F0,F,en,d,rs,w,k⟩=>by
  obtain ⟨c,e1,e2⟩:=YZ w
  refine ⟨F0,F,en,.bl c,rs,e1,fun v F1 H1 g1 r1=>⟨c,r1.bl,?_⟩⟩
  cases c with
  | true=>cases e2;exact Qga (k _ F1 H1 g1 (.bl _))
  | false=>exact Qgb ⟨F0,F1,en,d,rs.grow g1,e2,fun v F' H' g r=>k v F' H' (g1.trans g) r⟩
theorem QoR {ev:EvE} (ha:PE X a (tR X O ev)):PE X (.UnaryOp .Not a pos) (tD X O (Q9 ev)) :=
 PE.imp (Qt5 ha) fun σ H Q ⟨F0,F,en,d,rs,w,k⟩=>by
  have w':Qf8 (ev en)=some d:=w
  cases q:ev en with
  | none=>rw [q] at w';cases w'
  | some x =>
   rw [q] at w'
   cases x with
   | bl c=>cases w';exact ⟨F0,F,en,.bl c,rs,q,fun v F' H' g r=>⟨c,r.bl,k _ F' H' g (.bl _)⟩⟩
   | _=>cases w'
theorem QjF {ec ea eb:EvE} (hc:PT X c (tDT X O ec)) (ha:PE X a (tD X O ea)) (hb:PE X b (tD X O eb)):PE X (.IfExp c a b pos) (tD X O (eIf ec ea eb)) :=
 PE.imp (QqV hc ha hb) fun σ H Q ⟨F0,F,en,d,rs,w,k⟩=>by
  obtain ⟨c,e1,e2⟩:=YZ w
  refine ⟨F0,F,en,c,rs,e1,fun F1 H1 g1=>?_⟩
  cases c with
  | true=>exact Qga ⟨F0,F1,en,d,rs.grow g1,e2,fun v F' H' g r=>k v F' H' (g1.trans g) r⟩
  | false=>exact Qgb ⟨F0,F1,en,d,rs.grow g1,e2,fun v F' H' g r=>k v F' H' (g1.trans g) r⟩
theorem Qg4 {ev:EvE} (ha:PE X a (tR X O ev)):PE X (.UnaryOp .USub a pos) (tD X O (eUn D.neg ev)) :=
 PE.imp (Qvc QtD ha) fun σ H Q ⟨F0,F,en,d,rs,w,k⟩=>by
  obtain ⟨x,e1,e2⟩:=Q5 w
  cases x with
  | int i=>cases e2;exact ⟨F0,F,en,.int i,rs,e1,fun v F' H' g r=>⟨i,r.int,k _ F' H' g (.int _)⟩⟩
  | _=>cases e2
theorem Qto {g g':D->D->Option D} {r r':R2} {ea eb ec:EvE} (ho:Op2 X r g) (ho':Op2 X r' g') {σ:L2.St} {H:Hp} {Q:VK} (h:tD X O (JO g g' ea eb ec) σ H Q):Qou r r' (tR X O ea) (tR X O eb) (tR X O ec) σ H Q:=by
 obtain ⟨F0,F,en,d,rs,w,k⟩:=h
 obtain ⟨dx,dy,e1,e2,e3⟩:=Qb3 w
 obtain ⟨c,e4,e5⟩:=YZ e3
 refine ⟨F0,F,en,dx,rs,e1,fun x F1 H1 g1 r1=>?_⟩
 refine ⟨F0,F1,en,dy,rs.grow g1,e2,fun y F2 H2 g2 r2=>?_⟩
 refine ho F2 H2 x y dx dy (.bl c) _ g2.fh (r1.gr g2) r2 e4 fun v F3 H3 g3 r3=>?_
 cases r3
 refine ⟨c,rfl,?_⟩
 have g13:=(g1.trans g2).trans g3
 cases c with
 | true =>
  obtain ⟨dz,e6,e7⟩:=Q5 e5
  refine Qga ⟨F0,F3,en,dz,rs.grow g13,e6,fun z F4 H4 g4 r4=>?_⟩
  exact ho' F4 H4 y z dy dz d _ g4.fh ((r2.gr g3).gr g4) r4 e7 fun v F' H' g5 r5=>k v F' H' ((g13.trans g4).trans g5) r5
 | false=>cases e5;exact Qgb (k _ F3 H3 g13 (.bl _))
theorem QkF {op op':CmpOp} {g g':D->D->Option D} {r r':R2} {ea eb ec:EvE} (ho:OpR X (compareOp op) r/\Op2 X r g) (ho':OpR X (compareOp op') r'/\Op2 X r' g') (ha:PE X a (tR X O ea)) (hb:PE X b (tR X O eb)) (hc:PE X c (tR X O ec)) (hm:lastMarks [op,op'] [b,c]=false:=by with_unfolding_all rfl) :
  PE X (.Compare a [op,op'] [b,c] pos) (tD X O (JO g g' ea eb ec)):=PE.imp (QqX ho.1 ho'.1 ha hb hc hm) fun σ H Q h=>Qto ho.2 ho'.2 h
theorem Dz:PA X [] (tL X O lN):=PA.imp Qbv fun σ H Q ⟨F0,F,en,ds,rs,w,k⟩=>by cases w;exact k [] F H (.refl rs.fh) .nil
theorem VJ {es:List Expr} {ea:EvE} {l:EvL} (ha:PE X a (tD X O ea)) (hr:PA X es (tL X O l)) (hs:starEach (a::es) X.env=(false,eval a X.env)::starEach es X.env:=by rfl):PA X (a::es) (tL X O (lC ea l)) :=
 PA.imp (Z5 ha hr hs) fun σ H Q ⟨F0,F,en,ds,rs,w,k⟩=>by
  obtain ⟨d,e1,e2⟩:=Q5 w
  obtain ⟨ds',e3,rfl⟩:=Zv e2
  refine ⟨F0,F,en,d,rs,e1,fun v F1 H1 g1 r1=>?_⟩
  exact ⟨F0,F1,en,ds',rs.grow g1,e3,fun vs F2 H2 g2 r2=>k (v::vs) F2 H2 (g1.trans g2) (.cons (r1.mono g2.ff) r2)⟩
theorem Qcv:∀ (e:Qq) (d:List D),lN e=some d->d.length<=0:=fun e d h=>by cases h;exact Nat.le_refl 0
theorem Z3 {n:Nat} {ea:EvE} {l:EvL} (h:∀ (e:Qq) (d:List D),l e=some d->d.length<=n):∀ (e:Qq) (d:List D),lC ea l e=some d->d.length<=n+1:=fun e d w=>by
 obtain ⟨x,e1,e2⟩:=Q5 w
 obtain ⟨ds,e3,rfl⟩:=Zv e2
 exact Nat.succ_le_succ (h e ds e3)
theorem QI {es:List Expr} {l:EvL} {x1} (h:PA X es (tL X O l)) (hz:∀ (e:Qq) (d:List D),l e=some d->d.length<=lI):PE X (.Tuple es x1 pos) (tD X O (Qp l)) :=
 PE.imp (Qt2 h) fun σ H Q ⟨F0,F,en,d,rs,w,k⟩=>by
  obtain ⟨ds,e1,rfl⟩:=Zv w
  refine ⟨F0,F,en,ds,rs,e1,fun vs F1 H1 g1 r1=>⟨by rw [r1.length,Yl];exact hz en ds e1,fun p hp=>?_⟩⟩
  have g:=Gr.new g1.fh hp (.tup vs)
  exact k _ _ _ (g1.trans g) (.tup Jb (r1.mono g.ff))
theorem QZ {es:List Expr} {l:EvL} (h:PA X es (tL X O l)) (hz:∀ (e:Qq) (d:List D),l e=some d->d.length<=lI):PE X (.List es pos) (tD X O (Qi l)) :=
 PE.imp (QoC h) fun σ H Q ⟨F0,F,en,d,rs,w,k⟩=>by
  obtain ⟨ds,e1,rfl⟩:=Zv w
  refine ⟨F0,F,en,ds,rs,e1,fun vs F1 H1 g1 r1=>⟨by rw [r1.length,Yl];exact hz en ds e1,fun p hp=>?_⟩⟩
  have g:=Gr.new g1.fh hp (.lst vs)
  exact k _ _ _ (g1.trans g) (.lst Jb (r1.mono g.ff))
theorem YI {es:List Expr} {l:EvL} (h:PA X es (tL X O l)) (hz:∀ (e:Qq) (d:List D),l e=some d->d.length<=lI):PE X (.List es pos) (tO X O (Qi l)) :=
 PE.imp (QoC h) fun σ H Q ⟨F0,F,en,d,rs,w,k⟩=>by
  obtain ⟨ds,e1,rfl⟩:=Zv w
  refine ⟨F0,F,en,ds,rs,e1,fun vs F1 H1 g1 r1=>⟨by rw [r1.length,Yl];exact hz en ds e1,fun p hp=>?_⟩⟩
  have g:=Gr.newO g1.fh hp (.lst vs)
  exact k p none vs ds F1 _ (g1.trans g) (g1.hh.none hp) (g1.fh.none hp) Jb r1 rfl trivial
theorem VG:PO X none (tOI X O oNo):=fun pins s σ H Q I ⟨F0,F,en,o,rs,w,k⟩=>by
 cases w
 exact Qsv pins s σ H Q I (k F H (.refl rs.fh))
theorem VF {ev:EvE} (h:PE X e (tR X O ev)):PO X (some e) (tOI X O (oAt ev)):=fun pins s σ H Q I ⟨F0,F,en,o,rs,w,k⟩=>by
 obtain ⟨d,e1,e2⟩:=Q5 w
 cases d with
 | int i=>cases e2;exact Qsu h pins s σ H Q I ⟨F0,F,en,.int i,rs,e1,fun v F' H' g r=>⟨i,r.int,k F' H' g⟩⟩
 | _=>cases e2
theorem Qgw {K:Fg} {F:Hp} {xs:List V} {ds:List D} (r:Reps K F xs ds) (lo hi:Option Int):Reps K F (QbQ xs lo hi) (ZY ds lo hi):=by
 unfold QbQ ZY
 rw [r.length]
 exact (r.drop _).take _
def C1 (X:Cx) (r:List V->Hp->VK->Prop) (g:D->Option D):Prop:=∀ (F H:Hp) (x:V) (dx d:D) (Q:VK),Sm F H->RdD X.K F H x dx->g dx=some d->(∀ v F' H',Gr F H F' H'->Rep X.K F' v d->Q v H')->r [x] H Q
theorem QhO {ev:EvE} (ha:PE X a (tR X O ev)) (hs:starEach [a] X.env=[(false,eval a X.env)]:=by rfl):PA X [a] (QrM (tR X O ev) Qtu):=Z5 ha Qbv hs
theorem Jc {id:String} {x:Str} {p:Pos} {r:List V->Hp->VK->Prop} {g:D->Option D} {ev:EvE} (hc:CallR X (.builtin id) r/\C1 X r g) (hg:Gl X x) (hm:X.mg x=none) (hv:bootBuiltins x=some (.builtin id)) (ha:PE X a (tR X O ev)) (hn:x≠"__name__":=by decide) (hdb:(x==("__debug__":Str))=false:=by decide)
  (he:starEach [a] X.env=[(false,eval a X.env)]:=by rfl):PE X (.Call (.Name x p) [a] [] pos) (tD X O (eUn g ev)) :=
 PE.imp (Qgo hc.1 hg hm hv (QhO ha he) hn hdb he rfl) fun σ H Q ⟨F0,F,en,d,rs,w,k⟩=>by
  obtain ⟨dx,e1,e2⟩:=Q5 w
  exact ⟨F0,F,en,dx,rs,e1,fun v F' H' g r=>hc.2 F' H' v dx d Q g.fh r e2 fun v2 F2 H2 g2 r2=>k v2 F2 H2 (g.trans g2) r2⟩
theorem Qcl {T:String} {x:Str} {p:Pos} {r:List V->Hp->VK->Prop} {g:D->Option D} {ev:EvE} (hc:CallR X (.type T) r/\C1 X r g) (hg:Gl X x) (hm:X.mg x=none) (hv:bootBuiltins x=some (.type T)) (ha:PE X a (tR X O ev)) (hn:x≠"__name__":=by decide) (hdb:(x==("__debug__":Str))=false:=by decide)
  (he:starEach [a] X.env=[(false,eval a X.env)]:=by rfl):PE X (.Call (.Name x p) [a] [] pos) (tD X O (eUn g ev)) :=
 PE.imp (QiH hc.1 hg hm hv (QhO ha he) hn hdb he rfl) fun σ H Q ⟨F0,F,en,d,rs,w,k⟩=>by
  obtain ⟨dx,e1,e2⟩:=Q5 w
  exact ⟨F0,F,en,dx,rs,e1,fun v F' H' g r=>hc.2 F' H' v dx d Q g.fh r e2 fun v2 F2 H2 g2 r2=>k v2 F2 H2 (g.trans g2) r2⟩
theorem QK:CallR X (.builtin "len") (fun xs H Q=>(∃ p ys,xs=[.ref p]/\(SqL X.K H p ys\/SqT X.K H p ys)/\Q (.int ys.length) H)\/∃ z,xs=[.str z]/\z.length<=sizeLine/\Q (.int z.length) H) /\
  C1 X (fun xs H Q=>(∃ p ys,xs=[.ref p]/\(SqL X.K H p ys\/SqT X.K H p ys)/\Q (.int ys.length) H)\/∃ z,xs=[.str z]/\z.length<=sizeLine/\Q (.int z.length) H) D.len:=by
 refine ⟨CallR.or QlB QlA,fun F H x dx d Q s rx e k=>?_⟩
 cases dx with
 | str z =>
  simp only [D.len] at e
  split at e
  ·rename_i hz
   cases e
   exact .inr ⟨z,by rw [rx.str],by rw [Yl];exact hz,k _ F H (.refl s) (.int _)⟩
  ·cases e
 | tup ds =>
  cases e
  obtain ⟨p,xs,rfl,h,r⟩:=rx.tup
  exact .inl ⟨p,xs,rfl,.inr (SqT.of (s _ _ h)),by rw [r.length];exact k _ F H (.refl s) (.int _)⟩
 | lst ds =>
  cases e
  obtain ⟨p,xs,rfl,h,r⟩:=rx.lst s
  exact .inl ⟨p,xs,rfl,.inl (SqL.of h),by rw [r.length];exact k _ F H (.refl s) (.int _)⟩
 | scr ns =>
  cases e
  obtain ⟨p,rfl,h⟩:=rx.scr
  exact .inl ⟨p,_,rfl,.inl (s.sqL h),by rw [List.length_map];exact k _ F H (.refl s) (.int _)⟩
 | _=>cases e
theorem log2_lt {n:Nat} (h:n<2^1900):n.log2<1920:=by
 by_cases z:n=0
 ·subst z;decide
 ·have:=(Nat.log2_lt z (k:=1900)).mpr h
  omega
theorem Qi6:CallR X (.type "str") (fun xs H Q=>∃ i,xs=[.int i]/\i.natAbs.log2<1920/\Q (.str (toString i)) H)/\C1 X (fun xs H Q=>∃ i,xs=[.int i]/\i.natAbs.log2<1920/\Q (.str (toString i)) H) D.strI:=by
 refine ⟨Qly,fun F H x dx d Q s rx e k=>?_⟩
 cases dx with
 | int i =>
  simp only [D.strI] at e
  split at e
  ·rename_i hz
   cases e
   exact ⟨i,by rw [rx.int],log2_lt hz,k _ F H (.refl s) (.str _)⟩
  ·cases e
 | _=>cases e
theorem QbL:CallR X (.type "int") (fun xs H Q=>(∃ i,xs=[.int i]/\Q (.int i) H)\/∃ k,xs=[.bl k]/\Q (.int (if k then 1 else 0)) H)/\C1 X (fun xs H Q=>(∃ i,xs=[.int i]/\Q (.int i) H)\/∃ k,xs=[.bl k]/\Q (.int (if k then 1 else 0)) H) D.intB:=by
 refine ⟨Qqg,fun F H x dx d Q s rx e k=>?_⟩
 cases dx with
 | int i=>cases e;exact .inl ⟨i,by rw [rx.int],k _ F H (.refl s) (.int _)⟩
 | bl b=>cases e;exact .inr ⟨b,by rw [rx.bl],k _ F H (.refl s) (.int _)⟩
 | _=>cases e
def C2 (X:Cx) (r:List V->Hp->VK->Prop) (g:D->D->Option D):Prop:=∀ (F H:Hp) (x y:V) (dx dy d:D) (Q:VK),Sm F H->RdD X.K F H x dx->RdD X.K F H y dy->g dx dy=some d->(∀ v F' H',Gr F H F' H'->Rep X.K F' v d->Q v H')->r [x,y] H Q
theorem Qbn {id:String} {x:Str} {p:Pos} {r:List V->Hp->VK->Prop} {g:D->D->Option D} {ea eb:EvE} (hc:CallR X (.builtin id) r/\C2 X r g) (hg:Gl X x) (hm:X.mg x=none) (hv:bootBuiltins x=some (.builtin id)) (ha:PE X a (tR X O ea)) (hb:PE X b (tR X O eb)) (hn:x≠"__name__":=by decide) (hdb:(x==("__debug__":Str))=false:=by decide)
  (he:starEach [a,b] X.env=[(false,eval a X.env),(false,eval b X.env)]:=by rfl) (he2:starEach [b] X.env=[(false,eval b X.env)]:=by rfl):PE X (.Call (.Name x p) [a,b] [] pos) (tD X O (eOp g ea eb)) :=
 PE.imp (Qgo hc.1 hg hm hv (Z5 ha (QhO hb he2) (by rw [he,he2])) hn hdb (by rw [he,he2]) (by rw [he2];rfl)) fun σ H Q ⟨F0,F,en,d,rs,w,k⟩=>by
  obtain ⟨dx,dy,e1,e2,e3⟩:=Qb3 w
  refine ⟨F0,F,en,dx,rs,e1,fun v F1 H1 g1 r1=>?_⟩
  exact ⟨F0,F1,en,dy,rs.grow g1,e2,fun u F2 H2 g2 r2=>hc.2 F2 H2 v u dx dy d Q g2.fh (r1.gr g2) r2 e3 fun v3 F3 H3 g3 r3=>k v3 F3 H3 ((g1.trans g2).trans g3) r3⟩
theorem Z4 (hc:X.calm=true):CallR X (.builtin "max") (fun xs H Q=>∃ i j,xs=[.int i,.int j]/\Q (.int (if j > i then j else i)) H)/\C2 X (fun xs H Q=>∃ i j,xs=[.int i,.int j]/\Q (.int (if j > i then j else i)) H) D.max2:=by
 refine ⟨Qqf hc,fun F H x y dx dy d Q s rx ry e k=>?_⟩
 cases dx<;>cases dy<;>try (simp [D.max2] at e;done)
 case int.int i j=>cases e;exact ⟨i,j,by rw [rx.int,ry.int],k _ F H (.refl s) (.int _)⟩
def Qu8 (X:Cx) (T:String):List V->Hp->VK->Prop:=fun xs H Q=>∃ x t b,xs=[x,.ty T]/\TyOf X.K H x t/\PySem.W.kitOne X.K t (.type T)=some b/\Q (.bl b) H
theorem Qoo (T:String):CallR X (.builtin "isinstance") (Qu8 X T):=by
 intro pins s σ H xs us Q I r ⟨x,t,b,hx,ty,e,q⟩
 subst hx
 obtain ⟨u,w,rfl,rx,rw'⟩:=Qnu r
 cases (show w=Value.type T from rw')
 exact QpK I rx ty e fun tk=>⟨.bl b,H,I.tok tk,rfl,q⟩
def Kit (K:Fg) (T:String):Prop:=∀ d:D,(∀ ns,d≠.scr ns)->PySem.W.kitOne K (.type (tyD d)) (.type T)=some (decide (tyD d=T)||(decide (T="int")&&decide (tyD d="bool")))
theorem Qsa {F H:Hp} {x:V} {d:D} (s:Sm F H) (hd:∀ ns,d≠.scr ns) (r:RdD X.K F H x d):TyOf X.K H x (.type (tyD d)):=by
 cases d with
 | non=>rw [r.non];exact .non
 | bl b=>rw [r.bl];exact .bl b
 | int i=>rw [r.int];exact .int i
 | str z=>rw [r.str];exact .str z
 | tup ds=>obtain ⟨p,xs,rfl,h,_⟩:=r.tup;exact .tup (s _ _ h)
 | lst ds=>obtain ⟨p,xs,rfl,h,_⟩:=r.lst s;exact .lst h
 | dic ks ds=>obtain ⟨p,xs,rfl,h,_⟩:=r.dic s;rcases h with h | ⟨o,h⟩;exact .dK h;exact .frzD h
 | scr ns=>exact absurd rfl (hd ns)
theorem QfH {T:String} {x y:Str} {p p2:Pos} {ev:EvE} (kt:Kit X.K T) (hg:Gl X x) (hm:X.mg x=none) (hv:bootBuiltins x=some (.builtin "isinstance")) (hg2:Gl X y) (hm2:X.mg y=none) (hv2:bootBuiltins y=some (.type T)) (ha:PE X a (tR X O ev)) (hn:x≠"__name__":=by decide) (hdb:(x==("__debug__":Str))=false:=by decide)
  (hn2:y≠"__name__":=by decide) (hdb2:(y==("__debug__":Str))=false:=by decide)
  (he:starEach [a,.Name y p2] X.env=[(false,eval a X.env),(false,eval (.Name y p2) X.env)]:=by rfl) (he2:starEach [.Name y p2] X.env=[(false,eval (.Name y p2) X.env)]:=by rfl):PE X (.Call (.Name x p) [a,.Name y p2] [] pos) (tD X O (J5 T ev)) :=
 PE.imp (Qgo (Qoo T) hg hm hv (Z5 ha (Z5 (QsC hg2 hm2 hv2 (show RelV (.ty T) (.type T) from rfl) hn2 hdb2) Qbv he2) (by rw [he,he2])) hn hdb (by rw [he,he2]) (by rw [he2];rfl)) fun σ H Q ⟨F0,F,en,d,rs,w,k⟩=>by
  obtain ⟨dx,e1,e2⟩:=Q5 w
  have hs:(∀ ns,dx≠.scr ns)/\d=.bl (decide (tyD dx=T)||(decide (T="int")&&decide (tyD dx="bool"))):=by
   cases dx with
   | scr ns=>cases e2
   | _=>cases e2;exact ⟨(fun _ z=>nomatch z),rfl⟩
  refine ⟨F0,F,en,dx,rs,e1,fun v F1 H1 g1 r1=>?_⟩
  refine ⟨v,_,_,rfl,Qsa g1.fh hs.1 r1,kt dx hs.1,?_⟩
  rw [hs.2] at k
  exact k _ F1 H1 g1 (.bl _)
end
end Wd
namespace Wd
open PySem PySem.Spec PyProof.Rows L2
structure Ex (H₀:Hp) (F0:Fz) (F H:Hp):Prop where
 fh:Sm F H
 hh:Sm F0.h H
 ff:Sm F0.f F
 fr:∀ a o,F a=some o->F0.f a=some o\/F0.h a=none
theorem RS.ex {K:Fg} {H₀:Hp} {F0:Fz} {F H:Hp} {σ:L2.St} {e:Qq} {O:List Nat} (r:RS K H₀ F0 F H σ e O):Ex H₀ F0 F H:=⟨r.fh,r.hh,r.ff,r.fr⟩
theorem Ex.gr {H₀:Hp} {F0:Fz} {F H:Hp} (x:Ex H₀ F0 F H):Gr F0.f F0.h F H:=⟨x.ff,x.hh,x.fh,x.fr⟩
def Qwc (K:Fg) (H₀ F H:Hp) (w:Bool) (v:V) (d:D):Prop :=
 if w=true then ∃ p k xs ds,v=.ref p/\H₀ p=none/\F p=none/\H p=some (ho k xs)/\Reps K F xs ds/\d=dOf k ds/\Qar k xs else Rep K F v d
def FlOk (X:Cx) (O' OL:List Nat) (w:Bool) (F0:Fz) (F:Hp) (Dn:Ends):Fl->Prop
 | .nx e'=>∀ σ' F' H',Sm F F'->RS X.K X.H₀ F0 F' H' σ' e' O'->Dn.nx σ' H'
 | .bk e'=>∀ σ' F' H',Sm F F'->RS X.K X.H₀ F0 F' H' σ' e' OL->Dn.bk σ' H'
 | .ct e'=>∀ σ' F' H',Sm F F'->RS X.K X.H₀ F0 F' H' σ' e' OL->Dn.ct σ' H'
 | .rt d=>∀ v F' H',Ex X.H₀ F0 F' H'->Qwc X.K F0.h F' H' w v d->Dn.rt v H'
def tS (X:Cx) (O O' OL:List Nat) (w:Bool) (b:EvS):TS:=fun Dn σ H=>∃ F0 F e fl,RS X.K X.H₀ F0 F H σ e O/\b e=some fl/\FlOk X O' OL w F0 F Dn fl
theorem FlOk.mono {X:Cx} {O' OL:List Nat} {w:Bool} {F0:Fz} {F F1:Hp} {Dn:Ends} {fl:Fl} (h:FlOk X O' OL w F0 F Dn fl) (s:Sm F F1):FlOk X O' OL w F0 F1 Dn fl:=by
 cases fl with
 | nx e=>exact fun σ' F' H' q r=>h σ' F' H' (s.trans q) r
 | bk e=>exact fun σ' F' H' q r=>h σ' F' H' (s.trans q) r
 | ct e=>exact fun σ' F' H' q r=>h σ' F' H' (s.trans q) r
 | rt d=>exact h
section
variable {X:Cx} {O O1 O2 O' OL:List Nat} {w:Bool} {st:Stmt} {rest:List Stmt} {e:Expr} {pos:Pos}
theorem Sn:PSs X [] (tS X O O OL w sNx):=PSs.imp Qss fun Dn σ H ⟨F0,F,en,fl,rs,z,k⟩=>by
 cases z
 exact k σ F H (.refl _) rs
theorem So {b:EvS} (h:PS X st (tS X O O' OL w b)):PSs X [st] (tS X O O' OL w b):=Qsr h
theorem Ss {a b:EvS} (h1:PS X st (tS X O O1 OL w a)) (h2:PSs X rest (tS X O1 O' OL w b)):PSs X (st::rest) (tS X O O' OL w (sQ a b)) :=
 PSs.imp (QqQ h1 h2) fun Dn σ H ⟨F0,F,en,fl,rs,z,k⟩=>by
  have z':Qc4 (a en) b=some fl:=z
  cases q:a en with
  | none=>rw [q] at z';cases z'
  | some f1 =>
   rw [q] at z'
   refine ⟨F0,F,en,f1,rs,q,?_⟩
   cases f1 with
   | nx e1=>exact fun σ' F' H' s r=>⟨F0,F',e1,fl,r,z',k.mono s⟩
   | bk e1=>cases z';exact k
   | ct e1=>cases z';exact k
   | rt d=>cases z';exact k
theorem Qtc:PS X (.Continue pos) (tS X O O' O w Z2):=PS.imp QlT fun Dn σ H ⟨F0,F,en,fl,rs,z,k⟩=>by
 cases z
 exact k σ F H (.refl _) rs
theorem RS.exg {K:Fg} {H₀:Hp} {F0:Fz} {F H F' H':Hp} {σ:L2.St} {e:Qq} {O:List Nat} (r:RS K H₀ F0 F H σ e O) (g:Gr F H F' H'):Ex H₀ F0 F' H':=(r.grow g).ex
theorem Qm {ev:EvE} (h:PE X e (tD X O ev)):PS X (.Return (some e) pos) (tS X O O' OL false (Qj ev)):=PS.imp (QtV h) fun Dn σ H ⟨F0,F,en,fl,rs,z,k⟩=>by
 obtain ⟨d,e1,rfl⟩:=Zv z
 exact ⟨F0,F,en,d,rs,e1,fun v F' H' g r=>k v F' H' (rs.exg g) r⟩
theorem QfF {ev:EvE} (h:PE X e (tD X O ev)) (hs:swapsWith e none pos.line X.env=pure false:=by rfl):PS X (.Expr e pos) (tS X O O OL w (JY ev)):=PS.imp (QfC h hs) fun Dn σ H ⟨F0,F,en,fl,rs,z,k⟩=>by
 obtain ⟨d,e1,rfl⟩:=Zv z
 exact ⟨F0,F,en,d,rs,e1,fun v F' H' g r=>k σ F' H' g.ff (rs.grow g)⟩
theorem Qx {c:Expr} {a b:List Stmt} {ec:EvE} {ea eb:EvS} (hc:PT X c (tDT X O ec)) (ha:PSs X a (tS X O O' OL w ea)) (hb:PSs X b (tS X O O' OL w eb)):PS X (.If c a b pos) (tS X O O' OL w (sIf ec ea eb)) :=
 PS.imp (Qva hc ha hb) fun Dn σ H ⟨F0,F,en,fl,rs,z,k⟩=>by
  obtain ⟨c,e1,e2⟩:=YZ z
  refine ⟨F0,F,en,c,rs,e1,fun F1 H1 g1=>?_⟩
  cases c with
  | true=>exact Qga ⟨F0,F1,en,fl,rs.grow g1,e2,k.mono g1.ff⟩
  | false=>exact Qgb ⟨F0,F1,en,fl,rs.grow g1,e2,k.mono g1.ff⟩
def dl (i:Nat) (O:List Nat):List Nat:=O.filter fun j=>!(j==i)
def ad (i:Nat) (O:List Nat):List Nat:=O.filter (fun j=>decide (j<i))++i::O.filter (fun j=>decide (i<j))
theorem mem_dl {i j:Nat}:j∈dl i O↔j∈O/\j≠i:=by unfold dl;simp
theorem mem_ad {i j:Nat}:j∈ad i O↔j=i\/j∈O:=by
 unfold ad
 simp only [List.mem_append,List.mem_filter,List.mem_cons,decide_eq_true_eq]
 constructor
 ·rintro (h | h | h)
  ·exact .inr h.1
  ·exact .inl h
  ·exact .inr h.1
 ·rintro (h | h)
  ·exact .inr (.inl h)
  ·rcases Nat.lt_trichotomy j i with z | z | z
   ·exact .inl ⟨h,z⟩
   ·exact .inr (.inl z)
   ·exact .inr (.inr ⟨h,z⟩)
theorem J2 {α:Type} {l:List α} {i j:Nat} {x:α} (hi:i<l.length):(l.set i x)[j]?=if i=j then some x else l[j]?:=by
 rw [List.getElem?_set]
 split
 ·rename_i h;subst h;simp [hi]
 ·rfl
theorem RS.put {K:Fg} {H₀:Hp} {F0:Fz} {F H:Hp} {σ:L2.St} {en:Qq} {i:Nat} {v:V} {d:D} (r:RS K H₀ F0 F H σ en O) (h:Rep K F v d) (hi:i<en.length) (hq:Yi i∉O):RS K H₀ F0 F H (σ.set i (some v)) (en.set i (some d)) (dl i O) where
 fh:=r.fh
 hh:=r.hh
 ff:=r.ff
 fr:=r.fr
 slot:=fun j d' e1 hj=>by
  rw [J2 hi] at e1
  rw [J2 (by rw [r.len];exact hi)]
  split at e1
  ·rename_i z;cases e1;rw [if_pos z];exact ⟨v,rfl,h⟩
  ·rename_i z
   rw [if_neg z]
   exact r.slot j d' e1 fun q=>hj (mem_dl.mpr ⟨q,fun w=>z w.symm⟩)
 own:=fun j d' e1 hj=>by
  obtain ⟨h1,h2⟩:=mem_dl.mp hj
  rw [J2 hi,if_neg (Ne.symm h2)] at e1
  rw [J2 (by rw [r.len];exact hi),if_neg (Ne.symm h2)]
  exact r.own j d' e1 h1
 dis:=fun j k p d1 d2 hj hk f1 f2 e1 e2=>by
  obtain ⟨h1,h2⟩:=mem_dl.mp hj
  obtain ⟨h3,h4⟩:=mem_dl.mp hk
  rw [J2 (by rw [r.len];exact hi),if_neg (Ne.symm h2)] at e1
  rw [J2 (by rw [r.len];exact hi),if_neg (Ne.symm h4)] at e2
  rw [J2 hi,if_neg (Ne.symm h2)] at f1
  rw [J2 hi,if_neg (Ne.symm h4)] at f2
  exact r.dis j k p d1 d2 h1 h3 f1 f2 e1 e2
 pin:=fun j hj=>by
  obtain ⟨h1,_⟩:=mem_dl.mp hj
  obtain ⟨p,e1,e2⟩:=r.pin j h1
  refine ⟨p,e1,?_⟩
  rw [List.getElem?_set_ne (fun z:i=j=>hq (by rw [z];exact h1))]
  exact e2
 len:=by rw [List.length_set,List.length_set];exact r.len
theorem RS.putO {K:Fg} {H₀:Hp} {F0:Fz} {F H:Hp} {σ:L2.St} {en:Qq} {i:Nat} {p:Addr} {kk:Option (List Kd)} {xs:List V} {ds:List D} (r:RS K H₀ F0 F H σ en O) (h0:F0.h p=none) (hf:F p=none) (hp:H p=some (ho kk xs)) (hk:Qar kk xs) (hr:Reps K F xs ds) (hi:i<en.length) (hq:Yi i∉O) (hiq:∀ j,i≠Yi j)
  (hn:∀ j d,j∈O->en[j]?=some (some d)->j≠i->σ[j]?≠some (some (.ref p))):RS K H₀ F0 F H (σ.set i (some (.ref p))) (en.set i (some (dOf kk ds))) (ad i O) where
 fh:=r.fh
 hh:=r.hh
 ff:=r.ff
 fr:=r.fr
 slot:=fun j d' e1 hj=>by
  have hj1:j≠i:=fun z=>hj (mem_ad.mpr (.inl z))
  have hj2:j∉O:=fun z=>hj (mem_ad.mpr (.inr z))
  rw [J2 hi,if_neg (Ne.symm hj1)] at e1
  rw [J2 (by rw [r.len];exact hi),if_neg (Ne.symm hj1)]
  exact r.slot j d' e1 hj2
 own:=fun j d' e1 hj=>by
  rw [J2 hi] at e1
  rw [J2 (by rw [r.len];exact hi)]
  split at e1
  ·rename_i z;cases e1;rw [if_pos z];exact ⟨p,kk,xs,ds,rfl,h0,hf,hp,hr,rfl,hk⟩
  ·rename_i z
   rw [if_neg z]
   rcases mem_ad.mp hj with q | q
   ·exact absurd q.symm z
   ·exact r.own j d' e1 q
 dis:=fun j k q d1 d2 hj hk f1 f2 e1 e2=>by
  rw [J2 (by rw [r.len];exact hi)] at e1 e2
  rw [J2 hi] at f1 f2
  by_cases z1:i=j
  ·by_cases z2:i=k
   ·rw [<- z1,<- z2]
   ·rw [if_pos z1] at e1
    cases e1
    rw [if_neg z2] at e2
    rcases mem_ad.mp hk with w | w
    ·exact absurd w.symm z2
    ·rw [if_neg z2] at f2
     exact absurd e2 (hn k d2 w f2 (Ne.symm z2))
  ·rw [if_neg z1] at e1
   rcases mem_ad.mp hj with w | w
   ·exact absurd w.symm z1
   ·by_cases z2:i=k
    ·rw [if_pos z2] at e2
     cases e2
     rw [if_neg z1] at f1
     exact absurd e1 (hn j d1 w f1 (Ne.symm z1))
    ·rw [if_neg z2] at e2
     rcases mem_ad.mp hk with w2 | w2
     ·exact absurd w2.symm z2
     ·rw [if_neg z1] at f1
      rw [if_neg z2] at f2
      exact r.dis j k q d1 d2 w w2 f1 f2 e1 e2
 pin:=fun j hj=>by
  rcases mem_ad.mp hj with z | h1
  ·exact absurd z.symm (hiq j)
  ·obtain ⟨p,e1,e2⟩:=r.pin j h1
   refine ⟨p,e1,?_⟩
   rw [List.getElem?_set_ne (fun z:i=j=>hq (by rw [z];exact h1))]
   exact e2
 len:=by rw [List.length_set,List.length_set];exact r.len
theorem RS.write {K:Fg} {H₀:Hp} {F0:Fz} {F H:Hp} {σ:L2.St} {en:Qq} {i:Nat} {p:Addr} {kk:Option (List Kd)} {xs:List V} {ds:List D} (r:RS K H₀ F0 F H σ en O) (hi:i∈O) {d0:D} (he:en[i]?=some (some d0)) (hσ:σ[i]?=some (some (.ref p))) (h0:F0.h p=none) (hf:F p=none) (hk:Qar kk xs) (hr:Reps K F xs ds) :
  RS K H₀ F0 F (upd H p (ho kk xs)) σ (en.set i (some (dOf kk ds))) O :=
 have hl:i<en.length:=by
  cases Nat.lt_or_ge i en.length with
  | inl h=>exact h
  | inr h=>rw [List.getElem?_eq_none h] at he;cases he
 {
 fh:=r.fh.upd _ hf
 hh:=r.hh.upd _ h0
 ff:=r.ff
 fr:=r.fr
 slot:=fun j d' e1 hj=>by
  have z:i≠j:=fun z=>hj (z▸hi)
  rw [J2 hl,if_neg z] at e1
  exact r.slot j d' e1 hj
 own:=fun j d' e1 hj=>by
  rw [J2 hl] at e1
  split at e1
  ·rename_i z;cases e1;subst z
   exact ⟨p,kk,xs,ds,hσ,h0,hf,Jb,hr,rfl,hk⟩
  ·rename_i z
   obtain ⟨q,k2,ys,es,h1,h2,h3,h4,h5,h6⟩:=r.own j d' e1 hj
   refine ⟨q,k2,ys,es,h1,h2,h3,?_,h5,h6⟩
   rw [QJ (fun w:q=p=>z (r.dis i j p _ _ hi hj he e1 hσ (by rw [<- w];exact h1)))]
   exact h4
 dis:=fun j k q d1 d2 hj hk f1 f2 g1 g2=>by
  rw [J2 hl] at f1 f2
  have k1:∃ d,en[j]?=some (some d):=by
   split at f1
   ·rename_i z;subst z;exact ⟨_,he⟩
   ·exact ⟨_,f1⟩
  have k2:∃ d,en[k]?=some (some d):=by
   split at f2
   ·rename_i z;subst z;exact ⟨_,he⟩
   ·exact ⟨_,f2⟩
  obtain ⟨_,k1⟩:=k1
  obtain ⟨_,k2⟩:=k2
  exact r.dis j k q _ _ hj hk k1 k2 g1 g2
 pin:=r.pin
 len:=by rw [List.length_set];exact r.len }
theorem RS.rel {K:Fg} {H₀:Hp} {F0:Fz} {F H:Hp} {σ:L2.St} {en:Qq} (ob:Addr->Obj) (i:Nat) (r:RS K H₀ F0 F H σ en O) :
  ∃ F' H',Sm F F'/\RS K H₀ F0 F' H' σ en (dl i O)/\(H'=H\/∃ p kk xs,H p=some (ho kk xs)/\H'=upd H p (hz (ob p) kk xs)):=by
 have none_:(∀ d,en[i]?=some (some d)->i∉O)->∃ F' H',Sm F F'/\RS K H₀ F0 F' H' σ en (dl i O)/\(H'=H\/∃ p kk xs,H p=some (ho kk xs)/\H'=upd H p (hz (ob p) kk xs)):=fun hn=>by
  refine ⟨F,H,.refl F,⟨r.fh,r.hh,r.ff,r.fr,fun j d e1 hj=>?_,fun j d e1 hj=>r.own j d e1 (mem_dl.mp hj).1,fun j k p d1 d2 hj hk=>r.dis j k p d1 d2 (mem_dl.mp hj).1 (mem_dl.mp hk).1,fun j hj=>r.pin j (mem_dl.mp hj).1,r.len⟩,.inl rfl⟩
  exact r.slot j d e1 fun w=>hj (mem_dl.mpr ⟨w,fun z=>hn d (z▸e1) (z▸w)⟩)
 by_cases hi:i∈O
 ·cases q:en[i]? with
  | none=>exact none_ fun d e=>by rw [q] at e;cases e
  | some o =>
   cases o with
   | none=>exact none_ fun d e=>by rw [q] at e;cases e
   | some d0 =>
    obtain ⟨p,kk,xs,ds,h1,h2,h3,h4,h5,h6,h7⟩:=r.own i d0 q hi
    have sf:Sm F (upd F p (hz (ob p) kk xs)):=(Sm.refl F).upd _ h3
    refine ⟨upd F p (hz (ob p) kk xs),upd H p (hz (ob p) kk xs),sf,⟨fun a o e1=>?_,fun a o e1=>?_,r.ff.trans sf,fun a o e1=>?_,fun j d e1 hj=>?_,fun j d e1 hj=>?_,fun j k p d1 d2 hj hk=>r.dis j k p d1 d2 (mem_dl.mp hj).1 (mem_dl.mp hk).1,fun j hj=>r.pin j (mem_dl.mp hj).1,r.len⟩,.inr ⟨p,kk,xs,h4,rfl⟩⟩
    ·by_cases z:a=p
     ·subst z;rw [Jb] at e1 ⊢;exact e1
     ·rw [QJ z] at e1 ⊢;exact r.fh a o e1
    ·have z:a≠p:=fun z=>by rw [z,h2] at e1;cases e1
     rw [QJ z];exact r.hh a o e1
    ·by_cases z:a=p
     ·subst z;exact .inr h2
     ·rw [QJ z] at e1;exact r.fr a o e1
    ·by_cases z:j=i
     ·subst z
      rw [q] at e1;cases e1
      subst h6
      exact ⟨_,h1,Rep.hz Jb h7 (h5.mono sf)⟩
     ·obtain ⟨v,w1,w2⟩:=r.slot j d e1 fun w=>hj (mem_dl.mpr ⟨w,z⟩)
      exact ⟨v,w1,w2.mono sf⟩
    ·obtain ⟨w1,w2⟩:=mem_dl.mp hj
     obtain ⟨p',k2',ys,es,k1,k2,k3,k4,k5,k6⟩:=r.own j d e1 w1
     have ne:p'≠p:=fun z:p'=p=>w2 (r.dis j i p _ _ w1 hi e1 q (by rw [<- z];exact k1) h1)
     refine ⟨p',k2',ys,es,k1,k2,?_,?_,k5.mono sf,k6⟩
     ·rw [QJ ne];exact k3
     ·rw [QJ ne];exact k4
 ·exact none_ fun _ _=>hi
theorem RS.put' {K:Fg} {H₀:Hp} {F0:Fz} {F H:Hp} {σ:L2.St} {en:Qq} (i:Nat) {v:V} {d:D} (r:RS K H₀ F0 F H σ en O) (h:Rep K F v d) (hq:Yi i∉O):RS K H₀ F0 F H (σ.set i (some v)) (en.set i (some d)) (dl i O):=by
 by_cases hi:i<en.length
 ·exact r.put h hi hq
 ·have e1:en.set i (some d)=en:=List.set_eq_of_length_le (by omega)
  have e2:σ.set i (some v)=σ:=List.set_eq_of_length_le (by rw [r.len];omega)
  rw [e1,e2]
  refine ⟨r.fh,r.hh,r.ff,r.fr,fun j d f1 hj=>?_,fun j d f1 hj=>r.own j d f1 (mem_dl.mp hj).1,fun j k p d1 d2 hj hk=>r.dis j k p d1 d2 (mem_dl.mp hj).1 (mem_dl.mp hk).1,fun j hj=>r.pin j (mem_dl.mp hj).1,r.len⟩
  have:j≠i:=fun z=>by
   rw [z,List.getElem?_eq_none (by omega)] at f1
   cases f1
  exact r.slot j d f1 fun w=>hj (mem_dl.mpr ⟨w,this⟩)
theorem RS.putO' {K:Fg} {H₀:Hp} {F0:Fz} {F H:Hp} {σ:L2.St} {en:Qq} (i:Nat) {p:Addr} {kk:Option (List Kd)} {xs:List V} {ds:List D} (r:RS K H₀ F0 F H σ en O) (h0:F0.h p=none) (hf:F p=none) (hp:H p=some (ho kk xs)) (hk:Qar kk xs) (hr:Reps K F xs ds)
  (hn:∀ j d,j∈O->en[j]?=some (some d)->j≠i->σ[j]?≠some (some (.ref p))) (hq:Yi i∉O) (hiq:∀ j,i≠Yi j):RS K H₀ F0 F H (σ.set i (some (.ref p))) (en.set i (some (dOf kk ds))) (ad i O):=by
 by_cases hi:i<en.length
 ·exact r.putO h0 hf hp hk hr hi hq hiq hn
 ·have e1:en.set i (some (dOf kk ds))=en:=List.set_eq_of_length_le (by omega)
  have e2:σ.set i (some (V.ref p))=σ:=List.set_eq_of_length_le (by rw [r.len];omega)
  have n1:en[i]?=none:=List.getElem?_eq_none (by omega)
  have n2:σ[i]?=none:=List.getElem?_eq_none (by rw [r.len];omega)
  rw [e1,e2]
  refine ⟨r.fh,r.hh,r.ff,r.fr,fun j d f1 hj=>r.slot j d f1 fun w=>hj (mem_ad.mpr (.inr w)),fun j d f1 hj=>?_,fun j k q d1 d2 hj hk g1 g2 f1 f2=>?_,fun j hj=>?_,r.len⟩
  ·rcases mem_ad.mp hj with z | z
   ·rw [z,n1] at f1;cases f1
   ·exact r.own j d f1 z
  ·rcases mem_ad.mp hj with z | z
   ·rw [z,n2] at f1;cases f1
   ·rcases mem_ad.mp hk with z2 | z2
    ·rw [z2,n2] at f2;cases f2
    ·exact r.dis j k q d1 d2 z z2 g1 g2 f1 f2
  ·rcases mem_ad.mp hj with z | h1
   ·exact absurd z.symm (hiq j)
   ·exact r.pin j h1
theorem QrY {X:Cx} {pins:List (Addr×Obj)} {σ:L2.St} {H:Hp} {s:Shared} (I:Inv X pins σ H s) {p:Addr} {kk:Option (List Kd)} {xs:List V} (h:H p=some (ho kk xs)):Inv X pins σ (upd H p (hz ((s.heap.get? p).getD default) kk xs)) s:=by
 cases kk with
 | none =>
  have e:upd H p (hz ((s.heap.get? p).getD default) none xs)=H:=by
   funext b
   by_cases z:b=p
   ·subst z;rw [Jb];exact h.symm
   ·rw [QJ z]
  rw [e];exact I
 | some ks =>
  have h':H p=some (.dK (ks.zip xs)):=h
  have ok:ObjOk X.prog X.w H s.heap p (.dK (ks.zip xs)):=I.hok p _ h'
  obtain ⟨z1,z2,vs,rel,o,es,ep,ho,rest⟩:=ok
  rw [ho]
  show Inv X pins σ (upd H p (.frz o (.dK (ks.zip xs)))) s
  have ne:∀ {b:Addr} {u:HO},H b=some u->(∀ kvs,u≠.dK kvs)->b≠p:=fun e n z=>by rw [z,h'] at e;cases e;exact n _ rfl
  have I2:=I.step (h':=s.heap) (H':=upd H p (.frz o (.dK (ks.zip xs)))) (g':=s.gens) (d':=s.drawn) (t':=s.toks) (ch:=[]) (fun b hb=>by cases hb) (fun b o _ _ _ e _=>e) (fun b o _ _ _ e _=>⟨o.slots,e⟩) (fun b o _ e n=>by rw [QJ (fun z=>by rw [z,h'] at n;cases n)];exact n)
   (fun b o _ e=>⟨o,e⟩) (fun b xs e=>by rw [QJ (ne e (fun _ z=>nomatch z))];exact e) (fun b xs u e=>by rw [QJ (ne e (fun _ z=>nomatch z))];exact e) (fun b ps e=>⟨#[],by rw [QJ (ne e (fun _ z=>nomatch z)),e];simp⟩) (fun m hm=>hm) (fun b u e=>?_) I.bare
  ·exact I2
  ·by_cases hb:b=p
   ·subst hb
    rw [Jb] at e
    cases e
    exact ⟨ho,z1,z2,vs,rel,o,es,ep,ho,rest⟩
   ·rw [QJ hb] at e
    exact (I.hok b u e).stay (fun c v _ q=>q) (fun c q=>by rw [QJ (ne q (fun _ z=>nomatch z))];exact q) fun c xs q=>by rw [QJ (ne q (fun _ z=>nomatch z))];exact q
theorem Qtx {X:Cx} {pins:List (Addr×Obj)} {F0:Fz} {F H:Hp} {σ:L2.St} {en:Qq} {s:Shared} (i:Nat) (I:Inv X pins σ H s) (r:RS X.K X.H₀ F0 F H σ en O):∃ F' H',Inv X pins σ H' s/\Sm F F'/\RS X.K X.H₀ F0 F' H' σ en (dl i O):=by
 obtain ⟨F',H',sf,r',h⟩:=r.rel (fun p=>(s.heap.get? p).getD default) i
 refine ⟨F',H',?_,sf,r'⟩
 rcases h with h | ⟨p,kk,xs,hp,h⟩
 ·rw [h];exact I
 ·rw [h];exact QrY I hp
theorem ZB (i:Nat) {b:EvS} {sts:List Stmt} (h:PSs X sts (tS X (dl i O) O' OL w b)):PSs X sts (tS X O O' OL w b):=by
 rintro pins s σ H D I ⟨F0,F,en,fl,rs,z,k⟩
 obtain ⟨F',H',I',sf,rs'⟩:=Qtx i I rs
 exact h pins s σ H' D I' ⟨F0,F',en,fl,rs',z,k.mono sf⟩
theorem Qrq (i:Nat) (O1:List Nat) {b:EvS} {sts:List Stmt} (h:PSs X sts (tS X O O1 OL w b)) (e:O'=dl i O1:=by rfl):PSs X sts (tS X O O' OL w b):=by
 subst e
 rintro pins s σ H D I ⟨F0,F,en,fl,rs,z,k⟩
 refine thn (h pins s σ H { D with nx:=fun σ' H'=>∃ F' e',fl=.nx e'/\Sm F F'/\RS X.K X.H₀ F0 F' H' σ' e' O1 } I ⟨F0,F,en,fl,rs,z,?_⟩) fun f s' sp=>?_
 ·cases fl with
  | nx e=>exact fun σ' F' H' s r=>⟨F',e,rfl,s,r⟩
  | bk e=>exact k
  | ct e=>exact k
  | rt d=>exact k
 ·cases f with
  | next =>
   obtain ⟨σ',H',I',F',e',rfl,s1,r⟩:=sp
   obtain ⟨F2,H2,I2,s2,r2⟩:=Qtx i I' r
   exact ⟨σ',H2,I2,k σ' F2 H2 (s1.trans s2) r2⟩
  | _=>exact sp
end
end Wd
namespace Wd
open PySem PySem.Spec PyProof.Rows L2
section
variable {X:Cx} {O O1 O2 O' OL:List Nat} {w:Bool} {st:Stmt} {rest:List Stmt} {e:Expr} {pos:Pos}
def tG (X:Cx) (O O':List Nat) (g:EvG):TG:=fun v σ H Q=>∃ F0 F en d e',RS X.K X.H₀ F0 F H σ en O/\Rep X.K F v d/\g d en=some e'/\∀ σ' H' F',Gr F H F' H'->RS X.K X.H₀ F0 F' H' σ' e' O'->Q σ' H'
def tGs (X:Cx) (O O':List Nat) (gs:List EvG):TGs:=fun vs σ H Q=>∃ F0 F en ds e',RS X.K X.H₀ F0 F H σ en O/\Reps X.K F vs ds/\Zn gs ds en=some e'/\∀ σ' H' F',Gr F H F' H'->RS X.K X.H₀ F0 F' H' σ' e' O'->Q σ' H'
theorem PG.imp {t t':TG} (h:PG X e t) (q:∀ v σ H Q,t' v σ H Q->t v σ H Q):PG X e t':=fun pins s σ H v u Q I r z=>h pins s σ H v u Q I r (q v σ H Q z)
theorem PGs.imp {es:List Expr} {t t':TGs} (h:PGs X es t) (q:∀ v σ H Q,t' v σ H Q->t v σ H Q):PGs X es t':=fun pins s σ H v u Q I r z=>h pins s σ H v u Q I r (q v σ H Q z)
theorem Qs (i:Nat) {x:Str} (hN:X.N.Nodup) (hi:X.N[i]?=some x:=by rfl) (hx:Loc X.env.scope x:=by first | exact Or.inl rfl | exact Or.inr rfl) (hf:X.fn x=true\/X.env.scope.names.lookup x=some .local:=by first | exact .inl rfl | exact .inr rfl) (hq:Yi i∉O:=by decide):PG X (.Name x pos) (tG X O (dl i O) (gS i)) :=
 PG.imp (Qsy hN hi hx hf) fun v σ H Q ⟨F0,F,en,d,e',rs,r,z,k⟩=>by
  cases z
  exact k _ H F (.refl rs.fh) (rs.put' i r hq)
theorem VH:PGs X [] (tGs X O O []):=PGs.imp Qsx fun vs σ H Q ⟨F0,F,en,ds,e',rs,r,z,k⟩=>by
 cases r with
 | nil=>cases z;exact ⟨rfl,k σ H F (.refl rs.fh) rs⟩
 | cons h r=>simp [Zn] at z
theorem JG {es:List Expr} {g:EvG} {gs:List EvG} (h1:PG X e (tG X O O1 g)) (h2:PGs X es (tGs X O1 O' gs)) (hs:(assignEach (e::es) X.env).map (·.2)=assign e X.env::(assignEach es X.env).map (·.2):=by rfl):PGs X (e::es) (tGs X O O' (g::gs)) :=
 PGs.imp (QqT h1 h2 hs) fun vs σ H Q ⟨F0,F,en,ds,e',rs,r,z,k⟩=>by
  cases r with
  | nil=>simp [Zn] at z
  | @cons x d xs ds h r =>
   have z':((g d en).bind fun e'=>Zn gs ds e')=some e':=z
   obtain ⟨e1,q1,q2⟩:=Q5 z'
   refine ⟨x,xs,rfl,F0,F,en,d,e1,rs,h,q1,fun σ' H' F' s rs'=>?_⟩
   exact ⟨F0,F',e1,ds,e',rs',r.mono s.ff,q2,fun σ2 H2 F2 s2 rs2=>k σ2 H2 F2 (s.trans s2) rs2⟩
theorem Qaz {es:List Expr} {k0:Nat} {gs:List EvG} (hc:X.calm=true) (h:PGs X es (tGs X O O' gs)) (hl:gs.length=es.length) (hn:(assignEach es X.env).length=es.length:=by rfl) (hst:(assignEach es X.env).findIdx? (·.1)=none:=by rfl):PG X (.Tuple es k0 pos) (tG X O O' (JN gs)) :=
 PG.imp (Qt1 hc h hn hst) fun v σ H Q ⟨F0,F,en,d,e',rs,r,z,k⟩=>by
  cases r with
  | @tup a xs ds h r =>
   have z':Zn gs ds en=some e':=z
   have len:∀ (gs:List EvG) (ds:List D) (en e':Qq),Zn gs ds en=some e'->ds.length=gs.length:=by
    intro gs
    induction gs with
    | nil=>intro ds en e' h;cases ds with
     | nil=>rfl
     | cons _ _=>simp [Zn] at h
    | cons g gs ih=>intro ds en e' h;cases ds with
     | nil=>simp [Zn] at h
     | cons d ds =>
      have h':((g d en).bind fun e'=>Zn gs ds e')=some e':=h
      obtain ⟨e1,_,q2⟩:=Q5 h'
      rw [List.length_cons,List.length_cons,ih ds e1 e' q2]
   exact ⟨a,xs,rfl,SqT.of (rs.fh _ _ h),by rw [r.length,len gs ds en e' z',hl],F0,F,en,ds,e',rs,r,z',k⟩
  | _=>cases z
theorem QvC {ev:EvE} {g:EvG} {Dn:Ends} {σ:L2.St} {H:Hp} (h:tS X O O' OL w (Qd ev g) Dn σ H):Qqm (tD X O ev) (tG X O O' g) Dn σ H:=by
 obtain ⟨F0,F,en,fl,rs,z,k⟩:=h
 obtain ⟨d,e1,e2⟩:=Q5 z
 obtain ⟨e',e3,rfl⟩:=Zv e2
 refine ⟨F0,F,en,d,rs,e1,fun v F1 H1 g1 r1=>?_⟩
 exact ⟨F0,F1,en,d,e',rs.grow g1,r1,e3,fun σ' H' F' s rs'=>k σ' F' H' (g1.ff.trans s.ff) rs'⟩
theorem QjV {tg:Expr} {ev:EvE} {g:EvG} (he:PE X e (tD X O ev)) (hg:PG X tg (tG X O O' g)) (hs:swapsWithSole [tg] e pos.line X.env=pure false:=by rfl) (hw:swappedStores [tg] e X.env=pure none:=by rfl)
  (h1:(assignEach [tg] X.env).map (·.2)=[assign tg X.env]:=by rfl):PS X (.Assign [tg] e pos) (tS X O O' OL w (Qd ev g)):=PS.imp (QtY he hg hs hw h1) fun Dn σ H h=>QvC h
theorem Qg (i:Nat) {x:Str} {p:Pos} {ev:EvE} (hN:X.N.Nodup) (he:PE X e (tD X O ev)) (hi:X.N[i]?=some x:=by rfl) (hx:Loc X.env.scope x:=by first | exact Or.inl rfl | exact Or.inr rfl) (hs:swapsWith e (some (.Name x p)) pos.line X.env=pure false:=by rfl)
  (hf:X.fn x=true\/X.env.scope.names.lookup x=some .local:=by first | exact .inl rfl | exact .inr rfl) (hq:Yi i∉O:=by decide):PS X (.Assign [.Name x p] e pos) (tS X O (dl i O) OL w (Qd ev (gS i))) :=
 PS.imp (QoA hN hi hx he hs hf) fun Dn σ H ⟨F0,F,en,fl,rs,z,k⟩=>by
  obtain ⟨d,e1,e2⟩:=Q5 z
  obtain ⟨e',e3,rfl⟩:=Zv e2
  cases e3
  exact ⟨F0,F,en,d,rs,e1,fun v F1 H1 g1 r1=>k _ F1 H1 g1.ff ((rs.grow g1).put' i r1 hq)⟩
theorem ZK (i:Nat) {x:Str} {p:Pos} {ev:EvE} (hN:X.N.Nodup) (he:PE X e (tO X O ev)) (hi:X.N[i]?=some x:=by rfl) (hx:Loc X.env.scope x:=by first | exact Or.inl rfl | exact Or.inr rfl) (hs:swapsWith e (some (.Name x p)) pos.line X.env=pure false:=by rfl)
  (hf:X.fn x=true\/X.env.scope.names.lookup x=some .local:=by first | exact .inl rfl | exact .inr rfl) (hq:Yi i∉O:=by decide) (hil:i<1000:=by decide):PS X (.Assign [.Name x p] e pos) (tS X O (ad i O) OL w (Qd ev (gS i))) :=
 PS.imp (QoA hN hi hx he hs hf) fun Dn σ H ⟨F0,F,en,fl,rs,z,k⟩=>by
  obtain ⟨d,e1,e2⟩:=Q5 z
  obtain ⟨e',e3,rfl⟩:=Zv e2
  cases e3
  refine ⟨F0,F,en,d,rs,e1,fun p kk xs ds F1 H1 g1 n1 n2 h r e4 hk=>?_⟩
  subst e4
  refine k _ F1 H1 g1.ff ((rs.grow g1).putO' i (rs.hh.none n1) n2 h hk r (fun j d' hj q2 _ q=>?_) hq (fun j z=>by unfold Yi at z;omega))
  obtain ⟨p',_,ys,es,h1,_,_,h4,_⟩:=rs.own j d' q2 hj
  rw [h1] at q
  cases q
  rw [n1] at h4
  cases h4
end
end Wd
namespace Wd
open PySem PySem.Spec PyProof.Rows L2
section
variable {X:Cx} {O O1 O2 O' OL:List Nat} {w:Bool} {st:Stmt} {rest:List Stmt} {e a:Expr} {pos:Pos}
theorem Qh1:PIp X .Add (fun x y H Q=>(rI0 fun i j=>.int (i+j)) x y H Q\/∃ i j,x=.str i/\y=.str j/\i.length+j.length<=sizeLine/\Q (.str (i++j)) H) /\
  Op2 X (fun x y H Q=>(rI0 fun i j=>.int (i+j)) x y H Q\/∃ i j,x=.str i/\y=.str j/\i.length+j.length<=sizeLine/\Q (.str (i++j)) H) D.addI:=by
 refine ⟨OpR.or Qs5 Qmc,fun F H x y dx dy d Q s rx ry e k=>?_⟩
 cases dx<;>cases dy<;>try (simp [D.addI] at e;done)
 case int.int i j =>
  cases e
  exact .inl ⟨i,j,rx.int,ry.int,k _ F H (.refl s) (.int _)⟩
 case str.str i j =>
  simp only [D.addI] at e
  split at e
  ·rename_i hz
   cases e
   exact .inr ⟨i,j,rx.str,ry.str,by rw [Yl];exact hz,k _ F H (.refl s) (.str _)⟩
  ·cases e
theorem Qs3:PIp X .Sub (rI0 fun i j=>.int (i-j))/\Op2 X (rI0 fun i j=>.int (i-j)) D.sub :=
 ⟨Qs4,Qg2 (fd:=fun i j=>.int (i-j)) (fun dx dy d e=>by cases dx<;>cases dy<;>simp [D.sub] at e ⊢) (fun i j d e=>by cases e;rfl) fun _ _ _ _=>.int _⟩
theorem Qg3 (i:Nat) {x:Str} {p:Pos} {op:Operator} {r:R2} {g:D->D->Option D} {ev:EvE} (hN:X.N.Nodup) (hO:i∉O) (he:PE X e (tR X O ev)) (ho:PIp X op r/\Op2 X r g) (hi:X.N[i]?=some x:=by rfl) (hx:Loc X.env.scope x:=by first | exact Or.inl rfl | exact Or.inr rfl)
  (hf:X.fn x=true\/X.env.scope.names.lookup x=some .local:=by first | exact .inl rfl | exact .inr rfl) (hq:Yi i∉O:=by decide):PS X (.AugAssign (.Name x p) op e pos) (tS X O (dl i O) OL w (Zu i g ev)) :=
 PS.imp (QtX hN hi hx he ho.1 hf) fun Dn σ H ⟨F0,F,en,fl,rs,z,k⟩=>by
  obtain ⟨dx,dy,e1,e2,e3⟩:=Qb3 z
  obtain ⟨dz,e4,rfl⟩:=Zv e3
  obtain ⟨v,h1,h2⟩:=rs.slot i dx (Zq e1) hO
  refine ⟨v,h1,F0,F,en,dy,rs,e2,fun y F1 H1 g1 r1=>?_⟩
  exact ho.2 F1 H1 v y dx dy dz _ g1.fh (.inl (h2.mono g1.ff)) r1 e4 fun u F2 H2 g2 r2=>k _ F2 H2 (g1.ff.trans g2.ff) ((rs.grow (g1.trans g2)).put' i r2 hq)
theorem J9 (i:Nat) (hi:i∈O) {x:Str} {p apos cpos:Pos} {ev:EvE} (he:PE X e (tD X O ev)) (hN:X.N[i]?=some x:=by rfl) (hv:Vis X.env.scope x:=by first | exact Or.inl rfl | exact Or.inr (Or.inl rfl) | exact Or.inr (Or.inr rfl)) (hd:(x==("__debug__":Str))=false:=by decide) (hcd:(x==("__classdict__":Str))=false:=by decide)
  (hbase:attributeBase (.Name x p) "append" X.env (eval (.Name x p) X.env)=eval (.Name x p) X.env:=by rfl) (hline:(apos.endLine==cpos.line)=true:=by rfl) (hs:starEach [e] X.env=[(false,eval e X.env)]:=by rfl)
  (hfew:((backTo cpos (starEach [e] X.env)).all (fun x=>!x.1)&&(backToKw cpos (keywordEach [] X.env)).all (fun x=>x.1.isSome)&&decide ([e].length+([]:List Keyword).length+(if ([]:List Keyword).isEmpty then 0 else 1)<30))=true:=by rfl)
  (hsw:swapsWith (.Call (.Attribute (.Name x p) "append" apos) [e] [] cpos) none pos.line X.env=pure false:=by rfl) :
  PS X (.Expr (.Call (.Attribute (.Name x p) "append" apos) [e] [] cpos) pos) (tS X O O OL w (sP i ev)) :=
 PS.imp (QfC (QrP PySem.F.plainAttrs_list PySem.F.slot_list_append PySem.F.type_list_append QiM (Qdo hN hv hd hcd) (Z5 he Qbv hs) hbase hfew hline hs rfl) hsw) fun Dn σ H ⟨F0,F,en,fl,rs,z,k⟩=>by
  obtain ⟨dx,dy,e1,e2,e3⟩:=Qb3 z
  obtain ⟨dz,e4,rfl⟩:=Zv e3
  obtain ⟨q,kk,xs,ds,h1,h2,h3,h4,h5,h6,h7⟩:=rs.own i dx (Zq e1) hi
  subst h6
  cases kk with
  | some ks=>cases e4
  | none =>
  simp only [ho,dOf] at h4 e4 e1
  refine ⟨_,h1,.inl ⟨rfl,xs,SqL.of h4⟩,F0,F,en,dy,rs,e2,fun y F1 H1 g1 r1=>?_⟩
  simp only [D.app] at e4
  split at e4
  ·rename_i hz
   cases e4
   have rs1:=rs.grow g1
   obtain ⟨q',kk',xs',ds',k1,k2,k3,k4,k5,k6,k7⟩:=rs1.own i _ (Zq e1) hi
   rw [h1] at k1
   cases k1
   cases kk' with
   | some ks=>cases k6
   | none =>
   cases k6
   simp only [ho] at k4
   have hx:xs'=xs:=by
    have:=g1.hh _ _ h4
    rw [k4] at this
    cases this;rfl
   subst hx
   refine ⟨q,xs',y,rfl,rfl,k4,?_,?_⟩
   ·rw [Yl,k5.length];exact hz
   ·exact k _ F1 _ g1.ff (rs1.write (kk:=none) hi (Zq e1) h1 k2 k3 trivial (k5.append (.cons r1 .nil)))
  ·cases e4
theorem QuI (i:Nat) (hi:i∈O) {x:Str} {p apos cpos:Pos} {ev:EvE} (he:PE X e (tR X O ev)) (hN:X.N[i]?=some x:=by rfl) (hv:Vis X.env.scope x:=by first | exact Or.inl rfl | exact Or.inr (Or.inl rfl) | exact Or.inr (Or.inr rfl)) (hd:(x==("__debug__":Str))=false:=by decide) (hcd:(x==("__classdict__":Str))=false:=by decide)
  (hbase:attributeBase (.Name x p) "extend" X.env (eval (.Name x p) X.env)=eval (.Name x p) X.env:=by rfl) (hline:(apos.endLine==cpos.line)=true:=by rfl) (hs:starEach [e] X.env=[(false,eval e X.env)]:=by rfl)
  (hfew:((backTo cpos (starEach [e] X.env)).all (fun x=>!x.1)&&(backToKw cpos (keywordEach [] X.env)).all (fun x=>x.1.isSome)&&decide ([e].length+([]:List Keyword).length+(if ([]:List Keyword).isEmpty then 0 else 1)<30))=true:=by rfl)
  (hsw:swapsWith (.Call (.Attribute (.Name x p) "extend" apos) [e] [] cpos) none pos.line X.env=pure false:=by rfl) :
  PS X (.Expr (.Call (.Attribute (.Name x p) "extend" apos) [e] [] cpos) pos) (tS X O O OL w (Qqn i ev)) :=
 PS.imp (QfC (QrP PySem.F.plainAttrs_list PySem.F.slot_list_extend PySem.F.type_list_extend QpE (Qdo hN hv hd hcd) (QhO he hs) hbase hfew hline hs rfl) hsw) fun Dn σ H ⟨F0,F,en,fl,rs,z,k⟩=>by
  obtain ⟨dx,dy,e1,e2,e3⟩:=Qb3 z
  obtain ⟨dz,e4,rfl⟩:=Zv e3
  obtain ⟨q,kk,xs,ds,h1,h2,h3,h4,h5,h6,h7⟩:=rs.own i dx (Zq e1) hi
  subst h6
  cases kk with
  | some ks=>cases e4
  | none =>
  simp only [ho,dOf] at h4 e4 e1
  refine ⟨_,h1,.inl ⟨rfl,xs,SqL.of h4⟩,F0,F,en,dy,rs,e2,fun y F1 H1 g1 r1=>?_⟩
  cases dy with
  | lst es =>
   simp only [D.ext] at e4
   split at e4
   ·rename_i hz
    cases e4
    obtain ⟨q2,ys,rfl,m1,m2⟩:=r1.lst g1.fh
    have rs1:=rs.grow g1
    obtain ⟨q',kk',xs',ds',k1,k2,k3,k4,k5,k6,k7⟩:=rs1.own i _ (Zq e1) hi
    rw [h1] at k1
    cases k1
    cases kk' with
    | some ks=>cases k6
    | none =>
    cases k6
    simp only [ho] at k4
    have hx:xs'=xs:=by
     have:=g1.hh _ _ h4
     rw [k4] at this
     cases this;rfl
    subst hx
    refine ⟨q,q2,xs',ys,rfl,rfl,k4,m1,?_,?_⟩
    ·rw [Yl,k5.length,m2.length];exact hz
    ·exact k _ F1 _ g1.ff (rs1.write (kk:=none) hi (Zq e1) h1 k2 k3 trivial (k5.append m2))
   ·cases e4
  | _=>cases e4
end
def spD (K:Fg) (f:List D->Option D):Sp:=fun vs H Q _=>∃ F ds d,Sm F H/\Reps K F vs ds/\f ds=some d/\∀ v F' H',Gr F H F' H'->Rep K F' v d->Q v H'
def Cal (P:Program) (w:World) (K:Fg) (mg:Str->Option Value) (base:Heap) (k:Nat) (x:Str) (ps:List Str) (sp:Sp):Prop :=
 ∃ f fd,FnOk P w K mg base CX0 k f fd ps sp/\Binds K fd ps []/\PySem.W.keepIn K (.ref f)=true/\mg x=some (.ref f)
def Df (K:Fg) (mg:Str->Option Value) (x:Str) (st:Stmt) (ps:List Str):Prop:=∃ f fd,Fun K x x st f fd/\Binds K fd ps []/\mg x=some (.ref f)
section
variable {X:Cx} {O:List Nat} {e:Expr} {es:List Expr} {p pos:Pos} {x:Str} {ps:List Str} {k:Nat}
theorem Qrv {f:List D->Option D} {l:EvL} (c:Cal X.prog X.w X.K X.mg X.base k x ps (spD X.K f)) (hr:Room k X.A) (hg:Gl X x) (ha:PA X (e::es) (tL X O l)) (hdb:(x==("__debug__":Str))=false:=by decide) (he:starEach (e::es) X.env=(false,eval e X.env)::starEach es X.env:=by rfl)
  (hpl:(backTo pos (starEach es X.env)).any (·.1)=false:=by rfl):PE X (.Call (.Name x p) (e::es) [] pos) (tD X O (eK f l)):=by
 obtain ⟨fa,fd,F,hb,hk,hm⟩:=c
 refine PE.imp (QmA F hr hg hm hk hb (.nil:Vals [] []) QrR ha hdb he hpl) fun σ H Q ⟨F0,F,en,d,rs,z,k⟩=>?_
 obtain ⟨ds,e1,e2⟩:=Q5 z
 refine ⟨F0,F,en,ds,rs,e1,fun vs F1 H1 g1 r1=>⟨F1,ds,d,g1.fh,?_,e2,fun v F' H' g r=>k v F' H' (g1.trans g) r⟩⟩
 rw [List.append_nil];exact r1
theorem Zh {ev:EvE} (h:PE X e (tO X O ev)):PE X e (tD X O ev):=by
 rintro pins s σ H Q I ⟨F0,F,en,d,rs,z,k⟩
 refine thn (h pins s σ H (fun x H'=>∃ p kk xs ds F',x=.ref p/\Gr F H F' H'/\H p=none/\F' p=none/\H' p=some (ho kk xs)/\Reps X.K F' xs ds/\d=dOf kk ds/\Qar kk xs) I ⟨F0,F,en,d,rs,z,fun p kk xs ds F' H' g n1 n2 hp r e3 hk=>⟨p,kk,xs,ds,F',rfl,g,n1,n2,hp,r,e3,hk⟩⟩)
  fun v s1 ⟨x,H1,I1,r1,p,kk,xs,ds,F',hx,g,n1,n2,hp,r,e3,hk⟩=>?_
 subst hx e3
 have s2:Sm F' (upd F' p (hz ((s1.heap.get? p).getD default) kk xs)):=(Sm.refl F').upd _ n2
 refine ⟨.ref p,_,QrY I1 hp,r1,k _ (upd F' p (hz ((s1.heap.get? p).getD default) kk xs)) _ ⟨g.ff.trans s2,fun a o q=>?_,fun a o q=>?_,fun a o q=>?_⟩ (Rep.hz Jb hk (r.mono s2))⟩
 ·rw [QJ (fun w:a=p=>by rw [w,n1] at q;cases q)];exact g.hh a o q
 ·by_cases w:a=p
  ·subst w;rw [Jb] at q ⊢;exact q
  ·rw [QJ w] at q ⊢;exact g.fh a o q
 ·by_cases w:a=p
  ·subst w;exact .inr n1
  ·rw [QJ w] at q;exact g.fr a o q
end
section
variable {P:Program} {w:World} {K:Fg} {mg:Str->Option Value} {base:Heap} {x:Str} {st:Stmt} {N ps:List Str} {k:Nat} {b:EvS}
theorem Qke {F H:Hp} {vs:List V} {ds:List D} (n:Nat) (s:Sm F H) (r:Reps K F vs ds):RS K H ⟨F,H,none⟩ F H (vs.map some++List.replicate (n-vs.length) none) (sD n ds) [] where
 fh:=s
 hh:=.refl H
 ff:=.refl F
 fr:=fun _ _ h=>.inl h
 slot:=fun i d h _=>by
  unfold sD at h
  rcases Nat.lt_or_ge i ds.length with hi | hi
  ·rw [List.getElem?_append_left (by rw [List.length_map];exact hi),List.getElem?_map,List.getElem?_eq_getElem hi] at h
   have hd:ds[i]?=some d:=by rw [List.getElem?_eq_getElem hi];simpa using h
   obtain ⟨v,h1,h2⟩:=r.get hd
   refine ⟨v,?_,h2⟩
   rw [List.getElem?_append_left (by rw [List.length_map,r.length];exact hi),List.getElem?_map,h1];rfl
  ·rw [List.getElem?_append_right (by rw [List.length_map];exact hi),List.getElem?_replicate] at h
   split at h<;>cases h
 own:=fun i d _ h=>by cases h
 dis:=fun i j p _ _ h=>by cases h
 pin:=fun i h=>by cases h
 len:=by unfold sD;simp [r.length]
theorem okC (h:Df K mg x st ps) (S:FnScope N ps (Qb st)) {O' OL:List Nat}
  (hb:∀ (f:Addr) (cdv:Value) (A:Around) (outer:List Env) (s:Shared) (H:Hp) (E:XK),Room k (A.deeper (envOfC x (Qb st) s.heap.objs.size f cdv))->PSs (Qap CX0 P w K mg base N x (Qb st) f cdv A outer s H E).nox (ZC st) (tS (Qap CX0 P w K mg base N x (Qb st) f cdv A outer s H E).nox [] O' OL false b)) :
  Cal P w K mg base (k+1) x ps (spD K (QA N.length ps.length b)):=by
 obtain ⟨f,fd,F,hbd,hm⟩:=h
 refine ⟨f,fd,F.ok S (fun vs H Q E ⟨F,ds,d,s,r,e,_⟩=>?_) (fun cdv A outer s H vs Q E hr ⟨Fz,ds,d,sm,r,e,k⟩=>?_),hbd,F.kp,hm⟩
 ·unfold QA at e
  split at e
  ·rename_i z;rw [r.length];exact z
  ·cases e
 ·refine ⟨_,hb f cdv A outer s H E hr,?_⟩
  unfold QA at e
  split at e
  ·rename_i z
   have e':QeK (b (sD N.length ds))=some d:=e
   cases q:b (sD N.length ds) with
   | none=>rw [q] at e';cases e'
   | some fl =>
    rw [q] at e'
    have hst:Qau N vs=vs.map some++List.replicate (N.length-vs.length) none:=rfl
    rw [hst]
    refine ⟨⟨Fz,H,none⟩,Fz,sD N.length ds,fl,Qke N.length sm r,q,?_⟩
    cases fl with
    | nx en=>cases e';exact fun σ' F' H' s' rs=>k .non F' H' rs.ex.gr .non
    | rt d'=>cases e';exact fun v F' H' x r=>k v F' H' x.gr r
    | bk en=>cases e'
    | ct en=>cases e'
  ·cases e
end
structure ItOk (K:Fg) (F:Hp) (J:It) (ds:List D):Prop where
 go:∀ i F' H',Sm F F'->Sm F' H'->i<ds.length->J.go i H'
 yld:∀ i F' H' x H2,Sm F F'->Sm F' H'->i<ds.length->J.yld i H' x H2->∃ F2 d,Gr F' H' F2 H2/\ds[i]?=some d/\Rep K F2 x d
 stop:∀ i F' H',Sm F F'->Sm F' H'->ds.length<=i->J.stop i H'
def tI (X:Cx) (O:List Nat) (it:EvI):TI:=fun σ H R=>∃ F0 F e ds,RS X.K X.H₀ F0 F H σ e O/\it e=some ds/\∀ F' H' J,Gr F H F' H'->ItOk X.K F' J ds->R J H'
section
variable {X:Cx} {O OL:List Nat} {w:Bool} {tg iter:Expr} {body:List Stmt} {pos:Pos}
theorem PI.imp {t t':TI} (h:PI X tg iter t) (q:∀ σ H R,t' σ H R->t σ H R):PI X tg iter t':=fun pins s σ H R I z=>h pins s σ H R I (q σ H R z)
theorem QiD {o:Option Fl} {k:EvS} {fl:Fl} (h:YU o k=some fl):∃ f,o=some f/\YU (some f) k=some fl:=by
 cases o with
 | none=>cases h
 | some f=>exact ⟨f,rfl,h⟩
theorem JZ {it:EvI} {g:EvG} {b:EvS} (hc:X.calm=true) (hp:PassesOwn (model X.prog X.w) X.A X.env X.xe) (hi:PI X tg iter (tI X O it)) (hg:PG X tg (tG X O O g)) (hb:PSs X body (tS X O O O w b)) (hs:∀ x,foldedSetIterable iter X.env x=pure x:=by intro _;rfl) :
  PS X (.For tg iter body [] pos) (tS X O O OL w (Jn it g b)) :=
 PS.imp (QtW hp hc hi hg hb hs) fun Dn σ H ⟨F0,F,en,fl,rs,z,k⟩=>by
  obtain ⟨ds,e1,e2⟩:=Q5 z
  refine ⟨F0,F,en,ds,rs,e1,fun F1 H1 J g1 io=>?_⟩
  refine ⟨fun i m σ' H'=>m=ds.length-i/\i<=ds.length/\∃ F' en',Sm F1 F'/\RS X.K X.H₀ F0 F' H' σ' en' O/\YF g b (ds.drop i) en'=some fl,⟨ds.length,by omega,by omega,F1,en,.refl F1,rs.grow g1,by rw [List.drop_zero];exact e2⟩,?_⟩
  rintro i m σ' H' ⟨rfl,hle,F',en',s',rs',e3⟩
  rcases Nat.lt_or_ge i ds.length with hi | hi
  ·refine .inr ⟨io.go i F' H' s' rs'.fh hi,fun σ2 H2=>∃ m',m'<ds.length-i/\m'=ds.length-(i+1)/\i+1<=ds.length/\∃ F' en',Sm F1 F'/\RS X.K X.H₀ F0 F' H2 σ2 en' O/\YF g b (ds.drop (i+1)) en'=some fl,
    fun σ2 H2 ⟨m',h1,h2⟩=>⟨m',h1,h2⟩,fun x H2 hy=>?_⟩
   obtain ⟨F2,d,g2,hd,r2⟩:=io.yld i F' H' x H2 s' rs'.fh hi hy
   have hdr:ds.drop i=d::ds.drop (i+1):=by
    rw [List.drop_eq_getElem_cons hi]
    rw [List.getElem?_eq_getElem hi] at hd
    cases hd;rfl
   rw [hdr] at e3
   obtain ⟨f,e4,e5⟩:=QiD (show YU ((g d en').bind b) (YF g b (ds.drop (i+1)))=some fl from e3)
   obtain ⟨en2,e6,e7⟩:=Q5 (show ((g d en').bind fun x=>b x)=some f from e4)
   refine ⟨F0,F2,en',d,en2,rs'.grow g2,r2,e6,fun σ3 H3 F3 s3 rs3=>?_⟩
   refine ⟨F0,F3,en2,f,rs3,e7,?_⟩
   have sA:Sm F1 F3:=(s'.trans g2.ff).trans s3.ff
   cases f with
   | nx e=>exact fun σ4 F4 H4 s4 rs4=>⟨_,by omega,rfl,hi,F4,e,sA.trans s4,rs4,e5⟩
   | ct e=>exact fun σ4 F4 H4 s4 rs4=>⟨_,by omega,rfl,hi,F4,e,sA.trans s4,rs4,e5⟩
   | bk e=>cases e5;exact fun σ4 F4 H4 s4 rs4=>k σ4 F4 H4 (g1.ff.trans (sA.trans s4)) rs4
   | rt d=>cases e5;exact k
  ·have hz:ds.drop i=[]:=List.drop_eq_nil_of_le hi
   rw [hz] at e3
   cases e3
   exact .inl ⟨io.stop i F' H' s' rs'.fh hi,k σ' F' H' (g1.ff.trans s') rs'⟩
theorem Qak (lo:Int) (n:Nat):(rD lo n).length=n:=by unfold rD;simp
theorem Jo {ev:EvE} (h:PE X iter (tD X O ev)):PI X tg iter (tI X O (Q1 ev)):=PI.imp (Qmy h) fun σ H R ⟨F0,F,en,ds,rs,z,k⟩=>by
 obtain ⟨d,e1,e2⟩:=Q5 z
 refine ⟨F0,F,en,d,rs,e1,fun v F1 H1 g1 r1=>?_⟩
 have fin:∀ (a:Addr) (xs:List V),SqL X.K F1 a xs->Reps X.K F1 xs ds->R (Itl X.K a) H1:=fun a xs ha r=>k F1 H1 _ g1
  ⟨fun i F' H' s s' hi=>by
   obtain ⟨v,h1,_⟩:=r.get (List.getElem?_eq_getElem hi)
   exact ⟨xs,v,s'.sqL (s.sqL ha),h1⟩,
  fun i F' H' x H2 s s' hi ⟨hH,hx⟩=>by
   subst hH
   have hx':=hx xs (s'.sqL (s.sqL ha))
   obtain ⟨d,h1,h2⟩:=r.getV hx'
   exact ⟨F',d,.refl s',h1,h2.mono s⟩,
  fun i F' H' s s' hi=>⟨xs,s'.sqL (s.sqL ha),by rw [r.length];exact hi⟩⟩
 cases r1 with
 | @lst a xs ds' ha r=>cases e2;exact ⟨a,rfl,⟨xs,SqL.of (g1.fh _ _ ha)⟩,fin a xs (SqL.of ha) r⟩
 | @scr a ns ha=>cases e2;exact ⟨a,rfl,⟨_,g1.fh.sqL ha⟩,fin a _ ha (Reps.ints ns)⟩
 | _=>cases e2
theorem QbA {a:Expr} {p:Pos} {ev:EvE} (hg:Gl X "range") (hm:X.mg "range"=none) (ha:PE X a (tR X O ev)) (hs:starEach [a] X.env=[(false,eval a X.env)]:=by rfl):PI X tg (.Call (.Name "range" p) [a] [] pos) (tI X O (YR ev)) :=
 PI.imp (Qpl hg hm (QhO ha hs) hs) fun σ H R ⟨F0,F,en,ds,rs,z,k⟩=>by
  obtain ⟨d,e1,e2⟩:=Q5 z
  cases d with
  | int n =>
   simp only [D.rng] at e2
   split at e2
   ·rename_i hz
    cases e2
    refine ⟨F0,F,en,.int n,rs,e1,fun v F1 H1 g1 r1=>⟨n,by rw [r1.int],by omega,by omega,k F1 H1 _ g1 ⟨fun i F' H' s s' hi=>?_,fun i F' H' x H2 s s' hi ⟨hH,hx⟩=>?_,fun i F' H' s s' hi=>?_⟩⟩⟩
    ·rw [Qak] at hi;exact hi
    ·subst hH hx
     have hi':i<n.toNat:=by rw [Qak] at hi;exact hi
     exact ⟨F',.int (0+(i:Int)),.refl s',by simp [rD,hi'],.int _⟩
    ·rw [Qak] at hi;exact hi
   ·cases e2
  | _=>cases e2
end
end Wd
namespace Wd
open PySem PySem.Spec PyProof.Rows L2
section
variable {P:Program} {w:World} {K:Fg} {mg:Str->Option Value} {base:Heap} {x:Str} {st:Stmt} {N ps:List Str} {k:Nat} {b:EvS}
theorem okF {f:Addr} {fd:FuncData} (F:Fun K x x st f fd) (S:FnScope N ps (Qb st)) {O' OL:List Nat}
  (hb:∀ (cdv:Value) (A:Around) (outer:List Env) (s:Shared) (H:Hp) (E:XK),Room k (A.deeper (envOfC x (Qb st) s.heap.objs.size f cdv))->PSs (Qap CX0 P w K mg base N x (Qb st) f cdv A outer s H E).nox (ZC st) (tS (Qap CX0 P w K mg base N x (Qb st) f cdv A outer s H E).nox [] O' OL false b)) :
  FnOk P w K mg base CX0 (k+1) f fd ps (spD K (QA N.length ps.length b)):=by
 refine F.ok S (fun vs H Q E ⟨F,ds,d,s,r,e,_⟩=>?_) (fun cdv A outer s H vs Q E hr ⟨Fz,ds,d,sm,r,e,k⟩=>?_)
 ·unfold QA at e
  split at e
  ·rename_i z;rw [r.length];exact z
  ·cases e
 ·refine ⟨_,hb cdv A outer s H E hr,?_⟩
  unfold QA at e
  split at e
  ·rename_i z
   have e':QeK (b (sD N.length ds))=some d:=e
   cases q:b (sD N.length ds) with
   | none=>rw [q] at e';cases e'
   | some fl =>
    rw [q] at e'
    have hst:Qau N vs=vs.map some++List.replicate (N.length-vs.length) none:=rfl
    rw [hst]
    refine ⟨⟨Fz,H,none⟩,Fz,sD N.length ds,fl,Qke N.length sm r,q,?_⟩
    cases fl with
    | nx en=>cases e';exact fun σ' F' H' s' rs=>k .non F' H' rs.ex.gr .non
    | rt d'=>cases e';exact fun v F' H' x r=>k v F' H' x.gr r
    | bk en=>cases e'
    | ct en=>cases e'
  ·cases e
section
variable {h:Heap} {f:Addr} {oc kV dc pm cd ct:Value} {od an:Option Addr} {osl:Array (Option Value)}
theorem df_mk (X:K.In h) (G:h.Ns mainGlobals mg) (hb:∀ (kV doc pm:Value) (an:Option Addr) (cdv ct:Value) (us:List Value),us.length=ps.length->bindArgs (PySem.W.fnOf x x (Yj st) (ZC st) (Qb st) .none kV doc pm an cdv ct) ⟨us,[]⟩=pure (ps.zip us))
  (a:PySem.W.nsIn K mainGlobals x=some (some (.ref f))) (l:K.lookup f=some ⟨oc,od,.func (PySem.W.fnOf x x (Yj st) (ZC st) (Qb st) .none kV dc pm an cd ct),osl⟩) (c:PySem.W.codeIn K cd x=true) (k:PySem.W.keepIn K (.ref f)=true):Df K mg x st ps :=
 ⟨f,_,QjU l c k,(QjU l c k).binds hb,PySem.W.mg_of X G a⟩
theorem gint_mk {v:Value} {i:Int} (X:K.In h) (G:h.Ns mainGlobals mg) (a:PySem.W.nsIn K mainGlobals x=some (some v)) (e:∃ t,v=.int i t):∃ t,mg x=some (.int i t):=by
 obtain ⟨t,rfl⟩:=e
 exact ⟨t,PySem.W.mg_of X G a⟩
theorem law_mk {fa:Addr} {y:Str} (X:K.In h) (G:h.Ns mainGlobals mg) (hfa:mg x=some (.ref fa)) (hb:∀ (kV doc pm:Value) (an:Option Addr) (cdv ct:Value) (u:Value),bindArgs (PySem.W.fnOf x x (Yj st) (ZC st) (Qb st) .none kV doc pm an cdv ct) ⟨[u],[]⟩=pure [(y,u)])
  (a:PySem.W.nsIn K mainGlobals x=some (some (.ref f))) (l:K.lookup f=some ⟨oc,od,.func (PySem.W.fnOf x x (Yj st) (ZC st) (Qb st) .none kV dc pm an cd ct),osl⟩) (c:PySem.W.codeIn K cd x=true) (k:PySem.W.keepIn K (.ref f)=true) :
  ∃ fd,(∀ (s:Shared) (u:Value),BindsTo s fd ⟨[u],[]⟩ [(y,u)])/\Fun K x x st fa fd:=by
 have e:=hfa.symm.trans (PySem.W.mg_of X G a)
 cases e
 exact ⟨_,fun s u=>.of_eq (hb _ _ _ _ _ _ u),QjU l c k⟩
end
end
theorem Qup (K:Fg) (f:List D->Option D) (h:∀ ns,f [.scr ns]=some (.bl true)) (H:Hp) (a:Addr) (ns:List Int) (hS:SqL K H a (ns.map V.int)):spD K f [.ref a] H (fun v _=>v=.bl true) fun _ _ _=>False :=
 ⟨H,[.scr ns],.bl true,.refl H,.cons (.scr hS) .nil,h ns,fun v F' H' g r=>by cases r;rfl⟩
theorem Qs1 (K:Fg):Kit K "int":=fun d hd=>by cases d<;>first | rfl | exact absurd rfl (hd _)
theorem Qkt (K:Fg):Kit K "bool":=fun d hd=>by cases d<;>first | rfl | exact absurd rfl (hd _)
theorem Qrf (K:Fg):Kit K "list":=fun d hd=>by cases d<;>first | rfl | exact absurd rfl (hd _)
end Wd
namespace Wd
open PySem PySem.Spec PyProof.Rows L2
section
variable {X:Cx} {pins:List (Addr×Obj)} {σ:L2.St} {H:Hp} {s:Shared} {h':Heap}
theorem Qmp {t':Nat} {ch:List Addr} {p:Addr} {o:HO} (I:Inv X pins σ H s) (k:∀ b u,b∉ch->s.heap.get? b=some u->h'.get? b=some u) (hf:∀ b∈ch,Qas X pins H b) (hp:s.heap.objs.size<=p) (new:ObjOk X.prog X.w (upd H p o) h' p o) :
  Inv X pins σ (upd H p o) { s with heap:=h',toks:=t' }:=by
 have hn:H p=none:=I.hok.fresh hp
 have nit:∀ b u,H b=some u->b∉ch:=fun b u e z=>by rw [(hf b z).1] at e;cases e
 refine I.step (g':=s.gens) (d':=s.drawn) (ch:=ch) (fun b hb=>?_) (fun b o _ _ hc e _=>k b o hc e) (fun b o _ _ hc e _=>⟨o.slots,k b o hc e⟩) (fun b o _ e n=>?_)
  (fun b o hc e=>⟨o,k b o hc e⟩) (fun b xs e=>?_) (fun b xs u e=>?_) (fun b ps e=>⟨#[],?_⟩) (fun m hm=>?_) (fun b u e=>?_) I.bare
 ·obtain ⟨f0,f1,f2,f3,f4,f5⟩:=hf b hb
  exact ⟨f3,f1,f4,f5⟩
 ·rw [QJ (Nat.ne_of_lt (Nat.lt_of_lt_of_le (Heap.lt_size e) hp))];exact n
 ·rw [QJ (Zf e hn)];exact e
 ·rw [QJ (Zf e hn)];exact e
 ·rw [QJ (Zf e hn),e];simp
 ·obtain ⟨o,es,ep,ho,r⟩:=hm
  exact ⟨o,es,ep,k _ o (fun z=>(hf _ z).2.1 rfl) ho,r⟩
 ·by_cases hb:b=p
  ·subst hb;rw [Jb] at e;cases e;exact new
  ·rw [QJ hb] at e
   refine (I.hok b u e).stay (fun c v hc q=>k c v ?_ q) (fun c q=>by rw [QJ (Zf q hn)];exact q) fun c xs q=>by rw [QJ (Zf q hn)];exact q
   rcases hc with z | z
   ·rw [z];exact nit b u e
   ·exact nit c _ z
theorem Qmq {t':Nat} {ch:List Addr} (I:Inv X pins σ H s) (k:∀ b u,b∉ch->s.heap.get? b=some u->h'.get? b=some u) (hf:∀ b∈ch,Qas X pins H b):Inv X pins σ H { s with heap:=h',toks:=t' }:=by
 have nit:∀ b u,H b=some u->b∉ch:=fun b u e z=>by rw [(hf b z).1] at e;cases e
 refine I.step (g':=s.gens) (d':=s.drawn) (ch:=ch) (fun b hb=>?_) (fun b o _ _ hc e _=>k b o hc e) (fun b o _ _ hc e _=>⟨o.slots,k b o hc e⟩) (fun _ _ _ _ n=>n)
  (fun b o hc e=>⟨o,k b o hc e⟩) (fun _ _ e=>e) (fun _ _ _ e=>e) (fun b ps e=>⟨#[],by rw [e];simp⟩) (fun m hm=>?_) (fun b u e=>?_) I.bare
 ·obtain ⟨f0,f1,f2,f3,f4,f5⟩:=hf b hb
  exact ⟨f3,f1,f4,f5⟩
 ·obtain ⟨o,es,ep,ho,r⟩:=hm
  exact ⟨o,es,ep,k _ o (fun z=>(hf _ z).2.1 rfl) ho,r⟩
 ·refine (I.hok b u e).stay (fun c v hc q=>k c v ?_ q) (fun _ q=>q) fun _ _ q=>q
  rcases hc with z | z
  ·rw [z];exact nit b u e
  ·exact nit c _ z
end
def Ite (K:Fg) (a:Addr):It :=
 ⟨fun i H=>∃ xs x,SqL K H a xs/\xs[i]?=some x,fun i H x H'=>∃ p y,H p=none/\x=.ref p/\H'=upd H p (.tup [.int i,y])/\∀ xs,SqL K H a xs->xs[i]?=some y,fun i H=>∃ xs,SqL K H a xs/\xs.length<=i⟩
theorem Qo2 {P:Program} {w:World} {K:Fg} {elts:List Expr} {x1:Nat} {pos:Pos} (a e it:Addr) (hne:e≠it):Turn P w K (.Tuple elts x1 pos) (Ite K a) [e,it] e (fun i h=>∃ old,IsEnum h e it i old/\h.IsListIter it a i) where
 mem:=by simp
 obj:=fun i h st b hb=>by
  obtain ⟨old,he,o,ho,c,d⟩:=st
  rcases List.mem_cons.mp hb with z | z
  ·subst z
   exact ⟨_,he,fun v z=>by
    have z':Data.fields _=Data.cell v:=z
    cases z'⟩
  ·have z:=List.mem_singleton.mp z
   subst z
   exact ⟨o,ho,fun v z=>by rw [d] at z;cases z⟩
 keep:=fun i h h' st k=>by
  obtain ⟨old,he,hi⟩:=st
  exact ⟨old,k e (by simp) _ he,hi.at fun o q=>k it (by simp) o q⟩
 item:=by
  intro X hP hw hK hc i pins s σ H E I hf st hg
  subst hP hw hK
  obtain ⟨old,he,hi⟩:=st
  obtain ⟨xs,x,hq,hx⟩:=hg
  obtain ⟨its,rv,p,hz⟩:=I.list hq
  obtain ⟨u,hu,ru⟩:=rv.get hx
  refine wpAny_pyNext_enum_item he hi p.isList (x:=u) (by simpa using hu) hne fun h' eo hi' ht hsz kk=>?_
  refine ⟨_,rfl,wpAny_letOwnedTupleGo_enum eo fun h2 he2 sb=>?_⟩
  have k2:∀ b o,b∉[e,it]->s.heap.get? b=some o->h2.get? b=some o:=fun b o hb q=>by
   have h1:b≠e:=fun z=>hb (by simp [z])
   have h3:b≠it:=fun z=>hb (by simp [z])
   exact (sb.2 b h1).trans (kk b o h1 h3 q)
  have fe:H s.heap.objs.size=none:=I.hok.fresh (Nat.le_refl _)
  have le:e<s.heap.objs.size:=Heap.lt_size he
  have ht2:h2.get? s.heap.objs.size=some { cls:=.type "tuple",data:=.seq #[.int i s.toks,u] }:=(sb.2 _ (Nat.ne_of_gt le)).trans ht
  have li:it<s.heap.objs.size:=by obtain ⟨o,ho,_⟩:=hi;exact Heap.lt_size ho
  have I2:Inv X pins σ (upd H s.heap.objs.size (.tup [.int i,x])) { s with heap:=h2,toks:=s.toks+1 } :=
   Qmp (t':=s.toks+1) I k2 hf (Nat.le_refl _) (show ObjOk X.prog X.w _ h2 _ (.tup [.int i,x]) from ⟨by show 2<=sizeLine;decide,[.int i s.toks,u],.cons ⟨_,rfl⟩ (.cons ru .nil),⟨_,ht2,rfl,_,rfl⟩⟩)
  refine ⟨.ref s.heap.objs.size,_,I2,rfl,⟨_,x,fe,rfl,rfl,fun ys hy=>by rw [I.list_inj hy hq];exact hx⟩,⟨u,he2,?_⟩,fun b hb=>?_⟩
  ·exact hi'.at fun o q=>(sb.2 it (Ne.symm hne)).trans q
  ·have:b≠s.heap.objs.size:=by
    rcases List.mem_cons.mp hb with z | z
    ·rw [z];exact Nat.ne_of_lt le
    ·rw [List.mem_singleton.mp z];exact Nat.ne_of_lt li
   rw [QJ this]
   exact (hf b hb).1
 done:=by
  intro X hP hw hK hc i pins s σ H E I hf st hg
  subst hP hw hK
  obtain ⟨old,he,hi⟩:=st
  obtain ⟨xs,hq,hx⟩:=hg
  obtain ⟨its,rv,p,hz⟩:=I.list hq
  have hl:=rv.length
  exact wpAny_pyNext_enum_end (I.ok.hd hc) he hi p.isList (by simp;omega) fun h' eb=>⟨rfl,Qmq (t':=s.toks) I (fun b o hb q=>eb b o (fun z=>hb (by simp [z])) q) hf⟩
 self:=fun _ _ _ _ _ st h=>by
  obtain ⟨old,he,_⟩:=st
  exact wpAny_pyIter_enum he h
section
variable {X:Cx} {O:List Nat} {a:Expr} {p pos:Pos}
def Quz (K:Fg) (ta:TA):TI:=fun σ H R=>ta σ H fun vs H1=>∃ l,vs=[.ref l]/\(∃ xs,SqL K H1 l xs)/\R (Ite K l) H1
theorem Qsw {elts:List Expr} {x1:Nat} {tpos:Pos} {ta:TA} (hg:Gl X "enumerate") (hm:X.mg "enumerate"=none) (ha:PA X [a] ta) (hs:starEach [a] X.env=[(false,eval a X.env)]:=by rfl):PI X (.Tuple elts x1 tpos) (.Call (.Name "enumerate" p) [a] [] pos) (Quz X.K ta):=by
 intro pins s σ H R I h
 refine Call_ (Qck I hg hm boot_enumerate (PyProof.Rows.callWith_type1 (thn (ha pos pins s σ H _ I h) fun us s1 ⟨vs,H1,I1,r1,q1⟩=>?_) hs rfl))
 obtain ⟨l,e,⟨xs,hq⟩,q⟩:=q1
 subst e
 obtain ⟨u,rfl,rx⟩:=Qbj r1
 cases rx
 obtain ⟨its,rv,pl,hz⟩:=I1.list hq
 refine call_enumerate_list pl.isList fun h' he hi hsz hk=>?_
 have I2:Inv X pins σ H1 { s1 with heap:=h' }:=I1.kept (t':=s1.toks) hk
 have fe:∀ b,s1.heap.objs.size<=b->H1 b=none:=fun b hb=>I1.hok.fresh hb
 refine wpAny_pyIter_enum he ⟨_,[s1.heap.objs.size+1,s1.heap.objs.size],_,_,H1,rfl,I2,Qo2 l _ _ (Nat.succ_ne_self _),⟨.none,he,hi⟩,fun b hb=>?_,q⟩
 have:s1.heap.objs.size<=b:=by
  rcases List.mem_cons.mp hb with z | z
  ·rw [z];exact Nat.le_succ _
  ·rw [List.mem_singleton.mp z];exact Nat.le_refl _
 exact I1.fpOk this (fe b this)
theorem QiX:∀ (ds:List D) (n i:Nat) (d:D),ds[i]?=some d->(VE n ds)[i]?=some (.tup [.int ((n+i:Nat):Int),d])
 | [],_,_,_,h=>by simp at h
 | d::ds,n,0,_,h=>by simp at h;subst h;simp [VE]
 | d::ds,n,i+1,x,h=>by
  have:=QiX ds (n+1) i x (by simpa using h)
  rw [VE,List.getElem?_cons_succ,this,show n+1+i=n+(i+1) by omega]
theorem Qe7:∀ (ds:List D) (n:Nat),(VE n ds).length=ds.length
 | [],_=>rfl
 | d::ds,n=>by rw [VE,List.length_cons,List.length_cons,Qe7]
theorem QfG {elts:List Expr} {x1:Nat} {tpos:Pos} {ev:EvE} (hg:Gl X "enumerate") (hm:X.mg "enumerate"=none) (ha:PE X a (tD X O ev)) (hs:starEach [a] X.env=[(false,eval a X.env)]:=by rfl):PI X (.Tuple elts x1 tpos) (.Call (.Name "enumerate" p) [a] [] pos) (tI X O (Qbl ev)) :=
 PI.imp (Qsw hg hm (Z5 ha Qbv hs) hs) fun σ H R ⟨F0,F,en,ds0,rs,z,k⟩=>by
  obtain ⟨d,e1,e2⟩:=Q5 z
  obtain ⟨ds,e3,rfl⟩:=Zv e2
  refine ⟨F0,F,en,d,rs,e1,fun v F1 H1 g1 r1=>?_⟩
  have fin:∀ (l:Addr) (xs:List V),SqL X.K F1 l xs->Reps X.K F1 xs ds->R (Ite X.K l) H1:=fun l xs hl r=>k F1 H1 _ g1
   ⟨fun i F' H' s s' hi=>by
    rw [Qe7] at hi
    obtain ⟨v,h1,_⟩:=r.get (List.getElem?_eq_getElem hi)
    exact ⟨xs,v,s'.sqL (s.sqL hl),h1⟩,
   fun i F' H' x H2 s s' hi hy=>by
    obtain ⟨p,y,hp,rfl,rfl,hx⟩:=hy
    have hx':=hx xs (s'.sqL (s.sqL hl))
    obtain ⟨d,h1,h2⟩:=r.getV hx'
    have g:=Gr.new s' hp (.tup [.int i,y])
    refine ⟨_,.tup [.int i,d],g,?_,.tup Jb (.cons (.int _) (.cons ((h2.mono s).mono g.ff) .nil))⟩
    have:=QiX ds 0 i d h1
    rw [this,Nat.zero_add],
   fun i F' H' s s' hi=>⟨xs,s'.sqL (s.sqL hl),by rw [Qe7] at hi;rw [r.length];exact hi⟩⟩
  cases r1 with
  | @lst l xs ds' hl r=>cases e3;exact ⟨l,rfl,⟨xs,SqL.of (g1.fh _ _ hl)⟩,fin l xs (SqL.of hl) r⟩
  | @scr l ns hl=>cases e3;exact ⟨l,rfl,⟨_,g1.fh.sqL hl⟩,fin l _ hl (Reps.ints ns)⟩
  | _=>cases e3
end
end Wd
namespace Wd
open PySem PySem.Spec PyProof.Rows L2
section
variable {env:Env}
theorem Qei:∀ (names:List (Str×NameKind)) (cs:List (Str×Addr)),(∀ x∈names,x.2=.free->∃ c,env.cells.lookup x.1=some c)->(∀ x c,cs.lookup x=some c->env.cells.lookup x=some c) ->
  ∃ cl,(forIn (m:=Sem) names cs ((fun x r=>match x with | (name,kind)=>if (kind==NameKind.free)=true then do let c <- cellOf env name;pure (ForInStep.yield ((name,c)::r)) else pure (ForInStep.yield r)):(Str×NameKind)->List (Str×Addr)->Sem (ForInStep (List (Str×Addr)))))=pure cl /\
   (∀ x c,cl.lookup x=some c->env.cells.lookup x=some c)/\∀ x,((∃ c,cs.lookup x=some c)\/(x,NameKind.free)∈names)->∃ c,cl.lookup x=some c
 | [],cs,_,hP=>⟨cs,rfl,hP,fun x h=>by
   rcases h with h | h
   ·exact h
   ·cases h⟩
 | (n,k)::names,cs,hf,hP=>by
  rw [List.forIn_cons]
  by_cases hk:k=.free
  ·subst hk
   obtain ⟨c,hc⟩:=hf (n,.free) List.mem_cons_self rfl
   have hcell:cellOf env n=pure c:=by unfold cellOf;rw [hc]
   obtain ⟨cl,h1,h2,h3⟩:=Qei names ((n,c)::cs) (fun x hx=>hf x (List.mem_cons_of_mem _ hx)) (fun x c' h=>by
    rw [List.lookup_cons] at h
    split at h
    ·rename_i z
     cases h
     rw [eq_of_beq z];exact hc
    ·exact hP x c' h)
   refine ⟨cl,?_,h2,fun x h=>h3 x ?_⟩
   ·rw [<- h1]
    simp only [beq_self_eq_true,if_true,hcell]
    rfl
   ·rcases h with ⟨c',h⟩ | h
    ·left
     rw [List.lookup_cons]
     split
     ·exact ⟨_,rfl⟩
     ·exact ⟨c',h⟩
    ·rcases List.mem_cons.mp h with h | h
     ·cases h
      left
      exact ⟨c,by simp⟩
     ·exact .inr h
  ·have hb:(k==NameKind.free)=false:=by simpa using hk
   obtain ⟨cl,h1,h2,h3⟩:=Qei names cs (fun x hx=>hf x (List.mem_cons_of_mem _ hx)) hP
   refine ⟨cl,?_,h2,fun x h=>h3 x ?_⟩
   ·rw [<- h1]
    simp only [hb,Bool.false_eq_true,if_false]
    rfl
   ·rcases h with h | h
    ·exact .inl h
    ·rcases List.mem_cons.mp h with h | h
     ·cases h
      exact absurd rfl hk
     ·exact .inr h
theorem Qjz {scope:Scope} (hf:∀ x∈scope.names,x.2=.free->∃ c,env.cells.lookup x.1=some c) :
  ∃ cl,closureFor scope env=pure cl/\(∀ x c,cl.lookup x=some c->env.cells.lookup x=some c)/\∀ x,(x,NameKind.free)∈scope.names->∃ c,cl.lookup x=some c:=by
 obtain ⟨cl,h1,h2,h3⟩:=Qei scope.names [] hf (fun x c h=>by cases h)
 refine ⟨cl,?_,h2,fun x h=>h3 x (.inr h)⟩
 have e:closureFor scope env=((forIn (m:=Sem) scope.names [] ((fun x r=>match x with | (name,kind)=>if (kind==NameKind.free)=true then do let c <- cellOf env name;pure (ForInStep.yield ((name,c)::r)) else pure (ForInStep.yield r)):(Str×NameKind)->List (Str×Addr)->Sem (ForInStep (List (Str×Addr))))) >>= fun r=>pure r):=rfl
 rw [e,h1]
 rfl
theorem Qa9 (env:Env):∀ (names:List (Str×NameKind)) (x:Str),(names.map fun (n,k)=>if (k==NameKind.free&&env.scope.kind==.function&&env.kindOf n==some .cell) then (n,NameKind.cell) else (n,k)).lookup x =
  (names.lookup x).map fun k=>if (k==NameKind.free&&env.scope.kind==.function&&env.kindOf x==some .cell) then NameKind.cell else k
 | [],_=>rfl
 | (n,k)::names,x=>by
  have ih:=Qa9 env names x
  rw [List.map_cons,List.lookup_cons]
  show List.lookup x ((if (k==NameKind.free&&env.scope.kind==.function&&env.kindOf n==some .cell)=true then (n,NameKind.cell) else (n,k))::_)=_
  cases hx:x==n with
  | true =>
   have:=eq_of_beq hx
   subst this
   by_cases hc:(k==NameKind.free&&env.scope.kind==.function&&env.kindOf x==some .cell)=true
   ·rw [if_pos hc,List.lookup_cons,hx]
    rw [List.lookup_cons,hx]
    simp only [Option.map_some]
    rw [if_pos hc]
   ·rw [if_neg hc,List.lookup_cons,hx]
    rw [List.lookup_cons,hx]
    simp only [Option.map_some]
    rw [if_neg hc]
  | false =>
   by_cases hc:(k==NameKind.free&&env.scope.kind==.function&&env.kindOf n==some .cell)=true
   ·rw [if_pos hc,List.lookup_cons,List.lookup_cons,hx];exact ih
   ·rw [if_neg hc,List.lookup_cons,List.lookup_cons,hx];exact ih
theorem mem_of_lookup {α β:Type} [BEq α] [LawfulBEq α]:∀ {l:List (α×β)} {x:α} {y:β},l.lookup x=some y->(x,y)∈l
 | [],_,_,h=>by cases h
 | (a,b)::l,x,y,h=>by
  rw [List.lookup_cons] at h
  split at h
  ·rename_i z;cases h;rw [eq_of_beq z];exact List.mem_cons_self
  ·exact List.mem_cons_of_mem _ (mem_of_lookup h)
end
def Qcm (X:Cx) (scope:Scope) (N':List Str) (cl:List (Str×Addr)) (C:Addr) (ex:List Addr) (s:Shared) (H:Hp) (pn:List (Addr×Obj)):Cx :=
 { X with N:=N',env:=compEnvC scope cl C X.env,s₀:=s,H₀:=H,outer:=X.stack,ex:=ex,fn:=fun _=>false,pn:=pn,xe:=fun _ _=>False }
structure CompSc (X:Cx) (scope:Scope) (n:Nat) (N':List Str) (caps:List Nat):Prop where
 kind:scope.kind=.function
 nocell:∀ y∈scope.names,y.2≠.cell
 loc:∀ x∈scope.names,x.2=.local->scope.names.lookup x.1=some .local
 fre:∀ x∈scope.names,x.2=.free->X.env.kindOf x.1=some .cell\/X.env.kindOf x.1=some .free
 len:N'.length=n+caps.length
 cap:∀ (j i:Nat),caps[j]?=some i->∃ x,N'[n+j]?=some x/\X.N[i]?=some x/\scope.names.lookup x=some .free
 nd:N'.Nodup
section
variable {X:Cx} {pins:List (Addr×Obj)} {σ:L2.St} {H:Hp} {s:Shared} {scope:Scope} {n:Nat} {N':List Str} {caps:List Nat} {cl:List (Str×Addr)} {C:Addr} {ex:List Addr}
theorem Qp9 (S:CompSc X scope n N' caps) {x:Str} (h:(compEnvC scope cl C X.env).kindOf x=some .cell\/(compEnvC scope cl C X.env).kindOf x=some .free):(x,NameKind.free)∈scope.names:=by
 have e:(compEnvC scope cl C X.env).kindOf x=(scope.names.lookup x).map fun k=>if (k==NameKind.free&&X.env.scope.kind==.function&&X.env.kindOf x==some .cell) then NameKind.cell else k:=Qa9 X.env scope.names x
 rw [e] at h
 cases q:scope.names.lookup x with
 | none=>rw [q] at h;rcases h with h | h<;>cases h
 | some k =>
  have m:=mem_of_lookup q
  cases k with
  | free=>exact m
  | cell=>exact absurd rfl (S.nocell _ m)
  | _ =>
   rw [q] at h
   rcases h with h | h<;>simp at h
theorem Qqa (I:Inv X pins σ H s) (S:CompSc X scope n N' caps) (hC:s.heap.objs.size<=C) (hcl:∀ x c,cl.lookup x=some c->X.env.cells.lookup x=some c) (hhas:∀ x,(x,NameKind.free)∈scope.names->∃ c,cl.lookup x=some c)
  (hex:∀ b∈ex,Qas X pins H b/\b≠C) (pn:List (Addr×Obj)):(Qcm X scope N' cl C ex s H pn).Ok where
 mod:=I.ok.mod
 kind:=S.kind
 glob:=I.ok.glob
 blt:=I.ok.blt
 above:=hC
 inj:=fun x y c h1 h2=>I.ok.inj x y c (hcl x c h1) (hcl y c h2)
 has:=fun x h=>hhas x (Qp9 (cl:=cl) (C:=C) S h)
 cab:=fun x c h=>by cases h
 hd:=I.ok.hd
 frames:=I.ok.frames
 stk:=.inl rfl
 exf:=fun b hb=>⟨(hex b hb).2,fun x c h=>(hex b hb).1.2.2.2.2.1 x c (hcl x c h)⟩
 bs:=I.bs
 bsz:=Nat.le_trans I.ok.bsz I.sz
 noex:=fun b o e hb=>by
  rcases (hex b hb).1.2.2.2.1 with z | z
  ·exact I.ok.noex b o e z
  ·exact absurd (Nat.lt_of_lt_of_le (Heap.lt_size e) (Nat.le_trans I.ok.bsz z)) (Nat.lt_irrefl _)
 exfs:=fun b hb hf=>by
  obtain ⟨⟨_,h1,h2,_⟩,_⟩:=hex b hb
  rcases List.mem_cons.mp (I.stkSub b hf) with z | z
  ·exact h1 z
  ·exact h2 z
 funs:=I.stack
 frf:=I.stkFree
end
end Wd
namespace Wd
open PySem PySem.Spec PyProof.Rows L2
theorem Qp8 {prog:Program} {w:World} {A:Around} {R:Result->Shared->Prop} {s:Shared} {elt target iter:Expr} {ifs:List Expr} {scope:Scope} {pos:Pos} {it acc:Value} {env:Env} {E:Value->Shared->Prop} (hE:∀ x s,¬ E x s) (J:Nat->Shared->Prop)
  (turn:∀ n s,J n s->wpAny (model prog w) A (pyNext it) (fun r s₁=>match r with
   | none=>R (.ok .next) s₁
   | some v=>wpAny (model prog w) A (letOwnedTupleGo target it v) (fun _ s₁=>wpAny (model prog w) A (assign target env v) (fun _ s₂ =>
     wpAny (model prog w) A (forIn ifs true fun c r=>if r=true then do let ok <- isTrue c env (eval c env);pure (ForInStep.yield ok) else pure (ForInStep.yield r)) (fun ok s₃ =>
      if ok=true then wpAny (model prog w) A (eval elt env) (fun x s₄ =>
       wpAny (model prog w) A (call (.builtin "list.append") [acc,x]) (fun _ s₅=>∃ m,m<n/\J m s₅) E s₄) E s₃
      else ∃ m,m<n/\J m s₃) E s₂) E s₁) E s₁) E s)
  (n:Nat) (h:J n s):codeAny (model prog w) A (.compLoop (.ListComp elt [⟨target,iter,ifs,0⟩] scope pos) 0 it acc env) R s:=by
 have no:∀ {E':Value->Shared->Prop} x s,E x s->E' x s:=fun x s h=>absurd h (hE x s)
 refine codeAny_loop rfl J (fun n s hI=>?_) n h
 show wpAny _ A ((compTurn (.ListComp elt [⟨target,iter,ifs,0⟩] scope pos) 0 it acc env).onRaise (fun x=>do noteFrame x env;theTreesLotGoes x)) _ _ s
 refine wpAny_noted ?_
 rw [compTurn_list]
 refine wpAny_bind (wpAny_standAt (wpAny_bind (wpAny_mono (turn n s hI) (fun r s₁ h₁=>?_) fun x s h'=>no x s h')))
 cases r with
 | none=>exact wpAny_pure h₁
 | some v =>
  refine wpAny_bind (wpAny_mono h₁ (fun _ s₂ h₂=>wpAny_bind (wpAny_mono h₂ (fun _ s₂ h₂=>wpAny_bind (wpAny_mono h₂ (fun ok s₃ h₃=>?_) fun x s h'=>no x s h')) fun x s h'=>no x s h')) fun x s h'=>no x s h')
  cases ok with
  | false=>exact wpAny_pure ⟨rfl,h₃⟩
  | true =>
   exact wpAny_bind (wpAny_bind (wpAny_mono h₃ (fun x s₄ h₄=>wpAny_bind (wpAny_mono h₄ (fun _ s₅ h₅=>wpAny_pure (wpAny_pure ⟨rfl,h₅⟩)) fun x s h'=>no x s h')) fun x s h'=>no x s h'))
def PIf (X:Cx) (ifs:List Expr) (t:TT):Prop :=
 ∀ (pins:List (Addr×Obj)) (s:Shared) (σ:L2.St) (H:Hp) (Q:Bool->Hp->Prop),Inv X pins σ H s->t σ H Q ->
  wpAny (model X.prog X.w) X.A (forIn ifs true fun c r=>if r=true then do let ok <- isTrue c X.env (eval c X.env);pure (ForInStep.yield ok) else pure (ForInStep.yield r)) (TP X pins σ Q) X.xe s
section
variable {X:Cx}
theorem ZZ {O:List Nat}:PIf X [] (tDT X O (eC (.bl true))):=fun pins s σ H Q I ⟨F0,F,en,b,rs,w,k⟩=>by
 cases w
 exact wpAny_pure ⟨H,I,k F H (.refl rs.fh)⟩
theorem Vi {O:List Nat} {c:Expr} {ev:EvE} (h:PT X c (tDT X O ev)):PIf X [c] (tDT X O ev):=fun pins s σ H Q I t=>by
 simp only [List.forIn_cons,List.forIn_nil,if_true]
 exact wpAny_bind (wpAny_bind (wpAny_mono (h pins s σ H Q I t) (fun b s' hb=>wpAny_pure (wpAny_pure hb)) fun _ _ x=>x))
end
section
variable {X:Cx} {pins:List (Addr×Obj)} {σ:L2.St} {H:Hp} {s:Shared} {scope:Scope} {n:Nat} {N':List Str} {caps:List Nat} {cl:List (Str×Addr)} {fp:List Addr}
def QeN (n:Nat) (caps:List Nat) (σ:L2.St):L2.St:=List.replicate n none++caps.map fun i=>(σ[i]?).join
theorem Qom (I:Inv X pins σ H s) (S:CompSc X scope n N' caps) (hcl:∀ x c,cl.lookup x=some c->X.env.cells.lookup x=some c) (hhas:∀ x,(x,NameKind.free)∈scope.names->∃ c,cl.lookup x=some c) (hfp:∀ b∈fp,Qas X pins H b/\b<s.heap.objs.size)
  {h1:Heap} {tk:Nat} (hns:h1.Ns (s.heap.objs.size+1) fun _=>none) (old:∀ b o,(s.heap.push { cls:=.type "list",data:=.seq #[] }).get? b=some o->h1.get? b=some o) :
  Inv (Qcm X scope N' cl (s.heap.objs.size+1) (s.heap.objs.size::fp) { s with heap:=s.heap.push { cls:=.type "list",data:=.seq #[] } } H (X.pn++pins)) [] (QeN n caps σ) (upd H s.heap.objs.size (.lst [])) { s with heap:=h1,toks:=tk }:=by
 have hz:(s.heap.push { cls:=.type "list",data:=.seq #[] }).objs.size=s.heap.objs.size+1:=Heap.size_push ..
 have up:∀ b o,s.heap.get? b=some o->h1.get? b=some o:=fun b o e=>old b o (Heap.get?_push_of_some _ e)
 have hacc:H s.heap.objs.size=none:=I.hok.fresh (Nat.le_refl _)
 have hC:H (s.heap.objs.size+1)=none:=I.hok.fresh (Nat.le_succ _)
 have I3:Inv X pins σ H { s with heap:=s.heap.push { cls:=.type "list",data:=.seq #[] } }:=I.kept (t':=s.toks) fun b o e=>Heap.get?_push_of_some _ e
 have cellLt:∀ x c,X.env.cells.lookup x=some c->c<s.heap.objs.size:=fun x c e=>by
  obtain ⟨v,o,ho,_⟩:=I.cell x c e
  exact Heap.lt_size ho
 refine ⟨Qqa I3 S (by rw [hz];exact Nat.le_refl _) hcl hhas (fun b hb=>?_) _,rfl,I.bare,⟨fun b o e _ _ _=>old b o e,fun b o e _ _ _=>⟨o.slots,old b o e⟩,fun b o e n hb=>?_,fun b o e _=>⟨o,old b o e⟩,fun b xs e=>?_,fun b o u e=>?_,fun b ps e=>⟨#[],?_⟩⟩,
  ⟨_,hns,fun i x v e1 e2 _=>?_⟩,fun x c e=>?_,?_,fun x c e=>?_,fun p hp=>?_,I.hok.laid up (Nat.le_refl _) ⟨Nat.zero_le _,[],0,.nil,old _ _ (Heap.get?_push_size _ rfl)⟩,?_⟩
 ·rcases List.mem_cons.mp hb with z | z
  ·subst z
   exact ⟨I.fpOk (Nat.le_refl _) hacc,Nat.ne_of_lt (Nat.lt_succ_self _)⟩
  ·exact ⟨(hfp b z).1,Nat.ne_of_lt (Nat.lt_succ_of_lt (hfp b z).2)⟩
 ·rw [QJ (fun z=>hb (by rw [z];exact List.mem_cons_self))];exact n
 ·rw [QJ (Zf e hacc)];exact e
 ·rw [QJ (Zf e hacc)];exact e
 ·have e':H b=some (.tbl ps):=e
  rw [QJ (Zf e' hacc),e'];simp
 ·unfold QeN at e2
  rcases Nat.lt_or_ge i n with hi | hi
  ·rw [List.getElem?_append_left (by simpa using hi),List.getElem?_replicate,if_pos hi] at e2
   cases e2
  ·rw [List.getElem?_append_right (by simpa using hi),List.length_replicate,List.getElem?_map] at e2
   cases q:caps[i-n]? with
   | none=>rw [q] at e2;cases e2
   | some j =>
    rw [q] at e2
    obtain ⟨x',f1,f2,f3⟩:=S.cap (i-n) j q
    rw [show n+(i-n)=i by omega] at f1
    have e1':N'[i]?=some x:=e1
    rw [f1] at e1'
    cases e1'
    have e2':(σ[j]?).join=some v:=Option.some.inj e2
    have e3:σ[j]?=some (some v):=by
     cases w:σ[j]? with
     | none=>rw [w] at e2';cases e2'
     | some o=>rw [w] at e2';cases o with
      | none=>cases e2'
      | some u=>cases e2';rfl
    have hm:=mem_of_lookup f3
    have kx:=S.fre _ hm rfl
    obtain ⟨m,_,hl⟩:=I.loc
    obtain ⟨u,r,lk⟩:=hl j x v f2 e3 (by
     rcases kx with z | z
     ·exact .inr (.inl z)
     ·exact .inr (.inr z))
    refine ⟨u,r,.inr ⟨?_,?_⟩⟩
    ·have e:(compEnvC scope cl (s.heap.objs.size+1) X.env).kindOf x=(scope.names.lookup x).map fun k=>if (k==NameKind.free&&X.env.scope.kind==.function&&X.env.kindOf x==some .cell) then NameKind.cell else k:=Qa9 X.env scope.names x
     have e':(compEnvC scope cl (s.heap.objs.size+1) X.env).kindOf x=some (if (NameKind.free==NameKind.free&&X.env.scope.kind==.function&&X.env.kindOf x==some .cell) then NameKind.cell else NameKind.free):=by rw [e,f3];rfl
     show (compEnvC scope cl (s.heap.objs.size+1) X.env).kindOf x=some .cell\/(compEnvC scope cl (s.heap.objs.size+1) X.env).kindOf x=some .free
     rw [e']
     split
     ·exact .inl rfl
     ·exact .inr rfl
    ·obtain ⟨c,hc⟩:=hhas x hm
     rcases lk with ⟨z,_⟩ | ⟨_,c',hc',o,ho,hd⟩
     ·rcases kx with w | w<;>(rw [z] at w;cases w)
     ·have:=hcl x c hc
      rw [hc'] at this
      cases this
      exact ⟨c,hc,o,up c o ho,hd⟩
 ·obtain ⟨v,o,ho,hd⟩:=I.cell x c (hcl x c e)
  exact ⟨v,o,up c o ho,hd⟩
 ·show upd H s.heap.objs.size (.lst []) (s.heap.objs.size+1)=none
  rw [QJ (Nat.succ_ne_self _)];exact hC
 ·rw [QJ (Nat.ne_of_lt (cellLt x c (hcl x c e)))];exact I.freeC x c (hcl x c e)
 ·have hp':p∈X.pn++pins:=by simpa [Qcm] using hp
  obtain ⟨k1,k2,k3,k4,k5⟩:=I.pin p hp'
  have lt:p.1<s.heap.objs.size:=Heap.lt_size k1
  refine ⟨up _ _ k1,?_,Nat.ne_of_lt (Nat.lt_succ_of_lt lt),fun hb=>?_,k5⟩
  ·rw [QJ (Nat.ne_of_lt lt)];exact k2
  ·rcases List.mem_cons.mp (I.stkSub _ hb) with z | z
   ·exact k3 z
   ·exact k4 z
 ·show (QeN n caps σ).length=N'.length
  rw [S.len];simp [QeN]
end
end Wd
namespace Wd
open PySem PySem.Spec PyProof.Rows L2
def Qb4 (X:Cx) (scope:Scope) (N':List Str) (P:Cx->Prop):Prop :=
 ∀ (cl:List (Str×Addr)) (C:Addr) (ex:List Addr) (s:Shared) (H:Hp) (pn:List (Addr×Obj)),P (Qcm X scope N' cl C ex s H pn)
section
variable {X:Cx} {O:List Nat} {scope:Scope} {n:Nat} {N':List Str} {caps:List Nat} {tg iter elt:Expr} {ifs:List Expr} {pos:Pos} {it:EvI} {g:EvG} {c el:EvE}
theorem QtN {K:Fg} {H₀:Hp} {F0:Fz} {F H:Hp} {σ:L2.St} {en:Qq} (r:RS K H₀ F0 F H σ en O) (hO:∀ i∈caps,i∉O):RS K H ⟨F,H,none⟩ F H (QeN n caps σ) (QbR n caps en) [] where
 fh:=r.fh
 hh:=.refl H
 ff:=.refl F
 fr:=fun _ _ h=>.inl h
 slot:=fun i d h _=>by
  unfold QbR at h
  unfold QeN
  rcases Nat.lt_or_ge i n with hi | hi
  ·rw [List.getElem?_append_left (by simpa using hi),List.getElem?_replicate,if_pos hi] at h
   cases h
  ·rw [List.getElem?_append_right (by simpa using hi),List.length_replicate,List.getElem?_map] at h
   rw [List.getElem?_append_right (by simpa using hi),List.length_replicate,List.getElem?_map]
   cases q:caps[i-n]? with
   | none=>rw [q] at h;cases h
   | some j =>
    rw [q] at h
    have h':(en[j]?).join=some d:=Option.some.inj h
    have e3:en[j]?=some (some d):=by
     cases w:en[j]? with
     | none=>rw [w] at h';cases h'
     | some o=>rw [w] at h';cases o with
      | none=>cases h'
      | some u=>cases h';rfl
    have hj:j∈caps:=List.mem_of_getElem? q
    obtain ⟨v,h1,h2⟩:=r.slot j d e3 (hO j hj)
    refine ⟨v,?_,h2⟩
    simp [h1]
 own:=fun i d _ h=>by cases h
 dis:=fun i j p _ _ h=>by cases h
 pin:=fun i h=>by cases h
 len:=by unfold QeN QbR;simp
theorem Qox {K:Fg} {H₀:Hp} {F0:Fz} {F H:Hp} {σ:L2.St} {en:Qq} {p:Addr} {o:HO} (r:RS K H₀ F0 F H σ en []) (h0:F0.h p=none) (hf:F p=none):RS K H₀ F0 F (upd H p o) σ en [] where
 fh:=r.fh.upd o hf
 hh:=r.hh.upd o h0
 ff:=r.ff
 fr:=r.fr
 slot:=r.slot
 own:=fun i d _ h=>by cases h
 dis:=fun i j p _ _ h=>by cases h
 pin:=fun i h=>by cases h
 len:=r.len
theorem Qrh {α:Type} {o:Option D} {x y:Option α} {r:α} (h:ifO o x y=some r):∃ b,o=some (.bl b)/\(b=true->x=some r)/\(b=false->y=some r):=by
 obtain ⟨b,h1,h2⟩:=YZ h
 refine ⟨b,h1,fun z=>?_,fun z=>?_⟩
 ·subst z;exact h2
 ·subst z;exact h2
structure ItOkH (K:Fg) (F H:Hp) (J:It) (ds:List D):Prop where
 go:∀ i F' H',Sm F F'->Sm F' H'->Sm H H'->i<ds.length->J.go i H'
 yld:∀ i F' H' x H2,Sm F F'->Sm F' H'->Sm H H'->i<ds.length->J.yld i H' x H2->∃ F2 d,Gr F' H' F2 H2/\ds[i]?=some d/\Rep K F2 x d
 stop:∀ i F' H',Sm F F'->Sm F' H'->Sm H H'->ds.length<=i->J.stop i H'
def tIH (X:Cx) (O:List Nat) (it:EvI):TI:=fun σ H R=>∃ F0 F e ds,RS X.K X.H₀ F0 F H σ e O/\it e=some ds/\∀ F' H' J,Gr F H F' H'->ItOkH X.K F' H' J ds->R J H'
theorem dih (h:PI X tg iter (tI X O it)):PI X tg iter (tIH X O it):=PI.imp h fun σ H R ⟨F0,F,en,ds,rs,z,k⟩=>⟨F0,F,en,ds,rs,z,fun F' H' J g io=>k F' H' J g ⟨fun i F2 H2 a b _=>io.go i F2 H2 a b,fun i F2 H2 x H3 a b _=>io.yld i F2 H2 x H3 a b,fun i F2 H2 a b _=>io.stop i F2 H2 a b⟩⟩
theorem QuL (i:Nat) {x:Str} {p:Pos} (hN:X.N[i]?=some x:=by rfl) (hv:Vis X.env.scope x:=by first | exact Or.inl rfl | exact Or.inr (Or.inl rfl) | exact Or.inr (Or.inr rfl)) (hd:(x==("__debug__":Str))=false:=by decide) (hcd:(x==("__classdict__":Str))=false:=by decide):PI X tg (.Name x p) (tIH X O (Q1 (eV i))):=PI.imp (Qmy (VU (O:=O) i hN hv hd hcd)) fun σ H R ⟨F0,F,en,ds,rs,z,k⟩=>by
 obtain ⟨d,e1,e2⟩:=Q5 z
 refine ⟨F0,F,en,d,rs,e1,fun v F1 H1 g1 r1=>?_⟩
 have fin:∀ (a:Addr) (xs:List V),SqL X.K H1 a xs->Reps X.K F1 xs ds->R (Itl X.K a) H1:=fun a xs ha r=>k F1 H1 _ g1
  ⟨fun i F' H' s s' sh hi=>by
   obtain ⟨v,h1,_⟩:=r.get (List.getElem?_eq_getElem hi)
   exact ⟨xs,v,sh.sqL ha,h1⟩,
  fun i F' H' x H2 s s' sh hi ⟨hH,hx⟩=>by
   subst hH
   have hx':=hx xs (sh.sqL ha)
   obtain ⟨d,h1,h2⟩:=r.getV hx'
   exact ⟨F',d,.refl s',h1,h2.mono s⟩,
  fun i F' H' s s' sh hi=>⟨xs,sh.sqL ha,by rw [r.length];exact hi⟩⟩
 cases d with
 | lst ds'=>cases e2;obtain ⟨a,xs,rfl,h,r⟩:=r1.lst g1.fh;exact ⟨a,rfl,⟨xs,SqL.of h⟩,fin a xs (SqL.of h) r⟩
 | scr ns=>cases e2;obtain ⟨a,rfl,h⟩:=r1.scr;exact ⟨a,rfl,⟨_,g1.fh.sqL h⟩,fin a _ (g1.fh.sqL h) (Reps.ints ns)⟩
 | _=>cases e2
theorem Qi2 (hx:X.xe=fun _ _=>False) (hc:X.calm=true) (S:CompSc X scope n N' caps) (hO:∀ i∈caps,i∉O) (hi:PI X tg iter (tIH X O it)) (hg:Qb4 X scope N' fun Y=>PG Y tg (tG Y [] [] g)) (ht:Qb4 X scope N' fun Y=>PIf Y ifs (tDT Y [] c)) (he:Qb4 X scope N' fun Y=>PE Y elt (tD Y [] el))
  (hs:∀ x,foldedSetIterable iter X.env x=pure x) {use:Option (Value->Sem Unit)} {Qv:Value->Shared->Prop} {cpos:Pos} {pins:List (Addr×Obj)} {σ:L2.St} {H:Hp} {s:Shared} (I:Inv X pins σ H s) {F0:Fz} {F:Hp} {en:Qq} {ds tot:List D} (rs:RS X.K X.H₀ F0 F H σ en O) (e1:it en=some ds) (hlen:ds.length<=lI)
  (e3:Qav g c el ds (QbR n caps en)=some tot)
  (fin0:∀ acc C s' H' F' xs m,H acc=none->Inv X pins σ H' s'->Qas X pins H' C->s'.heap.Ns C m->Gr F H F' H'->F' acc=none->H' acc=some (.lst xs)->Reps X.K F' xs tot->compPost (model X.prog X.w) X.A X.xe use Qv (.ref acc) C (.ok .next) s') :
  wpAny (model X.prog X.w) X.A (comprehension (.ListComp elt [⟨tg,iter,ifs,0⟩] scope pos) scope X.env cpos (newList []) false (eval iter X.env) use) Qv X.xe s:=by
 obtain ⟨cl,hclo,hcl,hhas⟩:=Qjz (scope:=scope) (env:=X.env) fun x hx hk=>I.ok.has x.1 (S.fre x hx hk)
 refine wpAny_comprehension_free (use:=use) rfl hs hclo S.kind S.loc ?_
 refine thn (hi pins s σ H _ I ⟨F0,F,en,ds,rs,e1,fun F' H' J gr io=>⟨F',gr,io⟩⟩:wpAny (model X.prog X.w) X.A (eval iter X.env) (fun v s1=>wpAny (model X.prog X.w) X.A (pyIter v) (PIE X pins σ tg fun J H'=>∃ F',Gr F H F' H'/\ItOkH X.K F' H' J ds) X.xe s1) X.xe s) fun v s1 h1=>?_
 refine thn h1 fun itv s2 h2=>?_
 obtain ⟨ita,fp,tn,J,H2,rfl,I2,T,st2,f2,F2,gr,io⟩:=h2
 have fpo:∀ b∈fp,Qas X pins H2 b/\b<s2.heap.objs.size:=fun b hb=>by
  obtain ⟨o,ho,_⟩:=T.obj 0 _ st2 b hb
  exact ⟨f2 b hb,Heap.lt_size ho⟩
 have hacc:H2 s2.heap.objs.size=none:=I2.hok.fresh (Nat.le_refl _)
 have hz:(s2.heap.push { cls:=.type "list",data:=.seq #[] }).objs.size=s2.heap.objs.size+1:=Heap.size_push ..
 refine wpAny_newObj_type (wpAny_newFunctionEnv S.nocell (by intro y hy;simp at hy) (fun h1 hns1 hsb1=>?_) S.kind)
 dsimp only at hns1 hsb1 ⊢
 have hns:h1.Ns (s2.heap.objs.size+1) fun _=>none:=by
  have q:=hns1
  rw [hz] at q
  exact q
 have old:∀ b o,(s2.heap.push { cls:=.type "list",data:=.seq #[] }).get? b=some o->h1.get? b=some o:=fun b o e =>
  hsb1.extBut b o (Nat.ne_of_lt (Heap.lt_size e)) (Heap.get?_push_of_some _ e)
 have I4:=Qom (tk:=s2.toks+([]:List (Str×Value)).length) I2 S hcl hhas fpo hns old
 have loop:∀ (R:Result->Shared->Prop),(∀ s' H' F' xs m,Inv (Qcm X scope N' cl (s2.heap.objs.size+1) (s2.heap.objs.size::fp) { s2 with heap:=s2.heap.push { cls:=.type "list",data:=.seq #[] } } H2 (X.pn++pins)) [] m H' s'->Gr F2 H2 F' H'->F' s2.heap.objs.size=none->H' s2.heap.objs.size=some (.lst xs)->Reps X.K F' xs tot->R (.ok .next) s') ->
   codeAny (model X.prog X.w) X.A (.compLoop (.ListComp elt [⟨tg,iter,ifs,0⟩] scope pos) 0 (.ref ita) (.ref s2.heap.objs.size) (compEnvC scope cl (s2.heap.objs.size+1) X.env)) R { s2 with heap:=h1,toks:=s2.toks+([]:List (Str×Value)).length }:=by
  intro R hR
  have gY:=hg cl (s2.heap.objs.size+1) (s2.heap.objs.size::fp) { s2 with heap:=s2.heap.push { cls:=.type "list",data:=.seq #[] } } H2 (X.pn++pins)
  have tY:=ht cl (s2.heap.objs.size+1) (s2.heap.objs.size::fp) { s2 with heap:=s2.heap.push { cls:=.type "list",data:=.seq #[] } } H2 (X.pn++pins)
  have eY:=he cl (s2.heap.objs.size+1) (s2.heap.objs.size::fp) { s2 with heap:=s2.heap.push { cls:=.type "list",data:=.seq #[] } } H2 (X.pn++pins)
  generalize hY:Qcm X scope N' cl (s2.heap.objs.size+1) (s2.heap.objs.size::fp) { s2 with heap:=s2.heap.push { cls:=.type "list",data:=.seq #[] } } H2 (X.pn++pins)=Y at I4 gY tY eY hR
  have yK:Y.K=X.K:=by rw [<- hY];rfl
  have yP:Y.prog=X.prog:=by rw [<- hY];rfl
  have yW:Y.w=X.w:=by rw [<- hY];rfl
  have yA:Y.A=X.A:=by rw [<- hY];rfl
  have yH:Y.H₀=H2:=by rw [<- hY];rfl
  have yE:Y.env=compEnvC scope cl (s2.heap.objs.size+1) X.env:=by rw [<- hY];rfl
  have yX:Y.xe=fun _ _=>False:=by rw [<- hY];rfl
  have yc:Y.calm=true:=by rw [<- hY];exact hc
  have yf:Y.fs=frs X.stack:=by rw [<- hY];rfl
  have yx:Y.ex=s2.heap.objs.size::fp:=by rw [<- hY];rfl
  have yp:Y.pn=X.pn++pins:=by rw [<- hY];rfl
  have stat:∀ {H':Hp},(∀ b∈fp,H' b=none)->∀ b∈fp,Qas Y [] H' b:=fun hn b hb=>by
   obtain ⟨⟨_,q1,q2,q3,q4,q5⟩,q6⟩:=fpo b hb
   refine ⟨hn b hb,?_,?_,.inl ?_,fun x c e=>?_,fun p hp=>q5 p ?_⟩
   ·rw [yE];exact Nat.ne_of_lt (Nat.lt_succ_of_lt q6)
   ·rw [yf]
    intro hf
    rcases List.mem_cons.mp (I2.stkSub b hf) with w | w
    ·exact q1 w
    ·exact q2 w
   ·rw [yx];exact List.mem_cons_of_mem _ hb
   ·rw [yE] at e;exact q4 x c (hcl x c e)
   ·rw [yp] at hp;simpa using hp
  rw [<- yP,<- yW,<- yA,<- yE]
  have T':Turn Y.prog Y.w Y.K tg J fp ita tn:=by rw [yP,yW,yK];exact T
  have nofp:∀ b∈fp,b≠s2.heap.objs.size:=fun b hb=>Nat.ne_of_lt (fpo b hb).2
  refine Qp8 (E:=Y.xe) (fun x s h=>by rw [yX] at h;exact h) (fun m s'=>∃ i σ' H' F' en' xs done rest,m=ds.length-i/\i<=ds.length/\Inv Y [] σ' H' s'/\tn i s'.heap/\(∀ b∈fp,H' b=none)/\RS X.K H2 ⟨F2,H2,none⟩ F' H' σ' en' []/\H' s2.heap.objs.size=some (.lst xs)/\F' s2.heap.objs.size=none /\
   Reps X.K F' xs done/\Qav g c el (ds.drop i) en'=some rest/\done++rest=tot/\done.length<=i) ?_ ds.length
   ⟨0,QeN n caps σ,_,F2,QbR n caps en,[],[],tot,by omega,by omega,I4,T.keep 0 _ _ st2 (fun b hb o e=>old b o (Heap.get?_push_of_some _ e)),fun b hb=>?_,Qox (QtN (rs.grow gr) hO) hacc ((rs.grow gr).fh.none hacc),Jb,(rs.grow gr).fh.none hacc,.nil,by rw [List.drop_zero];exact e3,rfl,Nat.le_refl _⟩
  ·rintro m s3 ⟨i,σ3,H3,F3,en3,xs,done,rest,rfl,hle,I3,st3,fr3,rs3,ha3,fa3,r3,q3,tot3,dl3⟩
   have gr3:Gr F2 H2 F3 H3:=rs3.ex.gr
   rcases Nat.lt_or_ge i ds.length with hi | hi
   ·refine thn (T'.item Y rfl rfl rfl yc i [] s3 σ3 H3 Y.xe I3 (stat fr3) st3 (io.go i F3 H3 gr3.ff rs3.fh rs3.hh hi)) fun r s4 ⟨u,hr,h4⟩=>?_
    subst hr
    refine thn h4 fun _ s5 ⟨x,H5,I5,r5,y5,st5,fr5⟩=>?_
    obtain ⟨F5,dx,g5,hd5,rx5⟩:=io.yld i F3 H3 x H5 gr3.ff rs3.fh rs3.hh hi y5
    have hdr:ds.drop i=dx::ds.drop (i+1):=by
     rw [List.drop_eq_getElem_cons hi]
     rw [List.getElem?_eq_getElem hi] at hd5
     cases hd5;rfl
    rw [hdr] at q3
    obtain ⟨en6,q4,q5⟩:=Q5 (show ((g dx en3).bind fun e1=>ifO (c e1) ((el e1).bind fun x=>(Qav g c el (ds.drop (i+1)) e1).map fun r=>x::r) (Qav g c el (ds.drop (i+1)) e1))=some rest from q3)
    obtain ⟨b,q6,qt,qf⟩:=Qrh q5
    have I5':=I5.pinned (stat fr5) (T.obj _ _ st5)
    have a5:H5 s2.heap.objs.size=some (.lst xs):=g5.hh _ _ ha3
    have n5:F5 s2.heap.objs.size=none:=by
     cases w:F5 s2.heap.objs.size with
     | none=>rfl
     | some o =>
      rcases g5.fr _ o w with z | z
      ·rw [fa3] at z;cases z
      ·rw [ha3] at z;cases z
    have rs5:RS Y.K Y.H₀ ⟨F2,H2,none⟩ F5 H5 σ3 en3 []:=by rw [yK,yH];exact rs3.grow g5
    refine thn (gY _ s5 σ3 H5 x u (fun σ' H'=>∃ F',Gr F5 H5 F' H'/\RS Y.K Y.H₀ ⟨F2,H2,none⟩ F' H' σ' en6 []) I5' r5 ⟨⟨F2,H2,none⟩,F5,en3,dx,en6,rs5,by rw [yK];exact rx5,q4,fun σ' H' F' g' r'=>⟨F',g',r'⟩⟩) fun _ s6 ⟨σ6,H6,I6,F6,g6,rs6⟩=>?_
    have keepN:∀ {Fa Ha Fb Hb:Hp},Gr Fa Ha Fb Hb->Ha s2.heap.objs.size=some (.lst xs)->Fa s2.heap.objs.size=none->Hb s2.heap.objs.size=some (.lst xs)/\Fb s2.heap.objs.size=none:=fun {Fa Ha Fb Hb} gg ha fa=>by
     refine ⟨gg.hh _ _ ha,?_⟩
     cases w:Fb s2.heap.objs.size with
     | none=>rfl
     | some o =>
      rcases gg.fr _ o w with z | z
      ·rw [fa] at z;cases z
      ·rw [ha] at z;cases z
    obtain ⟨a6,n6⟩:=keepN g6 a5 n5
    refine thn (tY _ s6 σ6 H6 (fun b' H'=>b'=b/\∃ F',Gr F6 H6 F' H') I6 ⟨⟨F2,H2,none⟩,F6,en6,b,rs6,q6,fun F' H' g'=>⟨rfl,F',g'⟩⟩) fun ok s7 ⟨H7,I7,hb,F7,g7⟩=>?_
    subst hb
    obtain ⟨a7,n7⟩:=keepN g7 a6 n6
    have rs7:=rs6.grow g7
    have sm7:Sm F3 F7:=(g5.ff.trans g6.ff).trans g7.ff
    have back:∀ {σ8:L2.St} {H8:Hp} {s8:Shared},Inv Y ([]++QeP fp s5.heap) σ8 H8 s8->Inv Y [] σ8 H8 s8/\tn (i+1) s8.heap/\∀ b∈fp,H8 b=none:=fun {σ8 H8 s8} I8=>by
     refine ⟨I8.unpinned,T.keep _ _ _ st5 fun b hb o e=>(I8.pin (b,o) (List.mem_append_right _ (List.mem_append_right _ (Qb8 hb e)))).1,fun b hb=>?_⟩
     obtain ⟨o,e,_⟩:=T.obj _ _ st5 b hb
     exact (I8.pin (b,o) (List.mem_append_right _ (List.mem_append_right _ (Qb8 hb e)))).2.1
    cases ok with
    | false =>
     rw [if_neg Bool.false_ne_true]
     obtain ⟨k1,k2,k3⟩:=back I7
     exact ⟨_,by omega,i+1,σ6,H7,F7,en6,xs,done,rest,rfl,hi,k1,k2,k3,by rw [yK,yH] at rs7;exact rs7,a7,n7,r3.mono sm7,qf rfl,tot3,by omega⟩
    | true =>
     rw [if_pos rfl]
     obtain ⟨dy,q8,q9⟩:=Q5 (qt rfl)
     obtain ⟨rest',q10,q11⟩:=Zv q9
     refine thn (eY _ s7 σ6 H7 (fun v' H'=>∃ F',Gr F7 H7 F' H'/\Rep Y.K F' v' dy) I7 ⟨⟨F2,H2,none⟩,F7,en6,dy,rs7,q8,fun v' F' H' g' r'=>⟨F',g',r'⟩⟩) fun y s8 ⟨y',H8,I8,ry8,F8,g8,rp8⟩=>?_
     obtain ⟨a8,n8⟩:=keepN g8 a7 n7
     have rs8:=rs7.grow g8
     have sm8:Sm F3 F8:=sm7.trans g8.ff
     have len8:xs.length<sizeLine:=by
      rw [Yl,r3.length];omega
     refine thn (QiM (X:=Y) _ s8 σ6 H8 (.ref s2.heap.objs.size) [y'] (.ref s2.heap.objs.size) [y] (fun v' H'=>H'=upd H8 s2.heap.objs.size (.lst (xs++[y']))) I8 rfl (.cons ry8 .nil) ⟨_,xs,y',rfl,rfl,a8,len8,rfl⟩) fun _ s9 ⟨v9,H9,I9,_,hH9⟩=>?_
     subst hH9
     obtain ⟨k1,k2,k3⟩:=back I9
     rw [yK,yH] at rs8
     rw [yK] at rp8
     refine ⟨_,by omega,i+1,σ6,_,F8,en6,xs++[y'],done++[dy],rest',rfl,hi,k1,k2,k3,Qox rs8 hacc n8,Jb,n8,(r3.mono sm8).append (.cons rp8 .nil),q10,?_,?_⟩
     ·rw [List.append_assoc];rw [<- tot3,<- q11];rfl
     ·rw [List.length_append,List.length_singleton];omega
   ·have hzz:ds.drop i=[]:=List.drop_eq_nil_of_le hi
    rw [hzz] at q3
    cases q3
    rw [List.append_nil] at tot3
    subst tot3
    refine thn (T'.done Y rfl rfl rfl yc i [] s3 σ3 H3 Y.xe I3 (stat fr3) st3 (io.stop i F3 H3 gr3.ff rs3.fh rs3.hh hi)) fun r s4 ⟨hr,I4'⟩=>?_
    subst hr
    exact hR s4 H3 F3 xs σ3 I4' gr3 fa3 ha3 r3
  ·rw [QJ (nofp b hb)];exact (fpo b hb).1.1
 have I3:Inv X pins σ H2 { s2 with heap:=s2.heap.push { cls:=.type "list",data:=.seq #[] } }:=I2.kept (t':=s2.toks) fun b o e=>Heap.get?_push_of_some _ e
 have fin:∀ s' H' F' xs m,Inv (Qcm X scope N' cl (s2.heap.objs.size+1) (s2.heap.objs.size::fp) { s2 with heap:=s2.heap.push { cls:=.type "list",data:=.seq #[] } } H2 (X.pn++pins)) [] m H' s'->Gr F2 H2 F' H'->F' s2.heap.objs.size=none->H' s2.heap.objs.size=some (.lst xs)->Reps X.K F' xs tot ->
   compPost (model X.prog X.w) X.A X.xe use Qv (.ref s2.heap.objs.size) (s2.heap.objs.size+1) (.ok .next) s':=by
  intro s' H' F' xs m I' g' fa ha r'
  obtain ⟨mm,hn',_⟩:=id I'.loc
  have fC:H' (s2.heap.objs.size+1)=none:=I'.free
  have IX:Inv X pins σ H' s':=I3.call' (s':=s') (ch:=s2.heap.objs.size::fp) I'.os I'.base I'.hok I'.bare fun b hb=>by
   rcases List.mem_cons.mp hb with w | w
   ·obtain ⟨_,q1,_,q3,q4,q5⟩:=I2.fpOk (b:=b) (H':=H2) (by rw [w];exact Nat.le_refl _) (by rw [w];exact hacc)
    exact ⟨q3,q1,q4,q5⟩
   ·obtain ⟨⟨_,q1,_,q3,q4,q5⟩,_⟩:=fpo b w
    exact ⟨q3,q1,q4,q5⟩
  exact fin0 s2.heap.objs.size (s2.heap.objs.size+1) s' H' F' xs mm (gr.hh.none hacc) IX (I2.fpOk (H':=H') (Nat.le_succ _) fC) hn' (gr.trans g') fa ha r'
 have st1:tn 0 h1:=T.keep 0 _ _ st2 (fun b hb o e=>old b o (Heap.get?_push_of_some _ e))
 have L:=loop (compPost (model X.prog X.w) X.A X.xe use Qv (.ref s2.heap.objs.size) (s2.heap.objs.size+1)) fin
 show codeAny (model X.prog X.w) X.A (.compStart (.ListComp elt [⟨tg,iter,ifs,0⟩] scope pos) 0 (.ref ita) (.ref s2.heap.objs.size) (compEnvC scope cl (s2.heap.push { cls:=.type "list",data:=.seq #[] }).objs.size X.env)) (compPost (model X.prog X.w) X.A X.xe use Qv (.ref s2.heap.objs.size) (s2.heap.push { cls:=.type "list",data:=.seq #[] }).objs.size) _
 rw [hz]
 exact codeAny_compStart_list L (T.self _ 0 _ _ _ st1 L)
theorem Qg7 {pins:List (Addr×Obj)} {σ:L2.St} {H:Hp} {s:Shared} {C:Addr} {h':Heap} (I:Inv X pins σ H s) (f:Qas X pins H C) (sb:Heap.SameBut C s.heap h'):Inv X pins σ H { s with heap:=h' }:=by
 obtain ⟨f0,f1,_,f3,f4,f5⟩:=f
 exact I.turned (t':=s.toks) (fun b o hb e=>(sb.2 b hb).trans e) f0 f1 f3 f4 f5
theorem J4 (hx:X.xe=fun _ _=>False) (hc:X.calm=true) (S:CompSc X scope n N' caps) (hO:∀ i∈caps,i∉O) (hi:PI X tg iter (tIH X O it)) (hg:Qb4 X scope N' fun Y=>PG Y tg (tG Y [] [] g)) (ht:Qb4 X scope N' fun Y=>PIf Y ifs (tDT Y [] c)) (he:Qb4 X scope N' fun Y=>PE Y elt (tD Y [] el))
  (hs:∀ x,foldedSetIterable iter X.env x=pure x:=by intro _;rfl):PE X (.ListComp elt [⟨tg,iter,ifs,0⟩] scope pos) (tO X O (QR n caps it g c el)):=by
 intro pins s σ H Q I ⟨F0,F,en,d,rs,z,k⟩
 obtain ⟨ds,e1,e2⟩:=Q5 z
 split at e2
 case isFalse=>cases e2
 case isTrue hlen =>
 obtain ⟨tot,e3,rfl⟩:=Zv e2
 rw [eval_ListComp]
 refine Qi2 hx hc S hO hi hg ht he hs (use:=none) I rs e1 hlen e3 fun acc C s' H' F' xs m n1 I' fC hn gr fa ha r'=>?_
 exact ⟨m,hn,fun h' sb=>⟨.ref acc,H',Qg7 I' fC sb,rfl,k acc none xs tot F' H' gr n1 fa ha r' rfl trivial⟩⟩
theorem Qhj (i:Nat) {x:Str} {p spos:Pos} {OL:List Nat} {w:Bool} (hN:X.N.Nodup) (hx:X.xe=fun _ _=>False) (hc:X.calm=true) (S:CompSc X scope n N' caps) (hO:∀ i∈caps,i∉O) (hi:PI X tg iter (tIH X O it)) (hg:Qb4 X scope N' fun Y=>PG Y tg (tG Y [] [] g)) (ht:Qb4 X scope N' fun Y=>PIf Y ifs (tDT Y [] c)) (he:Qb4 X scope N' fun Y=>PE Y elt (tD Y [] el))
  (hxi:X.N[i]?=some x:=by rfl) (hlx:Loc X.env.scope x:=by first | exact Or.inl rfl | exact Or.inr rfl) (hf:X.fn x=true\/X.env.scope.names.lookup x=some .local:=by first | exact .inl rfl | exact .inr rfl)
  (hsw:swapsWith (.ListComp elt [⟨tg,iter,ifs,0⟩] scope pos) (some (.Name x p)) spos.line X.env=pure true:=by rfl) (hs:∀ x,foldedSetIterable iter X.env x=pure x:=by intro _;rfl) (hq:Yi i∉O:=by decide) (hil:i<1000:=by decide) :
  PS X (.Assign [.Name x p] (.ListComp elt [⟨tg,iter,ifs,0⟩] scope pos) spos) (tS X O (ad i O) OL w (Qd (QR n caps it g c el) (gS i))):=by
 intro pins s σ H Dn I ⟨F0,F,en,fl,rs,z,k⟩
 obtain ⟨d,z1,z2⟩:=Q5 z
 obtain ⟨en',z3,rfl⟩:=Zv z2
 cases z3
 obtain ⟨ds,e1,e2⟩:=Q5 z1
 split at e2
 case isFalse=>cases e2
 case isTrue hlen =>
 obtain ⟨tot,e3,rfl⟩:=Zv e2
 rw [exec_Assign_Name_used _ _ _ _ hsw]
 refine wpAny_bind (wpAny_standAt (wpAny_bind ?_))
 show wpAny _ X.A (do let _ <- comprehension (.ListComp elt [⟨tg,iter,ifs,0⟩] scope pos) scope X.env _ (newList []) false (eval iter X.env) (some (assign (.Name x p) X.env))) _ _ s
 refine wpAny_bind (thn (Qi2 hx hc S hO hi hg ht he hs (use:=some (assign (.Name x p) X.env)) (Qv:=fun _ s'=>SP X pins Dn .next s') I rs e1 hlen e3 fun acc C s' H' F' xs m n1 I' fC hn gr fa ha r'=>?_) fun _ s' hq=>wpAny_pure (wpAny_pure hq))
 show wpAny _ X.A (assign (.Name x p) X.env (.ref acc)) _ _ s'
 refine wpAny_assign_Name (QiE I' hN hxi hlx (show RelV (.ref acc) (.ref acc) from rfl) (fun s'' I'' hch=>?_) hf)
 obtain ⟨a,sb,ha'⟩:=hch
 have hCa:C≠a:=by
  obtain ⟨_,f1,_,_,f4,_⟩:=fC
  rcases ha' with q | q
  ·rw [q];exact f1
  ·exact fun zz=>f4 x a q zz.symm
 have rs':=rs.grow gr
 refine ⟨m,hn.sameBut sb hCa,fun h' sb'=>⟨_,H',Qg7 I'' fC sb',k _ F' H' gr.ff (rs'.putO' (kk:=none) i (rs.hh.none n1) fa ha trivial r' (fun j d' hj q2 _ q=>?_) hq (fun j z=>by unfold Yi at z;omega))⟩⟩
 obtain ⟨p',_,ys,es,h1,_,_,h4,_⟩:=rs.own j d' q2 hj
 rw [h1] at q
 cases q
 rw [n1] at h4
 cases h4
end
end Wd
namespace Wd
open PySem PySem.Spec PyProof.Rows L2
theorem Qjv (cps:Array Nat) (i k:Nat):((List.range k).map fun m=>i+m).filterMap (cps[·]?)=(cps.toList.drop i).take k:=by
 rw [List.filterMap_map]
 induction k generalizing i with
 | zero=>simp
 | succ k ih =>
  rw [List.range_succ_eq_map,List.filterMap_cons,List.filterMap_map]
  have e0:((fun x=>cps[x]?)∘fun m=>i+m) 0=cps[i]?:=by simp
  have e1:(((fun x=>cps[x]?)∘fun m=>i+m)∘Nat.succ)=((fun x=>cps[x]?)∘fun m=>(i+1)+m):=by
   funext m;simp only [Function.comp];rw [show i+Nat.succ m=i+1+m by omega]
  rw [e0,e1,ih (i+1)]
  cases q:cps[i]? with
  | none =>
   have hz:cps.toList.length<=i:=by
    rcases Nat.lt_or_ge i cps.size with h | h
    ·rw [Array.getElem?_eq_getElem h] at q;cases q
    ·simpa using h
   rw [List.drop_eq_nil_of_le hz,List.drop_eq_nil_of_le (Nat.le_succ_of_le hz)];simp
  | some v =>
   have hi:i<cps.toList.length:=by
    rcases Nat.lt_or_ge i cps.size with h | h
    ·simpa using h
    ·rw [Array.getElem?_eq_none h] at q;cases q
   have hv:cps.toList[i]=v:=by
    have:cps.toList[i]?=some v:=by simpa using q
    rw [List.getElem?_eq_getElem hi] at this
    exact Option.some.inj this
   rw [List.drop_eq_getElem_cons hi,hv,List.take_succ_cons]
theorem QkJ (v:Option Int) (n d:Nat) (hd:d<=n):(match v with | none=>(d:Int) | some i=>max 0 (min (if i<0 then i+(n:Int) else i) (n:Int)))=((Ys n d v:Nat):Int):=by
 cases v with
 | none=>rfl
 | some i=>simp only [Ys];split<;>omega
theorem Qim (a b:Nat):sliceRange (a:Int) (b:Int) 1=(List.range (b-a)).map fun m=>a+m:=by
 unfold sliceRange
 simp only [show (1:Int) > 0 by decide,if_true]
 have hc:(if (a:Int)<(b:Int) then ((b:Int)-(a:Int)+1-1)/1 else 0).toNat=b-a:=by
  split
  ·rw [Int.ediv_one];omega
  ·omega
 rw [hc]
 apply List.map_congr_left
 intro m _
 omega
theorem Qn0 (lo hi:Option Int) (n:Nat):Builtin.Str.strSliceIndices lo hi 1 n=(List.range (Ys n n hi-Ys n 0 lo)).map fun m=>Ys n 0 lo+m:=by
 rw [<- Qim]
 unfold Builtin.Str.strSliceIndices
 simp only [show (1:Int) > 0 by decide,if_true]
 have h1:=QkJ lo n 0 (Nat.zero_le _)
 have h2:=QkJ hi n n (Nat.le_refl _)
 cases lo<;>cases hi<;>dsimp only at h1 h2 ⊢<;>rw [<- h1,<- h2]<;>rfl
theorem Qo3 (x:Str) (lo hi:Option Int):Txt.slice x lo hi=Qaq x lo hi:=by
 unfold Txt.slice Qaq ZY
 have hl:x.cps.toList.length=x.length:=by simp [Str.length]
 rw [Qn0,List.length_map,List.length_range,hl]
 split
 ·rename_i h
  have h':Ys x.length x.length hi-Ys x.length 0 lo=x.length:=by simpa using h
  have b1:Ys x.length x.length hi<=x.length:=by
   cases hi with
   | none=>exact Nat.le_refl _
   | some v=>simp only [Ys];split<;>omega
  by_cases z:x.length=0
  ·have:x.cps.toList=[]:=List.length_eq_zero_iff.mp (by rw [hl];exact z)
   obtain ⟨c⟩:=x
   have hc:c=#[]:=by simpa using this
   subst hc
   simp
  ·have b2:Ys x.length 0 lo=0:=by omega
   rw [h',b2,List.drop_zero,<- hl,List.take_length]
 ·rw [Qjv]
section
variable {X:Cx} {O:List Nat} {e a b:Expr} {pos:Pos}
def QvX:V->Option Int->Option Int->Hp->VK->Prop:=fun x lo hi H Q=>∃ z,x=.str z/\z.length<=sizeLine/\Q (.str (Qaq z lo hi)) H
theorem QmB {v:Value} {o:Option Int} (p:IsPart v o):∃ l:Option (Int×Tok),partValue l=v/\l.map (·.1)=o:=by
 cases p with
 | none=>exact ⟨none,rfl,rfl⟩
 | int i t=>exact ⟨some (i,t),rfl,rfl⟩
theorem QtK:SlR X QvX:=by
 intro pins s σ H x v vl vu lo hi sl Q I rx hs pl pu h
 obtain ⟨z,rfl,hz,q⟩:=h
 obtain ⟨t,rfl⟩:=(show ∃ t,v=Value.str z t from rx)
 obtain ⟨l,rfl,rfl⟩:=QmB pl
 obtain ⟨u,rfl,rfl⟩:=QmB pu
 refine ⟨"str",_,F.slot_str_getitem.lookup,typeIs_str _ _ _,wpAny_getItem_str_slice (l:=l) (u:=u) (st:=none) hs rfl ?_⟩
 have e:=Qo3 z (l.map (·.1)) (u.map (·.1))
 refine post_val_or_str ⟨?_,fun t' k=>?_⟩
 ·exact Nat.le_trans (Txt.slice_le z (l.map (·.1)) (u.map (·.1))) hz
 ·have:EP X pins σ Q (.str (Txt.slice z (l.map (·.1)) (u.map (·.1))) t') { s with toks:=k }:=by
   rw [e];exact ⟨.str (Qaq z _ _),H,I.tok k,⟨t',rfl⟩,q⟩
  exact this
theorem VI {ev:EvE} {lo hi:Option Expr} {el eh:EvO} {p2:Pos} (he:PE X e (tR X O ev)) (hl:PO X lo (tOI X O el)) (hu:PO X hi (tOI X O eh)):PE X (.Subscript e (.Slice lo hi none p2) pos) (tD X O (J1 ev el eh)) :=
 PE.imp (QqU (SlR.or QtK (SlR.or Qse QtJ)) he hl hu) fun σ H Q ⟨F0,F,en,d,rs,w,k⟩=>by
  obtain ⟨dx,e1,w1⟩:=Q5 w
  obtain ⟨l,u,e2,e3,e4⟩:=Qb3 w1
  refine ⟨F0,F,en,dx,rs,e1,fun x F1 H1 g1 r1=>?_⟩
  refine ⟨F0,F1,en,l,rs.grow g1,e2,fun F2 H2 g2=>?_⟩
  refine ⟨F0,F2,en,u,(rs.grow g1).grow g2,e3,fun F3 H3 g3=>?_⟩
  have g13:=(g1.trans g2).trans g3
  have r3:=(r1.gr g2).gr g3
  have s3:=g3.fh
  cases dx with
  | str z =>
   simp only [Zw] at e4
   split at e4
   ·rename_i hz
    cases e4
    exact .inl ⟨z,r3.str,by rw [Yl];exact hz,k _ F3 H3 g13 (.str _)⟩
   ·cases e4
  | lst ds =>
   cases e4
   obtain ⟨p,xs,rfl,h,r⟩:=r3.lst s3
   refine .inr (.inl ⟨p,xs,rfl,SqL.of h,fun q hq=>?_⟩)
   have g:=Gr.new s3 hq (.lst (QbQ xs l u))
   exact k _ _ _ (g13.trans g) (.lst Jb ((Qgw r l u).mono g.ff))
  | scr ns =>
   cases e4
   obtain ⟨p,rfl,h⟩:=r3.scr
   refine .inr (.inl ⟨p,_,rfl,s3.sqL h,fun q hq=>?_⟩)
   have g:=Gr.new s3 hq (.lst (QbQ (ns.map V.int) l u))
   have r:Reps X.K F3 (QbQ (ns.map V.int) l u) (ZY (ns.map D.int) l u):=Qgw (Reps.ints ns) l u
   have hc:ZY (ns.map D.int) l u=(ZY ns l u).map D.int:=by unfold ZY;rw [List.length_map,<- List.map_drop,<- List.map_take]
   rw [hc] at r
   exact k _ _ _ (g13.trans g) (.lst Jb (r.mono g.ff))
  | tup ds =>
   have e5:(if Ys ds.length 0 l=0/\Ys ds.length ds.length u=ds.length then none else some (D.tup (ZY ds l u)))=some d:=e4
   split at e5
   ·cases e5
   ·rename_i hw
    cases e5
    obtain ⟨p,xs,rfl,h,r⟩:=r3.tup
    refine .inr (.inr ⟨p,xs,rfl,SqT.of (s3 _ _ h),?_,fun q hq=>?_⟩)
    ·rw [r.length];exact hw
    ·have g:=Gr.new s3 hq (.tup (QbQ xs l u))
     exact k _ _ _ (g13.trans g) (.tup Jb ((Qgw r l u).mono g.ff))
  | _=>cases e4
def QtP:V->List V->Hp->VK->Prop:=fun x xs H Q=>∃ z,x=.str z/\xs=[]/\z.length<=sizeLine/\Q (.str (Txt.strip z)) H
theorem Qrc:MtR X "str.strip" QtP:=by
 intro pins s σ H x xs v us Q I rx rs h
 obtain ⟨z,rfl,rfl,hz,q⟩:=h
 obtain ⟨t,rfl⟩:=(show ∃ t,v=Value.str z t from rx)
 cases Vals.zero rs
 exact SCL.strip (fun t' k _=>⟨.str (Txt.strip z),H,I.tok k,⟨t',rfl⟩,q⟩) hz
theorem QkE {ev:EvE} {apos:Pos} (ha:PE X a (tR X O ev)) (hbase:attributeBase a "strip" X.env (eval a X.env)=eval a X.env:=by rfl) (hline:(apos.endLine==pos.line)=true:=by rfl):PE X (.Call (.Attribute a "strip" apos) [] [] pos) (tD X O (eUn D.strip ev)) :=
 PE.imp (Qt7 PySem.F.plainAttrs_str PySem.F.slot_str_strip PySem.F.type_str_strip Qrc ha hbase hline) fun σ H Q ⟨F0,F,en,d,rs,w,k⟩=>by
  obtain ⟨dx,e1,e2⟩:=Q5 w
  refine ⟨F0,F,en,dx,rs,e1,fun v F1 H1 g1 r1=>?_⟩
  cases dx with
  | str z =>
   simp only [D.strip] at e2
   split at e2
   ·rename_i hz
    cases e2
    rw [r1.str]
    exact ⟨rfl,z,rfl,rfl,by rw [Yl];exact hz,k _ F1 H1 g1 (.str _)⟩
   ·cases e2
  | _=>cases e2
theorem QiT (c:Array Nat):∀ (k:Nat) (acc:Array Nat),(List.replicate k c).foldl (·++·) acc=(acc.toList++(List.replicate k c.toList).flatten).toArray
 | 0,acc=>by simp
 | k+1,acc=>by rw [List.replicate_succ,List.foldl_cons,QiT c k,List.replicate_succ,List.flatten_cons];simp
theorem Qum (x:Str) (n:Int):Txt.mul x n=Z9 x n:=by
 unfold Txt.mul Z9
 split
 ·rename_i h
  rw [show n.toNat=0 by omega];rfl
 ·split
  ·rename_i h1 h2
   by_cases z:n=1
   ·subst z
    obtain ⟨c⟩:=x
    simp
   ·have hx:x.length=0:=by
     rcases Bool.or_eq_true _ _ |>.mp h2 with w | w
     ·exact absurd (eq_of_beq w) z
     ·exact eq_of_beq w
    obtain ⟨c⟩:=x
    have hc:c=#[]:=by simpa [Str.length] using hx
    subst hc
    simp
  ·rw [QiT];simp
def Qnv:R2:=fun x y H Q=>∃ z n,x=.str z/\y=.int n/\-1073741824<n/\n<1073741824/\z.length*n.toNat<=lI/\Q (.str (Z9 z n)) H
theorem QsD:OpR X (binaryOp .Mult) Qnv:=by
 intro pins s σ H x y v u Q I rx ry h
 obtain ⟨z,n,rfl,rfl,h1,h2,h3,q⟩:=h
 obtain ⟨t,rfl⟩:=(show ∃ t,v=Value.str z t from rx)
 obtain ⟨t2,rfl⟩:=(show ∃ t,u=Value.int n t from ry)
 have ok:MulOk z n:=by
  refine ⟨?_,fun hn hc=>?_,fun hn hc=>?_⟩
  ·rw [decide_eq_false (by omega),decide_eq_false (by omega)];rfl
  ·have hz:z.length<=lI:=by
    have:1<=n.toNat:=by omega
    exact Nat.le_trans (Nat.le_mul_of_pos_right _ this) h3
   have:(9223372036854775807:Int)/n ≥ 8589934591:=by
    apply Int.le_ediv_of_mul_le (by omega)
    omega
   have e:((2:Int)^63-1)=9223372036854775807:=by decide
   rw [e]
   unfold lI at hz
   omega
  ·have h4:z.length*n.toNat<=sizeLine:=by rw [Yl];exact h3
   unfold Builtin.Str.tooLong
   simpa using h4
 exact SB.mul ok fun t' k=>by rw [Qum];exact ⟨.str (Z9 z n),H,I.tok k,⟨t',rfl⟩,q⟩
theorem J3:OpR X (binaryOp .Mult) (fun x y H Q=>(rI CMul fun i j=>.int (i*j)) x y H Q\/(Qnv x y H Q\/Qqo x y H Q))/\Op2 X (fun x y H Q=>(rI CMul fun i j=>.int (i*j)) x y H Q\/(Qnv x y H Q\/Qqo x y H Q)) D.mulA:=by
 refine ⟨OpR.or QoD (OpR.or QsD Qub),fun F H x y dx dy d Q s rx ry e k=>?_⟩
 cases dx<;>cases dy<;>try (simp [D.mulA] at e;done)
 case int.int i j=>exact .inl (QsE.2 F H x y (.int i) (.int j) d Q s rx ry e k)
 case str.int z n =>
  simp only [D.mulA] at e
  split at e
  ·rename_i h
   cases e
   exact .inr (.inl ⟨z,n,rx.str,ry.int,h.1,h.2.1,h.2.2,k _ F H (.refl s) (.str _)⟩)
  ·cases e
 case lst.int ds n =>
  simp only [D.mulA] at e
  split at e
  ·rename_i h
   cases e
   obtain ⟨p,xs,rfl,hp,r⟩:=rx.lst s
   refine .inr (.inr ⟨p,n,xs,rfl,ry.int,hp,by omega,by omega,by rw [Yl,r.length];exact h.2.2,fun q hq=>?_⟩)
   have g:=Gr.new s hq (.lst (List.replicate n.toNat xs).flatten)
   have rr:Reps X.K F (List.replicate n.toNat xs).flatten (List.replicate n.toNat ds).flatten:=by
    generalize n.toNat=m
    induction m with
    | zero=>exact .nil
    | succ m ih=>rw [List.replicate_succ,List.replicate_succ,List.flatten_cons,List.flatten_cons];exact r.append ih
   exact k _ _ _ g (.lst Jb (rr.mono g.ff))
  ·cases e
end
end Wd
namespace Wd
open PySem PySem.Spec PyProof.Rows L2
section
variable {X:Cx} {O:List Nat} {e a b:Expr} {pos:Pos}
theorem QmR {K:Fg} {F H:Hp} {x:V} {d:D} (r:RdD K F H x d) (h:Zo d=true):Qbm x=true/\Rep K F x d:=by
 cases d with
 | non=>rw [r.non];exact ⟨rfl,.non⟩
 | bl b=>rw [r.bl];exact ⟨rfl,.bl b⟩
 | int i=>rw [r.int];exact ⟨rfl,.int i⟩
 | str z=>rw [r.str];exact ⟨rfl,.str z⟩
 | _=>cases h
theorem Qvt {K:Fg} {F:Hp} {x y:V} {dx dy:D} (rx:Rep K F x dx) (ry:Rep K F y dy) (hx:Zo dx=true) (hy:Zo dy=true):eqV y x=(D.eq dy dx==some true):=by
 cases rx with
 | non=>cases ry with
  | non=>rfl
  | bl q=>simp [D.eq,eqV]
  | int q=>simp [D.eq,eqV]
  | str q=>simp [D.eq,eqV]
  | _=>cases hy
 | bl p=>cases ry with
  | non=>simp [D.eq,eqV]
  | bl q=>cases p<;>cases q<;>rfl
  | int q =>
   have h:D.eq (.int q) (.bl p)=some (decide (q=b2i p)):=by rw [D.eq]
   rw [h]
   show (q==(if p then 1 else 0))=(some (decide (q=b2i p))==some true)
   by_cases z:q=b2i p
   ·rw [decide_eq_true z,z];unfold b2i;simp
   ·rw [decide_eq_false z]
    have:(q==(if p then 1 else 0))=false:=by
     apply beq_eq_false_iff_ne.mpr
     intro w;exact z w
    rw [this];rfl
  | str q=>simp [D.eq,eqV]
  | _=>cases hy
 | int p=>cases ry with
  | non=>simp [D.eq,eqV]
  | bl q =>
   have h:D.eq (.bl q) (.int p)=some (decide (b2i q=p)):=by rw [D.eq]
   rw [h]
   show ((if q then 1 else 0)==p)=(some (decide (b2i q=p))==some true)
   by_cases z:b2i q=p
   ·rw [decide_eq_true z,<- z];unfold b2i;simp
   ·rw [decide_eq_false z]
    have:((if q then 1 else 0)==p)=false:=by
     apply beq_eq_false_iff_ne.mpr
     intro w;exact z w
    rw [this];rfl
  | int q =>
   rw [QD]
   show (q==p)=(some (decide (q=p))==some true)
   by_cases z:q=p
   ·rw [decide_eq_true z,z,beq_self_eq_true];rfl
   ·rw [decide_eq_false z,beq_eq_false_iff_ne.mpr z];rfl
  | str q=>simp [D.eq,eqV]
  | _=>cases hy
 | str p=>cases ry with
  | non=>simp [D.eq,eqV]
  | bl q=>simp [D.eq,eqV]
  | int q=>simp [D.eq,eqV]
  | str q =>
   rw [QH]
   show (q==p)=(some (decide (q=p))==some true)
   by_cases z:q=p
   ·rw [decide_eq_true z,z,beq_self_eq_true];rfl
   ·rw [decide_eq_false z,beq_eq_false_iff_ne.mpr z];rfl
  | _=>cases hy
 | _=>cases hx
theorem Qnz {K:Fg} {F:Hp} {x:V} {dx:D} (rx:Rep K F x dx) (hx:Zo dx=true):∀ {ys:List V} {ds:List D},Reps K F ys ds->ds.all Zo=true->inV x ys=inD dx ds/\ys.all Qbm=true
 | _,_,.nil,_=>⟨rfl,rfl⟩
 | _,_,.cons h r,hd=>by
  rw [List.all_cons,Bool.and_eq_true] at hd
  obtain ⟨i1,i2⟩:=Qnz rx hx r hd.2
  refine ⟨?_,?_⟩
  ·unfold inV at i1 ⊢
   rw [List.any_cons,i1,Qvt rx h hx hd.1]
   rfl
  ·rw [List.all_cons,i2,(QmR (H:=F) (.inl h) hd.1).1];rfl
theorem QoE {neg:Bool} {op:CmpOp} {g:D->D->Option D} (hr:OpR X (compareOp op) (rIn X.K neg))
  (h1:∀ dx dy d,g dx dy=some d->∃ ys,(dy=.tup ys\/dy=.lst ys)/\Zo dx=true/\ys.all Zo=true/\d=.bl (if neg then !inD dx ys else inD dx ys)):OpR X (compareOp op) (rIn X.K neg)/\Op2 X (rIn X.K neg) g:=by
 refine ⟨hr,fun F H x y dx dy d Q s rx ry e k=>?_⟩
 obtain ⟨ys,hy,fx,fy,rfl⟩:=h1 dx dy d e
 obtain ⟨fv,rp⟩:=QmR rx fx
 rcases hy with rfl | rfl
 ·obtain ⟨p,xs,rfl,hp,r⟩:=ry.tup
  obtain ⟨i1,i2⟩:=Qnz rp fx r fy
  refine ⟨p,xs,rfl,.inr (SqT.of (s _ _ hp)),fv,i2,?_⟩
  rw [i1];exact k _ F H (.refl s) (.bl _)
 ·obtain ⟨p,xs,rfl,hp,r⟩:=ry.lst s
  obtain ⟨i1,i2⟩:=Qnz rp fx r fy
  refine ⟨p,xs,rfl,.inl (SqL.of hp),fv,i2,?_⟩
  rw [i1];exact k _ F H (.refl s) (.bl _)
theorem Qg1:OpR X (compareOp .In) (rIn X.K false)/\Op2 X (rIn X.K false) D.inO:=QoE Qpo fun dx dy d e=>by
 unfold D.inO at e
 split at e
 ·split at e
  ·rename_i ys h;cases e;exact ⟨ys,.inl rfl,h.1,h.2,rfl⟩
  ·cases e
 ·split at e
  ·rename_i ys h;cases e;exact ⟨ys,.inr rfl,h.1,h.2,rfl⟩
  ·cases e
 ·cases e
theorem QiI:OpR X (compareOp .NotIn) (rIn X.K true)/\Op2 X (rIn X.K true) D.notInO:=QoE Qle fun dx dy d e=>by
 unfold D.notInO at e
 split at e
 ·split at e
  ·rename_i ys h;cases e;exact ⟨ys,.inl rfl,h.1,h.2,rfl⟩
  ·cases e
 ·split at e
  ·rename_i ys h;cases e;exact ⟨ys,.inr rfl,h.1,h.2,rfl⟩
  ·cases e
 ·cases e
theorem Qm2 {x:Str} {p:Pos} {ev:EvE} (hg:Gl X x) (hm:X.mg x=none) (hv:bootBuiltins x=some (.type "list")) (ha:PE X a (tR X O ev)) (hn:x≠"__name__":=by decide) (hdb:(x==("__debug__":Str))=false:=by decide)
  (he:starEach [a] X.env=[(false,eval a X.env)]:=by rfl):PE X (.Call (.Name x p) [a] [] pos) (tO X O (eUn D.listOf ev)) :=
 PE.imp (QiH Qlz hg hm hv (QhO ha he) hn hdb he rfl) fun σ H Q ⟨F0,F,en,d,rs,w,k⟩=>by
  obtain ⟨dx,e1,e2⟩:=Q5 w
  refine ⟨F0,F,en,dx,rs,e1,fun v F1 H1 g1 r1=>?_⟩
  have fin:∀ (l:Addr) (xs:List V) (ds:List D),(SqL X.K H1 l xs\/SqT X.K H1 l xs)->Reps X.K F1 xs ds->d=.lst ds->∃ p ys,[V.ref l]=[.ref p]/\(SqL X.K H1 p ys\/SqT X.K H1 p ys)/\∀ l,H1 l=none->Q (.ref l) (upd H1 l (.lst ys)):=fun l xs ds hl r hd =>
   ⟨l,xs,rfl,hl,fun q hq=>k q none xs ds F1 _ (g1.trans (Gr.newO g1.fh hq (.lst xs))) (g1.hh.none hq) (g1.fh.none hq) Jb r hd trivial⟩
  cases dx with
  | lst ds=>cases e2;obtain ⟨l,xs,rfl,h,r⟩:=r1.lst g1.fh;exact fin l xs ds (.inl (SqL.of h)) r rfl
  | tup ds=>cases e2;obtain ⟨l,xs,rfl,h,r⟩:=r1.tup;exact fin l xs ds (.inr (SqT.of (g1.fh _ _ h))) r rfl
  | scr ns=>cases e2;obtain ⟨l,rfl,h⟩:=r1.scr;exact fin l _ _ (.inl (g1.fh.sqL h)) (Reps.ints ns) rfl
  | _=>cases e2
theorem Qmo {vs:List V} {us:List Value} (r:Vals vs us) {i:Nat} {u:Value} (h:us[i]?=some u):∃ v,vs[i]?=some v/\RelV v u:=by
 have hl:=r.length
 rcases Nat.lt_or_ge i vs.length with hi | hi
 ·obtain ⟨u',h1,h2⟩:=r.get (List.getElem?_eq_getElem hi)
  rw [h] at h1
  cases h1
  exact ⟨_,List.getElem?_eq_getElem hi,h2⟩
 ·rw [List.getElem?_eq_none (by omega)] at h;cases h
theorem QmO {ns:List Int} {us:List Value} (r:Vals (ns.map V.int) us) {i:Nat} {u:Value} (h:us.toArray[i]?=some u):∃ t,u=Value.int (ns.getD i 0) t:=by
 obtain ⟨v,h1,h2⟩:=Qmo r (by simpa using h)
 rw [List.getElem?_map] at h1
 cases q:ns[i]? with
 | none=>rw [q] at h1;cases h1
 | some n =>
  rw [q] at h1
  cases h1
  obtain ⟨t,rfl⟩:=(show ∃ t,u=Value.int n t from h2)
  exact ⟨t,by rw [List.getD_eq_getElem?_getD,q];rfl⟩
theorem QeZ {pins:List (Addr×Obj)} {σ:L2.St} {H:Hp} {s:Shared} {l:Addr} {us:List Value} {A:Around} {E:Value->Shared->Prop} {Q:Value->Shared->Prop} (I:Inv X pins σ H s) (hh:A.handled=none) (hp:PlainL s.heap l us.toArray)
  (h:∀ s₂:Shared,Walks X.prog X.w A s.heap.objs.size [s.heap.objs.size,l] [s.heap.objs.size] us.toArray.size (fun i v=>us.toArray[i]?=some v) (fun i h=>h.IsListIter s.heap.objs.size l i/\h.IsList l us.toArray) ->
   (s₂.heap.IsListIter s.heap.objs.size l 0/\s₂.heap.IsList l us.toArray)->(∀ b∈[s.heap.objs.size,l],b<s₂.heap.objs.size) ->
   (∀ (h':Heap) (tk:Nat),(∀ b o,b∉[s.heap.objs.size]->s₂.heap.get? b=some o->h'.get? b=some o)->Inv X pins σ H { s₂ with heap:=h',toks:=tk })->Q (.ref s.heap.objs.size) s₂) :
  wpAny (model X.prog X.w) A (pyIter (.ref l)) Q E s:=by
 have hlt:l<s.heap.objs.size:=by obtain ⟨_,_,e,_⟩:=hp;exact Heap.lt_size e
 refine wpAny_pyIter_list hp.isList (h _ (Walks.list hh _ l (Nat.ne_of_lt hlt) us.toArray) ⟨⟨_,Heap.get?_push_size _ rfl,rfl,rfl⟩,hp.isList.push _⟩ (fun b hb=>?_) fun h' tk hk=>?_)
 ·show b<(s.heap.push _).objs.size
  rw [Heap.size_push]
  rcases List.mem_cons.mp hb with rfl | hb
  ·exact Nat.lt_succ_self _
  ·rw [List.mem_singleton.mp hb];exact Nat.lt_succ_of_lt hlt
 ·exact I.kept (t':=tk) fun b u e=>hk b u (fun z=>by
   rw [List.mem_singleton.mp z] at e
   exact absurd (Heap.lt_size e) (Nat.lt_irrefl _)) (Heap.get?_push_of_some _ e)
theorem Qqe (hc:X.calm=true):CallR X (.builtin "max") (fun xs H Q=>∃ (l:Addr) (n:Int) (ns:List Int),xs=[.ref l]/\SqL X.K H l ((n::ns).map V.int)/\Q (.int (J7 n ns)) H):=by
 intro pins s σ H xs us Q I r ⟨l,n,ns,hx,hq,q⟩
 subst hx
 obtain ⟨u,rfl,rx⟩:=Qbj r
 cases rx
 obtain ⟨its,rv,pl,hz⟩:=I.list hq
 refine call_max_walk (QeZ I (I.ok.hd hc) pl fun s₂ W st hfp back=>?_)
 have hval:∀ i v,its.toArray[i]?=some v->∃ t,v=Value.int ((n::ns).getD i 0) t:=fun i v h=>QmO rv h
 have hl:=rv.length
 rw [List.length_map] at hl
 refine ⟨_,_,_,_,_,_,_,rfl,W,st,hfp,?_,CmpOf.ints_gt (fun i=>(n::ns).getD i 0) hval,fun v h' tk hP hk=>?_⟩
 ·rw [List.size_toArray,<- hl];exact Nat.succ_pos _
 ·obtain ⟨t,rfl⟩:=hval _ _ hP
  obtain ⟨b1,b2⟩:=argBest_gt (fun i=>(n::ns).getD i 0) (its.toArray.size-1)
  obtain ⟨m1,m2,m3⟩:=QbG ns n
  generalize argBest (fun i j=>decide ((n::ns).getD i 0 > (n::ns).getD j 0)) (its.toArray.size-1)=k at b1 b2 ⊢
  have hsz:its.toArray.size=ns.length+1:=by rw [List.size_toArray,<- hl];rfl
  have e:(n::ns).getD k 0=J7 n ns:=by
   apply Int.le_antisymm
   ·cases k with
    | zero=>exact m2
    | succ k =>
     have hk':k<ns.length:=by omega
     show ns.getD k 0<=_
     rw [List.getD_eq_getElem?_getD,List.getElem?_eq_getElem hk']
     exact m3 _ (List.getElem_mem hk')
   ·rcases m1 with w | w
    ·rw [w];exact b2 0 (Nat.zero_le _)
    ·obtain ⟨j,hj,e⟩:=List.getElem_of_mem w
     have:=b2 (j+1) (by omega)
     rw [show (n::ns).getD (j+1) 0=ns.getD j 0 from rfl,List.getD_eq_getElem?_getD,List.getElem?_eq_getElem hj] at this
     rw [<- e];exact this
  rw [e]
  exact ⟨.int (J7 n ns),H,back h' tk hk,⟨t,rfl⟩,q⟩
theorem QbK (hc:X.calm=true):CallR X (.builtin "max") (fun xs H Q=>∃ (l:Addr) (n:Int) (ns:List Int),xs=[.ref l]/\SqL X.K H l ((n::ns).map V.int)/\Q (.int (J7 n ns)) H)/\C1 X (fun xs H Q=>∃ (l:Addr) (n:Int) (ns:List Int),xs=[.ref l]/\SqL X.K H l ((n::ns).map V.int)/\Q (.int (J7 n ns)) H) D.maxL:=by
 refine ⟨Qqe hc,fun F H x dx d Q s rx e k=>?_⟩
 cases dx with
 | lst ds =>
  simp only [D.maxL] at e
  split at e
  ·rename_i n ns q
   cases e
   obtain ⟨l,xs,rfl,h,r⟩:=rx.lst s
   have:=r.intsOf q
   subst this
   exact ⟨l,n,ns,rfl,SqL.of h,k _ F H (.refl s) (.int _)⟩
  ·cases e
 | _=>cases e
theorem QfN (ns:List Int):∀ k,k<=ns.length->preSum (fun i=>ns.getD i 0) k=(ns.take k).sum
 | 0,_=>by simp [preSum]
 | k+1,h=>by
  rw [preSum,QfN ns k (by omega),List.take_succ,List.getElem?_eq_getElem (by omega),List.sum_append]
  simp [List.getElem?_eq_getElem (show k<ns.length by omega)]
theorem Qqc (hc:X.calm=true):CallR X (.builtin "sum") (fun xs H Q=>∃ (l:Addr) (ns:List Int),xs=[.ref l]/\SqL X.K H l (ns.map V.int)/\Q (.int ns.sum) H):=by
 intro pins s σ H xs us Q I r ⟨l,ns,hx,hq,q⟩
 subst hx
 obtain ⟨u,rfl,rx⟩:=Qbj r
 cases rx
 obtain ⟨its,rv,pl,hz⟩:=I.list hq
 refine call_sum_walkAnyS (QeZ I (I.ok.hd hc) pl fun s₂ W st hfp back=>?_)
 have hval:∀ i v,its.toArray[i]?=some v->∃ t,v=Value.int (ns.getD i 0) t:=fun i v h=>QmO rv h
 have hl:=rv.length
 rw [List.length_map] at hl
 refine ⟨_,_,_,_,_,_,_,(fun i=>ns.getD i 0),rfl,W.toS,st,hfp,hval,fun s' t' mv=>?_⟩
 have e:preSum (fun i=>ns.getD i 0) its.toArray.size=ns.sum:=by rw [List.size_toArray,<- hl,QfN ns ns.length (Nat.le_refl _),List.take_length]
 rw [e]
 have I':=back s'.heap s'.toks mv.heap
 have es:({ s₂ with heap:=s'.heap,toks:=s'.toks }:Shared)=s':=by
  obtain ⟨h',g',d',t',o'⟩:=s'
  have m1:g'=s₂.gens:=mv.gens
  have m2:d'=s₂.drawn:=mv.drawn
  have m3:o'=s₂.os:=mv.os
  subst m1 m2 m3
  rfl
 rw [es] at I'
 exact ⟨.int ns.sum,H,I',⟨t',rfl⟩,q⟩
theorem Qqd (hc:X.calm=true):CallR X (.builtin "sum") (fun xs H Q=>∃ (l:Addr) (ns:List Int),xs=[.ref l]/\SqL X.K H l (ns.map V.int)/\Q (.int ns.sum) H)/\C1 X (fun xs H Q=>∃ (l:Addr) (ns:List Int),xs=[.ref l]/\SqL X.K H l (ns.map V.int)/\Q (.int ns.sum) H) D.sumL:=by
 refine ⟨Qqc hc,fun F H x dx d Q s rx e k=>?_⟩
 cases dx with
 | lst ds =>
  obtain ⟨ns,q,rfl⟩:=Zv e
  obtain ⟨l,xs,rfl,h,r⟩:=rx.lst s
  have:=r.intsOf q
  subst this
  exact ⟨l,ns,rfl,SqL.of h,k _ F H (.refl s) (.int _)⟩
 | _=>cases e
theorem QkL {K:Fg} {F:Hp}:∀ {vs:List V} {ds:List D} {bs:List Bool},Reps K F vs ds->VL ds=some bs->vs=bs.map V.bl
 | _,_,bs,.nil,e=>by cases e;rfl
 | _,_,bs,.cons (d:=d) h r,e=>by
  cases h with
  | bl i =>
   simp only [VL] at e
   cases q:VL _ with
   | none=>rw [q] at e;cases e
   | some ms =>
    rw [q] at e
    cases e
    rw [QkL r q];rfl
  | _=>simp [VL] at e
theorem Qjc (bs:List Bool):∀ k,k<=bs.length->(List.range k).any (fun i=>bs.getD i false)=(bs.take k).any id
 | 0,_=>by simp
 | k+1,h=>by
  rw [List.range_succ,List.any_append,Qjc bs k (by omega),List.take_succ,List.getElem?_eq_getElem (by omega),List.any_append]
  simp [List.getElem?_eq_getElem (show k<bs.length by omega)]
theorem Qqh (hc:X.calm=true):CallR X (.builtin "any") (fun xs H Q=>∃ (l:Addr) (bs:List Bool),xs=[.ref l]/\SqL X.K H l (bs.map V.bl)/\Q (.bl (bs.any id)) H):=by
 intro pins s σ H xs us Q I r ⟨l,bs,hx,hq,q⟩
 subst hx
 obtain ⟨u,rfl,rx⟩:=Qbj r
 cases rx
 obtain ⟨its,rv,pl,hz⟩:=I.list hq
 refine call_any_walk (QeZ I (I.ok.hd hc) pl fun s₂ W st hfp back=>?_)
 have hval:∀ i v,its.toArray[i]?=some v->v=Value.bool (bs.getD i false):=fun i v h=>by
  obtain ⟨w,h1,h2⟩:=Qmo rv (by simpa using h)
  rw [List.getElem?_map] at h1
  cases q:bs[i]? with
  | none=>rw [q] at h1;cases h1
  | some n =>
   rw [q] at h1
   cases h1
   rw [show v=Value.bool n from h2,List.getD_eq_getElem?_getD,q];rfl
 have hl:=rv.length
 rw [List.length_map] at hl
 refine ⟨_,_,_,_,_,_,(fun i=>bs.getD i false),rfl,W,st,fun i v s3 Q3 E3 hP hQ=>?_,fun h' tk hk=>?_⟩
 ·rw [hval i v hP];exact wpAny_truthy_bool hQ
 ·have e:(List.range its.toArray.size).any (fun i=>bs.getD i false)=bs.any id:=by rw [List.size_toArray,<- hl,Qjc bs bs.length (Nat.le_refl _),List.take_length]
  rw [e]
  exact ⟨.bl (bs.any id),H,back h' tk hk,rfl,q⟩
theorem Qqi (hc:X.calm=true):CallR X (.builtin "any") (fun xs H Q=>∃ (l:Addr) (bs:List Bool),xs=[.ref l]/\SqL X.K H l (bs.map V.bl)/\Q (.bl (bs.any id)) H)/\C1 X (fun xs H Q=>∃ (l:Addr) (bs:List Bool),xs=[.ref l]/\SqL X.K H l (bs.map V.bl)/\Q (.bl (bs.any id)) H) D.anyL:=by
 refine ⟨Qqh hc,fun F H x dx d Q s rx e k=>?_⟩
 cases dx with
 | lst ds =>
  obtain ⟨bs,q,rfl⟩:=Zv e
  obtain ⟨l,xs,rfl,h,r⟩:=rx.lst s
  have:=QkL r q
  subst this
  exact ⟨l,bs,rfl,SqL.of h,k _ F H (.refl s) (.bl _)⟩
 | _=>cases e
end
end Wd
namespace Wd
open PySem PySem.Spec PyProof.Rows L2
theorem Vw {X:Cx} {O O' OL:List Nat} {w:Bool} {st:Stmt}:PS X st (tS X O O' OL w Vb):=fun _ _ _ _ _ _ ⟨_,_,_,_,_,z,_⟩=>by cases z
def J0 (osc:Scope) (oN:List Str) (scope:Scope) (n:Nat) (N':List Str) (caps:List Nat):Bool :=
 scope.kind==.function&&scope.names.all (fun y=>y.2 != .cell)&&scope.names.all (fun x=>x.2 != .local||scope.names.lookup x.1==some .local) &&
 scope.names.all (fun x=>x.2 != .free||osc.names.lookup x.1==some .cell||osc.names.lookup x.1==some .free)&&N'.length==n+caps.length &&
 (List.range caps.length).all (fun j=>match caps[j]?,N'[n+j]? with
  | some i,some x=>oN[i]?==some x&&scope.names.lookup x==some .free
  | _,_=>false)&&decide N'.Nodup
theorem Jf {X:Cx} {scope:Scope} {n:Nat} {N':List Str} {caps:List Nat} (h:J0 X.env.scope X.N scope n N' caps=true):CompSc X scope n N' caps:=by
 unfold J0 at h
 simp only [Bool.and_eq_true,decide_eq_true_eq,beq_iff_eq,List.all_eq_true] at h
 obtain ⟨⟨⟨⟨⟨⟨h1,h2⟩,h3⟩,h4⟩,h5⟩,h6⟩,h7⟩:=h
 refine ⟨h1,fun y hy z=>?_,fun x hx z=>?_,fun x hx z=>?_,h5,fun j i hj=>?_,h7⟩
 ·have:=h2 y hy
  rw [z] at this
  simp at this
 ·have:=h3 x hx
  rw [z] at this
  simpa using this
 ·have:=h4 x hx
  rw [z] at this
  have q:List.lookup x.1 X.env.scope.names=some NameKind.cell\/List.lookup x.1 X.env.scope.names=some NameKind.free:=by simpa using this
  exact q
 ·have hl:j<caps.length:=by
   rcases Nat.lt_or_ge j caps.length with w | w
   ·exact w
   ·rw [List.getElem?_eq_none w] at hj;cases hj
  have:=h6 j (List.mem_range.mpr hl)
  rw [hj] at this
  cases q:N'[n+j]? with
  | none=>rw [q] at this;cases this
  | some x =>
   rw [q] at this
   simp only [Bool.and_eq_true,beq_iff_eq] at this
   exact ⟨x,rfl,this.1,this.2⟩
end Wd
namespace Wd
open PySem
section
variable {es:List Expr} {env:Env}
theorem QlH {a b c}:starEach (.Constant a b c::es) env=(false,eval (.Constant a b c) env)::starEach es env:=rfl
theorem ZJ {a b}:starEach (.Name a b::es) env=(false,eval (.Name a b) env)::starEach es env:=rfl
theorem QqI {a b c d}:starEach (.BinOp a b c d::es) env=(false,eval (.BinOp a b c d) env)::starEach es env:=rfl
theorem QnI {a b c d}:starEach (.Compare a b c d::es) env=(false,eval (.Compare a b c d) env)::starEach es env:=rfl
theorem QhU {a b c d}:starEach (.Call a b c d::es) env=(false,eval (.Call a b c d) env)::starEach es env:=rfl
theorem Qfg {a b c}:starEach (.Subscript a b c::es) env=(false,eval (.Subscript a b c) env)::starEach es env:=rfl
theorem Qsg {a b}:starEach (.List a b::es) env=(false,eval (.List a b) env)::starEach es env:=rfl
theorem QqH {a b c}:starEach (.Tuple a b c::es) env=(false,eval (.Tuple a b c) env)::starEach es env:=rfl
theorem QlG {a b c d}:starEach (.ListComp a b c d::es) env=(false,eval (.ListComp a b c d) env)::starEach es env:=rfl
end
end Wd
namespace Wd
open PySem PySem.Spec PyProof.Rows L2
section
variable {X:Cx} {O:List Nat} {es:List Expr} {l:EvL} {ea:EvE}
theorem Dk {a b c} (ha:PE X (.Constant a b c) (tD X O ea)) (hr:PA X es (tL X O l)):PA X (.Constant a b c::es) (tL X O (lC ea l)):=VJ ha hr QlH
theorem Qh9 {a b} (ha:PE X (.Name a b) (tD X O ea)) (hr:PA X es (tL X O l)):PA X (.Name a b::es) (tL X O (lC ea l)):=VJ ha hr ZJ
theorem Db {a b c d} (ha:PE X (.BinOp a b c d) (tD X O ea)) (hr:PA X es (tL X O l)):PA X (.BinOp a b c d::es) (tL X O (lC ea l)):=VJ ha hr QqI
theorem Qn4 {a b c d} (ha:PE X (.Compare a b c d) (tD X O ea)) (hr:PA X es (tL X O l)):PA X (.Compare a b c d::es) (tL X O (lC ea l)):=VJ ha hr QnI
theorem Dl {a b c d} (ha:PE X (.Call a b c d) (tD X O ea)) (hr:PA X es (tL X O l)):PA X (.Call a b c d::es) (tL X O (lC ea l)):=VJ ha hr QhU
theorem Du {a b c} (ha:PE X (.Subscript a b c) (tD X O ea)) (hr:PA X es (tL X O l)):PA X (.Subscript a b c::es) (tL X O (lC ea l)):=VJ ha hr Qfg
theorem Vj {a b} (ha:PE X (.List a b) (tD X O ea)) (hr:PA X es (tL X O l)):PA X (.List a b::es) (tL X O (lC ea l)):=VJ ha hr Qsg
theorem Dt {a b c} (ha:PE X (.Tuple a b c) (tD X O ea)) (hr:PA X es (tL X O l)):PA X (.Tuple a b c::es) (tL X O (lC ea l)):=VJ ha hr QqH
theorem Qbt {a b c d} (ha:PE X (.ListComp a b c d) (tD X O ea)) (hr:PA X es (tL X O l)):PA X (.ListComp a b c d::es) (tL X O (lC ea l)):=VJ ha hr QlG
end
end Wd
namespace Wd
theorem QeU {n:Nat} {l:EvL} (h:∀ (e:Qq) (d:List D),l e=some d->d.length<=n) (hn:n<=lI):∀ (e:Qq) (d:List D),l e=some d->d.length<=lI:=fun e d w=>Nat.le_trans (h e d w) hn
theorem lz0:∀ (e:Qq) (d:List D),lN e=some d->d.length<=lI:=QeU (n:=0) Qcv (by decide)
theorem lz1 {p:EvE}:∀ (e:Qq) (d:List D),(lC p lN) e=some d->d.length<=lI:=QeU (n:=1) (Z3 Qcv) (by decide)
theorem lz2 {p q:EvE}:∀ (e:Qq) (d:List D),(lC p (lC q lN)) e=some d->d.length<=lI:=QeU (n:=2) (Z3 (Z3 Qcv)) (by decide)
theorem lz3 {p q r:EvE}:∀ (e:Qq) (d:List D),(lC p (lC q (lC r lN))) e=some d->d.length<=lI:=QeU (n:=3) (Z3 (Z3 (Z3 Qcv))) (by decide)
theorem lz4 {p q r t:EvE}:∀ (e:Qq) (d:List D),(lC p (lC q (lC r (lC t lN)))) e=some d->d.length<=lI:=QeU (n:=4) (Z3 (Z3 (Z3 (Z3 Qcv)))) (by decide)
open PySem PySem.Spec PyProof.Rows L2
end Wd
namespace Wd
open PySem PySem.Spec PyProof.Rows L2
theorem _root_.L2.Room.units1 {k:Nat} {A:Around} (r:Room k A):A.units+1<cLine:=by have:=r.units;omega
theorem Qgf {K:Fg} {F:Hp} (k:Kd):∀ {ks:List Kd} {xs:List V} {ds:List D},ks.length=xs.length->Reps K F xs ds->(Qc6 ks ds k=none/\Vm (ks.zip xs) k=none/\hasK k ks=false)\/∃ d v,Qc6 ks ds k=some d/\Vm (ks.zip xs) k=some v/\Rep K F v d/\hasK k ks=true
 | [],xs,ds,_,_=>.inl ⟨by cases ds<;>rfl,rfl,rfl⟩
 | c::ks,[],_,h,_=>by cases h
 | c::ks,x::xs,_,h,.cons (d:=d) (ds:=ds) hx r=>by
  by_cases z:c=k
  ·right
   exact ⟨d,x,by show (if c=k then some d else _)=_;rw [if_pos z],QdX (p:=(c,x)) z,hx,by simp [hasK,z]⟩
  ·have e1:Qc6 (c::ks) (d::ds) k=Qc6 ks ds k:=by show (if c=k then some d else _)=_;rw [if_neg z]
   have e2:Vm ((c::ks).zip (x::xs)) k=Vm (ks.zip xs) k:=QdY (p:=(c,x)) z
   rw [e1,e2]
   rcases Qgf k (by simpa using h) r with ⟨a,b,c'⟩ | ⟨d',v',a,b,c',m⟩
   ·refine .inl ⟨a,b,?_⟩
    show (decide (c=k)||hasK k ks)=false
    rw [c',decide_eq_false z];rfl
   ·refine .inr ⟨d',v',a,b,c',?_⟩
    show (decide (c=k)||hasK k ks)=true
    rw [m,Bool.or_true]
theorem Qnc (k:Kd):∀ {ks:List Kd} {xs:List V},ks.length=xs.length->((ks.zip xs).any fun kv=>decide (kv.1=k))=hasK k ks
 | [],_,_=>by simp [hasK]
 | c::ks,[],h=>by cases h
 | c::ks,x::xs,h=>by
  rw [List.zip_cons_cons,List.any_cons,Qnc k (by simpa using h)]
  rfl
def Qf6:List Kd->List V->Kd->V->List V
 | c::ks,x::xs,k,v=>(if c=k then v else x)::Qf6 ks xs k v
 | _,_,_,_=>[]
theorem Qmw {K:Fg} {F:Hp} (k:Kd) {v:V} {d:D} (hv:Rep K F v d):∀ {ks:List Kd} {xs:List V} {ds:List D},ks.length=xs.length->Reps K F xs ds ->
  (ks.zip xs).map (fun kv=>if kv.1=k then (kv.1,v) else kv)=ks.zip (Qf6 ks xs k v)/\ks.length=(Qf6 ks xs k v).length/\Reps K F (Qf6 ks xs k v) (Qnp ks ds k d)
 | [],xs,ds,_,_=>⟨by simp,rfl,by cases ds<;>exact .nil⟩
 | c::ks,[],_,h,_=>by cases h
 | c::ks,x::xs,_,h,.cons (d:=d0) (ds:=ds) hx r=>by
  obtain ⟨a,b,c'⟩:=Qmw k hv (ks:=ks) (xs:=xs) (by simpa using h) r
  refine ⟨?_,?_,?_⟩
  ·show (if c=k then (c,v) else (c,x))::(ks.zip xs).map _=(c,if c=k then v else x)::ks.zip (Qf6 ks xs k v)
   rw [a]
   by_cases z:c=k
   ·rw [if_pos z,if_pos z]
   ·rw [if_neg z,if_neg z]
  ·show ks.length+1=(Qf6 ks xs k v).length+1
   rw [b]
  ·refine .cons ?_ c'
   by_cases z:c=k
   ·rw [if_pos z,if_pos z];exact hv
   ·rw [if_neg z,if_neg z];exact hx
theorem Reps.snoc {K:Fg} {F:Hp} {xs:List V} {ds:List D} {v:V} {d:D} (r:Reps K F xs ds) (h:Rep K F v d):Reps K F (xs++[v]) (ds++[d]):=r.append (.cons h .nil)
theorem Qsq {K:Fg} {F:Hp} {k:Kd} {v:V} {d:D} (hv:Rep K F v d) {ks:List Kd} {xs:List V} {ds:List D} (hl:ks.length=xs.length) (r:Reps K F xs ds) :
  ∃ ks' xs' ds',HO.dK (V7 (ks.zip xs) k v)=ho (some ks') xs'/\Qar (some ks') xs'/\Reps K F xs' ds'/\QeL ks ds k d=dOf (some ks') ds':=by
 unfold V7 QeL
 rw [Qnc k hl]
 by_cases z:hasK k ks=true
 ·obtain ⟨a,b,c⟩:=Qmw k hv hl r
  refine ⟨ks,Qf6 ks xs k v,Qnp ks ds k d,?_,b,c,?_⟩
  ·rw [if_pos z,a];rfl
  ·rw [if_pos z];rfl
 ·refine ⟨ks++[k],xs++[v],ds++[d],?_,?_,r.snoc hv,?_⟩
  ·rw [if_neg z]
   show HO.dK (ks.zip xs++[(k,v)])=.dK ((ks++[k]).zip (xs++[v]))
   rw [List.zip_append hl];rfl
  ·show (ks++[k]).length=(xs++[v]).length
   rw [List.length_append,List.length_append,hl];rfl
  ·rw [if_neg z];rfl
theorem QjS {K:Fg} {F H:Hp} {v:V} {d:D} {k:Kd} (r:RdD K F H v d) (h:kOf d=some k):v=kV k:=by
 cases d with
 | str x=>cases h;exact r.str
 | int i=>cases h;exact r.int
 | _=>cases h
section
variable {X:Cx} {O O' OL:List Nat} {w:Bool} {e a b:Expr} {pos:Pos}
theorem Qm3:PE X (.Dict [] [] pos) (tO X O (eC (.dic [] []))):=PE.imp QqW fun σ H Q ⟨F0,F,en,d,rs,z,k⟩=>by
 cases z
 intro p hp
 exact k p (some []) [] [] F _ (Gr.newO rs.fh hp (.dK [])) hp (rs.fh.none hp) Jb .nil rfl rfl
theorem Qtf {ea eb:EvE} (hu:X.A.units+1<cLine) (ha:PE X a (tR X O ea)) (hb:PE X b (tR X O eb)) (hs:Qqx b:=by intro _ _;rfl):PE X (.Subscript a b pos) (tD X O (eOp D.dget ea eb)) :=
 PE.imp (QsA hu ha hb hs) fun σ H Q ⟨F0,F,en,d,rs,z,k⟩=>by
  obtain ⟨dx,dy,e1,e2,e3⟩:=Qb3 z
  refine ⟨F0,F,en,dx,rs,e1,fun x F1 H1 g1 r1=>⟨F0,F1,en,dy,rs.grow g1,e2,fun y F2 H2 g2 r2=>?_⟩⟩
  cases dx with
  | dic ks ds =>
   obtain ⟨kk,q1,q2⟩:=Q5 (show ((kOf dy).bind fun k=>Qc6 ks ds k)=some d from e3)
   obtain ⟨p,xs,rfl,h,hl,rp⟩:=(r1.gr g2).dic g2.fh
   rcases Qgf kk hl rp with ⟨n,_⟩ | ⟨d',v',a1,a2,a3,_⟩
   ·rw [n] at q2;cases q2
   ·rw [a1] at q2;cases q2
    refine ⟨p,v',rfl,?_,k v' F2 H2 (g1.trans g2) a3⟩
    rw [QjS r2 q1,<- a2]
    exact .inl ⟨_,_,h,rfl,rfl⟩
  | _=>cases e3
theorem Qr3 {ea eb:EvE} {g:Bool->Bool} {f:D->D->Option D} (hf:∀ y d r,f y d=some r->∃ ks ds k,d=.dic ks ds/\kOf y=some k/\r=.bl (g (hasK k ks))) {σ:L2.St} {H:Hp} {Q:Bool->Hp->Prop} (h:tDT X O (eOp f ea eb) σ H Q) :
  tR X O ea σ H fun y H1=>tR X O eb σ H1 fun x H2=>∃ a o,x=.ref a/\DGet H2 a y o/\∃ d,V.bl (g o.isSome)=.bl d/\Q d H2:=by
 obtain ⟨F0,F,en,b,rs,z,k⟩:=h
 obtain ⟨dy,dx,e1,e2,e3⟩:=Qb3 z
 obtain ⟨ks,ds,kk,rfl,q1,q2⟩:=hf _ _ _ e3
 refine ⟨F0,F,en,dy,rs,e1,fun y F1 H1 g1 r1=>⟨F0,F1,en,_,rs.grow g1,e2,fun x F2 H2 g2 r2=>?_⟩⟩
 obtain ⟨p,xs,rfl,h,hl,rp⟩:=r2.dic g2.fh
 refine ⟨p,Vm (ks.zip xs) kk,rfl,?_,?_⟩
 ·rw [QjS (r1.gr g2) q1];exact .inl ⟨_,_,h,rfl,rfl⟩
 ·have:(Vm (ks.zip xs) kk).isSome=hasK kk ks:=by
   rcases Qgf kk hl rp with ⟨_,n,m⟩ | ⟨d',v',_,a2,_,m⟩
   ·rw [n,m];rfl
   ·rw [a2,m];rfl
  rw [this]
  cases q2
  exact ⟨_,rfl,k F2 H2 (g1.trans g2)⟩
theorem QuH {ea eb:EvE} (hu:X.A.units+1<cLine) (ha:PE X a (tR X O ea)) (hb:PE X b (tR X O eb)) (hm:behindInMarks .In b=false:=by with_unfolding_all rfl):PT X (.Compare a [.In] [b] pos) (tDT X O (eOp D.dIn ea eb)) :=
 PT.imp (Qoz (Qt9 hu ha hb) hm) fun σ H Q h=>by
  have q:=Qr3 (g:=id) (fun y d r e=>by
   cases d with
   | dic ks ds=>obtain ⟨k,e1,rfl⟩:=Zv (show ((kOf y).map fun k=>D.bl (hasK k ks))=some r from e);exact ⟨ks,ds,k,rfl,e1,rfl⟩
   | _=>cases e) h
  exact q
theorem QpV {ea eb:EvE} (hu:X.A.units+1<cLine) (ha:PE X a (tR X O ea)) (hb:PE X b (tR X O eb)) (hm:behindInMarks .NotIn b=false:=by with_unfolding_all rfl):PT X (.Compare a [.NotIn] [b] pos) (tDT X O (eOp D.dNotIn ea eb)) :=
 PT.imp (Qoz (Qpn hu ha hb) hm) fun σ H Q h=>by
  have q:=Qr3 (g:=not) (fun y d r e=>by
   cases d with
   | dic ks ds=>obtain ⟨k,e1,rfl⟩:=Zv (show ((kOf y).map fun k=>D.bl (!hasK k ks))=some r from e);exact ⟨ks,ds,k,rfl,e1,rfl⟩
   | _=>cases e) h
  exact q
theorem Qh7 (i:Nat) (hi:i∈O) {x:Str} {p pos':Pos} {v key:Expr} {ek ev:EvE} (hu:X.A.units+1<cLine) (hk:PE X key (tR X O ek)) (hv:PE X v (tD X O ev)) (hN:X.N[i]?=some x:=by rfl) (hvis:Vis X.env.scope x:=by first | exact Or.inl rfl | exact Or.inr (Or.inl rfl) | exact Or.inr (Or.inr rfl)) (hd:(x==("__debug__":Str))=false:=by decide) (hcd:(x==("__classdict__":Str))=false:=by decide)
  (hs:swapsWith v (some (.Subscript (.Name x p) key pos')) pos.line X.env=pure false:=by rfl):PS X (.Assign [.Subscript (.Name x p) key pos'] v pos) (tS X O O OL w (QdT i ek ev)) :=
 PS.imp (Qst hu (Qdo hN hvis hd hcd) hk hv hs) fun Dn σ H ⟨F0,F,en,fl,rs,z,k⟩=>by
  obtain ⟨dv,e1,z1⟩:=Q5 z
  obtain ⟨dx,e2,z2⟩:=Q5 z1
  obtain ⟨dy,e3,z3⟩:=Q5 z2
  obtain ⟨dz,e4,rfl⟩:=Zv z3
  refine ⟨F0,F,en,dv,rs,e1,fun u F1 H1 g1 r1=>?_⟩
  have rs1:=rs.grow g1
  obtain ⟨p,kk,xs,ds,h1,h2,h3,h4,h5,h6,h7⟩:=rs1.own i dx (Zq e2) hi
  refine ⟨_,h1,F0,F1,en,dy,rs1,e3,fun y F2 H2 g2 r2=>?_⟩
  have rs2:=rs1.grow g2
  obtain ⟨p',kk',xs',ds',k1,k2,k3,k4,k5,k6,k7⟩:=rs2.own i dx (Zq e2) hi
  rw [h1] at k1
  cases k1
  subst k6
  cases kk' with
  | none=>cases e4
  | some ks =>
   obtain ⟨kx,q1,q2⟩:=Q5 (show ((kOf dy).bind fun k=>if ks.length<lI then some (QeL ks ds' k dv) else none)=some dz from e4)
   split at q2
   ·rename_i hz
    cases q2
    obtain ⟨ks2,xs2,ds2,a1,a2,a3,a4⟩:=Qsq (k:=kx) (r1.mono g2.ff) k7 k5
    refine ⟨p,upd H2 p (.dK (V7 (ks.zip xs') kx u)),rfl,?_,?_⟩
    ·rw [QjS r2 q1]
     exact DPut.k k4 (by rw [List.length_zip,show ks.length=xs'.length from k7,Nat.min_self,<- show ks.length=xs'.length from k7,Yl];exact hz)
    ·rw [a1]
     rw [a4] at k
     exact k _ F2 _ (g1.ff.trans g2.ff) (rs2.write hi (Zq e2) h1 k2 k3 a2 a3)
   ·cases q2
end
end Wd
namespace Wd
open PySem PySem.Spec PyProof.Rows L2
def er (H:Hp) (p:Addr):Hp:=fun a=>if a=p then none else H a
theorem QmT {H:Hp} {p:Addr}:er H p p=none:=if_pos rfl
theorem QjE {H:Hp} {p a:Addr} (h:a≠p):er H p a=H a:=if_neg h
theorem Qvs {H:Hp} {p:Addr}:Sm (er H p) H:=fun a o h=>by
 by_cases z:a=p
 ·rw [z,QmT] at h;cases h
 ·rw [QjE z] at h;exact h
theorem Sm.er {F H:Hp} (s:Sm F H) {p:Addr} (h:F p=Option.none):Sm F (er H p):=fun a o e=>by
 have:a≠p:=fun z=>by rw [z,h] at e;cases e
 rw [QjE this];exact s a o e
def spM (K:Fg) (f:List D->Option D):Sp:=fun vs H Q _=>∃ F us cs p kk xs es d,Sm F H/\vs=us++[.ref p]/\Reps K F us cs/\F p=none/\H p=some (ho kk xs)/\Qar kk xs/\Reps K F xs es/\f (cs++[dOf kk es])=some d /\
 ∀ kk' xs' es' F' H',Gr F (er H p) F' H'->F' p=none->H' p=some (ho kk' xs')->Qar kk' xs'->Reps K F' xs' es'->d=dOf kk' es'->Q .non H'
section
variable {P:Program} {w:World} {K:Fg} {mg:Str->Option Value} {base:Heap} {x:Str} {st:Stmt} {N ps:List Str} {k:Nat} {b:EvS}
theorem Qpf {F H:Hp} {us:List V} {cs:List D} {p:Addr} {kk:Option (List Kd)} {xs:List V} {es:List D} (n m:Nat) (hm:us.length=m) (hn:m<n) (hn2:n<=1000) (s:Sm F H) (r:Reps K F us cs) (hf:F p=none) (hp:H p=some (ho kk xs)) (hk:Qar kk xs) (re:Reps K F xs es) :
  RS K H ⟨F,er H p,some p⟩ F H ((us++[V.ref p]).map some++List.replicate (n-(us++[V.ref p]).length) none) (sD n (cs++[dOf kk es])) [m,Yi m]:=by
 have hc:cs.length=m:=by rw [<- r.length];exact hm
 have em:(sD n (cs++[dOf kk es]))[m]?=some (some (dOf kk es)):=by
  unfold sD
  rw [List.getElem?_append_left (by rw [List.length_map,List.length_append,hc];simp),List.getElem?_map,List.getElem?_append_right (by omega),hc]
  simp
 have sm:((us++[V.ref p]).map some++List.replicate (n-(us++[V.ref p]).length) none)[m]?=some (some (V.ref p)):=by
  rw [List.getElem?_append_left (by rw [List.length_map,List.length_append,hm];simp),List.getElem?_map,List.getElem?_append_right (by omega),hm]
  simp
 have big:∀ i d,(sD n (cs++[dOf kk es]))[i]?=some (some d)->i<n:=fun i d h=>by
  have:i<(sD n (cs++[dOf kk es])).length:=by
   cases Nat.lt_or_ge i (sD n (cs++[dOf kk es])).length with
   | inl h=>exact h
   | inr h'=>rw [List.getElem?_eq_none h'] at h;cases h
  unfold sD at this
  rw [List.length_append,List.length_map,List.length_append,List.length_replicate,hc] at this
  simp at this
  omega
 refine ⟨s,Qvs,.refl F,fun _ _ h=>.inl h,fun i d h hi=>?_,fun i d h hi=>?_,fun i j q d1 d2 hi hj h1 h2 _ _=>?_,fun i hi=>?_,?_⟩
 ·have hne:i≠m:=fun z=>hi (by rw [z];simp)
  unfold sD at h
  rcases Nat.lt_or_ge i m with hl | hl
  ·rw [List.getElem?_append_left (by rw [List.length_map,List.length_append,hc];simp;omega),List.getElem?_map,List.getElem?_append_left (by omega)] at h
   have hd:cs[i]?=some d:=by
    cases q:cs[i]? with
    | none=>rw [q] at h;cases h
    | some d'=>rw [q] at h;cases h;rfl
   obtain ⟨v,h1,h2⟩:=r.get hd
   refine ⟨v,?_,h2⟩
   rw [List.getElem?_append_left (by rw [List.length_map,List.length_append,hm];simp;omega),List.getElem?_map,List.getElem?_append_left (by omega),h1];rfl
  ·rw [List.getElem?_append_right (by rw [List.length_map,List.length_append,hc];simp;omega),List.getElem?_replicate] at h
   split at h<;>cases h
 ·have hlt:=big i d h
  have hi':i=m:=by
   rcases List.mem_cons.mp hi with z | z
   ·exact z
   ·have:=List.mem_singleton.mp z
    unfold Yi at this;omega
  subst hi'
  rw [em] at h
  cases h
  exact ⟨p,kk,xs,es,sm,QmT,hf,hp,re,rfl,hk⟩
 ·have a1:=big i d1 h1
  have a2:=big j d2 h2
  have e1:i=m:=by
   rcases List.mem_cons.mp hi with z | z
   ·exact z
   ·have:=List.mem_singleton.mp z
    unfold Yi at this;omega
  have e2:j=m:=by
   rcases List.mem_cons.mp hj with z | z
   ·exact z
   ·have:=List.mem_singleton.mp z
    unfold Yi at this;omega
  rw [e1,e2]
 ·have:i=m:=by
   rcases List.mem_cons.mp hi with z | z
   ·unfold Yi at z;omega
   ·have:=List.mem_singleton.mp z
    unfold Yi at this;omega
  subst this
  exact ⟨p,rfl,sm⟩
 ·unfold sD;simp [r.length]
theorem Qnn (h:Df K mg x st ps) (S:FnScope N ps (Qb st)) {O' OL:List Nat} (hps:0<ps.length) (hpn:ps.length<=N.length) (hN2:N.length<=1000) (hO1:ps.length-1∈O') (hO2:Yi (ps.length-1)∈O')
  (hb:∀ (f:Addr) (cdv:Value) (A:Around) (outer:List Env) (s:Shared) (H:Hp) (E:XK),Room k (A.deeper (envOfC x (Qb st) s.heap.objs.size f cdv))->PSs (Qap CX0 P w K mg base N x (Qb st) f cdv A outer s H E).nox (ZC st) (tS (Qap CX0 P w K mg base N x (Qb st) f cdv A outer s H E).nox [ps.length-1,Yi (ps.length-1)] O' OL false b)) :
  Cal P w K mg base (k+1) x ps (spM K (Qc5 N.length ps.length b)):=by
 obtain ⟨f,fd,F,hbd,hm⟩:=h
 have len:∀ {us:List V} {cs:List D} {Fz:Hp} {p:Addr} {dd d:D},Reps K Fz us cs->Qc5 N.length ps.length b (cs++[dd])=some d->us.length=ps.length-1/\cs.length=ps.length-1:=fun r e=>by
  unfold Qc5 at e
  split at e
  ·rename_i z
   rw [List.length_append] at z
   simp at z
   have:=r.length
   omega
  ·cases e
 refine ⟨f,fd,F.ok S (fun vs H Q E ⟨Fz,us,cs,p,kk,xs,es,d,s,hv,r,hf,hp,hk,re,e,_⟩=>?_) (fun cdv A outer s H vs Q E hr ⟨Fz,us,cs,p,kk,xs,es,d,sm,hv,r,hf,hp,hk,re,e,k⟩=>?_),hbd,F.kp,hm⟩
 ·have:=len (p:=p) r e
  rw [hv,List.length_append];simp;omega
 ·refine ⟨_,hb f cdv A outer s H E hr,?_⟩
  have hl:=len (p:=p) r e
  have e':(match b (sD N.length (cs++[dOf kk es])) with
   | some (.nx e)=>(e[ps.length-1]?).join
   | _=>none)=some d:=by
   unfold Qc5 at e
   split at e
   ·exact e
   ·cases e
  cases q:b (sD N.length (cs++[dOf kk es])) with
  | none=>rw [q] at e';cases e'
  | some fl =>
   rw [q] at e'
   have hst:Qau N vs=(us++[V.ref p]).map some++List.replicate (N.length-(us++[V.ref p]).length) none:=by rw [hv];rfl
   rw [hst]
   refine ⟨⟨Fz,er H p,some p⟩,Fz,sD N.length (cs++[dOf kk es]),fl,Qpf N.length (ps.length-1) hl.1 (by omega) hN2 sm r hf hp hk re,q,?_⟩
   cases fl with
   | nx en =>
    intro σ' F' H' s' rs
    have hd:en[ps.length-1]?=some (some d):=Zq e'
    obtain ⟨p',kk',xs',es',h1,h2,h3,h4,h5,h6,h7⟩:=rs.own _ _ hd hO1
    obtain ⟨p2,m1,m2⟩:=rs.pin _ hO2
    cases m1
    rw [h1] at m2
    cases m2
    exact k kk' xs' es' F' H' rs.ex.gr h3 h4 h7 h5 h6
   | rt d'=>cases e'
   | bk en=>cases e'
   | ct en=>cases e'
end
theorem RS.call {K:Fg} {H₀:Hp} {F0:Fz} {F H F' H':Hp} {σ:L2.St} {en:Qq} {O:List Nat} {i:Nat} {p:Addr} {d0:D} {kk:Option (List Kd)} {xs:List V} {es:List D} (r:RS K H₀ F0 F H σ en O) (hi:i∈O) (he:en[i]?=some (some d0)) (hσ:σ[i]?=some (some (.ref p))) (h0:F0.h p=none)
  (g:Gr F (er H p) F' H') (hf:F' p=none) (hp:H' p=some (ho kk xs)) (hk:Qar kk xs) (re:Reps K F' xs es):RS K H₀ F0 F' H' σ (en.set i (some (dOf kk es))) O :=
 have hl:i<en.length:=by
  cases Nat.lt_or_ge i en.length with
  | inl h=>exact h
  | inr h=>rw [List.getElem?_eq_none h] at he;cases he
 {
 fh:=g.fh
 hh:=(r.hh.er h0).trans g.hh
 ff:=r.ff.trans g.ff
 fr:=fun a o e=>by
  rcases g.fr a o e with z | z
  ·exact r.fr a o z
  ·by_cases q:a=p
   ·rw [q,hf] at e;cases e
   ·rw [QjE q] at z
    exact .inr (r.hh.none z)
 slot:=fun j d' e1 hj=>by
  have z:i≠j:=fun z=>hj (z▸hi)
  rw [J2 hl,if_neg z] at e1
  obtain ⟨v,h1,h2⟩:=r.slot j d' e1 hj
  exact ⟨v,h1,h2.mono g.ff⟩
 own:=fun j d' e1 hj=>by
  rw [J2 hl] at e1
  split at e1
  ·rename_i z;cases e1;subst z
   exact ⟨p,kk,xs,es,hσ,h0,hf,hp,re,rfl,hk⟩
  ·rename_i z
   obtain ⟨q,k2,ys,es2,h1,h2,h3,h4,h5,h6⟩:=r.own j d' e1 hj
   have qp:q≠p:=fun w:q=p=>z (r.dis i j p _ _ hi hj he e1 hσ (by rw [<- w];exact h1))
   have e4:er H p q=some (ho k2 ys):=by rw [QjE qp];exact h4
   refine ⟨q,k2,ys,es2,h1,h2,?_,g.hh _ _ e4,h5.mono g.ff,h6⟩
   cases w:F' q with
   | none=>rfl
   | some o =>
    rcases g.fr q o w with z2 | z2
    ·rw [h3] at z2;cases z2
    ·rw [e4] at z2;cases z2
 dis:=fun j k q d1 d2 hj hk' f1 f2 g1 g2=>by
  rw [J2 hl] at f1 f2
  have k1:∃ d,en[j]?=some (some d):=by
   split at f1
   ·rename_i z;subst z;exact ⟨_,he⟩
   ·exact ⟨_,f1⟩
  have k2:∃ d,en[k]?=some (some d):=by
   split at f2
   ·rename_i z;subst z;exact ⟨_,he⟩
   ·exact ⟨_,f2⟩
  obtain ⟨_,k1⟩:=k1
  obtain ⟨_,k2⟩:=k2
  exact r.dis j k q _ _ hj hk' k1 k2 g1 g2
 pin:=r.pin
 len:=by rw [List.length_set];exact r.len }
def tLM (X:Cx) (O:List Nat) (i:Nat) (l:EvL):TA:=fun σ H Q=>∃ F0 F e ds p,RS X.K X.H₀ F0 F H σ e O/\l e=some ds/\σ[i]?=some (some (.ref p))/\∀ vs F' H',Gr F H F' H'->Reps X.K F' vs ds->Q (vs++[.ref p]) H'
section
variable {X:Cx} {O OL:List Nat} {w:Bool} {e a:Expr} {es:List Expr} {p pos cpos:Pos} {x y:Str} {ps:List Str} {k:Nat}
theorem QeY (i:Nat) (hN:X.N[i]?=some x:=by rfl) (hv:Vis X.env.scope x:=by first | exact Or.inl rfl | exact Or.inr (Or.inl rfl) | exact Or.inr (Or.inr rfl)) (hd:(x==("__debug__":Str))=false:=by decide) (hcd:(x==("__classdict__":Str))=false:=by decide):PA X [.Name x p] (tLM X O i lN) :=
 PA.imp (Z5 (Qdo hN hv hd hcd) Qbv ZJ) fun σ H Q ⟨F0,F,en,ds,q,rs,z,hσ,k⟩=>by
  cases z
  exact ⟨_,hσ,k [] F H (.refl rs.fh) .nil⟩
theorem Zk {i:Nat} {ea:EvE} {l:EvL} (ha:PE X a (tD X O ea)) (hr:PA X es (tLM X O i l)) (hs:starEach (a::es) X.env=(false,eval a X.env)::starEach es X.env:=by rfl):PA X (a::es) (tLM X O i (lC ea l)) :=
 PA.imp (Z5 ha hr hs) fun σ H Q ⟨F0,F,en,ds,q,rs,z,hσ,k⟩=>by
  obtain ⟨d,e1,e2⟩:=Q5 z
  obtain ⟨ds',e3,rfl⟩:=Zv e2
  refine ⟨F0,F,en,d,rs,e1,fun v F1 H1 g1 r1=>?_⟩
  exact ⟨F0,F1,en,ds',q,rs.grow g1,e3,hσ,fun vs F2 H2 g2 r2=>k (v::vs) F2 H2 (g1.trans g2) (.cons (r1.mono g2.ff) r2)⟩
theorem QcB (i:Nat) (hi:i∈O) {f:List D->Option D} {l:EvL} (c:Cal X.prog X.w X.K X.mg X.base k x ps (spM X.K f)) (hr:Room k X.A) (hg:Gl X x) (ha:PA X (e::es) (tLM X O i l)) (hdb:(x==("__debug__":Str))=false:=by decide) (he:starEach (e::es) X.env=(false,eval e X.env)::starEach es X.env:=by rfl)
  (hpl:(backTo cpos (starEach es X.env)).any (·.1)=false:=by rfl) (hsw:swapsWith (.Call (.Name x p) (e::es) [] cpos) none pos.line X.env=pure false:=by rfl):PS X (.Expr (.Call (.Name x p) (e::es) [] cpos) pos) (tS X O O OL w (Vu i f l)):=by
 obtain ⟨fa,fd,F,hb,hk,hm⟩:=c
 refine PS.imp (QfC (QmA F hr hg hm hk hb (.nil:Vals [] []) QrR ha hdb he hpl) hsw) fun Dn σ H ⟨F0,F,en,fl,rs,z,k⟩=>?_
 obtain ⟨ds,e1,z1⟩:=Q5 z
 obtain ⟨dx,e2,z2⟩:=Q5 z1
 obtain ⟨dz,e3,rfl⟩:=Zv z2
 obtain ⟨q,kk,xs,es',h1,h2,h3,h4,h5,h6,h7⟩:=rs.own i dx (Zq e2) hi
 refine ⟨F0,F,en,ds,q,rs,e1,h1,fun vs F1 H1 g1 r1=>?_⟩
 have rs1:=rs.grow g1
 obtain ⟨q',kk',xs',es2,k1,k2,k3,k4,k5,k6,k7⟩:=rs1.own i dx (Zq e2) hi
 rw [h1] at k1
 cases k1
 subst k6
 refine ⟨F1,vs,ds,q,kk',xs',es2,dz,g1.fh,?_,r1,k3,k4,k7,k5,e3,fun kk2 xs2 es3 F' H' g hf hp hk2 re ed=>?_⟩
 ·rw [List.append_nil]
 ·subst ed
  exact k σ F' H' (g1.ff.trans g.ff) (rs1.call hi (Zq e2) h1 k2 g hf hp hk2 re)
end
end Wd
namespace Wd
open PySem PySem.Spec PyProof.Rows L2
def Itz (K:Fg) (a b:Addr):It :=
 ⟨fun i H=>∃ xs ys x y,SqL K H a xs/\SqL K H b ys/\xs[i]?=some x/\ys[i]?=some y,fun i H x H'=>∃ p y1 y2,H p=none/\x=.ref p/\H'=upd H p (.tup [y1,y2])/\(∀ xs,SqL K H a xs->xs[i]?=some y1)/\∀ ys,SqL K H b ys->ys[i]?=some y2,fun i H=>∃ xs ys,SqL K H a xs/\SqL K H b ys/\(xs.length<=i\/ys.length<=i)⟩
theorem QqD {P:Program} {w:World} {K:Fg} {elts:List Expr} {x1:Nat} {pos:Pos} (l1 l2 z TI TO i1 i2:Addr) (D:ZipApart z TI TO i1 i2 l1 l2):Turn P w K (.Tuple elts x1 pos) (Itz K l1 l2) [z,TI,TO,i1,i2] z
  (fun i h=>IsZip h z TI TO .none/\IsPair h TI (.ref i1) (.ref i2)/\(∃ a b,IsPair h TO a b)/\h.IsListIter i1 l1 i/\h.IsListIter i2 l2 i) where
 mem:=by simp
 obj:=fun i h st b hb=>by
  obtain ⟨hz,hTI,⟨a,c,hTO⟩,⟨o1,ho1,c1,d1⟩,⟨o2,ho2,c2,d2⟩⟩:=st
  simp only [List.mem_cons,List.not_mem_nil,or_false] at hb
  rcases hb with q | q | q | q | q<;>subst q
  ·exact ⟨_,hz,fun v e=>by
    have e':Data.fields _=Data.cell v:=e
    cases e'⟩
  ·exact ⟨_,hTI,fun v e=>by
    have e':Data.seq _=Data.cell v:=e
    cases e'⟩
  ·exact ⟨_,hTO,fun v e=>by
    have e':Data.seq _=Data.cell v:=e
    cases e'⟩
  ·exact ⟨o1,ho1,fun v e=>by rw [d1] at e;cases e⟩
  ·exact ⟨o2,ho2,fun v e=>by rw [d2] at e;cases e⟩
 keep:=fun i h h' st k=>by
  obtain ⟨hz,hTI,⟨a,c,hTO⟩,h1,h2⟩:=st
  exact ⟨k z (by simp) _ hz,k TI (by simp) _ hTI,⟨a,c,k TO (by simp) _ hTO⟩,h1.at fun o q=>k i1 (by simp) o q,h2.at fun o q=>k i2 (by simp) o q⟩
 item:=by
  intro X hP hw hK hc i pins s σ H E I hf st hg
  subst hP hw hK
  obtain ⟨hz,hTI,⟨a,c,hTO⟩,h1,h2⟩:=st
  obtain ⟨xs,ys,x,y,hq1,hq2,hx,hy⟩:=hg
  obtain ⟨its1,rv1,p1,_⟩:=I.list hq1
  obtain ⟨its2,rv2,p2,_⟩:=I.list hq2
  obtain ⟨u1,hu1,ru1⟩:=rv1.get hx
  obtain ⟨u2,hu2,ru2⟩:=rv2.get hy
  refine wpAny_pyNext_zip_item D hz hTI hTO h1 h2 p1.isList p2.isList (x:=u1) (y:=u2) (by simpa using hu1) (by simpa using hu2) fun h' hz' hTO' h1' h2' hT hsz kk=>?_
  refine ⟨_,rfl,wpAny_letOwnedTupleGo_zip hz' fun h3 hz3 sb=>?_⟩
  have k2:∀ b o,b∉[z,TI,TO,i1,i2]->s.heap.get? b=some o->h3.get? b=some o:=fun b o hb q=>by
   have a1:b≠z:=fun e=>hb (by simp [e])
   have a2:b≠TO:=fun e=>hb (by simp [e])
   have a3:b≠i1:=fun e=>hb (by simp [e])
   have a4:b≠i2:=fun e=>hb (by simp [e])
   exact (sb.2 b a1).trans (kk b o a1 a2 a3 a4 q)
  have fe:H s.heap.objs.size=none:=I.hok.fresh (Nat.le_refl _)
  have lz:z<s.heap.objs.size:=Heap.lt_size hz
  have ht3:h3.get? s.heap.objs.size=some { cls:=.type "tuple",data:=.seq #[u1,u2] }:=(sb.2 _ (Nat.ne_of_gt lz)).trans hT
  have I2:Inv X pins σ (upd H s.heap.objs.size (.tup [x,y])) { s with heap:=h3,toks:=s.toks } :=
   Qmp (t':=s.toks) I k2 hf (Nat.le_refl _) (show ObjOk X.prog X.w _ h3 _ (.tup [x,y]) from ⟨by show 2<=sizeLine;decide,[u1,u2],.cons ru1 (.cons ru2 .nil),⟨_,ht3,rfl,_,rfl⟩⟩)
  have hTI3:IsPair h3 TI (.ref i1) (.ref i2):=(sb.2 _ D.TIz).trans (kk TI _ D.TIz D.TITO D.TIi1 D.TIi2 hTI)
  refine ⟨.ref s.heap.objs.size,_,I2,rfl,⟨_,x,y,fe,rfl,rfl,fun zs hz'=>by rw [I.list_inj hz' hq1];exact hx,fun zs hz'=>by rw [I.list_inj hz' hq2];exact hy⟩,⟨hz3,hTI3,⟨u1,u2,(sb.2 _ D.TOz).trans hTO'⟩,h1'.at fun o q=>(sb.2 _ D.i1z).trans q,h2'.at fun o q=>(sb.2 _ D.i2z).trans q⟩,fun b hb=>?_⟩
  have hlt:b<s.heap.objs.size:=by
   simp only [List.mem_cons,List.not_mem_nil,or_false] at hb
   rcases hb with q | q | q | q | q<;>subst q
   ·exact lz
   ·exact Heap.lt_size hTI
   ·exact Heap.lt_size hTO
   ·obtain ⟨o,ho,_⟩:=h1;exact Heap.lt_size ho
   ·obtain ⟨o,ho,_⟩:=h2;exact Heap.lt_size ho
  rw [QJ (Nat.ne_of_lt hlt)]
  exact (hf b hb).1
 done:=by
  intro X hP hw hK hc i pins s σ H E I hf st hg
  subst hP hw hK
  obtain ⟨hz,hTI,⟨a,c,hTO⟩,h1,h2⟩:=st
  obtain ⟨xs,ys,hq1,hq2,hx⟩:=hg
  obtain ⟨its1,rv1,p1,_⟩:=I.list hq1
  obtain ⟨its2,rv2,p2,_⟩:=I.list hq2
  have l1':=rv1.length
  have l2':=rv2.length
  refine wpAny_pyNext_zip_end (I.ok.hd hc) D hz hTI hTO h1 h2 p1.isList p2.isList ?_ fun h' kk=>⟨rfl,Qmq (t':=s.toks) I (fun b o hb q=>kk b o (fun e=>hb (by simp [e])) (fun e=>hb (by simp [e])) (fun e=>hb (by simp [e])) (fun e=>hb (by simp [e])) q) hf⟩
  rcases hx with q | q
  ·left;simp;omega
  ·right;simp;omega
 self:=fun _ _ _ _ _ st h=>by
  obtain ⟨hz,_⟩:=st
  exact wpAny_pyIter_zip hz h
theorem Qv1 {x y:Nat} (h:x<y\/y<x):x≠y:=by omega
theorem QtC (I l1 l2:Nat) (h1:l1<I) (h2:l2<I):ZipApart (I+4) (I+2) (I+3) I (I+1) l1 l2:=by
 constructor<;>(refine Qv1 ?_;omega)
section
variable {X:Cx} {O:List Nat} {a b:Expr} {p pos:Pos}
def Qvm (K:Fg) (ta:TA):TI:=fun σ H R=>ta σ H fun vs H1=>∃ l m,vs=[.ref l,.ref m]/\(∃ xs,SqL K H1 l xs)/\(∃ ys,SqL K H1 m ys)/\R (Itz K l m) H1
theorem Qt0 {elts:List Expr} {x1:Nat} {tpos:Pos} {ta:TA} (hg:Gl X "zip") (hm:X.mg "zip"=none) (ha:PA X [a,b] ta) (hs:starEach [a,b] X.env=[(false,eval a X.env),(false,eval b X.env)]) (hs2:starEach [b] X.env=[(false,eval b X.env)]):PI X (.Tuple elts x1 tpos) (.Call (.Name "zip" p) [a,b] [] pos) (Qvm X.K ta):=by
 intro pins s σ H R I h
 refine Call_ (Qck I hg hm boot_zip (PyProof.Rows.callWith_type1 (thn (ha pos pins s σ H _ I h) fun us s1 ⟨vs,H1,I1,r1,q1⟩=>?_) (by rw [hs,hs2]) (by rw [hs2];rfl)))
 obtain ⟨l,m,e,⟨xs,hq1⟩,⟨ys,hq2⟩,q⟩:=q1
 subst e
 obtain ⟨u,u2,rfl,rx,ry⟩:=Qnu r1
 cases rx
 cases ry
 obtain ⟨its1,rv1,p1,_⟩:=I1.list hq1
 obtain ⟨its2,rv2,p2,_⟩:=I1.list hq2
 have lt1:l<s1.heap.objs.size:=by obtain ⟨o,ho,_⟩:=p1.isList;exact Heap.lt_size ho
 have lt2:m<s1.heap.objs.size:=by obtain ⟨o,ho,_⟩:=p2.isList;exact Heap.lt_size ho
 have D:ZipApart (s1.heap.objs.size+4) (s1.heap.objs.size+2) (s1.heap.objs.size+3) s1.heap.objs.size (s1.heap.objs.size+1) l m:=QtC _ _ _ lt1 lt2
 refine call_zip_2 p1.isList p2.isList fun h' hz hTI hTO hi1 hi2 hsz hk=>?_
 have I2:Inv X pins σ H1 { s1 with heap:=h' }:=I1.kept (t':=s1.toks) hk
 have fe:∀ b,s1.heap.objs.size<=b->H1 b=none:=fun b hb=>I1.hok.fresh hb
 refine wpAny_pyIter_zip hz ⟨_,[s1.heap.objs.size+4,s1.heap.objs.size+2,s1.heap.objs.size+3,s1.heap.objs.size,s1.heap.objs.size+1],_,_,H1,rfl,I2,QqD l m _ _ _ _ _ D,⟨hz,hTI,⟨_,_,hTO⟩,hi1,hi2⟩,fun b hb=>?_,q⟩
 have:s1.heap.objs.size<=b:=by
  simp only [List.mem_cons,List.not_mem_nil,or_false] at hb
  rcases hb with q | q | q | q | q<;>rw [q]
  ·exact Nat.le_add_right _ _
  ·exact Nat.le_add_right _ _
  ·exact Nat.le_add_right _ _
  ·exact Nat.le_refl _
  ·exact Nat.le_add_right _ _
 exact I1.fpOk this (fe b this)
theorem Qge:∀ (as bs:List D),(Qao as bs).length=min as.length bs.length
 | [],_=>by simp [Qao]
 | _::_,[]=>by simp [Qao]
 | a::as,b::bs=>by rw [Qao,List.length_cons,Qge,List.length_cons,List.length_cons];omega
theorem Qj7:∀ (as bs:List D) (i:Nat) (x y:D),as[i]?=some x->bs[i]?=some y->(Qao as bs)[i]?=some (.tup [x,y])
 | [],_,_,_,_,h,_=>by simp at h
 | _::_,[],_,_,_,_,h=>by simp at h
 | a::as,b::bs,0,_,_,h1,h2=>by simp at h1 h2;subst h1 h2;simp [Qao]
 | a::as,b::bs,i+1,x,y,h1,h2=>by
  rw [Qao,List.getElem?_cons_succ]
  exact Qj7 as bs i x y (by simpa using h1) (by simpa using h2)
theorem QoL {K:Fg} {F:Hp} {v:V} {d:D} {ds:List D} (r:Rep K F v d) (e:D.its d=some ds):∃ l xs,v=.ref l/\SqL K F l xs/\Reps K F xs ds:=by
 cases r with
 | @lst l xs ds' hl r=>cases e;exact ⟨l,xs,rfl,SqL.of hl,r⟩
 | @scr l ns hl=>cases e;exact ⟨l,_,rfl,hl,Reps.ints ns⟩
 | _=>cases e
theorem QuK {elts:List Expr} {x1:Nat} {tpos:Pos} {ea eb:EvE} (hg:Gl X "zip") (hm:X.mg "zip"=none) (ha:PE X a (tD X O ea)) (hb:PE X b (tD X O eb)) (hs:starEach [a,b] X.env=[(false,eval a X.env),(false,eval b X.env)]:=by rfl) (hs2:starEach [b] X.env=[(false,eval b X.env)]:=by rfl):PI X (.Tuple elts x1 tpos) (.Call (.Name "zip" p) [a,b] [] pos) (tI X O (Qqt ea eb)) :=
 PI.imp (Qt0 hg hm (Z5 ha (Z5 hb Qbv hs2) (by rw [hs,hs2])) hs hs2) fun σ H R ⟨F0,F,en,ds0,rs,z,k⟩=>by
  obtain ⟨dx,e1,z1⟩:=Q5 z
  obtain ⟨dy,e2,z2⟩:=Q5 z1
  obtain ⟨xs',e3,z3⟩:=Q5 z2
  obtain ⟨ys',e4,rfl⟩:=Zv z3
  refine ⟨F0,F,en,dx,rs,e1,fun v F1 H1 g1 r1=>⟨F0,F1,en,dy,rs.grow g1,e2,fun u F2 H2 g2 r2=>?_⟩⟩
  obtain ⟨l,xs,rfl,hl,rx⟩:=QoL (r1.mono g2.ff) e3
  obtain ⟨m,ys,rfl,hm',ry⟩:=QoL r2 e4
  refine ⟨l,m,rfl,⟨xs,g2.fh.sqL hl⟩,⟨ys,g2.fh.sqL hm'⟩,k F2 H2 _ (g1.trans g2) ⟨fun i F' H' s s' hi=>?_,fun i F' H' x H3 s s' hi hy=>?_,fun i F' H' s s' hi=>?_⟩⟩
  ·rw [Qge] at hi
   obtain ⟨v1,h1,_⟩:=rx.get (List.getElem?_eq_getElem (show i<xs'.length by omega))
   obtain ⟨v2,h2,_⟩:=ry.get (List.getElem?_eq_getElem (show i<ys'.length by omega))
   exact ⟨xs,ys,v1,v2,s'.sqL (s.sqL hl),s'.sqL (s.sqL hm'),h1,h2⟩
  ·obtain ⟨p,y1,y2,hp,rfl,rfl,hx1,hx2⟩:=hy
   obtain ⟨d1,a1,a2⟩:=rx.getV (hx1 xs (s'.sqL (s.sqL hl)))
   obtain ⟨d2,b1,b2⟩:=ry.getV (hx2 ys (s'.sqL (s.sqL hm')))
   have g:=Gr.new s' hp (.tup [y1,y2])
   exact ⟨_,.tup [d1,d2],g,Qj7 _ _ i d1 d2 a1 b1,.tup Jb (.cons ((a2.mono s).mono g.ff) (.cons ((b2.mono s).mono g.ff) .nil))⟩
  ·rw [Qge] at hi
   exact ⟨xs,ys,s'.sqL (s.sqL hl),s'.sqL (s.sqL hm'),by rw [rx.length,ry.length];omega⟩
end
end Wd
namespace Wd
open PySem PySem.Spec PyProof.Rows L2
section
variable {X:Cx} {O OL:List Nat} {w:Bool} {c:Expr} {body:List Stmt} {pos:Pos}
theorem Qrr {ec:EvE} {b:EvS} (hp:PassesOwn (model X.prog X.w) X.A X.env X.xe) (hc:PT X c (tDT X O ec)) (hb:PSs X body (tS X O O O w b)):PS X (.While c body [] pos) (tS X O O OL w (Qow ec b)) :=
 PS.imp (QqR hp hc hb) fun Dn σ H ⟨F0,F,en,fl,rs,z,k⟩=>by
  refine ⟨fun m σ' H'=>∃ F' en',Sm F F'/\RS X.K X.H₀ F0 F' H' σ' en' O/\Va ec b m en'=some fl,⟨100000,F,en,.refl F,rs,z⟩,?_⟩
  rintro m σ' H' ⟨F',en',s',rs',e3⟩
  cases m with
  | zero=>cases e3
  | succ n =>
   obtain ⟨q,e4,e5⟩:=YZ (show ifO (ec en') (YU (b en') (Va ec b n)) (some (.nx en'))=some fl from e3)
   refine ⟨F0,F',en',q,rs',e4,fun F1 H1 g1=>?_⟩
   cases q with
   | true =>
    rw [if_pos rfl]
    have e5':YU (b en') (Va ec b n)=some fl:=e5
    obtain ⟨f,e6,e7⟩:=QiD e5'
    refine ⟨fun σ2 H2=>∃ F' en',Sm F F'/\RS X.K X.H₀ F0 F' H2 σ2 en' O/\Va ec b n en'=some fl,fun σ2 H2 q=>⟨n,Nat.lt_succ_self n,q⟩,F0,F1,en',f,rs'.grow g1,e6,?_⟩
    have sA:Sm F F1:=s'.trans g1.ff
    cases f with
    | nx e=>exact fun σ4 F4 H4 s4 rs4=>⟨F4,e,sA.trans s4,rs4,e7⟩
    | ct e=>exact fun σ4 F4 H4 s4 rs4=>⟨F4,e,sA.trans s4,rs4,e7⟩
    | bk e=>cases e7;exact fun σ4 F4 H4 s4 rs4=>k σ4 F4 H4 (sA.trans s4) rs4
    | rt d=>cases e7;exact k
   | false =>
    rw [if_neg (by decide)]
    cases e5
    exact k σ' F1 H1 (s'.trans g1.ff) (rs'.grow g1)
end
end Wd
namespace Wd
open PySem PySem.Spec PyProof.Rows L2
section
open PySem.SeqAt
open PySem.AutoSeq1 (wpAny_loadPart')
open PySem.MeetsSeq PySem.MeetsSeq2 PySem.MeetsSeq3
end
section
variable {X:Cx} {O:List Nat} {e a b c:Expr} {pos:Pos}
end
end Wd
namespace Wd
open PySem PySem.Spec PyProof.Rows L2
section
variable {K:Fg} {H₀:Hp} {F0:Fz} {F H:Hp} {σ:L2.St} {e:Qq} {O:List Nat}
end
section
variable {X:Cx} {O O' OL:List Nat} {w:Bool} {tg:Expr} {body:List Stmt} {pos pos':Pos}
end
end Wd
namespace Wd
open PySem PySem.Spec PyProof.Rows L2
section
variable {X:Cx} {O:List Nat} {a:Expr} {p q pos:Pos}
end
end Wd
namespace Wd
open PySem PySem.Spec PyProof.Rows L2
section
variable {X:Cx} {O:List Nat} {tg a iter:Expr} {p q:Pos}
end
end Wd
namespace Wd
open PySem PySem.Spec PyProof.Rows L2
section
variable {X:Cx} {O:List Nat} {a:Expr} {p q p1 pos:Pos} {x:Str} {ev:EvE}
end
end Wd
namespace Wd
open PySem PySem.Spec PyProof.Rows L2
section
variable {X:Cx} {O:List Nat} {a b tg:Expr} {p pos:Pos}
theorem QsF:OpR X (compareOp .IsNot) (fun x y H Q=>y=.bl true/\∃ c,x=.bl c/\Q (.bl (!c)) H):=by
 rintro pins s σ H x y v u Q I rx ry ⟨rfl,c,rfl,q⟩
 cases (show u=Value.bool true from ry)
 cases (show v=Value.bool c from rx)
 exact PySem.wpAny_isNot_plain (by rfl) (QuB I q (by cases c<;>rfl))
theorem Qtb {ea:EvE} {j p} (ha:PE X a (tR X O ea)):PT X (.Compare a [.IsNot] [.Constant (.bool true) j p] pos) (tDT X O (eUn D.isNT ea)) :=
 PT.imp (Qmx QsF ha QrQ (Qf _)) fun σ H Q h=>by
  obtain ⟨F0,F,en,d,rs,w,k⟩:=Qtv h
  obtain ⟨dx,e1,e3⟩:=Q5 w
  refine ⟨F0,F,en,dx,rs,e1,fun x F1 H1 g1 r1=>?_⟩
  cases dx with
  | bl z=>cases e3;exact ⟨rfl,z,r1.bl,k _ F1 H1 g1 (.bl _)⟩
  | _=>cases e3
theorem QmY {ea eb:EvE} (hg:Gl X "range") (hm:X.mg "range"=none) (ha:PE X a (tD X O ea)) (hb:PE X b (tD X O eb)) (hs:starEach [a,b] X.env=[(false,eval a X.env),(false,eval b X.env)]:=by rfl) (hs2:starEach [b] X.env=[(false,eval b X.env)]:=by rfl) :
  PI X tg (.Call (.Name "range" p) [a,b] [] pos) (tI X O (Qb0 ea eb)) :=
 PI.imp (Qpk hg hm (Z5 ha (Z5 hb Qbv hs2) (by rw [hs,hs2])) hs hs2) fun σ H R ⟨F0,F,en,ds0,rs,z,k⟩=>by
  obtain ⟨dx,e1,z1⟩:=Q5 z
  obtain ⟨dy,e2,z2⟩:=Q5 z1
  refine ⟨F0,F,en,dx,rs,e1,fun v F1 H1 g1 r1=>⟨F0,F1,en,dy,rs.grow g1,e2,fun u F2 H2 g2 r2=>?_⟩⟩
  cases r1 with
  | int i =>
   cases r2 with
   | int j =>
    simp only [] at z2
    split at z2
    ·rename_i hz
     cases z2
     refine ⟨i,j,rfl,by omega,k F2 H2 _ (g1.trans g2) ⟨fun n F' H' s s' hi=>?_,fun n F' H' x H3 s s' hi ⟨hH,hx⟩=>?_,fun n F' H' s s' hi=>?_⟩⟩
     ·rw [Qak] at hi;exact hi
     ·subst hH hx
      have hi':n<(j-i).toNat:=by rw [Qak] at hi;exact hi
      exact ⟨F',.int (i+(n:Int)),.refl s',by simp [rD,hi'],.int _⟩
     ·rw [Qak] at hi;exact hi
    ·cases z2
   | _=>cases z2
  | _=>cases z2
end
section
variable {X:Cx} {O:List Nat} {x:Str} {pos p:Pos} {e:Expr} {es:List Expr} {l:EvL} {k k':Nat} {ps:List Str}
theorem dv (i:Nat) (hN:X.N[i]?=some x:=by rfl) (hv:Vis X.env.scope x:=by first | exact Or.inl rfl | exact Or.inr (Or.inl rfl) | exact Or.inr (Or.inr rfl)) (hd:(x==("__debug__":Str))=false:=by decide) (hc:(x==("__classdict__":Str))=false:=by decide):PE X (.Name x pos) (tR X O (eV i)):=VU i hN hv hd hc
theorem dq {i:Int} {j}:PE X (.Constant (.int i) j pos) (tR X O (eC (.int i))):=dr Qw
theorem dn (i:Nat) (hr:PA X es (tL X O l)) (hN:X.N[i]?=some x:=by rfl) (hv:Vis X.env.scope x:=by first | exact Or.inl rfl | exact Or.inr (Or.inl rfl) | exact Or.inr (Or.inr rfl)) (hO:i∉O:=by decide) (hd:(x==("__debug__":Str))=false:=by decide) (hc:(x==("__classdict__":Str))=false:=by decide):PA X (.Name x pos::es) (tL X O (lC (eV i) l)):=Qh9 (Qu i hN hv hO hd hc) hr
theorem dc {f:List D->Option D} (c:Cal X.prog X.w X.K X.mg X.base k x ps (spD X.K f)) (hr:Room k' X.A) (ha:PA X (e::es) (tL X O l)) (hk:k<=k':=by decide) (hg:Gl X x:=by exact rfl) (hdb:(x==("__debug__":Str))=false:=by decide) (he:starEach (e::es) X.env=(false,eval e X.env)::starEach es X.env:=by rfl) (hpl:(backTo pos (starEach es X.env)).any (·.1)=false:=by rfl):PE X (.Call (.Name x p) (e::es) [] pos) (tD X O (eK f l)):=Qrv c (hr.mono hk) hg ha hdb he hpl
theorem okD {P:Program} {w:World} {K:Fg} {mg:Str->Option Value} {base:Heap} {st:Stmt} (N ps:List Str) (b:EvS) (k:Nat) (h:Df K mg x st ps) (S:FnScope N ps (Qb st)) (hb:N.Nodup->∀ {f:Addr} {cdv:Value} {A:Around} {outer:List Env} {s:Shared} {H:Hp} {E:XK},Room k (A.deeper (envOfC x (Qb st) s.heap.objs.size f cdv))->PSs (Qap CX0 P w K mg base N x (Qb st) f cdv A outer s H E).nox (ZC st) (tS (Qap CX0 P w K mg base N x (Qb st) f cdv A outer s H E).nox [] [] [] false b)):Cal P w K mg base (k+1) x ps (spD K (QA N.length ps.length b)):=okC h S fun _ _ _ _ _ _ _ hr=>hb S.nd hr
end
end Wd
namespace My
section
open PySem Wd
def Qfa:EvS:=Qj (eUn D.len (eUn D.strI (eV 0)))
def Qam:List D->Option D:=QA 1 1 Qfa
def QjZ:EvS:=Qj (Qp (lC (eV 0) (lC (eC (.int 0)) (lC (eC (.int 0)) (lC (eC (.int 0)) lN)))))
def Qax:List D->Option D:=QA 1 1 QjZ
def QcK:EvS:=Qj (eOp D.le (eOp D.add (eOp D.add (eOp D.ix (eV 1) (eC (.int 1))) (eOp D.ix (eV 1) (eC (.int 3)))) (eV 2)) (eOp D.ix (eV 0) (eC (.int 1))))
def YK:List D->Option D:=QA 3 3 QcK
def Qdi:EvS:=Qj (eOr (eOp D.eqO (eOp D.ix (eV 1) (eC (.int 2))) (eC (.int 0))) (eOp D.le (eOp D.add (eOp D.add (eOp D.ix (eV 1) (eC (.int 2))) (eC (.int 1))) (eV 2)) (eOp D.ix (eV 0) (eC (.int 0)))))
def Qbr:List D->Option D:=QA 3 3 Qdi
def Qe8:EvS:=Qj (Qp (lC (Qp (lC (eV 0) (lC (eV 1) (lC (eV 2) lN)))) (lC (Qp (lC (eV 0) (lC (eV 1) (lC (eOp D.add (eV 2) (eV 3)) (lC (eV 4) lN))))) lN)))
def Qal:List D->Option D:=QA 5 5 Qe8
def Qek:EvS:=sQ (Qd (eOp D.ix (eV 1) (eC (.int 0))) (gS 4)) (sQ (Qd (eOp D.ix (eV 1) (eC (.int 1))) (gS 5)) (sQ (Qd (eOp D.ix (eV 1) (eC (.int 2))) (gS 6)) (sQ (Qd (eOp D.add (eOp D.ix (eV 1) (eC (.int 3))) (eV 3)) (gS 7)) (sQ (sIf (QN (eK Qbr (lC (eV 0) (lC (eV 1) (lC (eV 2) lN)))) (eK YK (lC (eV 0) (lC (eV 1) (lC (eOp D.add (eC (.int 1)) (eV 3)) lN))))) (sQ (Qd (eIf (eOp D.eqO (eV 6) (eC (.int 0))) (eC (.int 0)) (eOp D.add (eV 6) (eC (.int 1)))) (gS 8)) (Qj (eK Qal (lC (eV 4) (lC (eV 5) (lC (eV 8) (lC (eV 2) (lC (eV 7) lN)))))))) (sNx)) (sQ (sIf (QN (eOp D.gt (eV 6) (eC (.int 0))) (eK YK (lC (eV 0) (lC (eV 1) (lC (eOp D.add (eC (.int 2)) (eV 3)) lN))))) (Qj (eK Qal (lC (eV 4) (lC (eOp D.add (eV 5) (eC (.int 1))) (lC (eC (.int 0)) (lC (eV 2) (lC (eV 7) lN))))))) (sNx)) (Qj (eK Qal (lC (eOp D.add (eV 4) (eC (.int 1))) (lC (eC (.int 0)) (lC (eC (.int 0)) (lC (eV 2) (lC (eV 3) lN))))))))))))
def QaF:List D->Option D:=QA 9 4 Qek
def Qeq:EvS:=sQ (sIf (eOp D.eqO (eOp D.ix (eV 0) (eC (.int 2))) (eC (.int 0))) (Qj (eV 0)) (sNx)) (Qj (Qp (lC (eOp D.ix (eV 0) (eC (.int 0))) (lC (eOp D.add (eOp D.ix (eV 0) (eC (.int 1))) (eC (.int 1))) (lC (eC (.int 0)) (lC (eOp D.ix (eV 0) (eC (.int 3))) lN))))))
def QaH:List D->Option D:=QA 1 1 Qeq
def Qdf:EvS:=sQ (Qd (eK QaH (lC (eV 1) lN)) (gS 4)) (sQ (sIf (Q9 (eK YK (lC (eV 0) (lC (eV 4) (lC (eOp D.add (eV 2) (eV 3)) lN))))) (Qd (eK Qax (lC (eOp D.add (eOp D.ix (eV 4) (eC (.int 0))) (eC (.int 1))) lN)) (gS 4)) (sNx)) (sQ (Qd (Qp (lC (eOp D.ix (eV 4) (eC (.int 0))) (lC (eOp D.ix (eV 4) (eC (.int 1))) (lC (eC (.int 0)) lN)))) (gS 5)) (Qj (Qp (lC (eV 5) (lC (Qp (lC (eOp D.ix (eV 4) (eC (.int 0))) (lC (eOp D.add (eOp D.ix (eV 4) (eC (.int 1))) (eV 2)) (lC (eC (.int 0)) (lC (eOp D.ix (eV 4) (eC (.int 3))) lN))))) lN))))))
def YD:List D->Option D:=QA 6 4 Qdf
def Qel:EvS:=sQ (sIf (eOp D.eqO (eV 0) (eK Qax (lC (eOp D.ix (eV 0) (eC (.int 0))) lN))) (Qj (eV 0)) (sNx)) (Qj (eK Qax (lC (eOp D.add (eOp D.ix (eV 0) (eC (.int 0))) (eC (.int 1))) lN)))
def QaG:List D->Option D:=QA 1 1 Qel
def QbV:EvS:=sQ (Qd (eK QaG (lC (eV 1) lN)) (gS 2)) (sQ (sIf (QN (eOp D.ix (eV 0) (eC (.int 2))) (eOp D.eqO (eOp D.mod (eOp D.ix (eV 2) (eC (.int 0))) (eC (.int 2))) (eC (.int 0)))) (Qj (eK Qax (lC (eOp D.add (eOp D.ix (eV 2) (eC (.int 0))) (eC (.int 1))) lN))) (sNx)) (Qj (eV 2)))
def Vf:List D->Option D:=QA 3 2 QbV
def QcI:EvS:=sQ (Qd (eOp D.ix (eK QaG (lC (eV 0) lN)) (eC (.int 0))) (gS 2)) (Qj (Qp (lC (Qp (lC (eV 2) (lC (eC (.int 0)) (lC (eC (.int 0)) lN)))) (lC (eK Qax (lC (eOp D.add (eV 2) (eV 1)) lN)) lN))))
def QaL:List D->Option D:=QA 3 2 QcI
def Qeo:EvS:=Qj (QN (JO D.le D.le (eC (.int 4)) (eOp D.ix (eV 0) (eC (.int 0))) (eC (.int 90))) (JO D.le D.le (eC (.int 2)) (eOp D.ix (eV 0) (eC (.int 1))) (eC (.int 60))))
def Qcb:List D->Option D:=QA 1 1 Qeo
def Qdh:EvS:=Qj (eOp D.inO (eOp D.ix (eV 0) (eC (.int 0))) (Qp (lC (eC (.str "chapter")) (lC (eC (.str "heading")) lN))))
def Vl:List D->Option D:=QA 1 1 Qdh
def QgA:EvS:=Qj (eOp D.inO (eOp D.ix (eV 0) (eC (.int 0))) (Qp (lC (eC (.str "word")) (lC (eC (.str "ref")) lN))))
def Yc:List D->Option D:=QA 1 1 QgA
def Qem:EvS:=Qj (eIf (eOp D.eqO (eOp D.ix (eV 0) (eC (.int 0))) (eC (.str "para"))) (eC (.str "")) (eOp D.ix (eV 0) (eUn D.neg (eC (.int 1)))))
def Yn:List D->Option D:=QA 1 1 Qem
def Qen:EvS:=Qj (eIf (eOp D.eqO (eOp D.ix (eV 0) (eC (.int 0))) (eC (.str "para"))) (eOp D.ix (eV 0) (eC (.int 1))) (Qi (lN)))
def Zg:List D->Option D:=QA 1 1 Qen
def QjX:EvS:=sQ (Qd (Qi (lN)) (gS 1)) (sQ (Jn (Q1 (eV 0)) (gS 2) (Qqn 1 (QR 1 [] (Q1 (eK Zg (lC (eV 2) lN))) (gS 0) (eOp D.eqO (eOp D.ix (eV 0) (eC (.int 0))) (eC (.str "ref"))) (eOp D.ix (eV 0) (eC (.int 1)))))) (Qj (eV 1)))
def ZU:List D->Option D:=QA 3 1 QjX
def Qdg:EvS:=sQ (sIf (eOp D.eqO (eOp D.ix (eV 0) (eC (.int 0))) (eC (.str "plates"))) (Qj (eOp D.add (eC (.int 2)) (eOp D.ix (eV 0) (eC (.int 1))))) (sNx)) (sQ (sIf (QN (eK Vl (lC (eV 0) lN)) (eOp D.ix (eV 1) (eC (.int 3)))) (Qj (eC (.int 4))) (sNx)) (Qj (eOp D.add (eC (.int 2)) (eOp D.mulA (eC (.int 2)) (eUn D.len (QR 1 [] (Q1 (eK Zg (lC (eV 0) lN))) (gS 0) (eK Yc (lC (eV 0) lN)) (eV 0)))))))
def Vk:List D->Option D:=QA 2 2 Qdg
def QaR:EvS:=Qj (eOp D.add (eC (.int 3)) (eUn D.sumL (QR 1 [1] (Q1 (eV 0)) (gS 0) (eC (.bl true)) (eK Vk (lC (eV 0) (lC (eV 1) lN))))))
def Vr:List D->Option D:=QA 2 2 QaR
def Qbb:EvS:=Qj (eK Qam (lC (eK Vr (lC (eV 0) (lC (eV 1) lN))) lN))
def Z8:List D->Option D:=QA 2 2 Qbb
def QcL:EvS:=Qj (eUn D.anyL (QR 1 [1] (Q1 (eV 0)) (gS 0) (eC (.bl true)) (eOp D.gt (eUn D.len (eV 0)) (eV 1))))
def VD:List D->Option D:=QA 2 2 QcL
def ZW:EvS:=sQ (sIf (eK Vl (lC (eV 0) lN)) (sQ (Qd (eIf (eOp D.ix (eV 1) (eC (.int 3))) (eOp D.add (eC (.int 2)) (eV 2)) (eC (.int 0))) (gS 3)) (Qj (eOp D.gt (eOp D.add (eUn D.len (eOp D.ix (eV 0) (eC (.int 1)))) (eV 3)) (eOp D.ix (eV 1) (eC (.int 0)))))) (sNx)) (Qj (QN (eOp D.eqO (eOp D.ix (eV 0) (eC (.int 0))) (eC (.str "table"))) (eK VD (lC (eOp D.ix (eV 0) (eC (.int 1))) (lC (eOp D.ix (eV 1) (eC (.int 0))) lN)))))
def Zl:List D->Option D:=QA 4 3 ZW
def Qbe:EvS:=sQ (sIf (eOp D.eqO (eOp D.ix (eV 0) (eC (.int 0))) (eC (.str "word"))) (Qj (eK VD (lC (eOp D.add (Qi (lC (eOp D.ix (eV 0) (eC (.int 1))) lN)) (eOp D.ix (eV 0) (eC (.int 2)))) (lC (eOp D.ix (eV 1) (eC (.int 0))) lN)))) (sNx)) (Qj (QN (eOp D.eqO (eOp D.ix (eV 0) (eC (.int 0))) (eC (.str "ref"))) (eOp D.gt (eOp D.add (eOp D.add (eUn D.len (eOp D.ix (eV 0) (eC (.int 2)))) (eV 2)) (eUn D.len (eOp D.ix (eV 0) (eC (.int 3))))) (eOp D.ix (eV 1) (eC (.int 0))))))
def VP:List D->Option D:=QA 3 3 Qbe
def QaT:EvS:=sQ (sIf (eOp D.eqO (eOp D.ix (eV 0) (eC (.int 0))) (eC (.str "heading"))) (Qj (eOp D.gt (eOp D.add (eOp D.ix (eV 0) (eC (.int 2))) (eC (.int 1))) (eOp D.ix (eV 1) (eC (.int 1))))) (sNx)) (Qj (QN (eOp D.eqO (eOp D.ix (eV 0) (eC (.int 0))) (eC (.str "table"))) (eOp D.gt (eUn D.len (eOp D.ix (eV 0) (eC (.int 1)))) (eOp D.ix (eV 1) (eC (.int 1))))))
def Vs:List D->Option D:=QA 2 2 QaT
def Qbf:EvS:=Qj (QN (eOp D.eqO (eOp D.ix (eV 0) (eC (.int 0))) (eC (.str "word"))) (eOp D.gt (eOp D.add (eUn D.len (eOp D.ix (eV 0) (eC (.int 2)))) (eC (.int 1))) (eOp D.ix (eV 1) (eC (.int 1)))))
def VQ:List D->Option D:=QA 2 2 Qbf
def Qdj:EvS:=sQ (sIf (eOp D.dIn (eV 0) (eV 2)) (Vb) (sNx)) (QdT 2 (eV 0) (eC (.bl true)))
def V1:List D->Option D:=Qc5 3 3 Qdj
def QaS:EvS:=sQ (sIf (eK Zl (lC (eV 0) (lC (eV 2) (lC (eV 3) lN)))) (Vb) (sNx)) (sQ (sIf (eK Vs (lC (eV 0) (lC (eV 2) lN))) (Vb) (sNx)) (sIf (eOp D.neO (eK Yn (lC (eV 0) lN)) (eC (.str ""))) (Vu 4 V1 (lC (eK Yn (lC (eV 0) lN)) (lC (eV 1) lN))) (sNx)))
def Yr:List D->Option D:=Qc5 5 5 QaS
def Qbd:EvS:=sQ (sIf (eK VP (lC (eV 0) (lC (eV 2) (lC (eV 3) lN)))) (Vb) (sNx)) (sQ (sIf (eK VQ (lC (eV 0) (lC (eV 2) lN))) (Vb) (sNx)) (sIf (eOp D.eqO (eOp D.ix (eV 0) (eC (.int 0))) (eC (.str "mark"))) (Vu 4 V1 (lC (eOp D.ix (eV 0) (eC (.int 1))) (lC (eV 1) lN))) (sNx)))
def YQ:List D->Option D:=Qc5 5 5 Qbd
def Vt:EvS:=sQ (Qd (eUn D.len (QR 1 [] (Q1 (eV 0)) (gS 0) (eK Yc (lC (eV 0) lN)) (eV 0))) (gS 5)) (Jn (Q1 (eV 0)) (gS 6) (sQ (Vu 4 YQ (lC (eV 6) (lC (eV 1) (lC (eV 2) (lC (eV 3) lN))))) (sIf (eK Yc (lC (eV 6) lN)) (Zu 5 D.sub (eC (.int 1))) (sIf (eOp D.eqO (eV 5) (eC (.int 0))) (Vb) (sNx)))))
def Yq:List D->Option D:=Qc5 7 5 Vt
def Qbc:EvS:=Jn (Qbl (eV 0)) (JN [gS 2,gS 3]) (Jn (Q1 (eK ZU (lC (Qi (lC (eV 3) lN)) lN))) (gS 4) (sIf (eOp D.dNotIn (eV 4) (eV 1)) (Vb) (sNx)))
def YO:List D->Option D:=QA 5 2 Qbc
def QjY:EvS:=sQ (sIf (Q9 (eK Qcb (lC (eV 1) lN))) (Vb) (sNx)) (sQ (Qd (eK Z8 (lC (eV 0) (lC (eV 1) lN))) (gS 2)) (sQ (Qd (eC (.dic [] [])) (gS 3)) (sQ (Jn (Qbl (eV 0)) (JN [gS 4,gS 5]) (sQ (Vu 3 Yr (lC (eV 5) (lC (eV 4) (lC (eV 1) (lC (eV 2) lN))))) (Vu 3 Yq (lC (eK Zg (lC (eV 5) lN)) (lC (eV 4) (lC (eV 1) (lC (eV 2) lN))))))) (JY (eK YO (lC (eV 0) (lC (eV 3) lN)))))))
def Qaw:List D->Option D:=QA 6 2 QjY
def Qba:EvS:=sQ (Qd (Qi (lN)) (gS 2)) (sQ (Qd (eK Qax (lC (eC (.int 1)) lN)) (gS 3)) (sQ (sIf (Q9 (eOp D.ix (eV 1) (eC (.int 3)))) (Qj (Qp (lC (eV 2) (lC (eV 3) lN)))) (sNx)) (sQ (Jn (Q1 (eV 0)) (gS 4) (sIf (eK Vl (lC (eV 4) lN)) (sQ (Qd (eK YD (lC (eV 1) (lC (eV 3) (lC (eC (.int 1)) (lC (eC (.int 0)) lN))))) (gS 5)) (sQ (sP 2 (eOp D.ix (eV 5) (eC (.int 0)))) (Qd (eOp D.ix (eV 5) (eC (.int 1))) (gS 3)))) (sNx))) (sQ (sIf (eOp D.gt (eUn D.len (eV 2)) (eC (.int 0))) (Qd (eK Vf (lC (eV 1) (lC (eV 3) lN))) (gS 3)) (sNx)) (Qj (Qp (lC (eV 2) (lC (eV 3) lN))))))))
def VO:List D->Option D:=QA 6 2 Qba
def Qdd:EvS:=sQ (Qd (Qi (lN)) (gS 4)) (sQ (Qd (eC (.int 0)) (gS 5)) (sQ (Jn (Q1 (eV 0)) (gS 6) (sIf (eK Yc (lC (eV 6) lN)) (sQ (sIf (eOp D.eqO (eOp D.ix (eV 6) (eC (.int 0))) (eC (.str "ref"))) (sQ (Qd (eOp D.add (eOp D.add (eUn D.len (eOp D.ix (eV 6) (eC (.int 2)))) (eOp D.ix (eV 3) (eV 5))) (eUn D.len (eOp D.ix (eV 6) (eC (.int 3))))) (gS 7)) (sQ (Qd (eK QaF (lC (eV 1) (lC (eV 2) (lC (eV 7) (lC (eC (.int 0)) lN))))) (gS 8)) (Zu 5 D.addI (eC (.int 1))))) (Qd (eK QaF (lC (eV 1) (lC (eV 2) (lC (eUn D.len (eOp D.ix (eV 6) (eC (.int 1)))) (lC (eUn D.len (eOp D.ix (eV 6) (eC (.int 2)))) lN))))) (gS 8))) (sQ (sP 4 (eOp D.ix (eV 8) (eC (.int 0)))) (Qd (eOp D.ix (eV 8) (eC (.int 1))) (gS 2)))) (sNx))) (Qj (Qp (lC (eV 4) (lC (eK QaH (lC (eV 2) lN)) lN))))))
def VZ:List D->Option D:=QA 9 4 Qdd
def Qde:EvS:=sQ (sIf (eOp D.eqO (eOp D.ix (eV 0) (eC (.int 0))) (eC (.str "plates"))) (Qj (eK QaL (lC (eV 2) (lC (eOp D.ix (eV 0) (eC (.int 1))) lN)))) (sNx)) (sQ (sIf (eOp D.eqO (eOp D.ix (eV 0) (eC (.int 0))) (eC (.str "table"))) (Qj (eK YD (lC (eV 1) (lC (eV 2) (lC (eUn D.len (eOp D.ix (eV 0) (eC (.int 1)))) (lC (eC (.int 0)) lN)))))) (sNx)) (sQ (sIf (eOp D.eqO (eOp D.ix (eV 0) (eC (.int 0))) (eC (.str "heading"))) (Qj (eK YD (lC (eV 1) (lC (eV 2) (lC (eC (.int 1)) (lC (eOp D.ix (eV 0) (eC (.int 2))) lN)))))) (sNx)) (Qj (eK YD (lC (eV 1) (lC (eK Vf (lC (eV 1) (lC (eV 2) lN))) (lC (eC (.int 1)) (lC (eC (.int 0)) lN))))))))
def V0:List D->Option D:=QA 3 3 Qde
def Qej:EvS:=sQ (Qd (eK VO (lC (eV 0) (lC (eV 1) lN))) (gS 3)) (sQ (Qd (Qi (lC (eOp D.ix (eV 3) (eC (.int 0))) lN)) (gS 4)) (sQ (Qd (eOp D.ix (eV 3) (eC (.int 1))) (gS 5)) (sQ (Qd (eC (.int 0)) (gS 6)) (sQ (Jn (Q1 (eV 0)) (gS 7) (sQ (sIf (eOp D.eqO (eOp D.ix (eV 7) (eC (.int 0))) (eC (.str "para"))) (sQ (Qd (eK VZ (lC (eOp D.ix (eV 7) (eC (.int 1))) (lC (eV 1) (lC (eV 5) (lC (J1 (eV 2) (oAt (eV 6)) (oNo)) lN))))) (gS 3)) (sQ (sP 4 (eOp D.ix (eV 3) (eC (.int 0)))) (Zu 6 D.addI (eUn D.len (eK ZU (lC (Qi (lC (eV 7) lN)) lN)))))) (sQ (Qd (eK V0 (lC (eV 7) (lC (eV 1) (lC (eV 5) lN)))) (gS 3)) (sP 4 (Qi (lC (eOp D.ix (eV 3) (eC (.int 0))) lN))))) (Qd (eOp D.ix (eV 3) (eC (.int 1))) (gS 5)))) (Qj (eV 4))))))
def VM:List D->Option D:=QA 8 3 Qej
def QcJ:EvS:=sQ (Qd (Qi (lN)) (gS 3)) (sQ (Qd (eC (.int 0)) (gS 4)) (sQ (Jn (Q1 (eV 0)) (gS 5) (sIf (eK Yc (lC (eV 5) lN)) (Zu 4 D.addI (eC (.int 1))) (sIf (eOp D.eqO (eOp D.ix (eV 5) (eC (.int 0))) (eV 2)) (sP 3 (Qp (lC (eOp D.ix (eV 5) (eC (.int 1))) (lC (eOp D.ix (eOp D.ix (eV 1) (eV 4)) (eC (.int 0))) lN)))) (sNx)))) (Qj (eV 3))))
def YJ:List D->Option D:=QA 6 3 QcJ
def QbW:EvS:=sQ (Qd (eC (.dic [] [])) (gS 2)) (sQ (Jn (Qqt (eV 0) (J1 (eV 1) (oAt (eC (.int 1))) (oNo))) (JN [gS 3,gS 4]) (sQ (sIf (eOp D.neO (eK Yn (lC (eV 3) lN)) (eC (.str ""))) (QdT 2 (eK Yn (lC (eV 3) lN)) (eOp D.ix (eOp D.ix (eV 4) (eC (.int 0))) (eC (.int 0)))) (sNx)) (Jn (Q1 (eK YJ (lC (eK Zg (lC (eV 3) lN)) (lC (eV 4) (lC (eC (.str "mark")) lN))))) (JN [gS 5,gS 6]) (QdT 2 (eV 5) (eV 6))))) (Qj (eV 2)))
def Yk:List D->Option D:=QA 7 2 QbW
def Qbg:EvS:=sQ (Qd (eK Yk (lC (eV 0) (lC (eK VM (lC (eV 0) (lC (eV 1) (lC (eV 2) lN)))) lN))) (gS 3)) (Qj (QR 1 [3] (Q1 (eK ZU (lC (eV 0) lN))) (gS 0) (eC (.bl true)) (eK Qam (lC (eOp D.dget (eV 1) (eV 0)) lN))))
def Zr:List D->Option D:=QA 4 3 Qbg
def Qe9:EvS:=sQ (Qd (eV 2) (gS 3)) (sQ (Qd (eK Zr (lC (eV 0) (lC (eV 1) (lC (eV 3) lN)))) (gS 4)) (sQ (Qow (eOp D.neO (eV 4) (eV 3)) (sQ (Qd (eV 4) (gS 3)) (Qd (eK Zr (lC (eV 0) (lC (eV 1) (lC (eV 3) lN)))) (gS 4)))) (Qj (eV 3))))
def QbI:List D->Option D:=QA 5 3 Qe9
def Qgz:EvS:=sQ (JY (eK Qaw (lC (eV 0) (lC (eV 1) lN)))) (Qj (eK Zr (lC (eV 0) (lC (eV 1) (lC (eV 2) lN)))))
def Qae:List D->Option D:=QA 3 3 Qgz
def Qic:EvS:=sQ (JY (eK Qaw (lC (eV 0) (lC (eV 1) lN)))) (Qj (eK QbI (lC (eV 0) (lC (eV 1) (lC (eOp D.mulA (Qi (lC (eC (.int 1)) lN)) (eUn D.len (eK ZU (lC (eV 0) lN)))) lN)))))
def Vh:List D->Option D:=QA 2 2 Qic
def Qep:EvS:=sQ (JY (eK Qaw (lC (eV 0) (lC (eV 1) lN)))) (Qj (eK QbI (lC (eV 0) (lC (eV 1) (lC (eOp D.mulA (Qi (lC (eK Z8 (lC (eV 0) (lC (eV 1) lN))) lN)) (eUn D.len (eK ZU (lC (eV 0) lN)))) lN)))))
def ZS:List D->Option D:=QA 2 2 Qep
def QjW:EvS:=Qj (eOp D.eqO (eK Vh (lC (eV 0) (lC (eV 1) lN))) (eK ZS (lC (eV 0) (lC (eV 1) lN))))
def Qby:List D->Option D:=QA 2 2 QjW
def Qet:EvS:=sQ (sIf (eOp D.lt (eV 1) (eUn D.len (eV 0))) (Qj (eOp D.ix (eV 0) (eV 1))) (sNx)) (Qj (eC (.int 0)))
def Je:List D->Option D:=QA 2 2 Qet
def QgB:EvS:=Qj (QN (J5 "int" (eV 0)) (Q9 (J5 "bool" (eV 0))))
def Qcw:List D->Option D:=QA 1 1 QgB
def Qj0:EvS:=sQ (Qd (eOp D.mod (eOp D.mulA (eOp D.add (eOp D.add (eOp D.mod (eV 0) (eC (.int 2147483647))) (eOp D.mulA (eOp D.mulA (eV 1) (eV 1)) (eC (.int 7919)))) (eC (.int 104729))) (eC (.int 48271))) (eC (.int 2147483647))) (gS 2)) (Qj (eOp D.mod (eOp D.add (eOp D.mulA (eV 2) (eV 2)) (eOp D.mulA (eC (.int 69621)) (eV 1))) (eC (.int 2147483629))))
def Ym:List D->Option D:=QA 3 2 Qj0
def QkN:EvS:=sQ (Qd (eC (.str "abcdefghijkl")) (gS 1)) (Qj (eOp D.add (eOp D.add (eOp D.add (J1 (eC (.str "xxx")) (oNo) (oAt (eOp D.mod (eOp D.mulA (eV 0) (eC (.int 7))) (eC (.int 4))))) (eOp D.ix (eV 1) (eOp D.mod (eOp D.fdiv (eV 0) (eC (.int 12))) (eC (.int 12))))) (eOp D.ix (eV 1) (eOp D.mod (eV 0) (eC (.int 12))))) (J1 (eC (.str "yy")) (oNo) (oAt (eOp D.mod (eOp D.mulA (eV 0) (eC (.int 5))) (eC (.int 3)))))))
def QaZ:List D->Option D:=QA 2 1 QkN
def Qfb:EvS:=sQ (Qd (eC (.int 10)) (gS 2)) (sQ (Jn (YR (eOp D.mod (eOp D.fdiv (eV 1) (eC (.int 97))) (eC (.int 4)))) (gS 3) (Qd (eOp D.mulA (eV 2) (eC (.int 10))) (gS 2))) (sQ (sIf (eOp D.eqO (eOp D.mod (eOp D.fdiv (eV 1) (eC (.int 97))) (eC (.int 8))) (eC (.int 7))) (Qd (eOp D.pow (eC (.int 10)) (eC (.int 30))) (gS 2)) (sNx)) (Qj (eOp D.ix (Qi (lC (eOp D.add (eC (.int 1)) (eOp D.mod (eOp D.fdiv (eV 1) (eC (.int 16))) (eC (.int 3)))) (lC (eOp D.sub (eOp D.sub (eV 2) (eC (.int 1))) (eOp D.mod (eOp D.fdiv (eV 1) (eC (.int 16))) (eC (.int 5)))) (lC (eOp D.add (eC (.int 1)) (eOp D.mod (eV 0) (eOp D.pow (eC (.int 10)) (eC (.int 39))))) lN)))) (eOp D.mod (eOp D.fdiv (eV 1) (eC (.int 997))) (eC (.int 3)))))))
def QcV:List D->Option D:=QA 4 2 Qfb
def QgC : EvS := sQ (Qd (eC (.str "!\"#$&'()*+,-./0123456789:;<=>?@ABCDEFGHIJKLMNOPQRSTUVWXYZ[\\]^_`")) (gS 3)) (sQ (Qd (eOp D.add (eV 3) (eC (.str "abcdefghijklmnopqrstuvwxyz{}~|"))) (gS 3)) (sQ (Qd (eC (.str "")) (gS 4)) (sQ (Jn (YR (eV 1)) (gS 5) (sQ (Qd (eOp D.add (eOp D.add (eOp D.fdiv (eV 0) (eC (.int 7))) (eOp D.mulA (eV 5) (eOp D.add (eC (.int 1)) (eOp D.mod (eV 0) (eC (.int 13)))))) (eOp D.mulA (eV 5) (eV 5))) (gS 6)) (sQ (Qd (eOp D.ix (eV 3) (eOp D.mod (eV 6) (eOp D.add (eOp D.sub (eUn D.len (eV 3)) (eC (.int 1))) (eV 2)))) (gS 7)) (sQ (sIf (QN (eOp D.eqO (eV 2) (eC (.int 1))) (eOp D.eqO (eOp D.mod (eOp D.add (eOp D.fdiv (eV 0) (eC (.int 3))) (eV 5)) (eC (.int 4))) (eC (.int 0)))) (Qd (eC (.str " ")) (gS 7)) (sNx)) (Qd (eOp D.add (eV 4) (eV 7)) (gS 4)))))) (Qj (eV 4)))))
def Y0:List D->Option D:=QA 8 3 QgC
def Qig:EvS:=sQ (Qd (eK Ym (lC (eV 0) (lC (eOp D.add (eV 1) (eC (.int 20))) lN))) (gS 2)) (sQ (Qd (eOp D.mod (eV 2) (eC (.int 17))) (gS 3)) (sQ (Qd (eOp D.add (eC (.int 1)) (eOp D.mod (eOp D.fdiv (eV 2) (eC (.int 17))) (eOp D.ix (Qi (lC (eC (.int 11)) (lC (eC (.int 40)) lN))) (eUn D.intB (eOp D.eqO (eOp D.mod (eOp D.fdiv (eV 2) (eC (.int 187))) (eC (.int 9))) (eC (.int 4))))))) (gS 4)) (sQ (Qd (eOp D.add (eC (.int 1)) (eOp D.mod (eOp D.fdiv (eV 2) (eC (.int 97))) (eOp D.ix (Qi (lC (eC (.int 4)) (lC (eC (.int 30)) lN))) (eUn D.intB (eOp D.eqO (eOp D.mod (eOp D.fdiv (eV 2) (eC (.int 1009))) (eC (.int 11))) (eC (.int 5))))))) (gS 5)) (sQ (Qd (eK Y0 (lC (eOp D.fdiv (eV 2) (eC (.int 17))) (lC (eV 4) (lC (eC (.int 1)) lN)))) (gS 6)) (sQ (Qd (eK Y0 (lC (eOp D.fdiv (eV 2) (eC (.int 19))) (lC (eV 4) (lC (eC (.int 0)) lN)))) (gS 7)) (sQ (Qd (eK QaZ (lC (eV 1) lN)) (gS 8)) (sQ (Qd (eV 8) (gS 9)) (sQ (sIf (eOp D.eqO (eOp D.mod (eOp D.fdiv (eV 2) (eC (.int 1009))) (eC (.int 2))) (eC (.int 0))) (Qd (eC (.str "")) (gS 9)) (sNx)) (sQ (sIf (eOp D.eqO (eV 3) (eC (.int 0))) (Qj (Qp (lC (eC (.str "chapter")) (lC (eOp D.add (eOp D.ix (eV 7) (eC (.int 0))) (eUn D.strip (eV 6))) (lC (eV 9) lN))))) (sNx)) (sQ (sIf (eOp D.eqO (eV 3) (eC (.int 1))) (Qj (Qp (lC (eC (.str "heading")) (lC (eOp D.add (eOp D.ix (eV 7) (eC (.int 0))) (eUn D.strip (eV 6))) (lC (eOp D.sub (eV 5) (eC (.int 1))) (lC (eV 9) lN)))))) (sNx)) (sQ (sIf (eOp D.eqO (eV 3) (eC (.int 2))) (Qj (Qp (lC (eC (.str "table")) (lC (QR 1 [6,4] (YR (eV 5)) (gS 0) (eC (.bl true)) (J1 (eV 1) (oNo) (oAt (eOp D.max2 (eC (.int 0)) (eOp D.sub (eV 2) (eV 0)))))) (lC (eV 9) lN))))) (sNx)) (sQ (sIf (eOp D.eqO (eV 3) (eC (.int 3))) (Qj (Qp (lC (eC (.str "plates")) (lC (eK QcV (lC (eV 0) (lC (eV 2) lN))) (lC (eV 9) lN))))) (sNx)) (sQ (sIf (eOp D.eqO (eV 3) (eC (.int 4))) (Qj (Qp (lC (eC (.str "break")) (lC (eC (.str "")) (lC (eC (.str "")) lN))))) (sNx)) (sQ (sIf (eOp D.lt (eV 3) (eC (.int 7))) (Qj (Qp (lC (eC (.str "mark")) (lC (eV 8) lN)))) (sNx)) (sQ (sIf (eOp D.eqO (eV 3) (eC (.int 7))) (Qj (Qp (lC (eC (.str "key")) (lC (J1 (eOp D.mulA (eV 7) (eC (.int 9))) (oNo) (oAt (eOp D.add (eC (.int 1)) (eOp D.mod (eOp D.fdiv (eV 2) (eC (.int 97))) (eC (.int 80)))))) lN)))) (sNx)) (sQ (sIf (eOp D.lt (eV 3) (eC (.int 12))) (Qj (Qp (lC (eC (.str "ref")) (lC (eC (.str "")) (lC (J1 (eV 7) (oNo) (oAt (eOp D.mod (eOp D.fdiv (eV 2) (eC (.int 97))) (eC (.int 3))))) (lC (eK Y0 (lC (eOp D.fdiv (eV 2) (eC (.int 23))) (lC (eOp D.mod (eOp D.fdiv (eV 2) (eC (.int 291))) (eC (.int 3))) (lC (eC (.int 0)) lN)))) lN)))))) (sNx)) (sQ (sIf (eOp D.eqO (eV 3) (eC (.int 12))) (Qj (Qp (lC (eC (.str "word")) (lC (eV 7) (lC (QR 1 [6] (YR (eV 5)) (gS 0) (eC (.bl true)) (J1 (eV 1) (oAt (eV 0)) (oNo))) lN))))) (sNx)) (Qj (Qp (lC (eC (.str "word")) (lC (eV 7) (lC (Qi (lN)) lN))))))))))))))))))))))
def Qai:List D->Option D:=QA 10 2 Qig
def Qer:EvS:=sQ (Qd (Qi (lN)) (gS 2)) (sQ (Jn (Q1 (eV 0)) (gS 3) (sIf (eOp D.eqO (eOp D.ix (eV 3) (eC (.int 0))) (eC (.str "mark"))) (sP 2 (eOp D.ix (eV 3) (eC (.int 1)))) (sIf (QN (eOp D.notInO (eOp D.ix (eV 3) (eC (.int 0))) (Qi (lC (eC (.str "break")) (lC (eC (.str "word")) (lC (eC (.str "key")) (lC (eC (.str "ref")) lN)))))) (eOp D.neO (eOp D.ix (eV 3) (eUn D.neg (eC (.int 1)))) (eC (.str "")))) (sP 2 (eOp D.ix (eV 3) (eUn D.neg (eC (.int 1))))) (sNx)))) (sQ (Qd (Qi (lN)) (gS 4)) (sQ (Jn (Qbl (eV 0)) (JN [gS 5,gS 3]) (sIf (QN (eOp D.eqO (eOp D.ix (eV 3) (eC (.int 0))) (eC (.str "ref"))) (eOp D.eqO (eV 2) (Qi (lN)))) (sP 4 (Qp (lC (eC (.str "word")) (lC (eC (.str "lost")) (lC (Qi (lN)) lN))))) (sIf (eOp D.eqO (eOp D.ix (eV 3) (eC (.int 0))) (eC (.str "ref"))) (sQ (Qd (eOp D.ix (eV 2) (eOp D.mod (eK Ym (lC (eOp D.ix (eV 1) (eV 5)) (lC (eOp D.add (eV 5) (eC (.int 90))) lN))) (eUn D.len (eV 2)))) (gS 6)) (sP 4 (Qp (lC (eC (.str "ref")) (lC (eV 6) (lC (eOp D.ix (eV 3) (eC (.int 2))) (lC (eOp D.ix (eV 3) (eC (.int 3))) lN))))))) (sP 4 (eV 3))))) (Qj (eV 4)))))
def Qcc:List D->Option D:=QA 7 2 Qer
def Qes:EvS:=sQ (Qd (Qi (lN)) (gS 1)) (sQ (Qd (Qi (lN)) (gS 2)) (sQ (Jn (Q1 (eOp D.add (eV 0) (Qi (lC (Qp (lC (eC (.str "end")) (lC (eC (.str "")) (lC (eC (.str "")) lN)))) lN)))) (gS 3) (sQ (sIf (eOp D.inO (eOp D.ix (eV 3) (eC (.int 0))) (Qi (lC (eC (.str "mark")) (lC (eC (.str "key")) (lC (eC (.str "ref")) (lC (eC (.str "word")) lN)))))) (sQ (sP 2 (eV 3)) (Z2)) (sNx)) (sQ (sIf (QN (eOp D.neO (eV 2) (Qi (lN))) (eOp D.inO (eOp D.ix (eOp D.ix (eV 2) (eUn D.neg (eC (.int 1)))) (eC (.int 0))) (Qi (lC (eC (.str "mark")) (lC (eC (.str "key")) lN))))) (sP 2 (Qp (lC (eC (.str "word")) (lC (eC (.str "end")) (lC (Qi (lN)) lN))))) (sNx)) (sQ (sIf (eOr (eOp D.neO (eV 2) (Qi (lN))) (eOp D.eqO (eOp D.ix (eV 3) (eC (.int 0))) (eC (.str "break")))) (sP 1 (Qp (lC (eC (.str "para")) (lC (eV 2) lN)))) (sNx)) (sQ (Qd (Qi (lN)) (gS 2)) (sIf (eOp D.notInO (eOp D.ix (eV 3) (eC (.int 0))) (Qi (lC (eC (.str "break")) (lC (eC (.str "end")) lN)))) (sP 1 (eV 3)) (sNx))))))) (Qj (eV 1))))
def Y9:List D->Option D:=QA 4 1 Qes
def Qie:EvS:=sQ (sIf (eOr (eOp D.ix (eV 1) (eC (.int 3))) (eOp D.neO (eOp D.mod (eK Je (lC (eV 0) (lC (eC (.int 4)) lN))) (eC (.int 3))) (eC (.int 1)))) (Qj (Qi (lN))) (sNx)) (sQ (Qd (eOp D.add (eC (.int 1)) (eOp D.mod (eK Ym (lC (eK Je (lC (eV 0) (lC (eC (.int 4)) lN))) (lC (eC (.int 19)) lN))) (eC (.int 6)))) (gS 2)) (sQ (Qd (eC (.int 1)) (gS 3)) (sQ (Jn (YR (eV 2)) (gS 4) (Qd (eOp D.mulA (eV 3) (eC (.int 10))) (gS 3))) (sQ (Qd (Qi (lC (Qp (lC (eC (.str "word")) (lC (eOp D.mulA (eC (.str "w")) (eOp D.max2 (eC (.int 1)) (eOp D.sub (eOp D.sub (eOp D.ix (eV 1) (eC (.int 0))) (eC (.int 1))) (eV 2)))) (lC (Qi (lN)) lN)))) (lC (Qp (lC (eC (.str "mark")) (lC (eC (.str "z")) lN))) (lC (Qp (lC (eC (.str "ref")) (lC (eC (.str "z")) (lC (eC (.str "")) (lC (eC (.str "")) lN))))) lN)))) (gS 5)) (Qj (Qi (lC (Qp (lC (eC (.str "plates")) (lC (eOp D.sub (eV 3) (eC (.int 2))) (lC (eC (.str "")) lN)))) (lC (Qp (lC (eC (.str "table")) (lC (QR 1 [] (YR (eOp D.sub (eOp D.ix (eV 1) (eC (.int 1))) (eC (.int 1)))) (gS 0) (eC (.bl true)) (eC (.str ""))) (lC (eC (.str "")) lN)))) (lC (Qp (lC (eC (.str "para")) (lC (eV 5) lN))) lN)))))))))
def QaW:List D->Option D:=QA 6 2 Qie
def QgD:EvS:=sQ (Qd (eC (.int 4)) (gS 2)) (sQ (Qd (eC (.int 2)) (gS 3)) (sQ (Jn (Q1 (eV 0)) (gS 4) (sQ (sIf (eOr (eOp D.eqO (eOp D.ix (eV 4) (eC (.int 0))) (eC (.str "chapter"))) (eOp D.eqO (eOp D.ix (eV 4) (eC (.int 0))) (eC (.str "heading")))) (Qd (eOp D.max2 (eV 2) (eOp D.add (eOp D.add (eUn D.len (eOp D.ix (eV 4) (eC (.int 1)))) (eC (.int 2))) (eV 1))) (gS 2)) (sNx)) (sQ (sIf (eOp D.eqO (eOp D.ix (eV 4) (eC (.int 0))) (eC (.str "heading"))) (Qd (eOp D.max2 (eV 3) (eOp D.add (eOp D.ix (eV 4) (eC (.int 2))) (eC (.int 1)))) (gS 3)) (sNx)) (sQ (sIf (eOp D.eqO (eOp D.ix (eV 4) (eC (.int 0))) (eC (.str "table"))) (sQ (Qd (eOp D.max2 (eV 3) (eUn D.len (eOp D.ix (eV 4) (eC (.int 1))))) (gS 3)) (Qd (eUn D.maxL (eOp D.add (Qi (lC (eV 2) lN)) (QR 1 [] (Q1 (eOp D.ix (eV 4) (eC (.int 1)))) (gS 0) (eC (.bl true)) (eUn D.len (eV 0))))) (gS 2))) (sNx)) (sIf (eOp D.eqO (eOp D.ix (eV 4) (eC (.int 0))) (eC (.str "para"))) (sQ (Qd (eUn D.maxL (eOp D.add (Qi (lC (eV 2) lN)) (QR 1 [1] (Q1 (eOp D.ix (eV 4) (eC (.int 1)))) (gS 0) (eOp D.eqO (eOp D.ix (eV 0) (eC (.int 0))) (eC (.str "ref"))) (eOp D.add (eOp D.add (eUn D.len (eOp D.ix (eV 0) (eC (.int 2)))) (eV 1)) (eUn D.len (eOp D.ix (eV 0) (eC (.int 3)))))))) (gS 2)) (sQ (Qd (eUn D.maxL (eOp D.add (Qi (lC (eV 2) lN)) (QR 1 [] (Q1 (eOp D.ix (eV 4) (eC (.int 1)))) (gS 0) (eOp D.eqO (eOp D.ix (eV 0) (eC (.int 0))) (eC (.str "word"))) (eUn D.len (eOp D.ix (eV 0) (eC (.int 1))))))) (gS 2)) (sQ (Qd (QR 1 [] (Q1 (eOp D.ix (eV 4) (eC (.int 1)))) (gS 0) (eOp D.eqO (eOp D.ix (eV 0) (eC (.int 0))) (eC (.str "word"))) (eOp D.ix (eV 0) (eC (.int 2)))) (gS 5)) (sQ (Qd (eUn D.maxL (eOp D.add (Qi (lC (eV 3) lN)) (QR 1 [] (Q1 (eV 5)) (gS 0) (eC (.bl true)) (eOp D.add (eC (.int 1)) (eUn D.len (eV 0)))))) (gS 3)) (Jn (Q1 (eV 5)) (gS 6) (Qd (eUn D.maxL (eOp D.add (Qi (lC (eV 2) lN)) (QR 1 [] (Q1 (eV 6)) (gS 0) (eC (.bl true)) (eUn D.len (eV 0))))) (gS 2))))))) (sNx)))))) (Qj (Qp (lC (eV 2) (lC (eV 3) lN))))))
def Qcx:List D->Option D:=QA 7 2 QgD
def Qid:EvS:=sQ (Qd (eC (.int 3)) (gS 2)) (sQ (Jn (Q1 (eV 0)) (gS 3) (sQ (Qd (eOp D.add (eV 2) (eC (.int 2))) (gS 2)) (sQ (sIf (QN (eV 1) (eOr (eOp D.eqO (eOp D.ix (eV 3) (eC (.int 0))) (eC (.str "chapter"))) (eOp D.eqO (eOp D.ix (eV 3) (eC (.int 0))) (eC (.str "heading"))))) (Qd (eOp D.add (eV 2) (eC (.int 2))) (gS 2)) (sNx)) (sQ (sIf (eOp D.eqO (eOp D.ix (eV 3) (eC (.int 0))) (eC (.str "plates"))) (Qd (eOp D.add (eV 2) (eOp D.ix (eV 3) (eC (.int 1)))) (gS 2)) (sNx)) (sIf (eOp D.eqO (eOp D.ix (eV 3) (eC (.int 0))) (eC (.str "para"))) (Qd (eOp D.add (eV 2) (eOp D.mulA (eC (.int 2)) (eUn D.len (QR 1 [] (Q1 (eOp D.ix (eV 3) (eC (.int 1)))) (gS 0) (eOr (eOp D.eqO (eOp D.ix (eV 0) (eC (.int 0))) (eC (.str "word"))) (eOp D.eqO (eOp D.ix (eV 0) (eC (.int 0))) (eC (.str "ref")))) (eV 0))))) (gS 2)) (sNx)))))) (Qj (eV 2)))
def QdB:List D->Option D:=QA 4 2 Qid
def QgE:EvS:=sQ (Qd (eOp D.add (J1 (eV 0) (oNo) (oAt (eC (.int 63)))) (Qi (lC (eC (.int 7)) lN))) (gS 1)) (sQ (Qd (QR 1 [1] (YR (eOp D.mod (eK Ym (lC (eK Je (lC (eV 0) (lC (eC (.int 5)) lN))) (lC (eC (.int 29)) lN))) (eC (.int 35)))) (gS 0) (eC (.bl true)) (eOp D.ix (eV 1) (eOp D.mod (eV 0) (eUn D.len (eV 1))))) (gS 2)) (sQ (Qd (eK Y9 (lC (eK Qcc (lC (QR 2 [] (Qbl (eV 2)) (JN [gS 0,gS 1]) (eC (.bl true)) (eK Qai (lC (eV 1) (lC (eV 0) lN)))) (lC (eV 2) lN))) lN)) (gS 3)) (sQ (Qd (eOp D.eqO (eOp D.mod (eK Je (lC (eV 0) (lC (eC (.int 3)) lN))) (eC (.int 2))) (eC (.int 1))) (gS 4)) (sQ (Qd (eK QaW (lC (eV 0) (lC (Qp (lC (eC (.int 4)) (lC (eC (.int 2)) (lC (eC (.bl false)) (lC (eV 4) lN))))) lN))) (gS 5)) (sQ (Qd (eUn D.len (eUn D.strI (eK QdB (lC (eOp D.add (eV 5) (eV 3)) (lC (eV 4) lN))))) (gS 6)) (sQ (Qd (eK Qcx (lC (eOp D.add (eV 3) (eV 5)) (lC (eV 6) lN))) (JN [gS 7,gS 8])) (sQ (sIf (eOp D.neO (eV 5) (Qi (lN))) (Qd (eOp D.max2 (eV 7) (eOp D.add (eV 6) (eC (.int 2)))) (gS 7)) (sNx)) (sQ (Qd (eOp D.max2 (eV 7) (eOp D.add (eC (.int 4)) (eOp D.mod (eK Ym (lC (eK Je (lC (eV 0) (lC (eC (.int 0)) lN))) (lC (eC (.int 1)) lN))) (eC (.int 30))))) (gS 9)) (sQ (Qd (eOp D.max2 (eV 8) (eOp D.add (eC (.int 2)) (eOp D.mod (eK Ym (lC (eK Je (lC (eV 0) (lC (eC (.int 1)) lN))) (lC (eC (.int 2)) lN))) (eC (.int 5))))) (gS 10)) (sQ (sIf (eOp D.eqO (eOp D.mod (eK Je (lC (eV 0) (lC (eC (.int 1)) lN))) (eC (.int 5))) (eC (.int 1))) (Qd (eOp D.max2 (eV 8) (eOp D.add (eC (.int 2)) (eOp D.mod (eK Ym (lC (eK Je (lC (eV 0) (lC (eC (.int 1)) lN))) (lC (eC (.int 4)) lN))) (eC (.int 59))))) (gS 10)) (sNx)) (sQ (Qd (Qp (lC (eV 9) (lC (eV 10) (lC (eOp D.eqO (eOp D.mod (eK Je (lC (eV 0) (lC (eC (.int 2)) lN))) (eC (.int 2))) (eC (.int 1))) (lC (eV 4) lN))))) (gS 11)) (Qj (Qp (lC (eOp D.add (eK QaW (lC (eV 0) (lC (eV 11) lN))) (eV 3)) (lC (eV 11) (lC (eV 6) lN))))))))))))))))
def Qcy:List D->Option D:=QA 12 1 QgE
def Qif:EvS:=sQ (Qd (Qi (lN)) (gS 1)) (sQ (Jn (Q1 (eV 0)) (gS 2) (sIf (eOp D.eqO (eOp D.ix (eV 2) (eC (.int 0))) (eC (.str "para"))) (sQ (Qd (Qi (lN)) (gS 3)) (sQ (Jn (Q1 (eOp D.ix (eV 2) (eC (.int 1)))) (gS 4) (sIf (eOp D.eqO (eOp D.ix (eV 4) (eC (.int 0))) (eC (.str "word"))) (sP 3 (Qp (lC (eC (.str "word")) (lC (eOp D.ix (eV 4) (eC (.int 1))) (lC (eUn D.listOf (eOp D.ix (eV 4) (eC (.int 2)))) lN))))) (sP 3 (eV 4)))) (sP 1 (Qp (lC (eC (.str "para")) (lC (eV 3) lN)))))) (sIf (eOp D.eqO (eOp D.ix (eV 2) (eC (.int 0))) (eC (.str "table"))) (sP 1 (Qp (lC (eC (.str "table")) (lC (eUn D.listOf (eOp D.ix (eV 2) (eC (.int 1)))) (lC (eOp D.ix (eV 2) (eC (.int 2))) lN))))) (sP 1 (eV 2))))) (Qj (eV 1)))
def QfE:List D->Option D:=QA 5 1 Qif
def Qdk:EvS:=sQ (Qd (Qi (lN)) (gS 1)) (sQ (Jn (Q1 (eV 0)) (gS 2) (sIf (eOp D.eqO (eOp D.ix (eV 2) (eC (.int 0))) (eC (.str "para"))) (Qd (eOp D.add (eV 1) (QR 1 [] (Q1 (eOp D.ix (eV 2) (eC (.int 1)))) (gS 0) (eOp D.eqO (eOp D.ix (eV 0) (eC (.int 0))) (eC (.str "ref"))) (eOp D.ix (eV 0) (eC (.int 1))))) (gS 1)) (sNx))) (Qj (eV 1)))
def Qbs:List D->Option D:=QA 3 1 Qdk
def QbX:EvS:=sQ (sIf (eOr (Q9 (J5 "list" (eV 0))) (eOp D.neO (eUn D.len (eV 0)) (eV 1))) (Qj (eC (.bl false))) (sNx)) (Qj (eOp D.eqO (QR 1 [2] (Q1 (eV 0)) (gS 0) (eOr (Q9 (eK Qcw (lC (eV 0) lN))) (eOr (eOp D.lt (eV 0) (eC (.int 1))) (eOp D.gt (eV 0) (eV 1)))) (eV 0)) (Qi (lN))))
def Vg:List D->Option D:=QA 3 3 QbX
def QgF:EvS:=sQ (Qd (eOp D.add (eC (.int 11)) (eOp D.mod (eV 0) (eC (.int 4)))) (gS 1)) (sQ (Qd (eOp D.add (eC (.int 20)) (eOp D.mod (eOp D.fdiv (eV 0) (eC (.int 4))) (eC (.int 9)))) (gS 2)) (sQ (Qd (eOp D.mod (eOp D.fdiv (eV 0) (eC (.int 36))) (eC (.int 2))) (gS 3)) (sQ (Qd (Qi (lN)) (gS 4)) (sQ (Qd (eC (.str "z")) (gS 5)) (sQ (Qd (eC (.int 1)) (gS 6)) (sQ (Jn (Qb0 (eC (.int 1)) (eOp D.add (eV 1) (eC (.int 1)))) (gS 7) (sQ (Qd (eOp D.add (eC (.str "l")) (eOp D.ix (eC (.str "abcdefghijklmn")) (eOp D.sub (eV 7) (eC (.int 1))))) (gS 8)) (sQ (Qd (eOp D.mulA (eC (.str "x")) (eOp D.sub (eV 2) (eOp D.max2 (eC (.int 2)) (eV 7)))) (gS 9)) (sQ (sP 4 (Qp (lC (eC (.str "plates")) (lC (eOp D.ix (Qi (lC (eOp D.sub (eOp D.mulA (eC (.int 9)) (eV 6)) (eC (.int 2))) (lC (eC (.int 8)) lN))) (eUn D.intB (eOp D.eqO (eV 7) (eC (.int 1))))) (lC (eC (.str "")) lN))))) (sQ (sP 4 (Qp (lC (eC (.str "table")) (lC (Qi (lC (eC (.str "")) lN)) (lC (eOp D.ix (Qi (lC (eC (.str "")) (lC (eC (.str "z")) lN))) (eUn D.intB (QN (eOp D.eqO (eV 7) (eC (.int 1))) (eOp D.eqO (eV 3) (eC (.int 0)))))) lN))))) (sQ (sP 4 (Qp (lC (eC (.str "para")) (lC (Qi (lC (Qp (lC (eC (.str "word")) (lC (eV 9) (lC (Qi (lN)) lN)))) (lC (Qp (lC (eC (.str "mark")) (lC (eV 8) lN))) (lC (Qp (lC (eC (.str "ref")) (lC (eV 5) (lC (eC (.str "")) (lC (eC (.str "")) lN))))) lN)))) lN)))) (sQ (sP 4 (Qp (lC (eC (.str "table")) (lC (Qi (lC (eC (.str "")) lN)) (lC (eOp D.ix (Qi (lC (eC (.str "")) (lC (eC (.str "z")) lN))) (eUn D.intB (QN (eOp D.eqO (eV 7) (eC (.int 1))) (eOp D.eqO (eV 3) (eC (.int 1)))))) lN))))) (sQ (Qd (eV 8) (gS 5)) (Qd (eOp D.mulA (eV 6) (eC (.int 10))) (gS 6)))))))))) (Qj (Qp (lC (eV 4) (lC (Qp (lC (eV 2) (lC (eC (.int 2)) (lC (eC (.bl false)) (lC (eC (.bl false)) lN))))) (lC (eOp D.add (Qi (lC (eOp D.add (eC (.int 1)) (eV 3)) lN)) (QR 1 [3] (Qb0 (eC (.int 2)) (eOp D.add (eV 1) (eC (.int 1)))) (gS 0) (eC (.bl true)) (eOp D.add (eOp D.sub (eV 0) (eC (.int 1))) (eV 1)))) lN)))))))))))
def Qa0:List D->Option D:=QA 10 1 QgF
def QnB:EvS:=sQ (Qd (eK Ym (lC (eK Je (lC (eV 0) (lC (eC (.int 6)) lN))) (lC (eC (.int 77)) lN))) (gS 1)) (sQ (sIf (eOp D.eqO (eOp D.mod (eV 1) (eC (.int 8))) (eC (.int 1))) (sQ (Qd (eK Qa0 (lC (eOp D.fdiv (eV 1) (eC (.int 8))) lN)) (JN [gS 2,gS 3,gS 4])) (sIf (eOr (eOp D.neO (eK Vh (lC (eV 2) (lC (eV 3) lN))) (eV 4)) (eOr (eOp D.neO (eK ZS (lC (eV 2) (lC (eV 3) lN))) (eV 4)) (eUn D.isNT (eK Qby (lC (eV 2) (lC (eV 3) lN)))))) (Qj (eC (.bl false))) (sNx))) (sNx)) (sQ (Qd (eK Qcy (lC (eV 0) lN)) (JN [gS 2,gS 3,gS 5])) (sQ (Qd (eUn D.len (eK Qbs (lC (eV 2) lN))) (gS 6)) (sQ (Qd (eK QfE (lC (eV 2) lN)) (gS 7)) (sQ (Qd (eK Vh (lC (eV 7) (lC (eV 3) lN))) (gS 8)) (sQ (Qd (eK ZS (lC (eV 7) (lC (eV 3) lN))) (gS 9)) (sQ (Qd (eK Qby (lC (eV 7) (lC (eV 3) lN))) (gS 10)) (sQ (sIf (eOr (eOp D.neO (eV 7) (eV 2)) (eOr (Q9 (eK Vg (lC (eV 8) (lC (eV 6) (lC (eV 5) lN))))) (Q9 (eK Vg (lC (eV 9) (lC (eV 6) (lC (eV 5) lN))))))) (Qj (eC (.bl false))) (sNx)) (sQ (sIf (eOr (eOp D.neO (eK Qae (lC (eV 2) (lC (eV 3) (lC (eV 8) lN)))) (eV 8)) (eOp D.neO (eK Qae (lC (eV 2) (lC (eV 3) (lC (eV 9) lN)))) (eV 9))) (Qj (eC (.bl false))) (sNx)) (sQ (sIf (eOr (eOp D.neO (QR 1 [8,9] (YR (eV 6)) (gS 0) (eOp D.gt (eOp D.ix (eV 1) (eV 0)) (eOp D.ix (eV 2) (eV 0))) (eV 0)) (Qi (lN))) (eOr (Q9 (J5 "bool" (eV 10))) (eOp D.neO (eV 10) (eOp D.eqO (eV 8) (eV 9))))) (Qj (eC (.bl false))) (sNx)) (Qj (eOr (Q9 (eV 10)) (eOp D.eqO (eK QaW (lC (eV 0) (lC (eV 3) lN))) (Qi (lN)))))))))))))))
def Qfw:List D->Option D:=QA 11 1 QnB
def cell (ns:List Int) (k:Nat):Int:=ns.getD k 0
theorem QaX (ns:List Int) (k:Nat):Je [.scr ns,.int k]=some (.int (cell ns k)):=by
 unfold Je Qet
 by_cases h:k<ns.length
 ·simp [QF,J1,Zw,lI,QA,sD,sQ,sIf,Qj,ZP,Qd,Zu,JY,sNx,Yt,Z2,gS,JN,Zn,eV,eC,eOp,eUn,Q9,QN,eOr,eIf,JO,Qp,Qi,eK,lN,lC,J5,oNo,oAt,ZQ,D.len,D.lt,D.le,D.gt,D.ge,D.add,D.sub,D.ix,D.eqO,D.neO,D.cmp,D.cmpN,D.inst,tyD,D.isT,D.intB,D.min2,D.max2,D.neg,D.addI,Qo,JS,JU,Jv,QM,QS,JR,JQ,Jj,Ju,JV,JW,Jw,Jy,JT,Q7,JL,Za,Qt,Qz,Jd,Q8,Q4,QV,D.rng,D.its,D.itsT,QD,ZI,QH,Jl,JJ,Jm,Jh,ixD,h,cell]
 ·simp [QF,J1,Zw,lI,QA,sD,sQ,sIf,Qj,ZP,Qd,Zu,JY,sNx,Yt,Z2,gS,JN,Zn,eV,eC,eOp,eUn,Q9,QN,eOr,eIf,JO,Qp,Qi,eK,lN,lC,J5,oNo,oAt,ZQ,D.len,D.lt,D.le,D.gt,D.ge,D.add,D.sub,D.ix,D.eqO,D.neO,D.cmp,D.cmpN,D.inst,tyD,D.isT,D.intB,D.min2,D.max2,D.neg,D.addI,Qo,JS,JU,Jv,QM,QS,JR,JQ,Jj,Ju,JV,JW,Jw,Jy,JT,Q7,JL,Za,Qt,Qz,Jd,Q8,Q4,QV,D.rng,D.its,D.itsT,QD,ZI,QH,Jl,JJ,Jm,Jh,ixD,h,cell]
def mix (c t:Int):Int:=((c%2147483647+t*t*7919+104729)*48271%2147483647*((c%2147483647+t*t*7919+104729)*48271%2147483647)+69621*t)%2147483629
theorem QoH (c t:Int):0<=mix c t:=Int.emod_nonneg _ (by decide)
theorem Qun (c t:Int):mix c t<2147483629:=Int.emod_lt_of_pos _ (by decide)
theorem Qbw (c t:Int) (h0:0<=t) (h1:t<=1000):Ym [.int c,.int t]=some (.int (mix c t)):=by
 have e1:D.mul (.int t) (.int t)=some (.int (t*t)):=QdU (by omega)
 have e2:D.mul (.int (t*t)) (.int 7919)=some (.int (t*t*7919)):=QgS (by decide)
 have e3:D.mul (.int (c%2147483647+t*t*7919+104729)) (.int 48271)=some (.int ((c%2147483647+t*t*7919+104729)*48271)):=QgS (by decide)
 have n0:=Int.emod_nonneg ((c%2147483647+t*t*7919+104729)*48271) (show (2147483647:Int)≠0 by decide)
 have n1:=Int.emod_lt_of_pos ((c%2147483647+t*t*7919+104729)*48271) (show (0:Int)<2147483647 by decide)
 have e4:D.mul (.int ((c%2147483647+t*t*7919+104729)*48271%2147483647)) (.int ((c%2147483647+t*t*7919+104729)*48271%2147483647))=some (.int _):=QdU ⟨by omega,by omega⟩
 have e5:D.mul (.int 69621) (.int t)=some (.int (69621*t)):=QdU (by decide)
 have m1:D.mod (.int c) (.int 2147483647)=some (.int (c%2147483647)):=Qbk (by decide)
 have m2:D.mod (.int ((c%2147483647+t*t*7919+104729)*48271)) (.int 2147483647)=some (.int _):=Qbk (by decide)
 have m3:∀ z:Int,D.mod (.int z) (.int 2147483629)=some (.int (z%2147483629)):=fun z=>Qbk (by decide)
 unfold Ym Qj0 mix
 simp [QF,J1,Zw,lI,QA,sD,sQ,sIf,Qj,ZP,Qd,Zu,JY,sNx,Yt,Z2,gS,JN,Zn,eV,eC,eOp,eUn,Q9,QN,eOr,eIf,JO,Qp,Qi,eK,lN,lC,J5,oNo,oAt,ZQ,D.len,D.lt,D.le,D.gt,D.ge,D.add,D.sub,D.ix,D.eqO,D.neO,D.cmp,D.cmpN,D.inst,tyD,D.isT,D.intB,D.min2,D.max2,D.neg,D.addI,Qo,JS,JU,Jv,QM,QS,JR,JQ,Jj,Ju,JV,JW,Jw,Jy,JT,Q7,JL,Za,Qt,Qz,Jd,Q8,Q4,QV,D.rng,D.its,D.itsT,QD,ZI,QH,Jl,JJ,Jm,Jh,e1,e2,e3,e4,e5,m1,m2,m3]
theorem ZE (z:Int) {j:Int} (h:0<j):D.mod (.int z) (.int j)=some (.int (z%j)):=Qbk h
theorem QdV (z:Int) {j:Int} (h:0<j):∃ x,z%j=x/\0<=x/\x<j:=⟨_,rfl,Int.emod_nonneg z (by omega),Int.emod_lt_of_pos z h⟩
theorem toNat_inj:∀ {a b:List Char},a.map Char.toNat=b.map Char.toNat->a=b
 | [],[],_=>rfl
 | [],_::_,h=>nomatch h
 | _::_,[],h=>nomatch h
 | a::x,b::y,h=>by
  rw [List.map_cons,List.map_cons] at h
  obtain ⟨h1,h2⟩:=List.cons.inj h
  rw [toNat_inj h2,Char.toNat_inj.mp h1]
@[simp] theorem tg (a b:String):(Str.ofString a=Str.ofString b)=(a=b):=propext ⟨fun h=>by
 rw [Str.ofString_eq_byList] at h
 unfold Str.ofStringByList at h
 have h2:(a.toList.map Char.toNat).toArray=(b.toList.map Char.toNat).toArray:=Str.mk.inj h
 exact String.toList_inj.mp (toNat_inj (congrArg Array.toList h2)),fun h=>h▸rfl⟩
inductive It where
 | word (w:Str) (ns:List Str) | ref (l a b:Str) | mark (l:Str) | key (w:Str)
inductive Bk where
 | chapter (t l:Str) | heading (t:Str) (k:Int) (l:Str) | para (is:List It) | table (rs:List Str) (l:Str) | plates (n:Int) (l:Str)
inductive At where
 | bk (b:Bk) | it (i:It) | brk | fin
def QE (xs:List Str):D:=.lst (xs.map .str)
@[simp] def It.d:It->D
 | .word w ns=>.tup [.str "word",.str w,QE ns]
 | .ref l a b=>.tup [.str "ref",.str l,.str a,.str b]
 | .mark l=>.tup [.str "mark",.str l]
 | .key w=>.tup [.str "key",.str w]
@[simp] def Bk.d:Bk->D
 | .chapter t l=>.tup [.str "chapter",.str t,.str l]
 | .heading t k l=>.tup [.str "heading",.str t,.int k,.str l]
 | .para is=>.tup [.str "para",.lst (is.map It.d)]
 | .table rs l=>.tup [.str "table",QE rs,.str l]
 | .plates n l=>.tup [.str "plates",.int n,.str l]
@[simp] def At.d:At->D
 | .bk b=>b.d
 | .it i=>i.d
 | .brk=>.tup [.str "break",.str "",.str ""]
 | .fin=>.tup [.str "end",.str "",.str ""]
def bks (bs:List Bk):D:=.lst (bs.map Bk.d)
theorem QrW {α σ:Type} {g:EvG} {b:EvS} (d:α->D) (R:σ->Qq->Prop) (step:σ->α->σ):∀ (xs:List α),
  (∀ a∈xs,∀ s e,R s e->∃ e',((g (d a) e).bind b=some (.nx e')\/(g (d a) e).bind b=some (.ct e'))/\R (step s a) e') ->
  ∀ s e,R s e->∃ e',YF g b (xs.map d) e=some (.nx e')/\R (xs.foldl step s) e'
 | [],_,s,e,h=>⟨e,rfl,h⟩
 | a::xs,hb,s,e,h=>by
  obtain ⟨e1,h1,r1⟩:=hb a List.mem_cons_self s e h
  obtain ⟨e2,h2,r2⟩:=QrW d R step xs (fun x hx=>hb x (List.mem_cons_of_mem _ hx)) _ _ r1
  refine ⟨e2,?_,r2⟩
  show YU ((g (d a) e).bind b) (YF g b (xs.map d))=_
  rcases h1 with h1 | h1
  ·rw [h1];exact h2
  ·rw [h1];exact h2
theorem Qr5 {α:Type} {g:EvG} {c el:EvE} (d:α->D) (R:Qq->Prop) (p:α->Bool) (o:α->D):∀ (xs:List α),
  (∀ a∈xs,∀ e,R e->∃ e',g (d a) e=some e'/\R e'/\c e'=some (.bl (p a))/\(p a=true->el e'=some (o a))) ->
  ∀ e,R e->Qav g c el (xs.map d) e=some ((xs.filter p).map o)
 | [],_,e,h=>rfl
 | a::xs,hb,e,h=>by
  obtain ⟨e1,h1,r1,h2,h3⟩:=hb a List.mem_cons_self e h
  have ih:=Qr5 d R p o xs (fun x hx=>hb x (List.mem_cons_of_mem _ hx)) _ r1
  show (g (d a) e).bind (fun e1=>ifO (c e1) ((el e1).bind fun x=>(Qav g c el (xs.map d) e1).map fun r=>x::r) (Qav g c el (xs.map d) e1))=_
  rw [h1]
  show ifO (c e1) _ _=_
  rw [h2,Qo,ih]
  cases q:p a with
  | false=>rw [if_neg (by decide),List.filter_cons_of_neg (by simp [q])]
  | true=>rw [if_pos rfl,h3 q,List.filter_cons_of_pos q];rfl
theorem QbZ {α:Type} {g:EvG} {b:EvS} (d:α->D):∀ (xs:List α) (R:Nat->Qq->Prop),
  (∀ i (hi:i<xs.length) e,R i e->∃ e',((g (d xs[i]) e).bind b=some (.nx e')\/(g (d xs[i]) e).bind b=some (.ct e'))/\R (i+1) e') ->
  ∀ e,R 0 e->∃ e',YF g b (xs.map d) e=some (.nx e')/\R xs.length e'
 | [],R,_,e,h=>⟨e,rfl,h⟩
 | a::xs,R,hb,e,h=>by
  obtain ⟨e1,h1,r1⟩:=hb 0 (by simp) e h
  obtain ⟨e2,h2,r2⟩:=QbZ d xs (fun i=>R (i+1)) (fun i hi x hx=>hb (i+1) (by simpa using hi) x hx) _ r1
  refine ⟨e2,?_,r2⟩
  show YU ((g (d a) e).bind b) (YF g b (xs.map d))=_
  have h1':(g (d a) e).bind b=some (.nx e1)\/(g (d a) e).bind b=some (.ct e1):=h1
  rcases h1' with h1 | h1
  ·rw [h1];exact h2
  ·rw [h1];exact h2
theorem QsT {g:EvG} {b:EvS} (n:Nat) (R:Nat->Qq->Prop)
  (h:∀ i,i<n->∀ e,R i e->∃ e',((g (.int (0+(i:Int))) e).bind b=some (.nx e')\/(g (.int (0+(i:Int))) e).bind b=some (.ct e'))/\R (i+1) e') :
  ∀ e,R 0 e->∃ e',YF g b (rD 0 n) e=some (.nx e')/\R n e':=by
 intro e h0
 have:=QbZ (g:=g) (b:=b) (fun i:Nat=>D.int (0+(i:Int))) (List.range n) R (fun i hi e r=>by
  have q:(List.range n)[i]=i:=by simp
  rw [q]
  exact h i (by simpa using hi) e r) e h0
 simpa [rD] using this
theorem st {a k:EvS} {e e1:Qq} {r:Option Fl} (h:a e=some (.nx e1)) (hk:k e1=r):sQ a k e=r:=by unfold sQ;rw [h];exact hk
theorem stR {a k:EvS} {e:Qq} {d:D} (h:a e=some (.rt d)):sQ a k e=some (.rt d):=by unfold sQ;rw [h];rfl
theorem stC {a k:EvS} {e e1:Qq} (h:a e=some (.ct e1)):sQ a k e=some (.ct e1):=by unfold sQ;rw [h];rfl
theorem stD {n k:Nat} {b:EvS} {ds:List D} {r:D} (hl:ds.length=k) (h:b (sD n ds)=some (.rt r)):QA n k b ds=some r:=by unfold QA;rw [if_pos hl,h];rfl
theorem Qu6 {it:EvI} {g:EvG} {b k:EvS} {e:Qq} {r:Option Fl} (n:Nat) (R:Nat->Qq->Prop) (hit:it e=some (rD 0 n)) (h0:R 0 e)
  (hb:∀ i,i<n->∀ e,R i e->∃ e',((g (.int (0+(i:Int))) e).bind b=some (.nx e')\/(g (.int (0+(i:Int))) e).bind b=some (.ct e'))/\R (i+1) e')
  (hk:∀ e',R n e'->k e'=r):sQ (Jn it g b) k e=r:=by
 obtain ⟨e',h1,h2⟩:=QsT n R hb e h0
 refine st (e1:=e') ?_ (hk e' h2)
 unfold Jn;rw [hit];exact h1
theorem V2 {α:Type} {it:EvI} {g:EvG} {b k:EvS} {e:Qq} {r:Option Fl} (d:α->D) (xs:List α) (R:Nat->Qq->Prop) (hit:it e=some (xs.map d)) (h0:R 0 e)
  (hb:∀ i (hi:i<xs.length) e,R i e->∃ e',((g (d xs[i]) e).bind b=some (.nx e')\/(g (d xs[i]) e).bind b=some (.ct e'))/\R (i+1) e')
  (hk:∀ e',R xs.length e'->k e'=r):sQ (Jn it g b) k e=r:=by
 obtain ⟨e',h1,h2⟩:=QbZ d xs R hb e h0
 refine st (e1:=e') ?_ (hk e' h2)
 unfold Jn;rw [hit];exact h1
theorem Qr2 {α σ:Type} {it:EvI} {g:EvG} {b:EvS} {e:Qq} (d:α->D) (xs:List α) (R:σ->Qq->Prop) (step:σ->α->σ) (s:σ) (hit:it e=some (xs.map d)) (h0:R s e)
  (hb:∀ a∈xs,∀ s e,R s e->∃ e',((g (d a) e).bind b=some (.nx e')\/(g (d a) e).bind b=some (.ct e'))/\R (step s a) e') :
  ∃ e',Jn it g b e=some (.nx e')/\R (xs.foldl step s) e':=by
 obtain ⟨e',h1,h2⟩:=QrW d R step xs hb s e h0
 refine ⟨e',?_,h2⟩
 unfold Jn;rw [hit];exact h1
theorem Qov {α σ:Type} {it:EvI} {g:EvG} {b k:EvS} {e:Qq} {r:Option Fl} (d:α->D) (xs:List α) (R:σ->Qq->Prop) (step:σ->α->σ) (s:σ) (hit:it e=some (xs.map d)) (h0:R s e)
  (hb:∀ a∈xs,∀ s e,R s e->∃ e',((g (d a) e).bind b=some (.nx e')\/(g (d a) e).bind b=some (.ct e'))/\R (step s a) e')
  (hk:∀ e',R (xs.foldl step s) e'->k e'=r):sQ (Jn it g b) k e=r:=by
 obtain ⟨e',h1,h2⟩:=Qr2 d xs R step s hit h0 hb
 exact st h1 (hk e' h2)
theorem bnd {g:EvG} {b:EvS} {d:D} {e e1:Qq} {r:Option Fl} (h:g d e=some e1) (hk:b e1=r):(g d e).bind b=r:=by rw [h];exact hk
theorem ret {a:EvE} {e:Qq} {d:D} (h:a e=some d):Qj a e=some (.rt d):=by unfold Qj;rw [h];rfl
theorem exD {β:Type} {dd:β->D} {P:β->Prop} {n k:Nat} {b:EvS} {ds:List D} (hl:ds.length=k) (h:∃ x,b (sD n ds)=some (.rt (dd x))/\P x):∃ x,QA n k b ds=some (dd x)/\P x:=by
 obtain ⟨x,h1,h2⟩:=h
 exact ⟨x,stD hl h1,h2⟩
theorem Vn {β:Type} {dd:β->D} {P:β->Prop} {a k:EvS} {e e1:Qq} (h:a e=some (.nx e1)) (hk:∃ x,k e1=some (.rt (dd x))/\P x):∃ x,sQ a k e=some (.rt (dd x))/\P x:=by
 obtain ⟨x,h1,h2⟩:=hk
 exact ⟨x,st h h1,h2⟩
theorem Ze {α:Type} {n:Nat} {caps:List Nat} {it:EvI} {g:EvG} {c el:EvE} {e:Qq} (d:α->D) (xs:List α) (R:Qq->Prop) (p:α->Bool) (o:α->D) (hit:it e=some (xs.map d)) (hl:xs.length<=lI) (h0:R (QbR n caps e))
  (hb:∀ a∈xs,∀ e,R e->∃ e',g (d a) e=some e'/\R e'/\c e'=some (.bl (p a))/\(p a=true->el e'=some (o a))):QR n caps it g c el e=some (.lst ((xs.filter p).map o)):=by
 unfold QR
 rw [hit]
 show (if (xs.map d).length<=lI then (Qav g c el (xs.map d) (QbR n caps e)).map D.lst else none)=_
 rw [if_pos (by rw [List.length_map];exact hl),Qr5 d R p o xs hb _ h0]
 rfl
theorem ZV {α:Type} (xs:List α):xs.filter (fun _=>true)=xs:=by simp
theorem orF {a b:EvE} {e:Qq} {r:Option D} (ha:a e=some (.bl false)) (hb:b e=r):eOr a b e=r:=by unfold eOr;rw [ha];exact hb
theorem orT {a b:EvE} {e:Qq} (ha:a e=some (.bl true)):eOr a b e=some (.bl true):=by unfold eOr;rw [ha];rfl
theorem YH {a b:EvE} {e:Qq} {r:Option D} (ha:a e=some (.bl true)) (hb:b e=r):QN a b e=r:=by unfold QN;rw [ha];exact hb
theorem YT {a b:EvE} {e:Qq} (ha:a e=some (.bl false)):QN a b e=some (.bl false):=by unfold QN;rw [ha];rfl
theorem opE {g:D->D->Option D} {a b:EvE} {e:Qq} {x y:D} {r:Option D} (ha:a e=some x) (hb:b e=some y) (h:g x y=r):eOp g a b e=r:=by unfold eOp;rw [ha,hb];exact h
theorem unE {g:D->Option D} {a:EvE} {e:Qq} {x:D} {r:Option D} (ha:a e=some x) (h:g x=r):eUn g a e=r:=by unfold eUn;rw [ha];exact h
theorem QbP {a:EvE} {e:Qq} {b:Bool} (ha:a e=some (.bl b)):Q9 a e=some (.bl (!b)):=by unfold Q9;rw [ha];rfl
theorem QrX {t:String} {a:EvE} {e:Qq} {x:D} {r:Option D} (ha:a e=some x) (h:D.inst t x=r):J5 t a e=r:=by unfold J5;rw [ha];exact h
theorem QY {f:List D->Option D} {a:EvE} {e:Qq} {x:D} {r:Option D} (ha:a e=some x) (h:f [x]=r):eK f (lC a lN) e=r:=by unfold eK lC lN;rw [ha];exact h
theorem J6 {f:List D->Option D} {a b:EvE} {e:Qq} {x y:D} {r:Option D} (ha:a e=some x) (hb:b e=some y) (h:f [x,y]=r):eK f (lC a (lC b lN)) e=r:=by unfold eK lC lN;rw [ha,hb];exact h
theorem Zs {f:List D->Option D} {a b c:EvE} {e:Qq} {x y z:D} {r:Option D} (ha:a e=some x) (hb:b e=some y) (hc:c e=some z) (h:f [x,y,z]=r):eK f (lC a (lC b (lC c lN))) e=r:=by unfold eK lC lN;rw [ha,hb,hc];exact h
theorem QdW {f:List D->Option D} {a b c d:EvE} {e:Qq} {x y z u:D} {r:Option D} (ha:a e=some x) (hb:b e=some y) (hc:c e=some z) (hd:d e=some u) (h:f [x,y,z,u]=r):eK f (lC a (lC b (lC c (lC d lN)))) e=r:=by unfold eK lC lN;rw [ha,hb,hc,hd];exact h
theorem Qaa {i:Nat} {a:EvE} {e:Qq} {x d z:D} (hx:eV i e=some x) (ha:a e=some d) (h:D.app x d=some z):sP i a e=some (.nx (e.set i (some z))):=by unfold sP;rw [hx,ha];show (D.app x d).map _=_;rw [h];rfl
theorem asg {a:EvE} {g:EvG} {e e1:Qq} {d:D} (h:a e=some d) (hg:g d e=some e1):Qd a g e=some (.nx e1):=by unfold Qd;rw [h];show (g d e).map _=_;rw [hg];rfl
theorem ifT {c:EvE} {a b:EvS} {e:Qq} {r:Option Fl} (h:c e=some (.bl true)) (ha:a e=r):sIf c a b e=r:=by unfold sIf;rw [h];exact ha
theorem ifF {c:EvE} {a b:EvS} {e:Qq} {r:Option Fl} (h:c e=some (.bl false)) (ha:b e=r):sIf c a b e=r:=by unfold sIf;rw [h];exact ha
theorem eqS (x y:Str):D.eqO (.str x) (.str y)=some (.bl (decide (x=y))):=by simp [D.eqO,Qz,QH,D.cmp]
theorem QeF {a b c:EvE} {e:Qq} {x y z:D} (ha:a e=some x) (hb:b e=some y) (hc:c e=some z):Qp (lC a (lC b (lC c lN))) e=some (.tup [x,y,z]):=by unfold Qp lC lN;rw [ha,hb,hc];rfl
theorem QvG {a b:EvE} {e:Qq} {x y:D} (ha:a e=some x) (hb:b e=some y):Qp (lC a (lC b lN)) e=some (.tup [x,y]):=by unfold Qp lC lN;rw [ha,hb];rfl
theorem Qql {a b c d:EvE} {e:Qq} {x y z u:D} (ha:a e=some x) (hb:b e=some y) (hc:c e=some z) (hd:d e=some u):Qp (lC a (lC b (lC c (lC d lN)))) e=some (.tup [x,y,z,u]):=by unfold Qp lC lN;rw [ha,hb,hc,hd];rfl
theorem eqF {x y:Int} (h:x≠y):D.eqO (.int x) (.int y)=some (.bl false):=by simp [D.eqO,Qt,QD,D.cmp,h]
theorem eqT {x y:Int} (h:x=y):D.eqO (.int x) (.int y)=some (.bl true):=by simp [D.eqO,Qt,QD,D.cmp,h]
theorem ltF {x y:Int} (h:¬ x<y):D.lt (.int x) (.int y)=some (.bl false):=by show some (D.bl (decide (x<y)))=_;rw [decide_eq_false h]
theorem ltT {x y:Int} (h:x<y):D.lt (.int x) (.int y)=some (.bl true):=by show some (D.bl (decide (x<y)))=_;rw [decide_eq_true h]
theorem Qnq {a:EvE} {lo hi:EvO} {e:Qq} {x:D} {l h:Option Int} {r:Option D} (ha:a e=some x) (hl:lo e=some l) (hh:hi e=some h) (hc:Zw x l h=r):J1 a lo hi e=r:=by unfold J1;rw [ha,hl,hh];exact hc
theorem atE {a:EvE} {e:Qq} {i:Int} (ha:a e=some (.int i)):oAt a e=some (some i):=by unfold oAt;rw [ha];rfl
def Qot:Option D->Str
 | some (.str x)=>x
 | _=>""
def QoM:Option D->Bool
 | some (.str _)=>true
 | _=>false
theorem Qmb {o:Option D} (h:QoM o=true):o=some (.str (Qot o)):=by
 cases o with
 | none=>cases h
 | some d=>cases d<;>first | rfl | cases h
def lab (k:Nat):Str:=Qot (QaZ [.int k])
def QfD (k:Nat):Bool:=QoM (QaZ [.int k])&&decide (1<=(lab k).length)&&decide ((lab k).length<=7)&&decide (lab k≠"z")
theorem Qs0:(List.range 58).all QfD=true:=by decide +kernel
theorem Qks (k:Nat) (h:k<58):QfD k=true:=List.all_eq_true.mp Qs0 k (List.mem_range.mpr h)
theorem Quq (k:Nat) (h:k<58):QaZ [.int k]=some (.str (lab k)):=by
 have:=Qks k h
 simp only [QfD,Bool.and_eq_true] at this
 exact Qmb this.1.1.1
theorem Qvl (k:Nat) (h:k<58):lab k≠"z":=by
 have:=Qks k h
 simp only [QfD,Bool.and_eq_true,decide_eq_true_eq] at this
 exact this.2
def QjB:List Str->Bool
 | []=>true
 | x::xs=>xs.all (fun y=>decide (x≠y))&&QjB xs
theorem QsZ:QjB ((List.range 58).map lab)=true:=by decide +kernel
theorem YG (z:Int) {j:Int} (h:0<j/\j<1073741824):D.fdiv (.int z) (.int j)=some (.int (z/j)):=QuC h
theorem QvH (t:Int) (a b c:Option D):∀ (ds:List D),∃ c',YF (gS 3) (Qd (eOp D.mulA (eV 2) (eC (.int 10))) (gS 2)) ds [a,b,some (.int t),c]=some (.nx [a,b,some (.int (t*10^ds.length)),c']):=by
 intro ds
 induction ds generalizing t c with
 | nil=>exact ⟨c,by simp [YF]⟩
 | cons d ds ih =>
   obtain ⟨c',e⟩:=ih (t*10) (some d)
   refine ⟨c',?_⟩
   have m:D.mul (.int t) (.int 10)=some (.int (t*10)):=QgS (by decide)
   simp [YF,QF,J1,Zw,lI,QA,sD,sQ,sIf,Qj,ZP,Qd,Zu,JY,sNx,Yt,Z2,gS,JN,Zn,eV,eC,eOp,eUn,Q9,QN,eOr,eIf,JO,Qp,Qi,eK,lN,lC,J5,oNo,oAt,ZQ,D.len,D.lt,D.le,D.gt,D.ge,D.add,D.sub,D.ix,D.eqO,D.neO,D.cmp,D.cmpN,D.inst,tyD,D.isT,D.intB,D.min2,D.max2,D.neg,D.addI,Qo,JS,JU,Jv,QM,QS,JR,JQ,Jj,Ju,JV,JW,Jw,Jy,JT,Q7,JL,Za,Qt,Qz,Jd,Q8,Q4,QV,D.rng,D.its,D.itsT,QD,ZI,QH,Jl,JJ,Jm,Jh,Qkb,m,e]
   rw [Int.mul_assoc,<- Int.pow_succ']
theorem QvI (t:Int) (a b c d e:Option D):∀ (ds:List D),∃ d',YF (gS 4) (Qd (eOp D.mulA (eV 3) (eC (.int 10))) (gS 3)) ds [a,b,c,some (.int t),d,e]=some (.nx [a,b,c,some (.int (t*10^ds.length)),d',e]):=by
 intro ds
 induction ds generalizing t d with
 | nil=>exact ⟨d,by simp [YF]⟩
 | cons x ds ih =>
   obtain ⟨c',q⟩:=ih (t*10) (some x)
   refine ⟨c',?_⟩
   have m:D.mul (.int t) (.int 10)=some (.int (t*10)):=QgS (by decide)
   simp [YF,QF,J1,Zw,lI,QA,sD,sQ,sIf,Qj,ZP,Qd,Zu,JY,sNx,Yt,Z2,gS,JN,Zn,eV,eC,eOp,eUn,Q9,QN,eOr,eIf,JO,Qp,Qi,eK,lN,lC,J5,oNo,oAt,ZQ,D.len,D.lt,D.le,D.gt,D.ge,D.add,D.sub,D.ix,D.eqO,D.neO,D.cmp,D.cmpN,D.inst,tyD,D.isT,D.intB,D.min2,D.max2,D.neg,D.addI,Qo,JS,JU,Jv,QM,QS,JR,JQ,Jj,Ju,JV,JW,Jw,Jy,JT,Q7,JL,Za,Qt,Qz,Jd,Q8,Q4,QV,D.rng,D.its,D.itsT,QD,ZI,QH,Jl,JJ,Jm,Jh,Qkb,m,q]
   rw [Int.mul_assoc,<- Int.pow_succ']
theorem Qkg (lo:Int) (n:Nat):(rD lo n).length=n:=by unfold rD;simp
theorem QtE (n:Nat) (h:n<=3):(10:Int)<=10*10^n/\(10:Int)*10^n<=10^30:=by
 have:n=0\/n=1\/n=2\/n=3:=by omega
 rcases this with z | z | z | z<;>subst z<;>decide
theorem ix3 {x y z:D} {i:Int} (h:i=0\/i=1\/i=2):D.ix (.lst [x,y,z]) (.int i)=some (if i=0 then x else if i=1 then y else z):=by
 rcases h with h | h | h<;>subst h<;>rfl
theorem Qwa (x:Int) (h:x<=3):x<=10^39:=by
 have:(3:Int)<=10^39:=by decide
 omega
theorem QvB (x:Int) (h:x<=10^30):x<=10^39:=by
 have:(10:Int)^30<=10^39:=by decide
 omega
theorem Qpi (c n:Int) (hn:0<=n):∃ p:Int,QcV [.int c,.int n]=some (.int p)/\1<=p/\p<=10^39:=by
 obtain ⟨m4,e4,l4,u4⟩:=QdV (n/97) (show (0:Int)<4 by decide)
 obtain ⟨m3,e3,l3,u3⟩:=QdV (n/16) (show (0:Int)<3 by decide)
 obtain ⟨m5,e5,l5,u5⟩:=QdV (n/16) (show (0:Int)<5 by decide)
 obtain ⟨m8,e8,l8,u8⟩:=QdV (n/97) (show (0:Int)<8 by decide)
 obtain ⟨q3,f3,g3,h3⟩:=QdV (n/997) (show (0:Int)<3 by decide)
 obtain ⟨mc,ec,lc,uc⟩:=QdV c (show (0:Int)<10^39 by decide)
 have ec2:c%1000000000000000000000000000000000000000=mc:=ec
 have p39:D.pow (.int 10) (.int 39)=some (.int (10^39)):=QrO (by decide)
 have p30:D.pow (.int 10) (.int 30)=some (.int (10^30)):=QrO (by decide)
 have mc':D.mod (.int c) (.int (10^39))=some (.int mc):=by rw [<- ec];exact Qbk (by decide)
 have z3:q3=0\/q3=1\/q3=2:=by omega
 have rg:(if m4.natAbs<4611686018427387904 then some (rD 0 m4.toNat) else none)=some (rD 0 m4.toNat):=if_pos (by omega)
 obtain ⟨c',el⟩:=QvH 10 (some (.int c)) (some (.int n)) none (rD 0 m4.toNat)
 rw [Qkg] at el
 have tl:=QtE m4.toNat (by omega)
 obtain ⟨T,eT⟩:∃ T:Int,10*10^m4.toNat=T:=⟨_,rfl⟩
 rw [eT] at el tl
 have fin:∀ T:Int,10<=T->T<=10^30->∃ p:Int,(if q3=0 then D.int (1+m3) else if q3=1 then D.int (T-1-m5) else D.int (1+mc))=.int p/\1<=p/\p<=10^39:=by
  intro T t0 t1
  split
  ·exact ⟨_,rfl,by omega,Qwa _ (by omega)⟩
  ·split
   ·exact ⟨_,rfl,by omega,QvB _ (by omega)⟩
   ·exact ⟨_,rfl,by omega,by omega⟩
 unfold QcV Qfb
 by_cases h8:m8=7
 ·obtain ⟨p,ep,b0,b1⟩:=fin (10^30) (by decide) (by decide)
  refine ⟨p,?_,b0,b1⟩
  simp [QF,J1,Zw,lI,QA,sD,sQ,sIf,Qj,ZP,Qd,Zu,JY,sNx,Yt,Z2,gS,JN,Zn,eV,eC,eOp,eUn,Q9,QN,eOr,eIf,JO,Qp,Qi,eK,lN,lC,J5,oNo,oAt,ZQ,D.len,D.lt,D.le,D.gt,D.ge,D.add,D.sub,D.eqO,D.neO,D.cmp,D.cmpN,D.inst,tyD,D.isT,D.intB,D.min2,D.max2,D.neg,D.addI,Qo,JS,JU,Jv,QM,QS,JR,JQ,Jj,Ju,JV,JW,Jw,Jy,JT,Q7,JL,Za,Qt,Qz,Jd,Q8,Q4,QV,D.rng,D.its,D.itsT,QD,ZI,QH,Jl,JJ,Jm,Jh,<- eT,p39,p30,mc',YG,ZE,e4,e3,e5,e8,f3,h8,Jn,YR,rg,el,ix3 z3,ec2]
  simpa using ep
 ·obtain ⟨p,ep,b0,b1⟩:=fin T tl.1 tl.2
  refine ⟨p,?_,b0,b1⟩
  simp [QF,J1,Zw,lI,QA,sD,sQ,sIf,Qj,ZP,Qd,Zu,JY,sNx,Yt,Z2,gS,JN,Zn,eV,eC,eOp,eUn,Q9,QN,eOr,eIf,JO,Qp,Qi,eK,lN,lC,J5,oNo,oAt,ZQ,D.len,D.lt,D.le,D.gt,D.ge,D.add,D.sub,D.eqO,D.neO,D.cmp,D.cmpN,D.inst,tyD,D.isT,D.intB,D.min2,D.max2,D.neg,D.addI,Qo,JS,JU,Jv,QM,QS,JR,JQ,Jj,Ju,JV,JW,Jw,Jy,JT,Q7,JL,Za,Qt,Qz,Jd,Q8,Q4,QV,D.rng,D.its,D.itsT,QD,ZI,QH,Jl,JJ,Jm,Jh,p39,p30,mc',YG,ZE,e4,e3,e5,e8,f3,h8,Jn,YR,rg,el,ix3 z3,ec2]
  simpa using ep
def someS : Str := Str.ofString "!\"#$&'()*+,-./0123456789:;<=>?@ABCDEFGHIJKLMNOPQRSTUVWXYZ[\\]^_`" ++ Str.ofString "abcdefghijklmnopqrstuvwxyz{}~|"
theorem Qe0:someS.length=93:=by decide +kernel
theorem QtI : (Str.ofString "!\"#$&'()*+,-./0123456789:;<=>?@ABCDEFGHIJKLMNOPQRSTUVWXYZ[\\]^_`").length = 63 := by decide +kernel
theorem QtH:(Str.ofString "abcdefghijklmnopqrstuvwxyz{}~|").length=30:=by decide +kernel
def QbO (x:Str) (i:Int):Str:=⟨#[x.cps.toList.getD i.toNat 0]⟩
theorem Qkk (x:Str) (i:Int):(QbO x i).length=1:=rfl
theorem ixS {x:Str} {i:Int} (h:0<=i) (h':i<x.length) (hl:x.length<=lI):D.ix (.str x) (.int i)=some (.str (QbO x i)):=by
 have q0:x.length=x.cps.size:=rfl
 have q:i.toNat<x.cps.size:=by omega
 show (if x.length<=lI then (ixD x.length i).bind fun k=>(x.cps[k]?).map fun c=>D.str ⟨#[c]⟩ else none)=_
 rw [if_pos hl,ixD,if_pos h,if_pos h']
 show (x.cps[i.toNat]?).map _=_
 rw [Array.getElem?_eq_getElem q]
 show some (D.str ⟨#[x.cps[i.toNat]]⟩)=_
 unfold QbO
 rw [List.getD_eq_getElem?_getD,Array.getElem?_toList,Array.getElem?_eq_getElem q]
 rfl
theorem QmG (x y:Str):(x++y).length=x.length+y.length:=Array.size_append
theorem Qqv {x y:Str} (h:x.length+y.length<=lI):D.add (.str x) (.str y)=some (.str (x++y)):=if_pos h
def sgn (n g:Int) (k:Nat):Str:=if g=1/\(n/3+k)%4=0 then " " else QbO someS ((n/7+k*(1+n%13)+k*k)%(92+g))
theorem Qmu (n g:Int) (k:Nat):(sgn n g k).length=1:=by
 unfold sgn
 split
 ·decide +kernel
 ·rfl
def Vo (n g:Int) (s:Nat):Str:=(List.range s).foldl (fun x k=>x++sgn n g k) ""
theorem QiS (n g:Int):∀ (ks:List Nat) (x:Str),(ks.foldl (fun x k=>x++sgn n g k) x).length=x.length+ks.length
 | [],x=>rfl
 | k::ks,x=>by
  show ((ks.foldl (fun x k=>x++sgn n g k) (x++sgn n g k)).length)=_
  rw [QiS n g ks,QmG,Qmu,List.length_cons];omega
theorem QcS (n g:Int) (s:Nat):(Vo n g s).length=s:=by
 unfold Vo
 rw [QiS,List.length_range]
 show 0+s=s
 omega
theorem QnF (n g:Int):Vo n g 0=Str.ofString "":=by
 unfold Vo
 rw [List.range_zero,List.foldl_nil]
theorem Qgh (n g:Int) (s:Nat) (hn:0<=n) (hg:g=0\/g=1) (hs:s<=1000):Y0 [.int n,.int s,.int g]=some (.str (Vo n g s)):=by
 have rg:D.rng (.int s)=some (rD 0 s):=by
  show (if (s:Int).natAbs<4611686018427387904 then some (rD 0 (s:Int).toNat) else none)=_
  rw [if_pos (by omega)];rfl
 have a0 : D.add (.str (Str.ofString "!\"#$&'()*+,-./0123456789:;<=>?@ABCDEFGHIJKLMNOPQRSTUVWXYZ[\\]^_`")) (.str (Str.ofString "abcdefghijklmnopqrstuvwxyz{}~|")) = some (.str someS) := Qqv (by rw [QtI, QtH]; decide)
 unfold Y0 QgC
 refine stD rfl ?_
 refine st (e1 := [some (.int n), some (.int s), some (.int g), some (.str (Str.ofString "!\"#$&'()*+,-./0123456789:;<=>?@ABCDEFGHIJKLMNOPQRSTUVWXYZ[\\]^_`")), none, none, none, none]) (by simp [sD, sQ, sIf, Qj, Qd, sNx, gS, eV, eC, eOp, eUn, Q9, QN, eOr, Qp, Qi, eK, lN, lC, D.lt, D.sub, D.eqO, D.cmp, Qo, QM, QS, Qt, Qz, QD, QH, QF]) ?_
 refine st (e1:=[some (.int n),some (.int s),some (.int g),some (.str someS),none,none,none,none]) (by simp [sD,sQ,sIf,Qj,Qd,sNx,gS,eV,eC,eOp,eUn,Q9,QN,eOr,Qp,Qi,eK,lN,lC,D.lt,D.sub,D.eqO,D.cmp,Qo,QM,QS,Qt,Qz,QD,QH,QF,a0]) ?_
 refine st (e1:=[some (.int n),some (.int s),some (.int g),some (.str someS),some (.str (Str.ofString "")),none,none,none]) (by simp [sD,sQ,sIf,Qj,Qd,sNx,gS,eV,eC,eOp,eUn,Q9,QN,eOr,Qp,Qi,eK,lN,lC,D.lt,D.sub,D.eqO,D.cmp,Qo,QM,QS,Qt,Qz,QD,QH,QF]) ?_
 refine Qu6 s (fun i e=>∃ a b c,e=[some (.int n),some (.int s),some (.int g),some (.str someS),some (.str (Vo n g i)),a,b,c]) (by simp [YR,eV,rg]) ⟨none,none,none,by rw [QnF]⟩ ?_ ?_
 ·rintro i hi e ⟨a,b,c,rfl⟩
  obtain ⟨j,ej⟩:∃ j:Int,(i:Int)=j:=⟨_,rfl⟩
  have i0:(0:Int)<=j/\j<1000:=by omega
  have e1:D.mul (.int j) (.int (1+n%13))=some (.int (j*(1+n%13))):=QdU (by omega)
  have e2:D.mul (.int j) (.int j)=some (.int (j*j)):=QdU (by omega)
  have e3:D.mod (.int (n/7+j*(1+n%13)+j*j)) (.int (92+g))=some (.int ((n/7+j*(1+n%13)+j*j)%(92+g))):=Qbk (by omega)
  have e4:D.ix (.str someS) (.int ((n/7+j*(1+n%13)+j*j)%(92+g)))=some (.str (QbO someS ((n/7+j*(1+n%13)+j*j)%(92+g)))):=by
   have a0:=Int.emod_nonneg (n/7+j*(1+n%13)+j*j) (show (92+g)≠0 by omega)
   have a1:=Int.emod_lt_of_pos (n/7+j*(1+n%13)+j*j) (show 0<92+g by omega)
   exact ixS a0 (by rw [Qe0];omega) (by rw [Qe0];decide)
  have e5:D.add (.str (Vo n g i)) (.str (sgn n g i))=some (.str (Vo n g (i+1))):=by
   rw [Qqv (by rw [QcS,Qmu];unfold lI;omega)]
   unfold Vo
   rw [List.range_succ,List.foldl_append]
   rfl
  have e6:D.len (.str someS)=some (.int 93):=by
   show (if someS.length<=lI then some (D.int someS.length) else none)=_
   rw [Qe0];rfl
  have e7:(93:Int)-1+g=92+g:=by omega
  have ai:∀ x y:Int,D.add (.int x) (.int y)=some (.int (x+y)):=fun _ _=>rfl
  refine ⟨[some (.int n),some (.int s),some (.int g),some (.str someS),some (.str (Vo n g (i+1))),some (.int j),some (.int (n/7+j*(1+n%13)+j*j)),some (.str (sgn n g i))],.inl ?_,_,_,_,rfl⟩
  rw [ej,Int.zero_add]
  refine bnd (e1:=[some (.int n),some (.int s),some (.int g),some (.str someS),some (.str (Vo n g i)),some (.int j),b,c]) rfl ?_
  refine st (e1:=[some (.int n),some (.int s),some (.int g),some (.str someS),some (.str (Vo n g i)),some (.int j),some (.int (n/7+j*(1+n%13)+j*j)),c]) (by simp [sD,sQ,sIf,Qj,Qd,sNx,gS,eV,eC,eOp,eUn,Q9,QN,eOr,Qp,Qi,eK,lN,lC,D.lt,D.sub,D.eqO,D.cmp,Qo,QM,QS,Qt,Qz,QD,QH,QF,YG,ZE,ai,e1,e2]) ?_
  refine st (e1:=[some (.int n),some (.int s),some (.int g),some (.str someS),some (.str (Vo n g i)),some (.int j),some (.int (n/7+j*(1+n%13)+j*j)),some (.str (QbO someS ((n/7+j*(1+n%13)+j*j)%(92+g))))]) (by simp [sD,sQ,sIf,Qj,Qd,sNx,gS,eV,eC,eOp,eUn,Q9,QN,eOr,Qp,Qi,eK,lN,lC,D.lt,D.sub,D.eqO,D.cmp,Qo,QM,QS,Qt,Qz,QD,QH,QF,e6,ai,e7,e3,e4]) ?_
  refine st (e1:=[some (.int n),some (.int s),some (.int g),some (.str someS),some (.str (Vo n g i)),some (.int j),some (.int (n/7+j*(1+n%13)+j*j)),some (.str (sgn n g i))]) ?_ (by simp [sD,sQ,sIf,Qj,Qd,sNx,gS,eV,eC,eOp,eUn,Q9,QN,eOr,Qp,Qi,eK,lN,lC,D.lt,D.sub,D.eqO,D.cmp,Qo,QM,QS,Qt,Qz,QD,QH,QF,e5])
  unfold sgn
  rw [ej]
  rcases hg with z | z<;>by_cases hc:(n/3+j)%4=0<;>simp [sD,sQ,sIf,Qj,Qd,sNx,gS,eV,eC,eOp,eUn,Q9,QN,eOr,Qp,Qi,eK,lN,lC,D.lt,D.sub,D.eqO,D.cmp,Qo,QM,QS,Qt,Qz,QD,QH,QF,YG,ZE,ai,z,hc]
 ·rintro e ⟨a,b,c,rfl⟩
  simp [Qj,eV]
theorem QkH (x:Str) (lo hi:Option Int):(Qaq x lo hi).length<=x.length:=by
 show (ZY x.cps.toList lo hi).toArray.size<=x.cps.size
 rw [List.size_toArray]
 unfold ZY
 rw [List.length_take,List.length_drop]
 have:x.cps.toList.length=x.cps.size:=Array.length_toList
 omega
theorem Qm4 (x:Str) (j:Int) (h:0<=j):((Qaq x none (some j)).length:Int)=min j x.length:=by
 show ((ZY x.cps.toList none (some j)).toArray.size:Int)=_
 rw [List.size_toArray]
 unfold ZY Ys
 have:x.cps.toList.length=x.length:=Array.length_toList
 rw [List.length_take,List.length_drop,this]
 simp only []
 rw [if_neg (by omega)]
 omega
theorem Qg5 {x:Str} (h:x.length<=lI) (lo hi:Option Int):Zw (.str x) lo hi=some (.str (Qaq x lo hi)):=if_pos h
theorem QqG {x:Str} (h:x.length<=lI):D.strip (.str x)=some (.str (Txt.strip x)):=if_pos h
theorem Qgp (x:Str) (n:Int):(Z9 x n).length=n.toNat*x.length:=by
 show ((List.replicate n.toNat x.cps.toList).flatten.toArray.size)=_
 rw [List.size_toArray,List.length_flatten,List.map_replicate,List.sum_replicate_nat]
 rfl
theorem QmE {x:Str} {n:Int} (h:-1073741824<n/\n<1073741824/\x.length*n.toNat<=lI):D.mulA (.str x) (.int n)=some (.str (Z9 x n)):=if_pos h
def Qgd (k:Nat) (l:Str):Prop:=l=""\/l=lab k
def QqA (k:Nat):At->Prop
 | .brk=>True
 | .fin=>False
 | .bk (.chapter t l)=>(1<=t.length/\t.length<=41)/\Qgd k l
 | .bk (.heading t n l)=>(1<=t.length/\t.length<=41)/\(0<=n/\n<=29)/\Qgd k l
 | .bk (.table rs l)=>(1<=rs.length/\rs.length<=30)/\(∀ r∈rs,r.length<=40)/\Qgd k l
 | .bk (.plates n l)=>(1<=n/\n<=10^39)/\Qgd k l
 | .bk (.para _)=>False
 | .it (.mark l)=>l=lab k
 | .it (.key w)=>1<=w.length/\w.length<=80
 | .it (.ref l a b)=>l=""/\a.length<=2/\b.length<=2
 | .it (.word w ns)=>(1<=w.length/\w.length<=40)/\ns.length<=30/\∀ r∈ns,r.length<=40
theorem QsX (k:Nat) (p:Prop) [Decidable p]:Qgd k (if p then Str.ofString "" else lab k):=by
 by_cases h:p
 ·rw [if_pos h];exact .inl rfl
 ·rw [if_neg h];exact .inr rfl
theorem Qvx (z:Int) {j:Int} (h:0<j):∃ x:Nat,z%j=(x:Int)/\(x:Int)<j:=⟨(z%j).toNat,by have:=Int.emod_nonneg z (show j≠0 by omega);omega,by have:=Int.emod_lt_of_pos z h;have:=Int.emod_nonneg z (show j≠0 by omega);omega⟩
theorem QtO (n:Int) (h:0<=n/\n<=1000):D.rng (.int n)=some (rD 0 n.toNat):=if_pos (by omega)
theorem Qdu (m:Nat) (h:m<=100000):D.rng (.int m)=some ((List.range m).map fun i:Nat=>D.int (0+(i:Int))):=by
 show (if (m:Int).natAbs<4611686018427387904 then some (rD 0 (m:Int).toNat) else none)=_
 rw [if_pos (by omega)];rfl
theorem add_int (x y:Int):D.add (.int x) (.int y)=some (.int (x+y)):=rfl
theorem Qhe {a:Nat} (h:a<=1000000):1+a<=lI:=Nat.le_trans (Nat.add_le_add_left h 1) (by decide)
theorem lB {a:Nat} (h:a<=1000000):a<=lI:=Nat.le_trans h (by decide)
theorem Qnb (c:Int) (k:Nat) (hk:k<58):∃ a,Qai [.int c,.int k]=some a.d/\QqA k a:=by
 obtain ⟨kk,ek⟩:∃ kk:Int,(k:Int)=kk:=⟨_,rfl⟩
 obtain ⟨n,en⟩:∃ n:Int,mix c (kk+20)=n:=⟨_,rfl⟩
 have n0:0<=n:=en▸QoH _ _
 have n1:n<2147483629:=en▸Qun _ _
 have hm:Ym [.int c,.int (kk+20)]=some (.int n):=en▸Qbw c (kk+20) (by omega) (by omega)
 obtain ⟨kd,ekd,kd0,kd1⟩:=QdV n (show (0:Int)<17 by decide)
 obtain ⟨sz,esz,sz0,sz1⟩:∃ sz:Nat,1+n/17%(if decide (n/187%9=4) then (40:Int) else 11)=(sz:Int)/\1<=sz/\sz<=40:=by
  cases decide (n/187%9=4)
  ·exact ⟨(1+n/17%11).toNat,by simp;omega,by omega,by omega⟩
  ·exact ⟨(1+n/17%40).toNat,by simp;omega,by omega,by omega⟩
 obtain ⟨mn,emn,mn0,mn1⟩:∃ mn:Int,1+n/97%(if decide (n/1009%11=5) then (30:Int) else 4)=mn/\1<=mn/\mn<=30:=by
  cases decide (n/1009%11=5)
  ·exact ⟨(1+n/97%4),by simp,by omega,by omega⟩
  ·exact ⟨(1+n/97%30),by simp,by omega,by omega⟩
 have mp2:D.mod (.int (n/17)) (.int (if decide (n/187%9=4) then (40:Int) else 11))=some (.int (n/17%(if decide (n/187%9=4) then (40:Int) else 11))):=Qbk (by split<;>omega)
 have mp3:D.mod (.int (n/97)) (.int (if decide (n/1009%11=5) then (30:Int) else 4))=some (.int (n/97%(if decide (n/1009%11=5) then (30:Int) else 4))):=Qbk (by split<;>omega)
 obtain ⟨tx,etx,tl⟩:∃ tx,Y0 [.int (n/17),.int sz,.int 1]=some (.str tx)/\tx.length=sz:=⟨_,Qgh (n/17) 1 sz (by omega) (.inr rfl) (by omega),QcS _ _ _⟩
 obtain ⟨wd,ewd,wl⟩:∃ tx,Y0 [.int (n/19),.int sz,.int 0]=some (.str tx)/\tx.length=sz:=⟨_,Qgh (n/19) 0 sz (by omega) (.inl rfl) (by omega),QcS _ _ _⟩
 have lbe:QaZ [.int kk]=some (.str (lab k)):=ek▸Quq k hk
 obtain ⟨nm,enm,hnm⟩:∃ nm,(if n/1009%2=0 then Str.ofString "" else lab k)=nm/\Qgd k nm:=⟨_,rfl,QsX _ _⟩
 rw [ek]
 unfold Qai Qig
 refine exD (dd:=At.d) rfl ?_
 refine Vn (e1:=[some (.int c),some (.int kk),some (.int n),none,none,none,none,none,none,none]) (by simp [sD,sQ,sIf,Qj,Qd,sNx,gS,eV,eC,eOp,eUn,Q9,QN,eOr,Qp,Qi,eK,lN,lC,D.lt,D.sub,D.eqO,D.cmp,Qo,QM,QS,Qt,Qz,QD,QH,QF,hm,add_int]) ?_
 refine Vn (e1:=[some (.int c),some (.int kk),some (.int n),some (.int kd),none,none,none,none,none,none]) (by simp [sD,sQ,sIf,Qj,Qd,sNx,gS,eV,eC,eOp,eUn,Q9,QN,eOr,Qp,Qi,eK,lN,lC,D.lt,D.sub,D.eqO,D.cmp,Qo,QM,QS,Qt,Qz,QD,QH,QF,ZE,ekd]) ?_
 refine Vn (e1:=[some (.int c),some (.int kk),some (.int n),some (.int kd),some (.int sz),none,none,none,none,none]) (by by_cases z:n/187%9=4<;>simp [z] at esz<;>simp [QF,J1,Zw,lI,QA,sD,sQ,sIf,Qj,ZP,Qd,Zu,JY,sNx,Yt,Z2,gS,JN,Zn,eV,eC,eOp,eUn,Q9,QN,eOr,eIf,JO,Qp,Qi,eK,lN,lC,J5,oNo,oAt,ZQ,D.len,D.lt,D.le,D.gt,D.ge,D.add,D.sub,D.ix,D.eqO,D.neO,D.cmp,D.cmpN,D.inst,tyD,D.isT,D.intB,D.min2,D.max2,D.neg,D.addI,Qo,JS,JU,Jv,QM,QS,JR,JQ,Jj,Ju,JV,JW,Jw,Jy,JT,Q7,JL,Za,Qt,Qz,Jd,Q8,Q4,QV,D.rng,D.its,D.itsT,QD,ZI,QH,Jl,JJ,Jm,Jh,YG,ZE,z,ixD,esz]) ?_
 refine Vn (e1:=[some (.int c),some (.int kk),some (.int n),some (.int kd),some (.int sz),some (.int mn),none,none,none,none]) (by by_cases z:n/1009%11=5<;>simp [z] at emn<;>simp [QF,J1,Zw,lI,QA,sD,sQ,sIf,Qj,ZP,Qd,Zu,JY,sNx,Yt,Z2,gS,JN,Zn,eV,eC,eOp,eUn,Q9,QN,eOr,eIf,JO,Qp,Qi,eK,lN,lC,J5,oNo,oAt,ZQ,D.len,D.lt,D.le,D.gt,D.ge,D.add,D.sub,D.ix,D.eqO,D.neO,D.cmp,D.cmpN,D.inst,tyD,D.isT,D.intB,D.min2,D.max2,D.neg,D.addI,Qo,JS,JU,Jv,QM,QS,JR,JQ,Jj,Ju,JV,JW,Jw,Jy,JT,Q7,JL,Za,Qt,Qz,Jd,Q8,Q4,QV,D.rng,D.its,D.itsT,QD,ZI,QH,Jl,JJ,Jm,Jh,YG,ZE,z,ixD,emn]) ?_
 refine Vn (e1:=[some (.int c),some (.int kk),some (.int n),some (.int kd),some (.int sz),some (.int mn),some (.str tx),none,none,none]) (by simp [sD,sQ,sIf,Qj,Qd,sNx,gS,eV,eC,eOp,eUn,Q9,QN,eOr,Qp,Qi,eK,lN,lC,D.lt,D.sub,D.eqO,D.cmp,Qo,QM,QS,Qt,Qz,QD,QH,QF,YG,etx]) ?_
 refine Vn (e1:=[some (.int c),some (.int kk),some (.int n),some (.int kd),some (.int sz),some (.int mn),some (.str tx),some (.str wd),none,none]) (by simp [sD,sQ,sIf,Qj,Qd,sNx,gS,eV,eC,eOp,eUn,Q9,QN,eOr,Qp,Qi,eK,lN,lC,D.lt,D.sub,D.eqO,D.cmp,Qo,QM,QS,Qt,Qz,QD,QH,QF,YG,ewd]) ?_
 refine Vn (e1:=[some (.int c),some (.int kk),some (.int n),some (.int kd),some (.int sz),some (.int mn),some (.str tx),some (.str wd),some (.str (lab k)),none]) (by simp [sD,sQ,sIf,Qj,Qd,sNx,gS,eV,eC,eOp,eUn,Q9,QN,eOr,Qp,Qi,eK,lN,lC,D.lt,D.sub,D.eqO,D.cmp,Qo,QM,QS,Qt,Qz,QD,QH,QF,lbe]) ?_
 refine Vn (e1:=[some (.int c),some (.int kk),some (.int n),some (.int kd),some (.int sz),some (.int mn),some (.str tx),some (.str wd),some (.str (lab k)),some (.str (lab k))]) (by simp [sD,sQ,sIf,Qj,Qd,sNx,gS,eV,eC,eOp,eUn,Q9,QN,eOr,Qp,Qi,eK,lN,lC,D.lt,D.sub,D.eqO,D.cmp,Qo,QM,QS,Qt,Qz,QD,QH,QF]) ?_
 refine Vn (e1:=[some (.int c),some (.int kk),some (.int n),some (.int kd),some (.int sz),some (.int mn),some (.str tx),some (.str wd),some (.str (lab k)),some (.str nm)]) (by by_cases z:n/1009%2=0<;>simp [sD,sQ,sIf,Qj,Qd,sNx,gS,eV,eC,eOp,eUn,Q9,QN,eOr,Qp,Qi,eK,lN,lC,D.lt,D.sub,D.eqO,D.cmp,Qo,QM,QS,Qt,Qz,QD,QH,QF,YG,ZE,z,<- enm]) ?_
 clear hm etx ewd lbe mp2 mp3 enm esz emn
 have hS:tx.length<=lI:=lB (by omega)
 have hW:wd.length<=lI:=lB (by omega)
 have sT:=QqG hS
 have sL:(Txt.strip tx).length<=40:=Nat.le_trans (PyProof.Rows.len_strip tx) (by omega)
 have o0:D.ix (.str wd) (.int 0)=some (.str (QbO wd 0)):=ixS (by decide) (by omega) hW
 have aT:D.add (.str (QbO wd 0)) (.str (Txt.strip tx))=some (.str (QbO wd 0++Txt.strip tx)):=Qqv (by rw [Qkk];exact lB (by omega))
 have lT:(QbO wd 0++Txt.strip tx).length=1+(Txt.strip tx).length:=by rw [QmG,Qkk]
 by_cases z:kd=0
 ·exact ⟨.bk (.chapter (QbO wd 0++Txt.strip tx) nm),stR (ifT (opE rfl rfl (eqT z)) (ret (QeF rfl (opE (opE rfl rfl o0) (unE rfl sT) aT) rfl))),⟨by omega,hnm⟩⟩
 refine Vn (ifF (opE rfl rfl (eqF z)) rfl) ?_
 by_cases z:kd=1
 ·exact ⟨.bk (.heading (QbO wd 0++Txt.strip tx) (mn-1) nm),stR (ifT (opE rfl rfl (eqT z)) (ret (Qql rfl (opE (opE rfl rfl o0) (unE rfl sT) aT) rfl rfl))),⟨by omega,by omega,hnm⟩⟩
 refine Vn (ifF (opE rfl rfl (eqF z)) rfl) ?_
 obtain ⟨m,em⟩:∃ m:Nat,mn=m:=⟨mn.toNat,by omega⟩
 by_cases z:kd=2
 ·refine ⟨.bk (.table ((List.range m).map fun i:Nat=>Qaq tx none (some (if (sz:Int)-(0+(i:Int)) > 0 then (sz:Int)-(0+(i:Int)) else 0))) nm),stR (ifT (opE rfl rfl (eqT z)) (ret (QeF rfl ?_ rfl))),⟨by simp;omega,?_,hnm⟩⟩
  ·rw [Ze (g:=gS 0) (n:=1) (caps:=[6,4]) (fun i:Nat=>D.int (0+(i:Int))) (List.range m) (fun e=>∃ v,e=[v,some (.str tx),some (.int sz)]) (fun _=>true) (fun i:Nat=>.str (Qaq tx none (some (if (sz:Int)-(0+(i:Int)) > 0 then (sz:Int)-(0+(i:Int)) else 0)))) (by show D.rng (.int mn)=_;rw [em];exact Qdu m (by omega)) (lB (by simp;omega)) ⟨none,rfl⟩ (by
    rintro i hi e ⟨v,rfl⟩
    exact ⟨[some (.int (0+(i:Int))),some (.str tx),some (.int sz)],rfl,⟨_,rfl⟩,rfl,fun _=>Qnq rfl rfl (atE (opE rfl (opE rfl rfl rfl) rfl)) (Qg5 hS _ _)⟩)]
   rw [ZV]
   unfold QE
   rw [List.map_map];rfl
  ·intro r hr
   obtain ⟨i,_,rfl⟩:=List.mem_map.mp hr
   exact Nat.le_trans (QkH _ _ _) (by omega)
 refine Vn (ifF (opE rfl rfl (eqF z)) rfl) ?_
 by_cases z:kd=3
 ·obtain ⟨p,ep,p0,p1⟩:=Qpi c n n0
  exact ⟨.bk (.plates p nm),stR (ifT (opE rfl rfl (eqT z)) (ret (QeF rfl (J6 rfl rfl ep) rfl))),⟨⟨p0,p1⟩,hnm⟩⟩
 refine Vn (ifF (opE rfl rfl (eqF z)) rfl) ?_
 by_cases z:kd=4
 ·exact ⟨.brk,stR (ifT (opE rfl rfl (eqT z)) (ret rfl)),trivial⟩
 refine Vn (ifF (opE rfl rfl (eqF z)) rfl) ?_
 by_cases z:kd<7
 ·exact ⟨.it (.mark (lab k)),stR (ifT (opE rfl rfl (ltT z)) (ret rfl)),rfl⟩
 refine Vn (ifF (opE rfl rfl (ltF z)) rfl) ?_
 by_cases z:kd=7
 ·have q0:0<=n/97%80/\n/97%80<80:=by omega
  have mw:D.mulA (.str wd) (.int 9)=some (.str (Z9 wd 9)):=QmE ⟨by decide,by decide,lB (by show wd.length*9<=_;omega)⟩
  have ml:(Z9 wd 9).length=9*wd.length:=Qgp wd 9
  have ch:=Qm4 (Z9 wd 9) (1+n/97%80) (by omega)
  have mc:=Qg5 (x:=Z9 wd 9) (lB (by omega)) none (some (1+n/97%80))
  exact ⟨.it (.key (Qaq (Z9 wd 9) none (some (1+n/97%80)))),stR (ifT (opE rfl rfl (eqT z)) (ret (QvG rfl (Qnq (opE rfl rfl mw) rfl (atE (opE rfl (opE (opE rfl rfl (YG n (by decide))) rfl (ZE _ (by decide))) rfl)) mc)))),⟨by omega,by omega⟩⟩
 refine Vn (ifF (opE rfl rfl (eqF z)) rfl) ?_
 by_cases z:kd<12
 ·obtain ⟨m,em,lm⟩:=Qvx (n/291) (show (0:Int)<3 by decide)
  obtain ⟨w2,e2,l2⟩:∃ tx,Y0 [.int (n/23),.int m,.int 0]=some (.str tx)/\tx.length=m:=⟨_,Qgh (n/23) 0 m (by omega) (.inl rfl) (by omega),QcS _ _ _⟩
  have q0:0<=n/97%3/\n/97%3<3:=by omega
  have ch:=Qm4 wd (n/97%3) (by omega)
  have mc:=Qg5 hW none (some (n/97%3))
  exact ⟨.it (.ref "" (Qaq wd none (some (n/97%3))) w2),stR (ifT (opE rfl rfl (ltT z)) (ret (Qql rfl rfl (Qnq rfl rfl (atE (opE (opE rfl rfl (YG n (by decide))) rfl (ZE _ (by decide)))) mc) (Zs (opE rfl rfl (YG n (by decide))) (opE (opE rfl rfl (YG n (by decide))) rfl ((ZE _ (by decide)).trans (by rw [em]))) rfl e2)))),⟨rfl,by omega,by omega⟩⟩
 refine Vn (ifF (opE rfl rfl (ltF z)) rfl) ?_
 by_cases z:kd=12
 ·refine ⟨.it (.word wd ((List.range m).map fun i:Nat=>Qaq tx (some (0+(i:Int))) none)),stR (ifT (opE rfl rfl (eqT z)) (ret (QeF rfl rfl ?_))),⟨by omega,by simp;omega,?_⟩⟩
  ·rw [Ze (g:=gS 0) (n:=1) (caps:=[6]) (fun i:Nat=>D.int (0+(i:Int))) (List.range m) (fun e=>∃ v,e=[v,some (.str tx)]) (fun _=>true) (fun i:Nat=>.str (Qaq tx (some (0+(i:Int))) none)) (by show D.rng (.int mn)=_;rw [em];exact Qdu m (by omega)) (lB (by simp;omega)) ⟨none,rfl⟩ (by
    rintro i hi e ⟨v,rfl⟩
    exact ⟨[some (.int (0+(i:Int))),some (.str tx)],rfl,⟨_,rfl⟩,rfl,fun _=>Qnq rfl (atE rfl) rfl (Qg5 hS _ _)⟩)]
   rw [ZV]
   unfold QE
   rw [List.map_map];rfl
  ·intro r hr
   obtain ⟨i,_,rfl⟩:=List.mem_map.mp hr
   exact Nat.le_trans (QkH _ _ _) (by omega)
 refine Vn (ifF (opE rfl rfl (eqF z)) rfl) ?_
 exact ⟨.it (.word wd []),ret rfl,⟨by omega,by simp,fun r hr=>by cases hr⟩⟩
theorem Y1 {α:Type} {f:α->D} {n:Nat} (h:∀ a,(f a).dep<=n):∀ xs:List α,D.depL (xs.map f)<=n
 | []=>by rw [List.map_nil,Q4];exact Nat.zero_le _
 | x::xs=>by rw [List.map_cons,QV];exact Nat.max_le.mpr ⟨h x,Y1 h xs⟩
theorem QkC (xs:List Str):(QE xs).dep<=1:=by
 unfold QE
 rw [Q8]
 exact Nat.succ_le_succ (Y1 (fun a=>by rw [Qz];exact Nat.zero_le _) xs)
theorem QoP (i:It):i.d.dep<=2:=by
 cases i with
 | word w ns=>have:=QkC ns;simp only [It.d,Jd,QV,Q4,Qz];omega
 | _=>simp [Jd,QV,Q4,Qz]
theorem Qte (is:List It):(D.lst (is.map It.d)).dep<=3:=by rw [Q8];exact Nat.succ_le_succ (Y1 QoP is)
theorem QoQ (b:Bk):b.d.dep<=4:=by
 cases b with
 | para is=>have:=Qte is;simp only [Bk.d,Jd,QV,Q4,Qz];omega
 | table rs l=>have:=QkC rs;simp only [Bk.d,Jd,QV,Q4,Qz];omega
 | _=>simp [Jd,QV,Q4,Qz,Qt]
theorem QmZ (bs:List Bk):(bks bs).dep<=5:=by unfold bks;rw [Q8];exact Nat.succ_le_succ (Y1 QoQ bs)
theorem QoO (x:D) (xs:List D):D.eqL (x::xs) []=some false:=by rw [D.eqL];all_goals simp
theorem Qvu {α:Type} {f:α->D} {n:Nat} (h:∀ a,(f a).dep<=n) (hn:n<=39) (xs:List α):D.eqO (.lst (xs.map f)) (.lst [])=some (.bl xs.isEmpty):=by
 unfold D.eqO
 rw [if_pos (by rw [Q8];have:=Y1 h xs;omega),JJ]
 cases xs with
 | nil=>rw [List.map_nil,Jm];rfl
 | cons x xs=>rw [List.map_cons,QoO];rfl
theorem QrT {α:Type} {f:α->D} {n:Nat} (h:∀ a,(f a).dep<=n) (hn:n<=39) (xs:List α):D.neO (.lst (xs.map f)) (.lst [])=some (.bl (!xs.isEmpty)):=by
 unfold D.neO
 rw [if_pos (by rw [Q8];have:=Y1 h xs;omega),JJ]
 cases xs with
 | nil=>rw [List.map_nil,Jm];rfl
 | cons x xs=>rw [List.map_cons,QoO];rfl
theorem QbC {α:Type} {f:α->D} {xs:List α} (x:α) (h:xs.length<lI):D.app (.lst (xs.map f)) (f x)=some (.lst ((xs++[x]).map f)):=by
 show (if (xs.map f).length<lI then some (D.lst (xs.map f++[f x])) else none)=_
 rw [if_pos (by rw [List.length_map];exact h),List.map_append];rfl
theorem Quy (l:List D) (x:D):D.ix (.lst (l++[x])) (.int (-1))=some x:=by
 show (ixD (l++[x]).length (-1)).bind (fun k=>(l++[x])[k]?)=_
 have:ixD (l++[x]).length (-1)=some l.length:=by
  unfold ixD
  rw [if_neg (by decide),if_pos (by simp only [List.length_append,List.length_cons,List.length_nil];omega),List.length_append]
  congr 1
  show ((-1:Int)+((l.length+1:Nat):Int)).toNat=_
  omega
 rw [this]
 show (l++[x])[l.length]?=_
 simp
theorem QcA {α:Type} (f:α->D):∀ (xs:List α) (n:Nat),VE n (xs.map f)=(xs.zipIdx n).map fun p=>D.tup [.int p.2,f p.1]
 | [],n=>rfl
 | x::xs,n=>by
  show D.tup [.int n,f x]::VE (n+1) (xs.map f)=_
  rw [QcA f xs (n+1),List.zipIdx_cons,List.map_cons]
theorem Yb {a:Nat} (h:a<=1000000):a<lI:=Nat.lt_of_le_of_lt h (by decide)
def Jz:At->List Str
 | .it (.mark l)=>[l]
 | .bk (.chapter _ l)=>if l="" then [] else [l]
 | .bk (.heading _ _ l)=>if l="" then [] else [l]
 | .bk (.table _ l)=>if l="" then [] else [l]
 | .bk (.plates _ l)=>if l="" then [] else [l]
 | _=>[]
theorem QnZ (a:At):(Jz a).length<=1:=by
 unfold Jz
 split<;>first | (split<;>simp) | simp
def labs (as:List At):List Str:=as.flatMap Jz
theorem Qkr (as:List At):(labs as).length<=as.length:=by
 induction as with
 | nil=>exact Nat.le_refl _
 | cons a as ih =>
  show ((a::as).flatMap Jz).length<=_
  rw [List.flatMap_cons,List.length_append,List.length_cons]
  have:=QnZ a
  have:(as.flatMap Jz).length<=as.length:=ih
  omega
theorem QpG (as:List At) (i:Nat) (hi:i<as.length):labs (as.take (i+1))=labs (as.take i)++Jz as[i]:=by
 unfold labs
 rw [List.take_succ_eq_append_getElem hi,List.flatMap_append]
 simp
def pt (ls:List Str) (cs:List Int) (i:Nat):At->At
 | .it (.ref l a b)=>if ls=[] then .it (.word "lost" []) else .it (.ref (ls.getD (mix (cs.getD i 0) (i+90)%ls.length).toNat "") a b)
 | a=>a
def Jk (cs:List Int) (as:List At):List At:=as.mapIdx fun i a=>pt (labs as) cs i a
def AtS:At->Prop
 | .bk (.para _)=>False
 | .fin=>False
 | _=>True
theorem QhP {α:Type} {f:α->D} (xs:List α) (i:Int) (d:α) (h:0<=i) (h':i<xs.length):D.ix (.lst (xs.map f)) (.int i)=some (f (xs.getD i.toNat d)):=by
 show (ixD (xs.map f).length i).bind (fun k=>(xs.map f)[k]?)=_
 unfold ixD
 rw [if_pos h,if_pos (by rw [List.length_map];exact h')]
 show (xs.map f)[i.toNat]?=_
 rw [List.getElem?_map,List.getD_eq_getElem?_getD,List.getElem?_eq_getElem (by omega)]
 rfl
theorem Qtq {xs:List Str} (x:Str) (h:xs.length<lI):D.app (QE xs) (.str x)=some (QE (xs++[x])):=QbC (f:=D.str) x h
theorem Qah (xs:List Str):D.len (QE xs)=some (.int xs.length):=by
 show some (D.int (xs.map D.str).length)=_
 rw [List.length_map]
theorem QuE (xs:List Str):D.eqO (QE xs) (.lst [])=some (.bl xs.isEmpty):=Qvu (f:=D.str) (n:=0) (fun a=>by rw [Qz];exact Nat.le_refl _) (by decide) xs
theorem Qux (xs:List Str) (i:Int) (h:0<=i) (h':i<xs.length):D.ix (QE xs) (.int i)=some (.str (xs.getD i.toNat "")):=QhP (f:=D.str) xs i "" h h'
theorem QnP (as:List At) (cs:List Int) (hl:as.length=cs.length) (h58:as.length<=100) (hs:∀ a∈as,AtS a):Qcc [.lst (as.map At.d),.lst (cs.map .int)]=some (.lst ((Jk cs as).map At.d)):=by
 unfold Qcc Qer
 refine stD rfl ?_
 refine st (e1:=[some (.lst (as.map At.d)),some (.lst (cs.map .int)),some (QE []),none,none,none,none]) (by simp [sD,sQ,sIf,Qj,Qd,sNx,gS,eV,eC,eOp,eUn,Q9,QN,eOr,Qp,Qi,eK,lN,lC,D.lt,D.sub,D.eqO,D.cmp,Qo,QM,QS,Qt,Qz,QD,QH,QF,QE]) ?_
 refine V2 At.d as (fun i e=>∃ v,e=[some (.lst (as.map At.d)),some (.lst (cs.map .int)),some (QE (labs (as.take i))),v,none,none,none]) rfl ⟨none,rfl⟩ ?_ ?_
 ·rintro i hi e ⟨v,rfl⟩
  have hb:(labs (as.take i)).length<lI:=Yb (Nat.le_trans (Qkr _) (by rw [List.length_take];omega))
  have ha:=hs as[i] (List.getElem_mem hi)
  rw [QpG as i hi]
  have ap:=fun x=>Qtq x hb
  generalize as[i]=a at *
  generalize labs (as.take i)=ls at *
  refine ⟨_,.inl ?_,some a.d,rfl⟩
  refine bnd (e1:=[some (.lst (as.map At.d)),some (.lst (cs.map .int)),some (QE ls),some a.d,none,none,none]) rfl ?_
  have neS:∀ x y:Str,D.neO (.str x) (.str y)=some (.bl (decide (x≠y))):=fun x y=>by by_cases h:x=y<;>simp [D.neO,Qz,QH,D.cmpN,h]
  have bkS:∀ (d:D) (t l:Str),D.ix d (.int 0)=some (.str t)->D.ix d (.int (-1))=some (.str l)->t≠"mark"->D.notInO (.str t) (.lst [.str "break",.str "word",.str "key",.str "ref"])=some (.bl true)->sIf (eOp D.eqO (eOp D.ix (eV 3) (eC (.int 0))) (eC (.str "mark"))) (sP 2 (eOp D.ix (eV 3) (eC (.int 1)))) (sIf (QN (eOp D.notInO (eOp D.ix (eV 3) (eC (.int 0))) (Qi (lC (eC (.str "break")) (lC (eC (.str "word")) (lC (eC (.str "key")) (lC (eC (.str "ref")) lN)))))) (eOp D.neO (eOp D.ix (eV 3) (eUn D.neg (eC (.int 1)))) (eC (.str "")))) (sP 2 (eOp D.ix (eV 3) (eUn D.neg (eC (.int 1))))) (sNx)) [some (.lst (as.map At.d)),some (.lst (cs.map .int)),some (QE ls),some d,none,none,none]=some (.nx [some (.lst (as.map At.d)),some (.lst (cs.map .int)),some (QE (ls++if l="" then [] else [l])),some d,none,none,none]):=by
   intro d t l h0 h1 hm h4
   refine ifF (opE (opE rfl rfl h0) rfl (by rw [eqS,decide_eq_false hm])) ?_
   by_cases z:l=""
   ·rw [if_pos z,List.append_nil]
    exact ifF (YH (opE (opE rfl rfl h0) rfl h4) (opE (opE rfl (unE rfl rfl) h1) rfl (by rw [neS,decide_eq_false (fun q=>q z)]))) rfl
   ·rw [if_neg z]
    exact ifT (YH (opE (opE rfl rfl h0) rfl h4) (opE (opE rfl (unE rfl rfl) h1) rfl (by rw [neS,decide_eq_true z]))) (Qaa rfl (opE rfl (unE rfl rfl) h1) (ap l))
  have noS:∀ (d:D) (t:Str),D.ix d (.int 0)=some (.str t)->t≠"mark"->D.notInO (.str t) (.lst [.str "break",.str "word",.str "key",.str "ref"])=some (.bl false)->sIf (eOp D.eqO (eOp D.ix (eV 3) (eC (.int 0))) (eC (.str "mark"))) (sP 2 (eOp D.ix (eV 3) (eC (.int 1)))) (sIf (QN (eOp D.notInO (eOp D.ix (eV 3) (eC (.int 0))) (Qi (lC (eC (.str "break")) (lC (eC (.str "word")) (lC (eC (.str "key")) (lC (eC (.str "ref")) lN)))))) (eOp D.neO (eOp D.ix (eV 3) (eUn D.neg (eC (.int 1)))) (eC (.str "")))) (sP 2 (eOp D.ix (eV 3) (eUn D.neg (eC (.int 1))))) (sNx)) [some (.lst (as.map At.d)),some (.lst (cs.map .int)),some (QE ls),some d,none,none,none]=some (.nx [some (.lst (as.map At.d)),some (.lst (cs.map .int)),some (QE (ls++[])),some d,none,none,none]):=by
   intro d t h0 hm h4
   rw [List.append_nil]
   exact ifF (opE (opE rfl rfl h0) rfl (by rw [eqS,decide_eq_false hm])) (ifF (YT (opE (opE rfl rfl h0) rfl h4)) rfl)
  cases a with
  | bk b=>cases b with
   | para is=>exact ha.elim
   | chapter t l=>exact bkS _ "chapter" l rfl rfl (by simp) (by rfl)
   | heading t n l=>exact bkS _ "heading" l rfl rfl (by simp) (by rfl)
   | table rs l=>exact bkS _ "table" l rfl rfl (by simp) (by rfl)
   | plates n l=>exact bkS _ "plates" l rfl rfl (by simp) (by rfl)
  | it x=>cases x with
   | mark l=>exact ifT (opE (opE (x:=(It.mark l).d) rfl rfl rfl) rfl (by rw [eqS];simp)) (Qaa rfl (opE (x:=(It.mark l).d) rfl rfl rfl) (ap l))
   | word w ns=>exact noS _ "word" rfl (by simp) (by rfl)
   | key w=>exact noS _ "key" rfl (by simp) (by rfl)
   | ref l a b=>exact noS _ "ref" rfl (by simp) (by rfl)
  | brk=>exact noS _ "break" rfl (by simp) (by rfl)
  | fin=>exact ha.elim
 ·rintro e ⟨v,rfl⟩
  rw [List.take_length]
  have hb:(labs as).length<=as.length:=Qkr as
  have pdef:∀ i (hi:i<as.length) (hp:i<(Jk cs as).length),(Jk cs as)[i]=pt (labs as) cs i as[i]:=by
   intro i hi hp
   simp only [Jk,List.getElem_mapIdx]
  have plen:(Jk cs as).length=as.length:=by unfold Jk;simp
  generalize Jk cs as=ps at *
  generalize labs as=ls at *
  refine st (e1:=[some (.lst (as.map At.d)),some (.lst (cs.map .int)),some (QE ls),v,some (.lst []),none,none]) (by simp [sD,sQ,sIf,Qj,Qd,sNx,gS,eV,eC,eOp,eUn,Q9,QN,eOr,Qp,Qi,eK,lN,lC,D.lt,D.sub,D.eqO,D.cmp,Qo,QM,QS,Qt,Qz,QD,QH,QF]) ?_
  refine V2 (fun p:At×Nat=>D.tup [.int p.2,p.1.d]) as.zipIdx (fun i e=>∃ v w x,e=[some (.lst (as.map At.d)),some (.lst (cs.map .int)),some (QE ls),v,some (.lst ((ps.take i).map At.d)),w,x]) (by show some (VE 0 (as.map At.d))=_;rw [QcA]) ⟨v,none,none,rfl⟩ ?_ ?_
  ·rintro i hi e ⟨v,w,x,rfl⟩
   have hi':i<as.length:=by simpa using hi
   have hip:i<ps.length:=by omega
   have ei:as.zipIdx[i]=(as[i],i):=by simp
   rw [ei,List.take_succ_eq_append_getElem hip,pdef i hi' hip]
   have ap:∀ x:At,D.app (.lst ((ps.take i).map At.d)) x.d=some (.lst ((ps.take i++[x]).map At.d)):=fun x=>QbC x (Yb (by rw [List.length_take];omega))
   have mx:∃ m:Int,mix (cs.getD i 0) ((i:Int)+90)=m/\Ym [.int (cs.getD i 0),.int ((i:Int)+90)]=some (.int m)/\0<=m:=⟨_,rfl,Qbw _ _ (by omega) (by omega),QoH _ _⟩
   have cx:D.ix (.lst (cs.map .int)) (.int i)=some (.int (cs.getD i 0)):=QhP (f:=D.int) cs i 0 (by omega) (by omega)
   have ha:=hs as[i] (List.getElem_mem hi')
   obtain ⟨m,em,mm,m0⟩:=mx
   have hp:∀ l a b,pt ls cs i (.it (.ref l a b))=if ls=[] then .it (.word "lost" []) else .it (.ref (ls.getD (m%ls.length).toNat "") a b):=by intro l a b;rw [<- em];rfl
   have i90:(i:Int)+90=(i:Int)+90:=rfl
   generalize hq:pt ls cs i as[i]=q
   generalize as[i]=a at *
   generalize cs.getD i 0=c at *
   generalize ps.take i=qs at *
   obtain ⟨j,ej⟩:∃ j:Int,(i:Int)=j:=⟨_,rfl⟩
   rw [ej] at mm cx
   simp only []
   rw [ej]
   have oth:∀ (d z:D) (t:Str),D.ix d (.int 0)=some (.str t)->t≠"ref"->D.app (.lst (qs.map At.d)) d=some z->sIf (QN (eOp D.eqO (eOp D.ix (eV 3) (eC (.int 0))) (eC (.str "ref"))) (eOp D.eqO (eV 2) (Qi (lN)))) (sP 4 (Qp (lC (eC (.str "word")) (lC (eC (.str "lost")) (lC (Qi (lN)) lN))))) (sIf (eOp D.eqO (eOp D.ix (eV 3) (eC (.int 0))) (eC (.str "ref"))) (sQ (Qd (eOp D.ix (eV 2) (eOp D.mod (eK Ym (lC (eOp D.ix (eV 1) (eV 5)) (lC (eOp D.add (eV 5) (eC (.int 90))) lN))) (eUn D.len (eV 2)))) (gS 6)) (sP 4 (Qp (lC (eC (.str "ref")) (lC (eV 6) (lC (eOp D.ix (eV 3) (eC (.int 2))) (lC (eOp D.ix (eV 3) (eC (.int 3))) lN))))))) (sP 4 (eV 3))) [some (.lst (as.map At.d)),some (.lst (cs.map .int)),some (QE ls),some d,some (.lst (qs.map At.d)),some (.int j),x]=some (.nx [some (.lst (as.map At.d)),some (.lst (cs.map .int)),some (QE ls),some d,some z,some (.int j),x]):=by
    intro d z t h0 hm hz
    exact ifF (YT (opE (opE rfl rfl h0) rfl (by rw [eqS,decide_eq_false hm]))) (ifF (opE (opE rfl rfl h0) rfl (by rw [eqS,decide_eq_false hm])) (Qaa rfl rfl hz))
   cases a with
   | it y=>cases y with
    | ref l a b =>
     have es:D.eqO (.str (Str.ofString "ref")) (.str (Str.ofString "ref"))=some (.bl true):=by rw [eqS];simp
     have t0:D.ix (It.ref l a b).d (.int 0)=some (.str "ref"):=rfl
     have eq:=QuE ls
     rw [hp] at hq
     cases ls with
     | nil =>
      rw [if_pos rfl] at hq
      subst hq
      exact ⟨_,.inl (bnd rfl (ifT (YH (opE (opE rfl rfl t0) rfl es) (opE rfl rfl eq)) (Qaa rfl rfl (ap (.it (.word "lost" [])))))),some (It.ref l a b).d,some (.int j),x,rfl⟩
     | cons l0 ls =>
      rw [if_neg (by simp)] at hq
      subst hq
      have hn:(0:Int)<((l0::ls).length:Int):=by simp only [List.length_cons];omega
      have md:D.mod (.int m) (.int ((l0::ls).length:Int))=some (.int (m%((l0::ls).length:Int))):=Qbk hn
      have ixl:=Qux (l0::ls) (m%((l0::ls).length:Int)) (Int.emod_nonneg _ (by omega)) (Int.emod_lt_of_pos _ hn)
      have ln:=Qah (l0::ls)
      have ap':=ap (.it (.ref ((l0::ls).getD (m%((l0::ls).length:Int)).toNat "") a b))
      generalize (l0::ls).getD (m%((l0::ls).length:Int)).toNat ""=lx at *
      generalize m%((l0::ls).length:Int)=mi at *
      generalize ((l0::ls).length:Int)=ll at *
      have ie:(l0::ls).isEmpty=false:=rfl
      rw [ie] at eq
      generalize QE (l0::ls)=LS at *
      refine ⟨_,.inl ?_,some (It.ref l a b).d,some (.int j),some (.str lx),rfl⟩
      refine bnd (e1:=[some (.lst (as.map At.d)),some (.lst (cs.map .int)),some LS,some (It.ref l a b).d,some (.lst (qs.map At.d)),some (.int j),x]) rfl ?_
      refine ifF (YH (opE (opE rfl rfl t0) rfl es) (opE rfl rfl eq)) (ifT (opE (opE rfl rfl t0) rfl es) ?_)
      refine st (e1:=[some (.lst (as.map At.d)),some (.lst (cs.map .int)),some LS,some (It.ref l a b).d,some (.lst (qs.map At.d)),some (.int j),some (.str lx)]) (asg (opE rfl (opE (J6 (opE rfl rfl cx) (opE rfl rfl rfl) mm) (unE rfl ln) md) ixl) rfl) ?_
      exact Qaa rfl (Qql rfl rfl (opE (x:=(It.ref l a b).d) rfl rfl rfl) (opE (x:=(It.ref l a b).d) rfl rfl rfl)) ap'
    | word w ns=>subst hq;exact ⟨_,.inl (bnd rfl (oth _ _ "word" rfl (by simp) (ap (.it (.word w ns))))),some (It.word w ns).d,some (.int j),x,rfl⟩
    | mark l=>subst hq;exact ⟨_,.inl (bnd rfl (oth _ _ "mark" rfl (by simp) (ap (.it (.mark l))))),some (It.mark l).d,some (.int j),x,rfl⟩
    | key l=>subst hq;exact ⟨_,.inl (bnd rfl (oth _ _ "key" rfl (by simp) (ap (.it (.key l))))),some (It.key l).d,some (.int j),x,rfl⟩
   | bk b =>
    have hq':q=.bk b:=hq.symm
    subst hq'
    refine ⟨_,.inl (bnd rfl ?_),some b.d,some (.int j),x,rfl⟩
    cases b with
    | para is=>exact ha.elim
    | chapter t l=>exact oth _ _ "chapter" rfl (by simp) (ap (.bk (.chapter t l)))
    | heading t k l=>exact oth _ _ "heading" rfl (by simp) (ap (.bk (.heading t k l)))
    | table t l=>exact oth _ _ "table" rfl (by simp) (ap (.bk (.table t l)))
    | plates t l=>exact oth _ _ "plates" rfl (by simp) (ap (.bk (.plates t l)))
   | brk =>
    have hq':q=.brk:=hq.symm
    subst hq'
    exact ⟨_,.inl (bnd rfl (oth _ _ "break" rfl (by simp) (ap .brk))),some At.brk.d,some (.int j),x,rfl⟩
   | fin=>exact ha.elim
  ·rintro e ⟨v,w,x,rfl⟩
   have:as.zipIdx.length=ps.length:=by simp [plen]
   rw [this,List.take_length]
   exact ret rfl
def isMK:It->Bool
 | .mark _=>true
 | .key _=>true
 | _=>false
def Qk (row:List It):List It:=match row.getLast? with
 | some x=>if isMK x then row++[.word "end" []] else row
 | none=>row
def JP:List Bk×List It->At->List Bk×List It
 | (bs,row),.it i=>(bs,row++[i])
 | (bs,row),.bk b=>((if Qk row=[] then bs else bs++[.para (Qk row)])++[b],[])
 | (bs,row),.brk=>(bs++[.para (Qk row)],[])
 | (bs,row),.fin=>(if Qk row=[] then bs else bs++[.para (Qk row)],[])
def grp (as:List At):List Bk×List It:=as.foldl JP ([],[])
theorem Qlx (row:List It):(Qk row).length<=row.length+1:=by
 unfold Qk
 split
 ·split
  ·simp
  ·omega
 ·omega
theorem QmP (as:List At):∀ s:List Bk×List It,(as.foldl JP s).1.length<=s.1.length+2*as.length/\(as.foldl JP s).2.length<=s.2.length+as.length:=by
 induction as with
 | nil=>intro s;simp
 | cons a as ih =>
  intro s
  obtain ⟨h1,h2⟩:=ih (JP s a)
  rw [List.foldl_cons,List.length_cons]
  have:(JP s a).1.length<=s.1.length+2/\(JP s a).2.length<=s.2.length+1:=by
   obtain ⟨bs,row⟩:=s
   cases a with
   | it i=>simp [JP]
   | bk b=>simp only [JP];split<;>simp
   | brk=>simp [JP]
   | fin=>simp only [JP];split<;>simp
  omega
theorem Qrl (as:List At) (i:Nat) (hi:i<as.length):grp (as.take (i+1))=JP (grp (as.take i)) as[i]:=by
 unfold grp
 rw [List.take_succ_eq_append_getElem hi,List.foldl_append]
 rfl
theorem Qoy (row:List It):row=[]\/∃ r x,row=r++[x]:=by
 rcases List.eq_nil_or_concat row with h | ⟨r,x,h⟩
 ·exact .inl h
 ·exact .inr ⟨r,x,by rw [h,List.concat_eq_append]⟩
theorem QrU (is:List It):D.neO (.lst (is.map It.d)) (.lst [])=some (.bl (!is.isEmpty)):=QrT QoP (by decide) is
theorem Qj2 {is:List It} (x:It) (h:is.length<lI):D.app (.lst (is.map It.d)) x.d=some (.lst ((is++[x]).map It.d)):=QbC x h
theorem Qj3 {is:List Bk} (x:Bk) (h:is.length<lI):D.app (bks is) x.d=some (bks (is++[x])):=QbC (f:=Bk.d) x h
theorem Qgx (A:Option D) (bs:Option D) (row:List It) (h:row.length<lI) (d:D) :
  (sIf (QN (eOp D.neO (eV 2) (Qi (lN))) (eOp D.inO (eOp D.ix (eOp D.ix (eV 2) (eUn D.neg (eC (.int 1)))) (eC (.int 0))) (Qi (lC (eC (.str "mark")) (lC (eC (.str "key")) lN))))) (sP 2 (Qp (lC (eC (.str "word")) (lC (eC (.str "end")) (lC (Qi (lN)) lN))))) (sNx)) [A,bs,some (.lst (row.map It.d)),some d]=some (.nx [A,bs,some (.lst ((Qk row).map It.d)),some d]):=by
 have ne:=QrU row
 have ap:=Qj2 (.word "end" []) h
 simp only [It.d,QE,List.map_nil] at ap
 rcases Qoy row with z | ⟨r,x,z⟩
 ·subst z
  simp only [List.map_nil] at ne
  simp [sIf,QN,eOp,eV,Qi,lN,ne,Qo,sNx,Qk]
 ·have il:D.ix (.lst (row.map It.d)) (.int (-1))=some x.d:=by rw [z,List.map_append];exact Quy _ _
  have ie:row.isEmpty=false:=by rw [z];simp
  have cl:Qk row=if isMK x then row++[.word "end" []] else row:=by unfold Qk;rw [z];simp
  rw [ie] at ne
  rw [cl]
  have i0:∃ t:Str,D.ix x.d (.int 0)=some (.str t)/\D.inO (.str t) (.lst [.str (Str.ofString "mark"),.str (Str.ofString "key")])=some (.bl (isMK x)):=by
   cases x<;>exact ⟨_,rfl,by simp [D.inO,Zo,inD,QH,isMK]⟩
  obtain ⟨t,i0,i1⟩:=i0
  generalize (row++[It.word "end" []])=row2 at *
  generalize It.d x=X at *
  cases q:isMK x with
  | true =>
   rw [q] at i1
   rw [if_pos rfl]
   generalize row2.map It.d=R2 at *
   generalize row.map It.d=R at *
   simp [sIf,QN,eOp,eV,Qi,lN,lC,eC,eUn,D.neg,ne,il,i0,i1,Qo,sP,Qp,ap]
  | false =>
   rw [q] at i1
   rw [if_neg (by decide)]
   generalize row.map It.d=R at *
   simp [sIf,QN,eOp,eV,Qi,lN,lC,eC,eUn,D.neg,ne,il,i0,i1,Qo,sNx]
theorem QhX (A:D) (bs:List Bk) (row:List It) (h:bs.length<lI) (d:D) (t:Str) (ht:D.ix d (.int 0)=some (.str t)) :
  (sIf (eOr (eOp D.neO (eV 2) (Qi (lN))) (eOp D.eqO (eOp D.ix (eV 3) (eC (.int 0))) (eC (.str "break")))) (sP 1 (Qp (lC (eC (.str "para")) (lC (eV 2) lN)))) (sNx)) [some A,some (bks bs),some (.lst (row.map It.d)),some d]=some (.nx [some A,some (bks (if row=[]/\t≠"break" then bs else bs++[.para row])),some (.lst (row.map It.d)),some d]):=by
 have ne:=QrU row
 have ap:=Qj3 (.para row) h
 simp only [Bk.d] at ap
 have eb:D.eqO (.str t) (.str (Str.ofString "break"))=some (.bl (decide (t=Str.ofString "break"))):=by simp [D.eqO,Qz,QH,D.cmp]
 cases q:row.isEmpty with
 | true =>
  have z:row=[]:=List.isEmpty_iff.mp q
  rw [q] at ne
  subst z
  simp only [List.map_nil] at ne ap
  by_cases w:t=Str.ofString "break"
  ·rw [if_neg (by simp [w])]
   rw [w] at eb ht
   generalize bks bs=B at *
   generalize bks (bs++_)=B2 at *
   simp [sIf,eOr,eOp,eV,Qi,lN,lC,eC,ne,ht,eb,Qo,sP,Qp,ap]
  ·rw [if_pos ⟨rfl,w⟩]
   simp [sIf,eOr,eOp,eV,Qi,lN,lC,eC,ne,ht,eb,w,Qo,sNx]
 | false =>
  have z:row≠[]:=fun z=>by rw [z] at q;cases q
  rw [q] at ne
  rw [if_neg (by simp [z])]
  generalize bks bs=B at *
  generalize bks (bs++_)=B2 at *
  generalize row.map It.d=R at *
  simp [sIf,eOr,eOp,eV,Qi,lN,lC,eC,ne,Qo,sP,Qp,ap]
theorem Qn2 (as:List At) (h100:as.length<=100) (hs:∀ a∈as,AtS a):Y9 [.lst (as.map At.d)]=some (bks (grp (as++[.fin])).1):=by
 have key:∀ xs:List At,xs.length<=101->(∀ a∈xs,AtS a\/a=.fin)->D.add (.lst (as.map At.d)) (.lst [At.fin.d])=some (.lst (xs.map At.d))->Y9 [.lst (as.map At.d)]=some (bks (grp xs).1):=by
  intro xs hx ha hadd
  unfold Y9 Qes
  refine stD rfl ?_
  refine st (e1:=[some (.lst (as.map At.d)),some (bks []),none,none]) (by simp [sD,sQ,sIf,Qj,Qd,sNx,gS,eV,eC,eOp,eUn,Q9,QN,eOr,Qp,Qi,eK,lN,lC,D.lt,D.sub,D.eqO,D.cmp,Qo,QM,QS,Qt,Qz,QD,QH,QF,bks]) ?_
  refine st (e1:=[some (.lst (as.map At.d)),some (bks []),some (.lst []),none]) (by simp [sD,sQ,sIf,Qj,Qd,sNx,gS,eV,eC,eOp,eUn,Q9,QN,eOr,Qp,Qi,eK,lN,lC,D.lt,D.sub,D.eqO,D.cmp,Qo,QM,QS,Qt,Qz,QD,QH,QF]) ?_
  refine V2 At.d xs (fun i e=>∃ v,e=[some (.lst (as.map At.d)),some (bks (grp (xs.take i)).1),some (.lst ((grp (xs.take i)).2.map It.d)),v]) ?_ ⟨none,rfl⟩ ?_ ?_
  ·simp only [At.d] at hadd
   simp [Q1,eOp,eV,Qi,Qp,lC,lN,eC,hadd,D.its]
  ·rintro i hi e ⟨v,rfl⟩
   rw [Qrl xs i hi]
   have hl:=QmP (xs.take i) ([],[])
   have hb:(grp (xs.take i)).1.length<lI:=Yb (by have:=hl.1;unfold grp;simp at this;omega)
   have hr:(grp (xs.take i)).2.length<lI:=Yb (by have:=hl.2;unfold grp;simp at this;omega)
   have hx1:(grp (xs.take i)).1.length+1<lI:=Yb (by have:=hl.1;unfold grp;simp at this;omega)
   have hAt:=ha xs[i] (List.getElem_mem hi)
   generalize xs[i]=a at *
   generalize grp (xs.take i)=s at *
   obtain ⟨bs,row⟩:=s
   generalize D.lst (as.map At.d)=AS at *
   simp only [] at hb hr hx1 ⊢
   cases a with
   | it x =>
    have ap:=Qj2 x hr
    refine ⟨[some AS,some (bks bs),some (.lst ((row++[x]).map It.d)),some x.d],.inr ?_,some x.d,rfl⟩
    refine bnd (e1:=[some AS,some (bks bs),some (.lst (row.map It.d)),some x.d]) rfl ?_
    have i0:∃ t:Str,D.ix x.d (.int 0)=some (.str t)/\D.inO (.str t) (.lst [.str (Str.ofString "mark"),.str (Str.ofString "key"),.str (Str.ofString "ref"),.str (Str.ofString "word")])=some (.bl true):=by
     cases x<;>exact ⟨_,rfl,by simp [D.inO,Zo,inD,QH]⟩
    obtain ⟨t,i0,i1⟩:=i0
    refine stC ?_
    generalize It.d x=X at *
    generalize (row++[x]).map It.d=R2 at *
    generalize row.map It.d=R at *
    simp [sIf,eOp,eV,Qi,lN,lC,eC,i0,i1,Qo,sQ,sP,ap,QM,Z2]
   | bk b =>
    have i0:∃ t:Str,D.ix b.d (.int 0)=some (.str t)/\D.inO (.str t) (.lst [.str (Str.ofString "mark"),.str (Str.ofString "key"),.str (Str.ofString "ref"),.str (Str.ofString "word")])=some (.bl false)/\D.notInO (.str t) (.lst [.str (Str.ofString "break"),.str (Str.ofString "end")])=some (.bl true)/\t≠Str.ofString "break":=by
     cases b<;>exact ⟨_,rfl,by simp [D.inO,Zo,inD,QH],by simp [D.notInO,Zo,inD,QH],by simp⟩
    obtain ⟨t,i0,i1,i2,i3⟩:=i0
    have pa:=QhX AS bs (Qk row) hb b.d t i0
    have gs:JP (bs,row) (.bk b)=((if Qk row=[]/\t≠Str.ofString "break" then bs else bs++[.para (Qk row)])++[b],[]):=by
     show ((if Qk row=[] then bs else bs++[.para (Qk row)])++[b],[])=_
     by_cases w:Qk row=[]
     ·rw [if_pos w,if_pos ⟨w,i3⟩]
     ·rw [if_neg w,if_neg (by simp [w])]
    rw [gs]
    have hl2:(if Qk row=[]/\t≠Str.ofString "break" then bs else bs++[.para (Qk row)]).length<lI:=by
     split
     ·exact hb
     ·rw [List.length_append];exact hx1
    generalize (if Qk row=[]/\t≠Str.ofString "break" then bs else bs++[.para (Qk row)])=bs2 at *
    have ap:=Qj3 b hl2
    refine ⟨[some AS,some (bks (bs2++[b])),some (.lst []),some b.d],.inl ?_,some b.d,rfl⟩
    refine bnd (e1:=[some AS,some (bks bs),some (.lst (row.map It.d)),some b.d]) rfl ?_
    refine st (e1:=[some AS,some (bks bs),some (.lst (row.map It.d)),some b.d]) ?_ ?_
    ·generalize Bk.d b=X at *
     simp [sIf,eOp,eV,Qi,lN,lC,eC,i0,i1,Qo,sNx]
    refine st (Qgx (some AS) (some (bks bs)) row hr b.d) ?_
    refine st pa ?_
    refine st (e1:=[some AS,some (bks bs2),some (.lst []),some b.d]) rfl ?_
    generalize Bk.d b=X at *
    generalize bks bs2=B at *
    generalize bks (bs2++_)=B2 at *
    simp [sIf,eOp,eV,Qi,lN,lC,eC,i0,i2,Qo,sP,ap]
   | brk =>
    have pa:=QhX AS bs (Qk row) hb At.brk.d (Str.ofString "break") rfl
    rw [if_neg (by simp)] at pa
    refine ⟨[some AS,some (bks (bs++[.para (Qk row)])),some (.lst []),some At.brk.d],.inl ?_,some At.brk.d,rfl⟩
    refine bnd (e1:=[some AS,some (bks bs),some (.lst (row.map It.d)),some At.brk.d]) rfl ?_
    refine st (e1:=[some AS,some (bks bs),some (.lst (row.map It.d)),some At.brk.d]) (by simp [sIf,eOp,eV,Qi,lN,lC,eC,D.ix,ixD,Qo,sNx,D.inO,Zo,inD,QH]) ?_
    refine st (Qgx (some AS) (some (bks bs)) row hr At.brk.d) ?_
    refine st pa ?_
    refine st (e1:=[some AS,some (bks (bs++[.para (Qk row)])),some (.lst []),some At.brk.d]) rfl ?_
    simp [sIf,eOp,eV,Qi,lN,lC,eC,D.ix,ixD,Qo,sNx,D.notInO,Zo,inD,QH]
   | fin =>
    have pa:=QhX AS bs (Qk row) hb At.fin.d (Str.ofString "end") rfl
    have gs:JP (bs,row) .fin=((if Qk row=[]/\Str.ofString "end"≠Str.ofString "break" then bs else bs++[.para (Qk row)]),[]):=by
     show (if Qk row=[] then bs else bs++[.para (Qk row)],[])=_
     by_cases w:Qk row=[]
     ·rw [if_pos w,if_pos ⟨w,by simp⟩]
     ·rw [if_neg w,if_neg (by simp [w])]
    rw [gs]
    generalize (if Qk row=[]/\Str.ofString "end"≠Str.ofString "break" then bs else bs++[.para (Qk row)])=bs2 at *
    refine ⟨[some AS,some (bks bs2),some (.lst []),some At.fin.d],.inl ?_,some At.fin.d,rfl⟩
    refine bnd (e1:=[some AS,some (bks bs),some (.lst (row.map It.d)),some At.fin.d]) rfl ?_
    refine st (e1:=[some AS,some (bks bs),some (.lst (row.map It.d)),some At.fin.d]) (by simp [sIf,eOp,eV,Qi,lN,lC,eC,D.ix,ixD,Qo,sNx,D.inO,Zo,inD,QH]) ?_
    refine st (Qgx (some AS) (some (bks bs)) row hr At.fin.d) ?_
    refine st pa ?_
    refine st (e1:=[some AS,some (bks bs2),some (.lst []),some At.fin.d]) rfl ?_
    simp [sIf,eOp,eV,Qi,lN,lC,eC,D.ix,ixD,Qo,sNx,D.notInO,Zo,inD,QH]
  ·rintro e ⟨v,rfl⟩
   rw [List.take_length]
   exact ret rfl
 refine key (as++[.fin]) (by simp;omega) (fun a h=>?_) ?_
 ·rcases List.mem_append.mp h with z | z
  ·exact .inl (hs a z)
  ·exact .inr (by simpa using z)
 ·show (if (as.map At.d).length+1<=lI then _ else _)=_
  rw [if_pos (Nat.le_trans (by rw [List.length_map];omega) (show 101<=lI by decide)),List.map_append]
  rfl
def JH:It->Bool
 | .ref _ _ _=>true
 | _=>false
def ZX:It->Bool
 | .word _ _=>true
 | _=>false
def Qbx:Bk->Bool
 | .para _=>true
 | _=>false
def QjI:It->Str
 | .word _ _=>"word"
 | .ref _ _ _=>"ref"
 | .mark _=>"mark"
 | .key _=>"key"
def Qf7:Bk->Str
 | .chapter _ _=>"chapter"
 | .heading _ _ _=>"heading"
 | .para _=>"para"
 | .table _ _=>"table"
 | .plates _ _=>"plates"
theorem QeX (i:It):D.ix i.d (.int 0)=some (.str (QjI i)):=by cases i<;>rfl
theorem QoK (i:Bk):D.ix i.d (.int 0)=some (.str (Qf7 i)):=by cases i<;>rfl
theorem QhT (i:It):decide (QjI i=Str.ofString "ref")=JH i:=by cases i<;>simp [QjI,JH]
theorem QjK (i:It):decide (QjI i=Str.ofString "word")=ZX i:=by cases i<;>simp [QjI,ZX]
theorem QqE (i:Bk):decide (Qf7 i=Str.ofString "para")=Qbx i:=by cases i<;>simp [Qf7,Qbx]
def Qno:It->Str
 | .ref l _ _=>l
 | _=>""
def QG (is:List It):List Str:=(is.filter JH).map Qno
def iO:Bk->List It
 | .para is=>is
 | _=>[]
def rO (bs:List Bk):List Str:=bs.flatMap fun b=>QG (iO b)
theorem Qb9 (b:Bk):Zg [b.d]=some (.lst ((iO b).map It.d)):=by
 unfold Zg Qen
 cases b<;>simp [QF,J1,Zw,lI,QA,sD,sQ,sIf,Qj,ZP,Qd,Zu,JY,sNx,Yt,Z2,gS,JN,Zn,eV,eC,eOp,eUn,Q9,QN,eOr,eIf,JO,Qp,Qi,eK,lN,lC,J5,oNo,oAt,ZQ,D.len,D.lt,D.le,D.gt,D.ge,D.add,D.sub,D.ix,D.eqO,D.neO,D.cmp,D.cmpN,D.inst,tyD,D.isT,D.intB,D.min2,D.max2,D.neg,D.addI,Qo,JS,JU,Jv,QM,QS,JR,JQ,Jj,Ju,JV,JW,Jw,Jy,JT,Q7,JL,Za,Qt,Qz,Jd,Q8,Q4,QV,D.rng,D.its,D.itsT,QD,ZI,QH,Jl,JJ,Jm,Jh,ixD,iO]
theorem Qkh {it:EvI} {e:Qq} (is:List It) (hit:it e=some (is.map It.d)) (hl:is.length<=lI):QR 1 [] it (gS 0) (eOp D.eqO (eOp D.ix (eV 0) (eC (.int 0))) (eC (.str "ref"))) (eOp D.ix (eV 0) (eC (.int 1))) e=some (QE (QG is)):=by
 have:=Ze (g:=gS 0) (n:=1) (caps:=[]) (c:=eOp D.eqO (eOp D.ix (eV 0) (eC (.int 0))) (eC (.str "ref"))) (el:=eOp D.ix (eV 0) (eC (.int 1))) It.d is (fun e=>∃ v,e=[v]) JH (fun i=>.str (Qno i)) hit hl ⟨none,rfl⟩ (by
  rintro i _ e ⟨v,rfl⟩
  refine ⟨[some i.d],rfl,⟨_,rfl⟩,?_,fun h=>?_⟩
  ·have h1:=QeX i
   have h2:=QhT i
   generalize It.d i=X at *
   simp [eOp,eV,eC,h1,eqS,h2]
  ·cases i with
   | ref l a b=>rfl
   | _=>cases h)
 rw [this]
 unfold QE QG
 rw [List.map_map]
 rfl
theorem fT {α β:Type} (f:α->List β) (xs:List α) (i:Nat) (hi:i<xs.length):(xs.take (i+1)).flatMap f=(xs.take i).flatMap f++f xs[i]:=by
 rw [List.take_succ_eq_append_getElem hi,List.flatMap_append];simp
theorem Yh {α β:Type} (f:α->List β) (xs:List α) (i:Nat):((xs.take i).flatMap f).length<=(xs.flatMap f).length:=by
 conv=>rhs;rw [<- List.take_append_drop i xs,List.flatMap_append,List.length_append]
 omega
theorem QuD {α:Type} {f:α->D} {xs ys:List α} (h:xs.length+ys.length<=lI):D.ext (.lst (xs.map f)) (.lst (ys.map f))=some (.lst ((xs++ys).map f)):=by
 show (if (xs.map f).length+(ys.map f).length<=lI then some (D.lst (xs.map f++ys.map f)) else none)=_
 rw [if_pos (by rw [List.length_map,List.length_map];exact h),List.map_append]
theorem QhQ {α:Type} {f:α->D} {xs ys:List α} (h:xs.length+ys.length<=lI):D.add (.lst (xs.map f)) (.lst (ys.map f))=some (.lst ((xs++ys).map f)):=by
 show (if (xs.map f).length+(ys.map f).length<=lI then some (D.lst (xs.map f++ys.map f)) else none)=_
 rw [if_pos (by rw [List.length_map,List.length_map];exact h),List.map_append]
def Few (bs:List Bk):Prop:=bs.length<=100000/\(bs.flatMap iO).length<=100000
theorem Qpg (is:List It):(QG is).length<=is.length:=by unfold QG;rw [List.length_map];exact List.length_filter_le _ _
theorem Qb5 (bs:List Bk):(rO bs).length<=(bs.flatMap iO).length:=by
 induction bs with
 | nil=>exact Nat.le_refl _
 | cons b bs ih =>
  have:=Qpg (iO b)
  have ih':(bs.flatMap fun b=>QG (iO b)).length<=(bs.flatMap iO).length:=ih
  show ((b::bs).flatMap fun b=>QG (iO b)).length<=_
  rw [List.flatMap_cons,List.flatMap_cons,List.length_append,List.length_append]
  omega
theorem Yv {bs:List Bk} (h:Few bs) (b:Bk) (hb:b∈bs):(iO b).length<=100000:=by
 refine Nat.le_trans ?_ h.2
 obtain ⟨s,t,rfl⟩:=List.append_of_mem hb
 rw [List.flatMap_append,List.flatMap_cons]
 simp only [List.length_append]
 omega
theorem QfB (bs:List Bk) (h:Few bs):ZU [bks bs]=some (QE (rO bs)):=by
 have hr:=Qb5 bs
 unfold ZU QjX
 refine stD rfl ?_
 refine st (e1:=[some (bks bs),some (QE []),none]) rfl ?_
 refine V2 Bk.d bs (fun i e=>∃ v,e=[some (bks bs),some (QE (rO (bs.take i))),v]) rfl ⟨none,rfl⟩ ?_ ?_
 ·rintro i hi e ⟨v,rfl⟩
  have t1:rO (bs.take (i+1))=rO (bs.take i)++QG (iO bs[i]):=fT _ bs i hi
  have t2:=Yh (fun b=>QG (iO b)) bs (i+1)
  have t3:(rO (bs.take (i+1))).length<=(rO bs).length:=t2
  rw [t1,List.length_append] at t3
  rw [t1]
  refine ⟨[some (bks bs),some (QE (rO (bs.take i)++QG (iO bs[i]))),some bs[i].d],.inl ?_,_,rfl⟩
  refine bnd (e1:=[some (bks bs),some (QE (rO (bs.take i))),some bs[i].d]) rfl ?_
  have hc:=Qkh (it:=Q1 (eK Zg (lC (eV 2) lN))) (e:=[some (bks bs),some (QE (rO (bs.take i))),some bs[i].d]) (iO bs[i]) (by
   show ((Zg [bs[i].d]).bind fun d=>D.its d)=_
   rw [Qb9];rfl) (lB (Nat.le_trans (Yv h bs[i] (List.getElem_mem hi)) (by decide)))
  have hx:D.ext (QE (rO (bs.take i))) (QE (QG (iO bs[i])))=some (QE (rO (bs.take i)++QG (iO bs[i]))):=QuD (f:=D.str) (lB (by have:=h.2;omega))
  generalize QE (rO (bs.take i)++QG (iO bs[i]))=Z at *
  generalize QE (QG (iO bs[i]))=Y at *
  generalize QE (rO (bs.take i))=X at *
  simp only [Qqn,hc]
  simp [eV,hx]
 ·rintro e ⟨v,rfl⟩
  rw [List.take_length]
  exact ret rfl
theorem Qkn (xs:List Str):D.listOf (QE xs)=some (QE xs):=rfl
theorem Qok (bs:Option D) (fo:Option D) (b:D) (is:List It) (hit:D.ix b (.int 1)=some (.lst (is.map It.d))) (hl:is.length<=100000) (v:Option D):∃ v',Jn (Q1 (eOp D.ix (eV 2) (eC (.int 1)))) (gS 4) (sIf (eOp D.eqO (eOp D.ix (eV 4) (eC (.int 0))) (eC (.str "word"))) (sP 3 (Qp (lC (eC (.str "word")) (lC (eOp D.ix (eV 4) (eC (.int 1))) (lC (eUn D.listOf (eOp D.ix (eV 4) (eC (.int 2)))) lN))))) (sP 3 (eV 4))) [bs,fo,some b,some (.lst []),v]=some (.nx [bs,fo,some b,some (.lst (is.map It.d)),v']):=by
 obtain ⟨e',h1,v',h2⟩:=QbZ (g:=gS 4) (b:=sIf (eOp D.eqO (eOp D.ix (eV 4) (eC (.int 0))) (eC (.str "word"))) (sP 3 (Qp (lC (eC (.str "word")) (lC (eOp D.ix (eV 4) (eC (.int 1))) (lC (eUn D.listOf (eOp D.ix (eV 4) (eC (.int 2)))) lN))))) (sP 3 (eV 4))) It.d is (fun i e=>∃ v,e=[bs,fo,some b,some (.lst ((is.take i).map It.d)),v]) (by
  rintro i hi e ⟨v,rfl⟩
  have ap:D.app (.lst ((is.take i).map It.d)) is[i].d=some (.lst ((is.take (i+1)).map It.d)):=by
   rw [List.take_succ_eq_append_getElem hi]
   exact Qj2 _ (Yb (by rw [List.length_take];omega))
  generalize is[i]=x at *
  generalize (is.take (i+1)).map It.d=Z at *
  generalize (is.take i).map It.d=Y at *
  refine ⟨[bs,fo,some b,some (.lst Z),some x.d],.inl ?_,_,rfl⟩
  refine bnd (e1:=[bs,fo,some b,some (.lst Y),some x.d]) rfl ?_
  cases x with
  | word w ns =>
   have ls:=Qkn ns
   simp only [It.d] at ap ⊢
   generalize QE ns=N at *
   simp [sIf,eOp,eV,eC,D.ix,ixD,eqS,Qo,sP,Qp,lC,lN,eUn,ls,ap]
  | _ =>
   simp only [It.d] at ap
   simp [sIf,eOp,eV,eC,D.ix,ixD,eqS,Qo,sP,ap]) [bs,fo,some b,some (.lst []),v] ⟨v,rfl⟩
 subst h2
 rw [List.take_length] at h1
 refine ⟨v',?_⟩
 simp only [Jn,Q1,eOp,eV,eC,List.getElem?_cons_zero,List.getElem?_cons_succ,Option.join_some,Option.bind_some,hit,D.its]
 exact h1
theorem Qtn (bs:List Bk) (h:Few bs):QfE [bks bs]=some (bks bs):=by
 unfold QfE Qif
 refine stD rfl ?_
 refine st (e1:=[some (bks bs),some (bks []),none,none,none]) rfl ?_
 refine V2 Bk.d bs (fun i e=>∃ u v w,e=[some (bks bs),some (bks (bs.take i)),u,v,w]) rfl ⟨none,none,none,rfl⟩ ?_ ?_
 ·rintro i hi e ⟨u,v,w,rfl⟩
  have ap:D.app (bks (bs.take i)) bs[i].d=some (bks (bs.take (i+1))):=by
   rw [List.take_succ_eq_append_getElem hi]
   exact Qj3 _ (Yb (by rw [List.length_take];have:=h.1;omega))
  have hl:=Yv h bs[i] (List.getElem_mem hi)
  generalize bs[i]=x at *
  generalize bks (bs.take (i+1))=Z at *
  generalize bks (bs.take i)=Y at *
  generalize bks bs=B at *
  cases x with
  | para is =>
   obtain ⟨w',hc⟩:=Qok (some B) (some Y) (Bk.para is).d is rfl hl w
   refine ⟨[some B,some Z,some (Bk.para is).d,some (.lst (is.map It.d)),w'],.inl ?_,_,_,_,rfl⟩
   refine bnd (e1:=[some B,some Y,some (Bk.para is).d,v,w]) rfl ?_
   have c:eOp D.eqO (eOp D.ix (eV 2) (eC (.int 0))) (eC (.str "para")) [some B,some Y,some (Bk.para is).d,v,w]=some (.bl true):=by simp [eOp,eV,eC,D.ix,ixD,eqS]
   unfold sIf
   rw [c,Qo,if_pos rfl]
   refine st (e1:=[some B,some Y,some (Bk.para is).d,some (.lst []),w]) rfl ?_
   refine st hc ?_
   simp only [Bk.d] at ap
   simp [sP,eV,Qp,lC,lN,eC,ap]
  | table rs l =>
   refine ⟨[some B,some Z,some (Bk.table rs l).d,v,w],.inl ?_,_,_,_,rfl⟩
   refine bnd (e1:=[some B,some Y,some (Bk.table rs l).d,v,w]) rfl ?_
   have ls:=Qkn rs
   simp only [Bk.d] at ap ⊢
   generalize QE rs=N at *
   simp [sIf,eOp,eV,eC,D.ix,ixD,eqS,Qo,sP,Qp,lC,lN,eUn,ls,ap]
  | chapter t l =>
   refine ⟨[some B,some Z,some (Bk.chapter t l).d,v,w],.inl ?_,_,_,_,rfl⟩
   simp only [Bk.d] at ap
   simp [gS,sIf,eOp,eV,eC,D.ix,ixD,eqS,Qo,sP,ap]
  | heading t n l =>
   refine ⟨[some B,some Z,some (Bk.heading t n l).d,v,w],.inl ?_,_,_,_,rfl⟩
   simp only [Bk.d] at ap
   simp [gS,sIf,eOp,eV,eC,D.ix,ixD,eqS,Qo,sP,ap]
  | plates n l =>
   refine ⟨[some B,some Z,some (Bk.plates n l).d,v,w],.inl ?_,_,_,_,rfl⟩
   simp only [Bk.d] at ap
   simp [gS,sIf,eOp,eV,eC,D.ix,ixD,eqS,Qo,sP,ap]
 ·rintro e ⟨u,v,w,rfl⟩
  rw [List.take_length]
  exact ret rfl
def ItB:It->Prop
 | .word w ns=>(1<=w.length/\w.length<=40)/\ns.length<=30/\∀ r∈ns,r.length<=40
 | .ref _ a b=>a.length<=2/\b.length<=2
 | .mark _=>True
 | .key w=>1<=w.length/\w.length<=80
def BkB:Bk->Prop
 | .chapter t _=>1<=t.length/\t.length<=41
 | .heading t n _=>(1<=t.length/\t.length<=41)/\(0<=n/\n<=29)
 | .table rs _=>(1<=rs.length/\rs.length<=30)/\(∀ r∈rs,r.length<=40)
 | .plates n _=>1<=n/\n<=10^39
 | .para is=>∀ i∈is,ItB i
theorem V9 {x:Str} (h:x.length<=1000000):D.len (.str x)=some (.int x.length):=if_pos (lB h)
theorem Qeh:∀ xs:List Int,intsOf (xs.map .int)=some xs
 | []=>rfl
 | x::xs=>by
  show (intsOf (xs.map .int)).map (x::·)=_
  rw [Qeh xs];rfl
theorem QsS (w:Int) (xs:List Int):D.maxL (.lst ((w::xs).map .int))=some (.int (J7 w xs)):=by
 show (match intsOf ((w::xs).map .int) with
  | some (m::ns)=>some (D.int (J7 m ns))
  | _=>none)=_
 rw [Qeh]
def V8 (rs:List Str):List Int:=rs.map fun r=>(r.length:Int)
theorem Qko {it:EvI} {e:Qq} (rs:List Str) (hit:it e=some (rs.map .str)) (hl:rs.length<=1000000) (hr:∀ r∈rs,r.length<=1000000):QR 1 [] it (gS 0) (eC (.bl true)) (eUn D.len (eV 0)) e=some (.lst ((V8 rs).map .int)):=by
 rw [Ze (g:=gS 0) (n:=1) (caps:=[]) (c:=eC (.bl true)) (el:=eUn D.len (eV 0)) D.str rs (fun e=>∃ v,e=[v]) (fun _=>true) (fun r=>.int r.length) hit (lB hl) ⟨none,rfl⟩ (by
  rintro r hr' e ⟨v,rfl⟩
  refine ⟨[some (.str r)],rfl,⟨_,rfl⟩,rfl,fun _=>?_⟩
  simp [eUn,eV,V9 (hr r hr')])]
 rw [ZV]
 unfold V8
 rw [List.map_map]
 rfl
theorem QdA {a:EvE} {e:Qq} {i:Nat} {w:Int} (xs:List Int) (hv:eV i e=some (.int w)) (ha:a e=some (.lst (xs.map .int))) (hl:xs.length<=1000000):eUn D.maxL (eOp D.add (Qi (lC (eV i) lN)) a) e=some (.int (J7 w xs)):=by
 have h1:D.add (.lst [.int w]) (.lst (xs.map .int))=some (.lst ((w::xs).map .int)):=QhQ (f:=D.int) (xs:=[w]) (ys:=xs) (Qhe hl)
 have h2:=QsS w xs
 generalize (w::xs).map D.int=Z at *
 simp only [eUn,eOp,Qi,lC,lN,hv,ha,Option.bind_some,Option.map_some,h1,h2]
def QeE:It->Int
 | .word w _=>w.length
 | _=>0
def QeH (room:Int):It->Int
 | .ref _ a b=>a.length+room+b.length
 | _=>0
def QoF:It->List Str
 | .word _ ns=>ns
 | _=>[]
def YE (is:List It):List (List Str):=(is.filter ZX).map QoF
def ZF (room w:Int):Bk->Int
 | .chapter t _=>if (t.length:Int)+2+room > w then (t.length:Int)+2+room else w
 | .heading t _ _=>if (t.length:Int)+2+room > w then (t.length:Int)+2+room else w
 | .table rs _=>J7 w (V8 rs)
 | .plates _ _=>w
 | .para is=>(YE is).foldl (fun w ns=>J7 w (V8 ns)) (J7 (J7 w ((is.filter JH).map (QeH room))) ((is.filter ZX).map QeE))
def ZG (h:Int):Bk->Int
 | .heading _ k _=>if k+1 > h then k+1 else h
 | .table rs _=>if (rs.length:Int) > h then (rs.length:Int) else h
 | .para is=>J7 h ((YE is).map fun ns=>1+(ns.length:Int))
 | _=>h
theorem QqB {it:EvI} {e:Qq} (is:List It) (hit:it e=some (is.map It.d)) (hl:is.length<=1000000) (hi:∀ i∈is,ItB i):QR 1 [] it (gS 0) (eOp D.eqO (eOp D.ix (eV 0) (eC (.int 0))) (eC (.str "word"))) (eUn D.len (eOp D.ix (eV 0) (eC (.int 1)))) e=some (.lst (((is.filter ZX).map QeE).map .int)):=by
 rw [Ze (g:=gS 0) (n:=1) (caps:=[]) (c:=eOp D.eqO (eOp D.ix (eV 0) (eC (.int 0))) (eC (.str "word"))) (el:=eUn D.len (eOp D.ix (eV 0) (eC (.int 1)))) It.d is (fun e=>∃ v,e=[v]) ZX (fun i=>.int (QeE i)) hit (lB hl) ⟨none,rfl⟩ (by
  rintro i hm e ⟨v,rfl⟩
  refine ⟨[some i.d],rfl,⟨_,rfl⟩,?_,fun h=>?_⟩
  ·have h1:=QeX i
   have h2:=QjK i
   generalize It.d i=X at *
   simp [eOp,eV,eC,h1,eqS,h2]
  ·cases i with
   | word w ns =>
    have hb:=(hi _ hm).1.2
    have ln:=V9 (x:=w) (by omega)
    simp [eUn,eOp,eV,eC,D.ix,ixD,ln,QeE]
   | _=>cases h)]
 rw [List.map_map]
 rfl
theorem Qsm {it:EvI} {e:Qq} (room:Int) (is:List It) (hc:QbR 1 [1] e=[none,some (.int room)]) (hit:it e=some (is.map It.d)) (hl:is.length<=1000000) (hi:∀ i∈is,ItB i):QR 1 [1] it (gS 0) (eOp D.eqO (eOp D.ix (eV 0) (eC (.int 0))) (eC (.str "ref"))) (eOp D.add (eOp D.add (eUn D.len (eOp D.ix (eV 0) (eC (.int 2)))) (eV 1)) (eUn D.len (eOp D.ix (eV 0) (eC (.int 3))))) e=some (.lst (((is.filter JH).map (QeH room)).map .int)):=by
 rw [Ze (g:=gS 0) (n:=1) (caps:=[1]) (c:=eOp D.eqO (eOp D.ix (eV 0) (eC (.int 0))) (eC (.str "ref"))) (el:=eOp D.add (eOp D.add (eUn D.len (eOp D.ix (eV 0) (eC (.int 2)))) (eV 1)) (eUn D.len (eOp D.ix (eV 0) (eC (.int 3))))) It.d is (fun e=>∃ v,e=[v,some (.int room)]) JH (fun i=>.int (QeH room i)) hit (lB hl) ⟨none,hc⟩ (by
  rintro i hm e ⟨v,rfl⟩
  refine ⟨[some i.d,some (.int room)],rfl,⟨_,rfl⟩,?_,fun h=>?_⟩
  ·have h1:=QeX i
   have h2:=QhT i
   generalize It.d i=X at *
   simp [eOp,eV,eC,h1,eqS,h2]
  ·cases i with
   | ref l a b =>
    have hb:=hi _ hm
    have l1:=V9 (x:=a) (by have:=hb.1;omega)
    have l2:=V9 (x:=b) (by have:=hb.2;omega)
    simp [eUn,eOp,eV,eC,D.ix,ixD,l1,l2,QeH,add_int]
   | _=>cases h)]
 rw [List.map_map]
 rfl
theorem QpA {it:EvI} {e:Qq} (is:List It) (hit:it e=some (is.map It.d)) (hl:is.length<=1000000):QR 1 [] it (gS 0) (eOp D.eqO (eOp D.ix (eV 0) (eC (.int 0))) (eC (.str "word"))) (eOp D.ix (eV 0) (eC (.int 2))) e=some (.lst ((YE is).map QE)):=by
 rw [Ze (g:=gS 0) (n:=1) (caps:=[]) (c:=eOp D.eqO (eOp D.ix (eV 0) (eC (.int 0))) (eC (.str "word"))) (el:=eOp D.ix (eV 0) (eC (.int 2))) It.d is (fun e=>∃ v,e=[v]) ZX (fun i=>QE (QoF i)) hit (lB hl) ⟨none,rfl⟩ (by
  rintro i hm e ⟨v,rfl⟩
  refine ⟨[some i.d],rfl,⟨_,rfl⟩,?_,fun h=>?_⟩
  ·have h1:=QeX i
   have h2:=QjK i
   generalize It.d i=X at *
   simp [eOp,eV,eC,h1,eqS,h2]
  ·cases i with
   | word w ns=>rfl
   | _=>cases h)]
 unfold YE
 rw [List.map_map]
 rfl
theorem QqY {it:EvI} {e:Qq} (nss:List (List Str)) (hit:it e=some (nss.map QE)) (hl:nss.length<=1000000):QR 1 [] it (gS 0) (eC (.bl true)) (eOp D.add (eC (.int 1)) (eUn D.len (eV 0))) e=some (.lst ((nss.map fun ns=>1+(ns.length:Int)).map .int)):=by
 rw [Ze (g:=gS 0) (n:=1) (caps:=[]) (c:=eC (.bl true)) (el:=eOp D.add (eC (.int 1)) (eUn D.len (eV 0))) QE nss (fun e=>∃ v,e=[v]) (fun _=>true) (fun ns=>.int (1+(ns.length:Int))) hit (lB hl) ⟨none,rfl⟩ (by
  rintro r hr' e ⟨v,rfl⟩
  refine ⟨[some (QE r)],rfl,⟨_,rfl⟩,rfl,fun _=>?_⟩
  have ln:=Qah r
  generalize QE r=N at *
  simp [eUn,eV,eOp,eC,ln,add_int])]
 rw [ZV,List.map_map]
 rfl
theorem QhY {is:List It} (hi:∀ i∈is,ItB i):∀ ns∈YE is,ns.length<=30/\∀ r∈ns,r.length<=40:=by
 intro ns h
 unfold YE at h
 obtain ⟨i,h1,rfl⟩:=List.mem_map.mp h
 obtain ⟨h2,h3⟩:=List.mem_filter.mp h1
 cases i with
 | word w ns=>exact ⟨(hi _ h2).2.1,(hi _ h2).2.2⟩
 | _=>cases h3
theorem Qpz (B R H b nt:Option D) (nss:List (List Str)) (hn:∀ ns∈nss,ns.length<=30/\∀ r∈ns,r.length<=40) (w:Int) (v:Option D) (hl:nt=some (.lst (nss.map QE))):∃ v',Jn (Q1 (eV 5)) (gS 6) (Qd (eUn D.maxL (eOp D.add (Qi (lC (eV 2) lN)) (QR 1 [] (Q1 (eV 6)) (gS 0) (eC (.bl true)) (eUn D.len (eV 0))))) (gS 2)) [B,R,some (.int w),H,b,nt,v]=some (.nx [B,R,some (.int (nss.foldl (fun w ns=>J7 w (V8 ns)) w)),H,b,nt,v']):=by
 obtain ⟨e',h1,v',h2⟩:=Qr2 (it:=Q1 (eV 5)) (g:=gS 6) (b:=Qd (eUn D.maxL (eOp D.add (Qi (lC (eV 2) lN)) (QR 1 [] (Q1 (eV 6)) (gS 0) (eC (.bl true)) (eUn D.len (eV 0))))) (gS 2)) (e:=[B,R,some (.int w),H,b,nt,v]) QE nss (fun (w:Int) e=>∃ v,e=[B,R,some (.int w),H,b,nt,v]) (fun w ns=>J7 w (V8 ns)) w (by rw [hl];rfl) ⟨v,rfl⟩ (by
  rintro ns hm w e ⟨v,rfl⟩
  refine ⟨[B,R,some (.int (J7 w (V8 ns))),H,b,nt,some (QE ns)],.inl ?_,_,rfl⟩
  refine bnd (e1:=[B,R,some (.int w),H,b,nt,some (QE ns)]) rfl ?_
  have hc:=Qko (it:=Q1 (eV 6)) (e:=[B,R,some (.int w),H,b,nt,some (QE ns)]) ns rfl (by have:=(hn ns hm).1;omega) (fun r hr=>by have:=(hn ns hm).2 r hr;omega)
  have hx:=QdA (i:=2) (e:=[B,R,some (.int w),H,b,nt,some (QE ns)]) (V8 ns) rfl hc (by unfold V8;rw [List.length_map];have:=(hn ns hm).1;omega)
  unfold Qd
  rw [hx]
  rfl)
 exact ⟨v',h2▸h1⟩
theorem Qpy (is:List It):(YE is).length<=is.length:=by unfold YE;rw [List.length_map];exact List.length_filter_le _ _
def Qny:EvS:=sQ (sIf (eOr (eOp D.eqO (eOp D.ix (eV 4) (eC (.int 0))) (eC (.str "chapter"))) (eOp D.eqO (eOp D.ix (eV 4) (eC (.int 0))) (eC (.str "heading")))) (Qd (eOp D.max2 (eV 2) (eOp D.add (eOp D.add (eUn D.len (eOp D.ix (eV 4) (eC (.int 1)))) (eC (.int 2))) (eV 1))) (gS 2)) (sNx)) (sQ (sIf (eOp D.eqO (eOp D.ix (eV 4) (eC (.int 0))) (eC (.str "heading"))) (Qd (eOp D.max2 (eV 3) (eOp D.add (eOp D.ix (eV 4) (eC (.int 2))) (eC (.int 1)))) (gS 3)) (sNx)) (sQ (sIf (eOp D.eqO (eOp D.ix (eV 4) (eC (.int 0))) (eC (.str "table"))) (sQ (Qd (eOp D.max2 (eV 3) (eUn D.len (eOp D.ix (eV 4) (eC (.int 1))))) (gS 3)) (Qd (eUn D.maxL (eOp D.add (Qi (lC (eV 2) lN)) (QR 1 [] (Q1 (eOp D.ix (eV 4) (eC (.int 1)))) (gS 0) (eC (.bl true)) (eUn D.len (eV 0))))) (gS 2))) (sNx)) (sIf (eOp D.eqO (eOp D.ix (eV 4) (eC (.int 0))) (eC (.str "para"))) (sQ (Qd (eUn D.maxL (eOp D.add (Qi (lC (eV 2) lN)) (QR 1 [1] (Q1 (eOp D.ix (eV 4) (eC (.int 1)))) (gS 0) (eOp D.eqO (eOp D.ix (eV 0) (eC (.int 0))) (eC (.str "ref"))) (eOp D.add (eOp D.add (eUn D.len (eOp D.ix (eV 0) (eC (.int 2)))) (eV 1)) (eUn D.len (eOp D.ix (eV 0) (eC (.int 3)))))))) (gS 2)) (sQ (Qd (eUn D.maxL (eOp D.add (Qi (lC (eV 2) lN)) (QR 1 [] (Q1 (eOp D.ix (eV 4) (eC (.int 1)))) (gS 0) (eOp D.eqO (eOp D.ix (eV 0) (eC (.int 0))) (eC (.str "word"))) (eUn D.len (eOp D.ix (eV 0) (eC (.int 1))))))) (gS 2)) (sQ (Qd (QR 1 [] (Q1 (eOp D.ix (eV 4) (eC (.int 1)))) (gS 0) (eOp D.eqO (eOp D.ix (eV 0) (eC (.int 0))) (eC (.str "word"))) (eOp D.ix (eV 0) (eC (.int 2)))) (gS 5)) (sQ (Qd (eUn D.maxL (eOp D.add (Qi (lC (eV 3) lN)) (QR 1 [] (Q1 (eV 5)) (gS 0) (eC (.bl true)) (eOp D.add (eC (.int 1)) (eUn D.len (eV 0)))))) (gS 3)) (Jn (Q1 (eV 5)) (gS 6) (Qd (eUn D.maxL (eOp D.add (Qi (lC (eV 2) lN)) (QR 1 [] (Q1 (eV 6)) (gS 0) (eC (.bl true)) (eUn D.len (eV 0))))) (gS 2))))))) (sNx))))
theorem Qrb (B:D) (room w h:Int) (b:Bk) (hb:BkB b) (hl:(iO b).length<=100000) (u v:Option D):∃ u' v',Qny [some B,some (.int room),some (.int w),some (.int h),some b.d,u,v]=some (.nx [some B,some (.int room),some (.int (ZF room w b)),some (.int (ZG h b)),some b.d,u',v']):=by
 have tg:∀ (e:Qq),eV 4 e=some b.d->∀ t:Str,eOp D.eqO (eOp D.ix (eV 4) (eC (.int 0))) (eC (.str t)) e=some (.bl (decide (Qf7 b=t))):=by
  intro e he t
  have i0:=QoK b
  generalize Bk.d b=X at *
  simp only [eOp,eC,he,Option.bind_some,i0,eqS]
 unfold Qny
 cases b with
 | chapter t l =>
  have ln:=V9 (x:=t) (by have:=hb.2;omega)
  refine ⟨u,v,?_⟩
  refine st (e1:=[some B,some (.int room),some (.int (ZF room w (.chapter t l))),some (.int h),some (Bk.chapter t l).d,u,v]) (by simp [sIf,eOr,eOp,eV,eC,D.ix,ixD,eqS,Qo,Qd,gS,eUn,ln,add_int,D.max2,ZF]) ?_
  simp [sQ,QM,sIf,eOr,eOp,eV,eC,D.ix,ixD,eqS,Qo,sNx,ZG]
 | heading t k l =>
  have ln:=V9 (x:=t) (by have:=hb.1.2;omega)
  refine ⟨u,v,?_⟩
  refine st (e1:=[some B,some (.int room),some (.int (ZF room w (.heading t k l))),some (.int h),some (Bk.heading t k l).d,u,v]) (by simp [sIf,eOr,eOp,eV,eC,D.ix,ixD,eqS,Qo,Qd,gS,eUn,ln,add_int,D.max2,ZF]) ?_
  simp [sQ,QM,sIf,eOr,eOp,eV,eC,D.ix,ixD,eqS,Qo,sNx,Qd,gS,D.max2,add_int,ZG]
 | plates n l =>
  refine ⟨u,v,?_⟩
  simp [sQ,QM,sIf,eOr,eOp,eV,eC,D.ix,ixD,eqS,Qo,sNx,ZG,ZF]
 | table rs l =>
  refine ⟨u,v,?_⟩
  refine st (e1:=[some B,some (.int room),some (.int w),some (.int h),some (Bk.table rs l).d,u,v]) (by simp [sIf,eOr,eOp,eV,eC,D.ix,ixD,eqS,Qo,sNx]) ?_
  refine st (e1:=[some B,some (.int room),some (.int w),some (.int h),some (Bk.table rs l).d,u,v]) (by simp [sIf,eOr,eOp,eV,eC,D.ix,ixD,eqS,Qo,sNx]) ?_
  refine st (e1:=[some B,some (.int room),some (.int (ZF room w (.table rs l))),some (.int (ZG h (.table rs l))),some (Bk.table rs l).d,u,v]) ?_ (by simp [sIf,eOp,eV,eC,D.ix,ixD,eqS,Qo,sNx])
  refine ifT (by rw [tg _ rfl];simp [Qf7]) ?_
  refine st (e1:=[some B,some (.int room),some (.int w),some (.int (ZG h (.table rs l))),some (Bk.table rs l).d,u,v]) ?_ ?_
  ·have ln:=Qah rs
   simp only [Bk.d]
   generalize QE rs=N at *
   simp [Qd,eOp,eV,eC,eUn,D.ix,ixD,ln,D.max2,gS,ZG]
  ·refine asg (QdA (V8 rs) rfl (Qko rs rfl (by have:=hb.1.2;omega) (fun r hr=>by have:=hb.2 r hr;omega)) (by unfold V8;rw [List.length_map];have:=hb.1.2;omega)) rfl
 | para is =>
  have hl':is.length<=100000:=hl
  have hi:∀ i∈is,ItB i:=hb
  obtain ⟨W1,e1⟩:∃ W1,J7 w ((is.filter JH).map (QeH room))=W1:=⟨_,rfl⟩
  obtain ⟨W2,e2⟩:∃ W2,J7 W1 ((is.filter ZX).map QeE)=W2:=⟨_,rfl⟩
  obtain ⟨v',hv⟩:=Qpz (some B) (some (.int room)) (some (.int (ZG h (.para is)))) (some (Bk.para is).d) (some (.lst ((YE is).map QE))) (YE is) (QhY hi) W2 v rfl
  have l1:((is.filter JH).map (QeH room)).length<=1000000:=by rw [List.length_map];have:=List.length_filter_le JH is;omega
  have l2:((is.filter ZX).map QeE).length<=1000000:=by rw [List.length_map];have:=List.length_filter_le ZX is;omega
  have l3:=Qpy is
  refine ⟨some (.lst ((YE is).map QE)),v',?_⟩
  refine st (e1:=[some B,some (.int room),some (.int w),some (.int h),some (Bk.para is).d,u,v]) (by simp [sIf,eOr,eOp,eV,eC,D.ix,ixD,eqS,Qo,sNx]) ?_
  refine st (e1:=[some B,some (.int room),some (.int w),some (.int h),some (Bk.para is).d,u,v]) (by simp [sIf,eOr,eOp,eV,eC,D.ix,ixD,eqS,Qo,sNx]) ?_
  refine st (e1:=[some B,some (.int room),some (.int w),some (.int h),some (Bk.para is).d,u,v]) (by simp [sIf,eOr,eOp,eV,eC,D.ix,ixD,eqS,Qo,sNx]) ?_
  refine ifT (by rw [tg _ rfl];simp [Qf7]) ?_
  refine st (e1:=[some B,some (.int room),some (.int W1),some (.int h),some (Bk.para is).d,u,v]) (by rw [<- e1];exact asg (QdA _ rfl (Qsm room is rfl rfl (by omega) hi) l1) rfl) ?_
  refine st (e1:=[some B,some (.int room),some (.int W2),some (.int h),some (Bk.para is).d,u,v]) (by rw [<- e2];exact asg (QdA _ rfl (QqB is rfl (by omega) hi) l2) rfl) ?_
  refine st (e1:=[some B,some (.int room),some (.int W2),some (.int h),some (Bk.para is).d,some (.lst ((YE is).map QE)),v]) (asg (QpA is rfl (by omega)) rfl) ?_
  refine st (e1:=[some B,some (.int room),some (.int W2),some (.int (ZG h (.para is))),some (Bk.para is).d,some (.lst ((YE is).map QE)),v]) (asg (QdA _ rfl (QqY (YE is) rfl (by omega)) (by rw [List.length_map];omega)) rfl) ?_
  have fin:ZF room w (.para is)=(YE is).foldl (fun w ns=>J7 w (V8 ns)) W2:=by rw [<- e2,<- e1];rfl
  rw [fin]
  exact hv
def Qnx (room:Int) (bs:List Bk):Int×Int:=bs.foldl (fun s b=>(ZF room s.1 b,ZG s.2 b)) (4,2)
theorem Qq5 (bs:List Bk) (room:Int) (hf:Few bs) (hb:∀ b∈bs,BkB b):Qcx [bks bs,.int room]=some (.tup [.int (Qnx room bs).1,.int (Qnx room bs).2]):=by
 unfold Qcx QgD
 refine stD rfl ?_
 refine st (e1:=[some (bks bs),some (.int room),some (.int 4),none,none,none,none]) rfl ?_
 refine st (e1:=[some (bks bs),some (.int room),some (.int 4),some (.int 2),none,none,none]) rfl ?_
 refine Qov (b:=Qny) Bk.d bs (fun (s:Int×Int) e=>∃ a u v,e=[some (bks bs),some (.int room),some (.int s.1),some (.int s.2),a,u,v]) (fun s b=>(ZF room s.1 b,ZG s.2 b)) (4,2) rfl ⟨none,none,none,rfl⟩ ?_ ?_
 ·rintro b hm s e ⟨a,u,v,rfl⟩
  obtain ⟨u',v',h⟩:=Qrb (bks bs) room s.1 s.2 b (hb b hm) (Yv hf b hm) u v
  exact ⟨_,.inl (bnd (e1:=[some (bks bs),some (.int room),some (.int s.1),some (.int s.2),some b.d,u,v]) rfl h),_,_,_,rfl⟩
 ·rintro e ⟨a,u,v,rfl⟩
  exact ret rfl
theorem Qln (s:String):(Str.ofString s).length=s.toList.length:=by
 show (cpsOfBytes 0 0 s.toByteArray.data.toList).toArray.size=_
 rw [cpsOfBytes_string]
 simp
def JX (n:Nat):Nat:=(Nat.toDigits 10 n).length
theorem Qmr (n:Nat):(Str.ofString (toString (n:Int))).length=JX n:=by
 rw [Qln]
 show (Nat.repr n).toList.length=_
 rw [Nat.toList_repr]
 rfl
theorem Qa1 (n:Nat):1<=JX n:=Nat.length_toDigits_pos
theorem Qh8 (n:Nat):n<10^JX n:=(Nat.length_toDigits_le_iff (by decide) (Qa1 n)).mp (Nat.le_refl _)
theorem Qtd (n:Nat) (h:n<10^60):JX n<=60:=(Nat.length_toDigits_le_iff (by decide) (by decide)).mpr h
def Q2 (i:It):Bool:=ZX i||JH i
def Ji (li:Bool):Bk->Int
 | .chapter _ _=>2+(if li then 2 else 0)
 | .heading _ _ _=>2+(if li then 2 else 0)
 | .table _ _=>2
 | .plates n _=>2+n
 | .para is=>2+2*((is.filter Q2).length:Int)
def most (li:Bool) (bs:List Bk):Int:=bs.foldl (fun s b=>s+Ji li b) 3
theorem Qsf {it:EvI} {e:Qq} (is:List It) (hit:it e=some (is.map It.d)) (hl:is.length<=1000000):QR 1 [] it (gS 0) (eOr (eOp D.eqO (eOp D.ix (eV 0) (eC (.int 0))) (eC (.str "word"))) (eOp D.eqO (eOp D.ix (eV 0) (eC (.int 0))) (eC (.str "ref")))) (eV 0) e=some (.lst ((is.filter Q2).map It.d)):=by
 rw [Ze (g:=gS 0) (n:=1) (caps:=[]) (c:=eOr (eOp D.eqO (eOp D.ix (eV 0) (eC (.int 0))) (eC (.str "word"))) (eOp D.eqO (eOp D.ix (eV 0) (eC (.int 0))) (eC (.str "ref")))) (el:=eV 0) It.d is (fun e=>∃ v,e=[v]) Q2 It.d hit (lB hl) ⟨none,rfl⟩ (by
  rintro i hm e ⟨v,rfl⟩
  refine ⟨[some i.d],rfl,⟨_,rfl⟩,?_,fun h=>rfl⟩
  have h1:=QeX i
  have h2:=QjK i
  have h3:=QhT i
  unfold Q2
  generalize It.d i=X at *
  cases q:ZX i<;>rw [q] at h2<;>simp [eOr,eOp,eV,eC,h1,eqS,h2,h3,Qo])]
theorem QtB (m:Int):D.mulA (.int 2) (.int m)=some (.int (2*m)):=(QF 2 m).trans (QdU (by decide))
theorem QsR (bs:List Bk) (li:Bool) (hf:Few bs):QdB [bks bs,.bl li]=some (.int (most li bs)):=by
 unfold QdB Qid
 refine stD rfl ?_
 refine st (e1:=[some (bks bs),some (.bl li),some (.int 3),none]) rfl ?_
 refine Qov Bk.d bs (fun (s:Int) e=>∃ a,e=[some (bks bs),some (.bl li),some (.int s),a]) (fun s b=>s+Ji li b) 3 rfl ⟨none,rfl⟩ ?_ ?_
 ·rintro b hm s e ⟨a,rfl⟩
  refine ⟨[some (bks bs),some (.bl li),some (.int (s+Ji li b)),some b.d],.inl (bnd (e1:=[some (bks bs),some (.bl li),some (.int s),some b.d]) rfl ?_),_,rfl⟩
  have hl:=Yv hf b hm
  generalize bks bs=B at *
  refine st (e1:=[some B,some (.bl li),some (.int (s+2)),some b.d]) rfl ?_
  have cd:∀ (d:D) (t:Str),D.ix d (.int 0)=some (.str t)->QN (eV 1) (eOr (eOp D.eqO (eOp D.ix (eV 3) (eC (.int 0))) (eC (.str "chapter"))) (eOp D.eqO (eOp D.ix (eV 3) (eC (.int 0))) (eC (.str "heading")))) [some B,some (.bl li),some (.int (s+2)),some d]=some (.bl (li&&(decide (t="chapter")||decide (t="heading")))):=by
   intro d t h
   cases li with
   | false=>exact YT rfl
   | true =>
    refine YH rfl ?_
    by_cases z:t=Str.ofString "chapter"
    ·rw [decide_eq_true z]
     exact orT (opE (opE rfl rfl h) rfl (by rw [eqS,decide_eq_true z]))
    ·rw [decide_eq_false z,Bool.false_or,Bool.true_and]
     exact orF (opE (opE rfl rfl h) rfl (by rw [eqS,decide_eq_false z])) (opE (opE rfl rfl h) rfl (eqS _ _))
  have tit:∀ (d:D) (t:Str) (m:Int),D.ix d (.int 0)=some (.str t)->(decide (t="chapter")||decide (t="heading"))=true->t≠"plates"->t≠"para"->s+m=s+2+(if li then 2 else 0)->sQ (sIf (QN (eV 1) (eOr (eOp D.eqO (eOp D.ix (eV 3) (eC (.int 0))) (eC (.str "chapter"))) (eOp D.eqO (eOp D.ix (eV 3) (eC (.int 0))) (eC (.str "heading"))))) (Qd (eOp D.add (eV 2) (eC (.int 2))) (gS 2)) (sNx)) (sQ (sIf (eOp D.eqO (eOp D.ix (eV 3) (eC (.int 0))) (eC (.str "plates"))) (Qd (eOp D.add (eV 2) (eOp D.ix (eV 3) (eC (.int 1)))) (gS 2)) (sNx)) (sIf (eOp D.eqO (eOp D.ix (eV 3) (eC (.int 0))) (eC (.str "para"))) (Qd (eOp D.add (eV 2) (eOp D.mulA (eC (.int 2)) (eUn D.len (QR 1 [] (Q1 (eOp D.ix (eV 3) (eC (.int 1)))) (gS 0) (eOr (eOp D.eqO (eOp D.ix (eV 0) (eC (.int 0))) (eC (.str "word"))) (eOp D.eqO (eOp D.ix (eV 0) (eC (.int 0))) (eC (.str "ref")))) (eV 0))))) (gS 2)) (sNx))) [some B,some (.bl li),some (.int (s+2)),some d]=some (.nx [some B,some (.bl li),some (.int (s+m)),some d]):=by
   intro d t m h ht h1 h2 hm
   have c:=cd d t h
   rw [ht,Bool.and_true] at c
   rw [hm]
   refine st (e1:=[some B,some (.bl li),some (.int (s+2+(if li then 2 else 0))),some d]) ?_ (st (ifF (opE (opE rfl rfl h) rfl (by rw [eqS,decide_eq_false h1])) rfl) (ifF (opE (opE rfl rfl h) rfl (by rw [eqS,decide_eq_false h2])) rfl))
   cases li with
   | true=>exact ifT c rfl
   | false =>
    refine (ifF c rfl).trans ?_
    rw [if_neg (by decide),Int.add_zero];rfl
  have non:∀ (d:D) (t:Str),D.ix d (.int 0)=some (.str t)->(decide (t="chapter")||decide (t="heading"))=false->QN (eV 1) (eOr (eOp D.eqO (eOp D.ix (eV 3) (eC (.int 0))) (eC (.str "chapter"))) (eOp D.eqO (eOp D.ix (eV 3) (eC (.int 0))) (eC (.str "heading")))) [some B,some (.bl li),some (.int (s+2)),some d]=some (.bl false):=by
   intro d t h ht
   have c:=cd d t h
   rw [ht,Bool.and_false] at c
   exact c
  cases b with
  | para is =>
   have hl':is.length<=1000000:=Nat.le_trans (show is.length<=100000 from hl) (by decide)
   refine st (e1:=[some B,some (.bl li),some (.int (s+2)),some (Bk.para is).d]) (ifF (non _ "para" rfl (by simp)) rfl) ?_
   refine st (e1:=[some B,some (.bl li),some (.int (s+2)),some (Bk.para is).d]) (ifF (opE (x:=.str "para") (opE (x:=(Bk.para is).d) rfl rfl rfl) rfl (by rw [eqS];simp)) rfl) ?_
   refine ifT (opE (x:=.str "para") (opE (x:=(Bk.para is).d) rfl rfl rfl) rfl (by rw [eqS];simp)) ?_
   have hc:=Qsf (it:=Q1 (eOp D.ix (eV 3) (eC (.int 1)))) (e:=[some B,some (.bl li),some (.int (s+2)),some (Bk.para is).d]) is rfl hl'
   have ln:D.len (.lst ((is.filter Q2).map It.d))=some (.int (is.filter Q2).length):=by
    show some (D.int ((is.filter Q2).map It.d).length)=_
    rw [List.length_map]
   have fin:s+Ji li (.para is)=s+2+2*((is.filter Q2).length:Int):=by show s+(2+2*((is.filter Q2).length:Int))=_;omega
   rw [fin]
   generalize ((is.filter Q2).length:Int)=m at *
   refine asg ?_ rfl
   simp only [eOp,eUn,hc,Option.bind_some,ln,eC,QtB,eV,List.getElem?_cons_zero,List.getElem?_cons_succ,Option.join_some,add_int]
  | chapter t l=>exact tit _ "chapter" _ rfl (by simp) (by simp) (by simp) (by show s+(2+(if li then 2 else 0))=_;omega)
  | heading t k l=>exact tit _ "heading" _ rfl (by simp) (by simp) (by simp) (by show s+(2+(if li then 2 else 0))=_;omega)
  | table rs l=>exact st (ifF (non _ "table" rfl (by simp)) rfl) (st (ifF (opE (x:=.str "table") (opE (x:=(Bk.table rs l).d) rfl rfl rfl) rfl (by rw [eqS];simp)) rfl) (ifF (opE (x:=.str "table") (opE (x:=(Bk.table rs l).d) rfl rfl rfl) rfl (by rw [eqS];simp)) rfl))
  | plates n l =>
   have fin:s+Ji li (.plates n l)=s+2+n:=by show s+(2+n)=_;omega
   rw [fin]
   exact st (ifF (non _ "plates" rfl (by simp)) rfl) (st (e1:=[some B,some (.bl li),some (.int (s+2+n)),some (Bk.plates n l).d]) (ifT (opE (x:=.str "plates") (opE (x:=(Bk.plates n l).d) rfl rfl rfl) rfl (by rw [eqS];simp)) (asg (opE rfl (opE (x:=(Bk.plates n l).d) rfl rfl rfl) rfl) rfl)) (ifF (opE (x:=.str "plates") (opE (x:=(Bk.plates n l).d) rfl rfl rfl) rfl (by rw [eqS];simp)) rfl))
 ·rintro e ⟨a,rfl⟩
  exact ret rfl
def Jr (ns:List Int):Int:=1+mix (cell ns 4) 19%6
def Zi (ns:List Int) (w h:Int) (li:Bool):List Bk:=if li=true\/cell ns 4%3≠1 then [] else
 [.plates (10^(Jr ns).toNat-2) "",.table (List.replicate (h-1).toNat "") "",.para [.word (Z9 "w" (if w-1-Jr ns > 1 then w-1-Jr ns else 1)) [],.mark "z",.ref "z" "" ""]]
theorem Qaj (ns:List Int):1<=Jr ns/\Jr ns<=6:=by unfold Jr;omega
theorem Qh6 (ns:List Int) (w h:Int) (o li:Bool) (hw:4<=w/\w<=1000) (hh:2<=h/\h<=1000):QaW [.scr ns,.tup [.int w,.int h,.bl o,.bl li]]=some (bks (Zi ns w h li)):=by
 have c4:Je [.scr ns,.int 4]=some (.int (cell ns 4)):=QaX ns 4
 have m19:=Qbw (cell ns 4) 19 (by decide) (by decide)
 unfold QaW Qie Zi
 by_cases z:li=true\/cell ns 4%3≠1
 ·rw [if_pos z]
  refine stD rfl ?_
  refine stR ?_
  rcases z with z | z
  ·subst z
   simp [sIf,eOr,eOp,eV,eC,D.ix,ixD,Qo,Qj,Qi,lN,bks,sD]
  ·cases li<;>simp [sIf,eOr,eOp,eV,eC,D.ix,ixD,Qo,Qj,Qi,lN,lC,eK,c4,ZE,D.neO,Qt,D.cmpN,QD,z,bks,sD]
 ·rw [if_neg z]
  have z1:li=false:=by cases li<;>simp_all
  have z2:cell ns 4%3=1:=by simp_all
  subst z1
  obtain ⟨eb0,eb1⟩:=Qaj ns
  have en:1+mix (cell ns 4) 19%6=Jr ns:=rfl
  generalize Jr ns=N at *
  refine stD rfl ?_
  refine st (e1:=[some (.scr ns),some (.tup [.int w,.int h,.bl o,.bl false]),none,none,none,none]) (by simp [sIf,eOr,eOp,eV,eC,D.ix,ixD,Qo,Qj,Qi,lN,lC,eK,c4,ZE,D.neO,Qt,D.cmpN,QD,z2,sD,sNx]) ?_
  refine st (e1:=[some (.scr ns),some (.tup [.int w,.int h,.bl o,.bl false]),some (.int N),none,none,none]) (by simp [Qd,eOp,eV,eC,lN,lC,eK,c4,m19,ZE,add_int,en,gS]) ?_
  refine st (e1:=[some (.scr ns),some (.tup [.int w,.int h,.bl o,.bl false]),some (.int N),some (.int 1),none,none]) rfl ?_
  obtain ⟨v,el⟩:=QvI 1 (some (.scr ns)) (some (.tup [.int w,.int h,.bl o,.bl false])) (some (.int N)) none none (rD 0 N.toNat)
  rw [Qkg,Int.one_mul] at el
  have p39:(10:Int)^N.toNat<=10^6:=by
   have:N=1\/N=2\/N=3\/N=4\/N=5\/N=6:=by omega
   rcases this with q | q | q | q | q | q<;>subst q<;>decide
  refine st (e1:=[some (.scr ns),some (.tup [.int w,.int h,.bl o,.bl false]),some (.int N),some (.int (10^N.toNat)),v,none]) (by unfold Jn YR;simp only [eV,List.getElem?_cons_zero,List.getElem?_cons_succ,Option.join_some,Option.bind_some,QtO N (by omega)];exact el) ?_
  generalize (10:Int)^N.toNat=T at *
  have mx:D.max2 (.int 1) (.int (w-1-N))=some (.int (if w-1-N > 1 then w-1-N else 1)):=rfl
  obtain ⟨M,eM,M0,M1⟩:∃ M:Int,(if w-1-N > 1 then w-1-N else 1)=M/\1<=M/\M<=1000:=⟨_,rfl,by split<;>omega,by split<;>omega⟩
  rw [eM] at mx ⊢
  have wl:(Str.ofString "w").length=1:=by decide +kernel
  have mw:D.mulA (.str (Str.ofString "w")) (.int M)=some (.str (Z9 (Str.ofString "w") M)):=QmE ⟨by omega,by omega,lB (by rw [wl];omega)⟩
  generalize Z9 (Str.ofString "w") M=WW at *
  refine st (e1:=[some (.scr ns),some (.tup [.int w,.int h,.bl o,.bl false]),some (.int N),some (.int T),v,some (.lst ([It.word WW [],.mark "z",.ref "z" "" ""].map It.d))]) (by simp [Qd,Qi,lC,lN,Qp,eC,eOp,eV,D.ix,ixD,D.sub,mx,mw,gS,QE]) ?_
  have hc:QR 1 [] (YR (eOp D.sub (eOp D.ix (eV 1) (eC (.int 1))) (eC (.int 1)))) (gS 0) (eC (.bl true)) (eC (.str "")) [some (.scr ns),some (.tup [.int w,.int h,.bl o,.bl false]),some (.int N),some (.int T),v,some (.lst ([It.word WW [],.mark "z",.ref "z" "" ""].map It.d))]=some (QE (List.replicate (h-1).toNat "")):=by
   obtain ⟨m,em⟩:∃ m:Nat,h-1=m:=⟨(h-1).toNat,by omega⟩
   rw [Ze (fun i:Nat=>D.int (0+(i:Int))) (List.range m) (fun e=>∃ v,e=[v]) (fun _=>true) (fun _=>.str "") (by show D.rng (.int (h-1))=_;rw [em];exact Qdu m (by omega)) (lB (by simp;omega)) ⟨none,rfl⟩ (by
    rintro i hi e ⟨v,rfl⟩
    exact ⟨[some (.int (0+(i:Int)))],rfl,⟨_,rfl⟩,rfl,fun _=>rfl⟩)]
   rw [ZV,em]
   unfold QE
   simp [List.map_const']
  have ds:D.sub (.int T) (.int 2)=some (.int (T-2)):=rfl
  refine ret ?_
  simp only [Qi,lC,Qp,lN,hc,eOp,eC,eV,List.getElem?_cons_zero,List.getElem?_cons_succ,Option.join_some,Option.bind_some,Option.map_some,ds]
  rfl
noncomputable def Vc (c:Int) (k:Nat):At:=if h:k<58 then Classical.choose (Qnb c k h) else .brk
theorem Qfc (c:Int) (k:Nat) (h:k<58):Qai [.int c,.int k]=some (Vc c k).d/\QqA k (Vc c k):=by
 unfold Vc
 rw [dif_pos h]
 exact Classical.choose_spec (Qnb c k h)
def ZH (ns:List Int):List Int:=ZY ns none (some 63)++[7]
theorem Qp7 (ns:List Int):(ZY ns none (some 63)).length<=63:=by
 unfold ZY Ys
 rw [List.length_take]
 simp only []
 rw [if_neg (by decide)]
 omega
def Vv:Nat:=35
def Zb (ns:List Int):List Int:=(List.range (mix (cell ns 5) 29%Vv).toNat).map fun k:Nat=>(ZH ns).getD ((k:Int)%((ZH ns).length:Int)).toNat 0
theorem Qoh (ns:List Int):(Zb ns).length<Vv:=by
 unfold Zb
 rw [List.length_map,List.length_range]
 have h1:=Int.emod_lt_of_pos (mix (cell ns 5) 29) (show (0:Int)<Vv by decide)
 have h2:=Int.emod_nonneg (mix (cell ns 5) 29) (show (Vv:Int)≠0 by decide)
 omega
theorem QiZ:Vv<=58:=by decide
noncomputable def JC (cs:List Int):List At:=cs.zipIdx.map fun p=>Vc p.1 p.2
theorem Qcd (cs:List Int):(JC cs).length=cs.length:=by unfold JC;simp
noncomputable def Qb2 (cs:List Int):List Bk:=(grp (Jk cs (JC cs)++[.fin])).1
def AtB:At->Prop
 | .bk (.para _)=>False
 | .bk b=>BkB b
 | .it i=>ItB i
 | .brk=>True
 | .fin=>False
theorem QuU {k:Nat}:∀ {a:At},QqA k a->AtB a
 | .brk,h=>trivial
 | .bk (.chapter t l),h=>h.1
 | .bk (.heading t n l),h=>⟨h.1,h.2.1⟩
 | .bk (.table rs l),h=>⟨h.1,h.2.1⟩
 | .bk (.plates n l),h=>h.1
 | .it (.mark l),h=>trivial
 | .it (.key w),h=>h
 | .it (.ref l a b),h=>h.2
 | .it (.word w ns),h=>h
 | .bk (.para _),h=>h.elim
 | .fin,h=>h.elim
theorem Qfy:∀ {a:At},AtB a->AtS a
 | .brk,h=>trivial
 | .bk (.chapter t l),h=>trivial
 | .bk (.heading t n l),h=>trivial
 | .bk (.table rs l),h=>trivial
 | .bk (.plates n l),h=>trivial
 | .it _,h=>trivial
 | .bk (.para _),h=>h.elim
 | .fin,h=>h.elim
theorem Quo:ItB (.word (Str.ofString "lost") []):=⟨by decide +kernel,by simp,by simp⟩
theorem Qvw:ItB (.word (Str.ofString "end") []):=⟨by decide +kernel,by simp,by simp⟩
theorem QvZ (ls:List Str) (cs:List Int) (i:Nat) (a:At) (h:AtB a):AtB (pt ls cs i a):=by
 unfold pt
 split
 ·split
  ·exact Quo
  ·exact h
 ·exact h
theorem QmF {α:Type} {xs:List α} {p:α×Nat} (h:p∈xs.zipIdx):p.2<xs.length:=by
 obtain ⟨x,i⟩:=p
 exact (List.mem_zipIdx' h).1
theorem Qgu (cs:List Int) (h:cs.length<=58):∀ a∈JC cs,AtB a:=by
 intro a ha
 obtain ⟨p,hp,rfl⟩:=List.mem_map.mp ha
 exact QuU (Qfc p.1 p.2 (by have:=QmF hp;omega)).2
theorem QiF (cs:List Int) (as:List At) (h:∀ a∈as,AtB a):∀ a∈Jk cs as,AtB a:=by
 intro a ha
 unfold Jk at ha
 obtain ⟨i,hi,rfl⟩:=List.mem_mapIdx.mp ha
 exact QvZ _ _ _ _ (h _ (List.getElem_mem hi))
theorem QfO (cs:List Int) (as:List At):(Jk cs as).length=as.length:=by unfold Jk;simp
theorem Qon {row:List It} (h:∀ i∈row,ItB i):∀ i∈Qk row,ItB i:=by
 intro i hi
 unfold Qk at hi
 split at hi
 ·split at hi
  ·rcases List.mem_append.mp hi with z | z
   ·exact h i z
   ·rw [List.mem_singleton.mp z];exact Qvw
  ·exact h i hi
 ·exact h i hi
def GB (s:List Bk×List It):Prop:=(∀ b∈s.1,BkB b)/\(∀ i∈s.2,ItB i)
theorem Qs7 {s:List Bk×List It} {a:At} (hs:GB s) (ha:AtB a\/a=.fin):GB (JP s a):=by
 obtain ⟨bs,row⟩:=s
 have hp:BkB (.para (Qk row)):=Qon hs.2
 have h1:∀ b∈bs++[.para (Qk row)],BkB b:=by
  intro b hb
  rcases List.mem_append.mp hb with z | z
  ·exact hs.1 b z
  ·rw [List.mem_singleton.mp z];exact hp
 have h2:∀ b∈(if Qk row=[] then bs else bs++[.para (Qk row)]),BkB b:=by
  intro b hb
  split at hb
  ·exact hs.1 b hb
  ·exact h1 b hb
 cases a with
 | it i =>
  refine ⟨hs.1,fun j hj=>?_⟩
  rcases List.mem_append.mp hj with z | z
  ·exact hs.2 j z
  ·rw [List.mem_singleton.mp z]
   rcases ha with q | q
   ·exact q
   ·cases q
 | bk b =>
  refine ⟨fun j hj=>?_,fun j hj=>by cases hj⟩
  rcases List.mem_append.mp hj with z | z
  ·exact h2 j z
  ·rw [List.mem_singleton.mp z]
   rcases ha with q | q
   ·cases b<;>first | exact q | exact q.elim
   ·cases q
 | brk=>exact ⟨h1,fun j hj=>by cases hj⟩
 | fin=>exact ⟨h2,fun j hj=>by cases hj⟩
theorem QuA (as:List At):∀ s,GB s->(∀ a∈as,AtB a\/a=.fin)->GB (as.foldl JP s):=by
 induction as with
 | nil=>intro s h _;exact h
 | cons a as ih=>intro s h ha;exact ih _ (Qs7 h (ha a List.mem_cons_self)) (fun x hx=>ha x (List.mem_cons_of_mem _ hx))
def tot (s:List Bk×List It):Nat:=(s.1.flatMap iO).length+s.2.length
theorem QpO (s:List Bk×List It) (a:At) (ha:AtS a\/a=.fin):tot (JP s a)<=tot s+1:=by
 obtain ⟨bs,row⟩:=s
 have hc:=Qlx row
 have h1:((bs++[Bk.para (Qk row)]).flatMap iO).length=(bs.flatMap iO).length+(Qk row).length:=by
  rw [List.flatMap_append,List.length_append];simp [iO]
 have h2:((if Qk row=[] then bs else bs++[Bk.para (Qk row)]).flatMap iO).length<=(bs.flatMap iO).length+(Qk row).length:=by
  split
  ·omega
  ·rw [h1];omega
 unfold tot
 cases a with
 | it i=>simp only [JP,List.length_append,List.length_cons,List.length_nil];omega
 | bk b =>
  have hb:iO b=[]:=by
   rcases ha with q | q
   ·cases b<;>first | rfl | exact q.elim
   ·cases q
  simp only [JP,List.flatMap_append,List.length_append,List.length_nil,List.flatMap_cons,List.flatMap_nil,hb,List.append_nil]
  omega
 | brk=>simp only [JP,h1,List.length_nil];omega
 | fin=>simp only [JP,List.length_nil];omega
theorem Qrm (as:List At):∀ s,(∀ a∈as,AtS a\/a=.fin)->tot (as.foldl JP s)<=tot s+as.length:=by
 induction as with
 | nil=>intro s _;exact Nat.le_refl _
 | cons a as ih =>
  intro s ha
  have h1:=QpO s a (ha a List.mem_cons_self)
  have h2:=ih (JP s a) (fun x hx=>ha x (List.mem_cons_of_mem _ hx))
  rw [List.foldl_cons,List.length_cons];omega
theorem QgW (cs:List Int) (h:cs.length<58):∀ a∈Jk cs (JC cs)++[At.fin],AtB a\/a=.fin:=by
 intro a ha
 rcases List.mem_append.mp ha with z | z
 ·exact .inl (QiF cs _ (Qgu cs (by omega)) a z)
 ·exact .inr (List.mem_singleton.mp z)
theorem Qtm (cs:List Int) (h:cs.length<58):∀ b∈Qb2 cs,BkB b :=
 (QuA _ ([],[]) (by simp [GB]) (QgW cs h)).1
theorem Qp4 (cs:List Int) (h:cs.length<58):(Qb2 cs).length<=116/\((Qb2 cs).flatMap iO).length<=58:=by
 have h1:=(QmP (Jk cs (JC cs)++[At.fin]) ([],[])).1
 have h2:=Qrm (Jk cs (JC cs)++[At.fin]) ([],[]) (fun a ha=>by
  rcases QgW cs h a ha with z | z
  ·exact .inl (Qfy z)
  ·exact .inr z)
 have hl:(Jk cs (JC cs)++[At.fin]).length<=58:=by rw [List.length_append,QfO,Qcd];simp;omega
 unfold tot at h2
 unfold Qb2 grp
 simp at h1 h2 hl ⊢
 omega
theorem QrE (cs:List Int) (h:cs.length<58):Y9 [.lst ((Jk cs (JC cs)).map At.d)]=some (bks (Qb2 cs)) :=
 Qn2 _ (by rw [QfO,Qcd];omega) (fun a ha=>Qfy (QiF cs _ (Qgu cs (by omega)) a ha))
theorem Qdz {m M:Int} {xs:List Int} (h:m<=M) (hx:∀ x∈xs,x<=M):J7 m xs<=M:=by
 rcases (QbG xs m).1 with z | z
 ·rw [z];exact h
 ·exact hx _ z
theorem Qcf (m:Int) (xs:List Int):m<=J7 m xs:=(QbG xs m).2.1
theorem Qcu {m x:Int} {xs:List Int} (h:x∈xs):x<=J7 m xs:=(QbG xs m).2.2 x h
theorem Qca (nss:List (List Str)):∀ w,w<=nss.foldl (fun w ns=>J7 w (V8 ns)) w:=by
 induction nss with
 | nil=>intro w;exact Int.le_refl _
 | cons ns nss ih=>intro w;exact Int.le_trans (Qcf w _) (ih _)
theorem Qn3 {M:Int} (nss:List (List Str)) (h:∀ ns∈nss,∀ r∈ns,(r.length:Int)<=M):∀ w,w<=M->nss.foldl (fun w ns=>J7 w (V8 ns)) w<=M:=by
 induction nss with
 | nil=>intro w hw;exact hw
 | cons ns nss ih =>
  intro w hw
  refine ih (fun x hx=>h x (List.mem_cons_of_mem _ hx)) _ (Qdz hw fun x hx=>?_)
  obtain ⟨r,hr,rfl⟩:=List.mem_map.mp hx
  exact h ns List.mem_cons_self r hr
theorem Qme (nss:List (List Str)):∀ w,∀ ns∈nss,∀ r∈ns,(r.length:Int)<=nss.foldl (fun w ns=>J7 w (V8 ns)) w:=by
 induction nss with
 | nil=>intro w ns h;cases h
 | cons n0 nss ih =>
  intro w ns h r hr
  rcases List.mem_cons.mp h with z | z
  ·subst z
   exact Int.le_trans (Qcu (m:=w) (List.mem_map.mpr ⟨r,hr,rfl⟩)) (Qca nss _)
  ·exact ih _ ns z r hr
theorem QiN {is:List It} {w:Str} {ns:List Str} (h:It.word w ns∈is):ns∈YE is:=List.mem_map.mpr ⟨_,List.mem_filter.mpr ⟨h,rfl⟩,rfl⟩
theorem Qq7 {room w M:Int} {b:Bk} (hb:BkB b) (h0:0<=room) (hM:43+room<=M) (hw:w<=M):ZF room w b<=M:=by
 cases b with
 | chapter t l=>have:=hb.2;simp only [ZF];split<;>omega
 | heading t k l=>have:=hb.1.2;simp only [ZF];split<;>omega
 | plates n l=>exact hw
 | table rs l =>
  refine Qdz hw fun x hx=>?_
  obtain ⟨r,hr,rfl⟩:=List.mem_map.mp hx
  have:=hb.2 r hr
  omega
 | para is =>
  have hi:∀ i∈is,ItB i:=hb
  refine Qn3 _ (fun ns hn r hr=>?_) _ (Qdz (Qdz hw fun x hx=>?_) fun x hx=>?_)
  ·have:=(QhY hi ns hn).2 r hr;omega
  ·obtain ⟨i,hr,rfl⟩:=List.mem_map.mp hx
   have h1:=hi i (List.mem_filter.mp hr).1
   cases i with
   | ref l a b=>have:=h1.1;have:=h1.2;simp only [QeH];omega
   | _=>simp only [QeH];omega
  ·obtain ⟨i,hr,rfl⟩:=List.mem_map.mp hx
   have h1:=hi i (List.mem_filter.mp hr).1
   cases i with
   | word w ns=>have:=h1.1.2;simp only [QeE];omega
   | _=>simp only [QeE];omega
theorem Qq9 {h M:Int} {b:Bk} (hb:BkB b) (hM:31<=M) (hh:h<=M):ZG h b<=M:=by
 cases b with
 | heading t k l=>have:=hb.2;simp only [ZG];split<;>omega
 | table rs l=>have:=hb.1;simp only [ZG];split<;>omega
 | para is =>
  refine Qdz hh fun x hx=>?_
  obtain ⟨ns,hn,rfl⟩:=List.mem_map.mp hx
  have:=(QhY (show ∀ i∈is,ItB i from hb) ns hn).1
  omega
 | _=>exact hh
theorem Qq8 (room w:Int) (b:Bk):w<=ZF room w b:=by
 cases b with
 | chapter t l=>simp only [ZF];split<;>omega
 | heading t k l=>simp only [ZF];split<;>omega
 | plates n l=>exact Int.le_refl _
 | table rs l=>exact Qcf _ _
 | para is=>exact Int.le_trans (Int.le_trans (Qcf _ _) (Qcf _ _)) (Qca _ _)
theorem Qra (h:Int) (b:Bk):h<=ZG h b:=by
 cases b with
 | heading t k l=>simp only [ZG];split<;>omega
 | table rs l=>simp only [ZG];split<;>omega
 | para is=>exact Qcf _ _
 | _=>exact Int.le_refl _
def QeO (room w h:Int):It->Prop
 | .word x ns=>(x.length:Int)<=w/\1+(ns.length:Int)<=h/\∀ r∈ns,(r.length:Int)<=w
 | .ref _ a b=>(a.length:Int)+room+b.length<=w
 | _=>True
def Qat (room w h:Int):Bk->Prop
 | .chapter t _=>(t.length:Int)+2+room<=w
 | .heading t k _=>(t.length:Int)+2+room<=w/\k+1<=h
 | .table rs _=>(rs.length:Int)<=h/\∀ r∈rs,(r.length:Int)<=w
 | .para is=>∀ i∈is,QeO room w h i
 | .plates _ _=>True
theorem QpP {room w h w' h':Int} {i:It} (hw:w<=w') (hh:h<=h') (f:QeO room w h i):QeO room w' h' i:=by
 cases i with
 | word x ns=>exact ⟨Int.le_trans f.1 hw,Int.le_trans f.2.1 hh,fun r hr=>Int.le_trans (f.2.2 r hr) hw⟩
 | ref l a b=>exact Int.le_trans f hw
 | _=>trivial
theorem QiU {room w h w' h':Int} {b:Bk} (hw:w<=w') (hh:h<=h') (f:Qat room w h b):Qat room w' h' b:=by
 cases b with
 | chapter t l=>exact Int.le_trans f hw
 | heading t k l=>exact ⟨Int.le_trans f.1 hw,Int.le_trans f.2 hh⟩
 | table rs l=>exact ⟨Int.le_trans f.1 hh,fun r hr=>Int.le_trans (f.2 r hr) hw⟩
 | para is=>exact fun i hi=>QpP hw hh (f i hi)
 | plates n l=>trivial
theorem Qq6 (room w h:Int) (b:Bk):Qat room (ZF room w b) (ZG h b) b:=by
 cases b with
 | chapter t l=>show _<=ZF _ _ _;simp only [ZF];split<;>omega
 | heading t k l =>
  refine ⟨?_,?_⟩
  ·simp only [ZF];split<;>omega
  ·simp only [ZG];split<;>omega
 | plates n l=>trivial
 | table rs l =>
  refine ⟨?_,fun r hr=>Qcu (List.mem_map.mpr ⟨r,hr,rfl⟩)⟩
  simp only [ZG];split<;>omega
 | para is =>
  intro i hi
  cases i with
  | word x ns =>
   refine ⟨Int.le_trans (Qcu (List.mem_map.mpr ⟨It.word x ns,List.mem_filter.mpr ⟨hi,rfl⟩,rfl⟩)) (Qca _ _),?_,fun r hr=>?_⟩
   ·exact Qcu (List.mem_map.mpr ⟨ns,QiN hi,rfl⟩)
   ·exact Qme _ _ ns (QiN hi) r hr
  | ref l a b=>exact Int.le_trans (Int.le_trans (Qcu (List.mem_map.mpr ⟨It.ref l a b,List.mem_filter.mpr ⟨hi,rfl⟩,rfl⟩)) (Qcf _ _)) (Qca _ _)
  | _=>trivial
theorem QiK (room M H:Int) (h0:0<=room) (hM:43+room<=M) (hH:31<=H):∀ (bs:List Bk) (s:Int×Int),(∀ b∈bs,BkB b)->s.1<=M->s.2<=H ->
  let r:=bs.foldl (fun s b=>(ZF room s.1 b,ZG s.2 b)) s
  s.1<=r.1/\r.1<=M/\s.2<=r.2/\r.2<=H/\∀ b∈bs,Qat room r.1 r.2 b
 | [],s,_,h1,h2=>⟨Int.le_refl _,h1,Int.le_refl _,h2,fun _ h=>by cases h⟩
 | b::bs,s,hb,h1,h2=>by
  obtain ⟨a1,a2,a3,a4,a5⟩:=QiK room M H h0 hM hH bs (ZF room s.1 b,ZG s.2 b) (fun x hx=>hb x (List.mem_cons_of_mem _ hx)) (Qq7 (hb b List.mem_cons_self) h0 hM h1) (Qq9 (hb b List.mem_cons_self) hH h2)
  refine ⟨Int.le_trans (Qq8 _ _ _) a1,a2,Int.le_trans (Qra _ _) a3,a4,fun x hx=>?_⟩
  rcases List.mem_cons.mp hx with z | z
  ·subst z;exact QiU a1 a3 (Qq6 room s.1 s.2 x)
  ·exact a5 x z
theorem QrK {li:Bool} {b:Bk} (hb:BkB b) (hl:(iO b).length<=1000):2<=Ji li b/\Ji li b<=10^39+3000:=by
 have:(3000:Int)<=10^39:=by decide
 cases b with
 | chapter t l=>simp only [Ji];split<;>omega
 | heading t k l=>simp only [Ji];split<;>omega
 | table rs l=>simp only [Ji];omega
 | plates n l=>have h1:=hb.1;have h2:=hb.2;simp only [Ji];omega
 | para is =>
  have h1:=List.length_filter_le Q2 is
  have h2:is.length<=1000:=hl
  simp only [Ji];omega
theorem QjR (li:Bool):∀ (bs:List Bk) (s:Int),(∀ b∈bs,BkB b/\(iO b).length<=1000)->s<=bs.foldl (fun s b=>s+Ji li b) s/\bs.foldl (fun s b=>s+Ji li b) s<=s+bs.length*(10^39+3000)
 | [],s,_=>by simp
 | b::bs,s,h=>by
  have h1:=QrK (li:=li) (h b List.mem_cons_self).1 (h b List.mem_cons_self).2
  have h2:=QjR li bs (s+Ji li b) (fun x hx=>h x (List.mem_cons_of_mem _ hx))
  rw [List.foldl_cons,List.length_cons]
  refine ⟨by omega,Int.le_trans h2.2 ?_⟩
  have:((bs.length+1:Nat):Int)*(10^39+3000)=bs.length*(10^39+3000)+(10^39+3000):=by
   rw [show ((bs.length+1:Nat):Int)=(bs.length:Int)+1 from by omega,Int.add_mul,Int.one_mul]
  omega
def dLi (ns:List Int):Bool:=decide (cell ns 3%2=1)
def dO (ns:List Int):Bool:=decide (cell ns 2%2=1)
def dE0 (ns:List Int):List Bk:=Zi ns 4 2 (dLi ns)
noncomputable def dBk (ns:List Int):List Bk:=Qb2 (Zb ns)
noncomputable def ZR (ns:List Int):Int:=most (dLi ns) (dE0 ns++dBk ns)
noncomputable def dR (ns:List Int):Int:=JX (ZR ns).toNat
noncomputable def Js (ns:List Int):Int×Int:=Qnx (dR ns) (dBk ns++dE0 ns)
noncomputable def YW (ns:List Int):Int:=if (dE0 ns).isEmpty then (Js ns).1 else if dR ns+2 > (Js ns).1 then dR ns+2 else (Js ns).1
noncomputable def dW (ns:List Int):Int:=if 4+mix (cell ns 0) 1%30 > YW ns then 4+mix (cell ns 0) 1%30 else YW ns
noncomputable def dH (ns:List Int):Int:=if cell ns 1%5=1 then (if 2+mix (cell ns 1) 4%59 > (Js ns).2 then 2+mix (cell ns 1) 4%59 else (Js ns).2) else (if 2+mix (cell ns 1) 2%5 > (Js ns).2 then 2+mix (cell ns 1) 2%5 else (Js ns).2)
noncomputable def Jt (ns:List Int):List Bk:=Zi ns (dW ns) (dH ns) (dLi ns)++dBk ns
theorem Zc:(Str.ofString "").length=0:=by decide +kernel
theorem QgQ (n:Int):(Z9 (Str.ofString "w") n).length=n.toNat:=by
 rw [Qgp,show (Str.ofString "w").length=1 from by decide +kernel];omega
theorem Qaf (ns:List Int) (w h:Int) (li:Bool):(Zi ns w h li).length<=3/\((Zi ns w h li).flatMap iO).length<=3:=by
 unfold Zi
 split
 ·simp
 ·simp [iO]
theorem Qtt {n:Int} (h:1<=n/\n<=6):(10:Int)<=10^n.toNat/\(10:Int)^n.toNat<=10^6:=by
 have:n=1\/n=2\/n=3\/n=4\/n=5\/n=6:=by omega
 rcases this with q | q | q | q | q | q<;>subst q<;>decide
theorem QjG (ns:List Int):∀ b∈dE0 ns,BkB b:=by
 intro b hb
 unfold dE0 Zi at hb
 have h6:=Qtt (Qaj ns)
 have hN:=Qaj ns
 split at hb
 ·cases hb
 ·simp only [List.mem_cons,List.not_mem_nil,or_false] at hb
  rcases hb with z | z | z
  ·subst z
   have:(10:Int)^6<=10^39:=by decide
   exact ⟨by omega,by omega⟩
  ·subst z
   refine ⟨by simp,fun r hr=>?_⟩
   rw [List.eq_of_mem_replicate hr,Zc];omega
  ·subst z
   intro i hi
   simp only [List.mem_cons,List.not_mem_nil,or_false] at hi
   rcases hi with z | z | z<;>subst z
   ·refine ⟨?_,by simp,by simp⟩
    rw [QgQ]
    split<;>omega
   ·trivial
   ·exact ⟨by rw [Zc];omega,by rw [Zc];omega⟩
theorem Qh3 {xs ys:List Bk} {a b:Nat} (h1:xs.length<=a/\(xs.flatMap iO).length<=a) (h2:ys.length<=b/\(ys.flatMap iO).length<=b) (h:a+b<=100000):Few (xs++ys):=by
 refine ⟨?_,?_⟩
 ·rw [List.length_append];omega
 ·rw [List.flatMap_append,List.length_append];omega
theorem VA (ns:List Int):(Zb ns).length<58:=Nat.lt_of_lt_of_le (Qoh ns) QiZ
theorem Qcg (ns:List Int):(dBk ns).length<=116/\((dBk ns).flatMap iO).length<=116:=by
 have:=Qp4 (Zb ns) (VA ns)
 exact ⟨this.1,by have:=this.2;unfold dBk;omega⟩
theorem Qfx (ns:List Int):∀ b∈dBk ns,BkB b:=Qtm _ (VA ns)
theorem Qia (ns:List Int):3<=ZR ns/\ZR ns<10^42:=by
 have h:=QjR (dLi ns) (dE0 ns++dBk ns) 3 (fun b hb=>by
  have h1:BkB b:=by
   rcases List.mem_append.mp hb with z | z
   ·exact QjG ns b z
   ·exact Qfx ns b z
  refine ⟨h1,?_⟩
  have hf:((dE0 ns++dBk ns).flatMap iO).length<=119:=by
   rw [List.flatMap_append,List.length_append]
   have h1:=(Qaf ns 4 2 (dLi ns)).2
   have h2:=(Qcg ns).2
   unfold dE0;omega
  obtain ⟨s,t,e⟩:=List.append_of_mem hb
  rw [e,List.flatMap_append,List.flatMap_cons] at hf
  simp only [List.length_append] at hf
  omega)
 have hl:((dE0 ns++dBk ns).length:Int)<=119:=by
  rw [List.length_append]
  have h1:=(Qaf ns 4 2 (dLi ns)).1
  have h2:=(Qcg ns).1
  unfold dE0;omega
 refine ⟨h.1,?_⟩
 have h2:ZR ns<=3+((dE0 ns++dBk ns).length:Int)*(10^39+3000):=h.2
 have h3:((dE0 ns++dBk ns).length:Int)*(10^39+3000)<=119*(10^39+3000):=Int.mul_le_mul_of_nonneg_right hl (by decide)
 have h4:(3:Int)+119*(10^39+3000)<10^42:=by decide
 omega
theorem QdD (ns:List Int):1<=dR ns/\dR ns<=42:=by
 have h:=Qia ns
 have h1:=Qa1 (ZR ns).toNat
 have h2:JX (ZR ns).toNat<=42:=(Nat.length_toDigits_le_iff (by decide) (by decide)).mpr (by
  have:((10^42:Nat):Int)=10^42:=by decide
  omega)
 unfold dR
 omega
theorem QbJ (ns:List Int):4<=(Js ns).1/\(Js ns).1<=85/\2<=(Js ns).2/\(Js ns).2<=31/\∀ b∈dBk ns++dE0 ns,Qat (dR ns) (Js ns).1 (Js ns).2 b:=by
 have hr:=QdD ns
 exact QiK (dR ns) 85 31 (by omega) (by omega) (by decide) (dBk ns++dE0 ns) (4,2) (fun b hb=>by
  rcases List.mem_append.mp hb with z | z
  ·exact Qfx ns b z
  ·exact QjG ns b z) (by decide) (by decide)
theorem Qm1 (ns:List Int):(Js ns).1<=YW ns/\YW ns<=85:=by
 have h1:=QbJ ns
 have h2:=QdD ns
 unfold YW
 split
 ·omega
 ·split<;>omega
theorem Qgc (ns:List Int):YW ns<=dW ns/\4<=dW ns/\dW ns<=90:=by
 have h1:=QbJ ns
 have h2:=Qm1 ns
 unfold dW
 split<;>omega
theorem QeM (ns:List Int):(Js ns).2<=dH ns/\2<=dH ns/\dH ns<=60:=by
 have h1:=QbJ ns
 unfold dH
 split
 ·split<;>omega
 ·split<;>omega
theorem Qj4 {xs ys:List Bk} (h:xs.length+ys.length<=lI):D.add (bks xs) (bks ys)=some (bks (xs++ys)):=QhQ (f:=Bk.d) h
theorem Qvk (xs:List Bk):D.neO (bks xs) (.lst [])=some (.bl (!xs.isEmpty)):=QrT QoQ (by decide) xs
theorem Qqb (ns:List Int) (e:Qq) (hc:QbR 1 [1] e=[none,some (.lst ((ZH ns).map .int))]) (a:EvE) (ha:a e=some (.int (mix (cell ns 5) 29%Vv))):QR 1 [1] (YR a) (gS 0) (eC (.bl true)) (eOp D.ix (eV 1) (eOp D.mod (eV 0) (eUn D.len (eV 1)))) e=some (.lst ((Zb ns).map .int)):=by
 obtain ⟨m,em⟩:∃ m:Nat,mix (cell ns 5) 29%Vv=m:=⟨(mix (cell ns 5) 29%Vv).toNat,by have:=Int.emod_nonneg (mix (cell ns 5) 29) (show (Vv:Int)≠0 by decide);omega⟩
 have hm:m<=58:=by
  have h1:=Int.emod_lt_of_pos (mix (cell ns 5) 29) (show (0:Int)<Vv by decide)
  have:=QiZ
  omega
 rw [Ze (fun i:Nat=>D.int (0+(i:Int))) (List.range m) (fun e=>∃ v,e=[v,some (.lst ((ZH ns).map .int))]) (fun _=>true) (fun i:Nat=>.int ((ZH ns).getD ((i:Int)%((ZH ns).length:Int)).toNat 0)) (by unfold YR;rw [ha,em];exact Qdu m (by omega)) (lB (by simp;omega)) ⟨none,hc⟩ (by
  rintro i hi e ⟨v,rfl⟩
  refine ⟨[some (.int (0+(i:Int))),some (.lst ((ZH ns).map .int))],rfl,⟨_,rfl⟩,rfl,fun _=>?_⟩
  have hn:(0:Int)<((ZH ns).length:Int):=by unfold ZH;simp only [List.length_append,List.length_cons,List.length_nil];omega
  have ln:D.len (.lst ((ZH ns).map .int))=some (.int (ZH ns).length):=by
   show some (D.int ((ZH ns).map D.int).length)=_
   rw [List.length_map]
  have md:D.mod (.int (i:Int)) (.int ((ZH ns).length:Int))=some (.int ((i:Int)%((ZH ns).length:Int))):=Qbk hn
  have ixl:=QhP (f:=D.int) (ZH ns) ((i:Int)%((ZH ns).length:Int)) 0 (Int.emod_nonneg _ (by omega)) (Int.emod_lt_of_pos _ hn)
  generalize (ZH ns).map D.int=EV at *
  simp [eOp,eV,eUn,ln,md,ixl])]
 rw [ZV]
 unfold Zb
 rw [em,List.map_map]
 rfl
theorem Qoq (cs:List Int) (A:Int×Nat->At) (hl:cs.length<=58) (e:Qq) (h2:eV 2 e=some (.lst (cs.map .int))) (hA:∀ p∈cs.zipIdx,∀ j:Int,j=p.2->Qai [.int p.1,.int j]=some (A p).d):QR 2 [] (Qbl (eV 2)) (JN [gS 0,gS 1]) (eC (.bl true)) (eK Qai (lC (eV 1) (lC (eV 0) lN))) e=some (.lst ((cs.zipIdx.map A).map At.d)):=by
 rw [Ze (fun p:Int×Nat=>D.tup [.int p.2,.int p.1]) cs.zipIdx (fun e=>∃ u v,e=[u,v]) (fun _=>true) (fun p:Int×Nat=>(A p).d) (by unfold Qbl;rw [h2];show some (VE 0 (cs.map .int))=_;rw [QcA]) (lB (by simp;omega)) ⟨none,none,rfl⟩ (by
  rintro p hp e ⟨u,v,rfl⟩
  obtain ⟨j,ej⟩:∃ j:Int,(p.2:Int)=j:=⟨_,rfl⟩
  have h:=hA p hp j ej.symm
  rw [ej]
  refine ⟨[some (.int j),some (.int p.1)],rfl,⟨_,_,rfl⟩,rfl,fun _=>?_⟩
  generalize (A p).d=X at *
  simp only [eK,lC,lN,eV,List.getElem?_cons_zero,List.getElem?_cons_succ,Option.join_some,Option.bind_some,Option.map_some,h])]
 rw [ZV,List.map_map]
 rfl
theorem Qqj (ns:List Int) (e:Qq) (h2:eV 2 e=some (.lst ((Zb ns).map .int))):QR 2 [] (Qbl (eV 2)) (JN [gS 0,gS 1]) (eC (.bl true)) (eK Qai (lC (eV 1) (lC (eV 0) lN))) e=some (.lst ((JC (Zb ns)).map At.d)):=by
 have hl:=VA ns
 exact Qoq (Zb ns) (fun p=>Vc p.1 p.2) (by omega) e h2 (fun p hp j ej=>by
  rw [ej]
  exact (Qfc p.1 p.2 (by have:=QmF hp;omega)).1)
theorem Qrs (ns:List Int):Qcy [.scr ns]=some (.tup [bks (Jt ns),.tup [.int (dW ns),.int (dH ns),.bl (dO ns),.bl (dLi ns)],.int (dR ns)]):=by
 have cl:=VA ns
 have hB:=Qcg ns
 have hE:=Qaf ns 4 2 (dLi ns)
 have hE2:=Qaf ns (dW ns) (dH ns) (dLi ns)
 have hm:=Qia ns
 have hn:=QbJ ns
 have hw:=Qgc ns
 have hh:=QeM ns
 have eE:Zi ns 4 2 (dLi ns)=dE0 ns:=rfl
 rw [eE] at hE
 have c0:Je [.scr ns,.int 0]=some (.int (cell ns 0)):=QaX ns 0
 have c1:Je [.scr ns,.int 1]=some (.int (cell ns 1)):=QaX ns 1
 have c2:Je [.scr ns,.int 2]=some (.int (cell ns 2)):=QaX ns 2
 have c3:Je [.scr ns,.int 3]=some (.int (cell ns 3)):=QaX ns 3
 have c5:Je [.scr ns,.int 5]=some (.int (cell ns 5)):=QaX ns 5
 have m29:=Qbw (cell ns 5) 29 (by decide) (by decide)
 have m1:=Qbw (cell ns 0) 1 (by decide) (by decide)
 have m2:=Qbw (cell ns 1) 2 (by decide) (by decide)
 have m4:=Qbw (cell ns 1) 4 (by decide) (by decide)
 have cu:Zw (.scr ns) none (some 63)=some (.lst ((ZY ns none (some 63)).map .int)):=rfl
 have ev:D.add (.lst ((ZY ns none (some 63)).map .int)) (.lst [.int 7])=some (.lst ((ZH ns).map .int)):=QhQ (f:=D.int) (ys:=[7]) (lB (by have:=Qp7 ns;simp;omega))
 have pe:=QnP (JC (Zb ns)) (Zb ns) (Qcd _) (by rw [Qcd];omega) (fun a ha=>Qfy (Qgu _ (by omega) a ha))
 have ge:=QrE (Zb ns) cl
 have ee:=Qh6 ns 4 2 false (dLi ns) (by decide) (by decide)
 have ee2:=Qh6 ns (dW ns) (dH ns) (dO ns) (dLi ns) (by omega) (by omega)
 have fw:Few (dE0 ns++dBk ns):=Qh3 hE hB (by decide)
 have fw2:Few (dBk ns++dE0 ns):=Qh3 hB hE (by decide)
 have a1:D.add (bks (dE0 ns)) (bks (dBk ns))=some (bks (dE0 ns++dBk ns)):=Qj4 (lB (by omega))
 have a2:D.add (bks (dBk ns)) (bks (dE0 ns))=some (bks (dBk ns++dE0 ns)):=Qj4 (lB (by omega))
 have a3:D.add (bks (Zi ns (dW ns) (dH ns) (dLi ns))) (bks (dBk ns))=some (bks (Jt ns)):=Qj4 (lB (by omega))
 have mo:QdB [bks (dE0 ns++dBk ns),.bl (dLi ns)]=some (.int (ZR ns)):=QsR _ _ fw
 have ne:Qcx [bks (dBk ns++dE0 ns),.int (dR ns)]=some (.tup [.int (Js ns).1,.int (Js ns).2]):=Qq5 _ _ fw2 (fun b hb=>by
  rcases List.mem_append.mp hb with z | z
  ·exact Qfx ns b z
  ·exact QjG ns b z)
 have nb:=Qvk (dE0 ns)
 have st1:D.strI (.int (ZR ns))=some (.str (Str.ofString (toString (ZR ns)))):=if_pos (by
  have:(10:Nat)^42<2^1900:=by decide +kernel
  have:((10^42:Nat):Int)=10^42:=by decide
  omega)
 have st2:(Str.ofString (toString (ZR ns))).length=JX (ZR ns).toNat:=by
  have:ZR ns=((ZR ns).toNat:Int):=by omega
  conv=>lhs;rw [this]
  exact Qmr _
 have hr:=QdD ns
 have st3:D.len (.str (Str.ofString (toString (ZR ns))))=some (.int (dR ns)):=by
  rw [V9 (by rw [st2];have:dR ns=JX (ZR ns).toNat:=rfl;omega),st2];rfl
 have eWd:(if (!(dE0 ns).isEmpty)=true then (if dR ns+2 > (Js ns).1 then dR ns+2 else (Js ns).1) else (Js ns).1)=YW ns:=by
  unfold YW
  cases (dE0 ns).isEmpty<;>rfl
 have dli:D.eqO (.int (cell ns 3%2)) (.int 1)=some (.bl (dLi ns)):=by simp [D.eqO,Qt,QD,D.cmp,dLi]
 have dlo:D.eqO (.int (cell ns 2%2)) (.int 1)=some (.bl (dO ns)):=by simp [D.eqO,Qt,QD,D.cmp,dO]
 have ddh:D.eqO (.int (cell ns 1%5)) (.int 1)=some (.bl (decide (cell ns 1%5=1))):=by simp [D.eqO,Qt,QD,D.cmp]
 unfold Qcy QgE
 refine stD rfl ?_
 refine st (e1:=[some (.scr ns),some (.lst ((ZH ns).map .int)),none,none,none,none,none,none,none,none,none,none]) (asg (by simp only [eOp,J1,eV,sD,List.map_cons,List.map_nil,List.cons_append,List.nil_append,List.getElem?_cons_zero,Option.join_some,Option.bind_some,oNo,oAt,eC,cu,Qi,lC,lN,Option.map_some,ev]) rfl) ?_
 refine st (e1:=[some (.scr ns),some (.lst ((ZH ns).map .int)),some (.lst ((Zb ns).map .int)),none,none,none,none,none,none,none,none,none]) (asg (Qqb ns _ rfl _ (by simp [eOp,eK,lC,lN,eV,eC,c5,m29,ZE,Vv])) rfl) ?_
 have ac:=Qqj ns [some (.scr ns),some (.lst ((ZH ns).map .int)),some (.lst ((Zb ns).map .int)),none,none,none,none,none,none,none,none,none] rfl
 generalize hCE:(Zb ns).map D.int=CE at *
 generalize hEV:(ZH ns).map D.int=EV at *
 refine st (e1:=[some (.scr ns),some (.lst EV),some (.lst CE),some (bks (dBk ns)),none,none,none,none,none,none,none,none]) (asg (by
  have ge':Y9 [.lst ((Jk (Zb ns) (JC (Zb ns))).map At.d)]=some (bks (dBk ns)):=ge
  generalize (Jk (Zb ns) (JC (Zb ns))).map At.d=P at *
  generalize (JC (Zb ns)).map At.d=A at *
  simp only [eK,lC,lN,ac,eV,List.getElem?_cons_zero,List.getElem?_cons_succ,Option.join_some,Option.bind_some,Option.map_some,pe,ge']) rfl) ?_
 refine st (e1:=[some (.scr ns),some (.lst EV),some (.lst CE),some (bks (dBk ns)),some (.bl (dLi ns)),none,none,none,none,none,none,none]) (asg (by simp [eOp,eK,lC,lN,eV,eC,c3,ZE,dli]) rfl) ?_
 rw [eE] at ee
 generalize Str.ofString (toString (ZR ns))=SM at *
 generalize bks (Jt ns)=ALL at *
 generalize bks (Zi ns (dW ns) (dH ns) (dLi ns))=ED at *
 generalize bks (dE0 ns++dBk ns)=EB at *
 generalize bks (dBk ns++dE0 ns)=BE at *
 generalize bks (dE0 ns)=E0 at *
 generalize bks (dBk ns)=BK at *
 refine st (e1:=[some (.scr ns),some (.lst EV),some (.lst CE),some BK,some (.bl (dLi ns)),some E0,none,none,none,none,none,none]) (asg (by simp [eK,Qp,lC,lN,eV,eC,ee]) rfl) ?_
 refine st (e1:=[some (.scr ns),some (.lst EV),some (.lst CE),some BK,some (.bl (dLi ns)),some E0,some (.int (dR ns)),none,none,none,none,none]) (asg (by simp [eUn,eOp,eK,lC,lN,eV,a1,mo,st1,st3]) rfl) ?_
 refine st (e1:=[some (.scr ns),some (.lst EV),some (.lst CE),some BK,some (.bl (dLi ns)),some E0,some (.int (dR ns)),some (.int (Js ns).1),some (.int (Js ns).2),none,none,none]) (asg (d:=.tup [.int (Js ns).1,.int (Js ns).2]) (by simp only [eOp,eK,lC,lN,eV,List.getElem?_cons_zero,List.getElem?_cons_succ,Option.join_some,Option.bind_some,Option.map_some,a2,ne]) rfl) ?_
 refine st (e1:=[some (.scr ns),some (.lst EV),some (.lst CE),some BK,some (.bl (dLi ns)),some E0,some (.int (dR ns)),some (.int (YW ns)),some (.int (Js ns).2),none,none,none]) (by
  rw [<- eWd]
  cases q:(dE0 ns).isEmpty<;>rw [q] at nb<;>simp [sIf,eOp,eV,Qi,lN,nb,Qo,Qd,gS,eC,add_int,D.max2,sNx]) ?_
 refine st (e1:=[some (.scr ns),some (.lst EV),some (.lst CE),some BK,some (.bl (dLi ns)),some E0,some (.int (dR ns)),some (.int (YW ns)),some (.int (Js ns).2),some (.int (dW ns)),none,none]) (asg (by unfold dW;simp [eOp,eV,eC,eK,lC,lN,c0,m1,ZE,add_int,D.max2]) rfl) ?_
 obtain ⟨H0,eH0⟩:∃ H0:Int,(if 2+mix (cell ns 1) 2%5 > (Js ns).2 then 2+mix (cell ns 1) 2%5 else (Js ns).2)=H0:=⟨_,rfl⟩
 refine st (e1:=[some (.scr ns),some (.lst EV),some (.lst CE),some BK,some (.bl (dLi ns)),some E0,some (.int (dR ns)),some (.int (YW ns)),some (.int (Js ns).2),some (.int (dW ns)),some (.int H0),none]) (asg (by rw [<- eH0];simp [eOp,eV,eC,eK,lC,lN,c1,m2,ZE,add_int,D.max2]) rfl) ?_
 refine st (e1:=[some (.scr ns),some (.lst EV),some (.lst CE),some BK,some (.bl (dLi ns)),some E0,some (.int (dR ns)),some (.int (YW ns)),some (.int (Js ns).2),some (.int (dW ns)),some (.int (dH ns)),none]) (by
  unfold dH
  by_cases z:cell ns 1%5=1
  ·rw [if_pos z]
   rw [z] at ddh
   simp [sIf,eOp,eV,eC,eK,lC,lN,c1,m4,ZE,ddh,z,Qo,Qd,gS,add_int,D.max2]
  ·rw [if_neg z,eH0]
   simp [sIf,eOp,eV,eC,eK,lC,lN,c1,ZE,ddh,z,Qo,sNx]) ?_
 refine st (e1:=[some (.scr ns),some (.lst EV),some (.lst CE),some BK,some (.bl (dLi ns)),some E0,some (.int (dR ns)),some (.int (YW ns)),some (.int (Js ns).2),some (.int (dW ns)),some (.int (dH ns)),some (.tup [.int (dW ns),.int (dH ns),.bl (dO ns),.bl (dLi ns)])]) (asg (by simp [Qp,eOp,eV,eC,eK,lC,lN,c2,ZE,dlo]) rfl) ?_
 refine ret ?_
 simp [Qp,eOp,eV,eK,lC,lN,ee2,a3]
theorem Yd:∀ xs:List D,(∀ x∈xs,D.eq x x=some true)->D.eqL xs xs=some true
 | [],_=>Jm
 | x::xs,h=>by rw [Jh,h x List.mem_cons_self,Yd xs (fun y hy=>h y (List.mem_cons_of_mem _ hy))];rfl
theorem Yw (x:Str):D.eq (.str x) (.str x)=some true:=by rw [QH];simp
theorem Qgt (x:Int):D.eq (.int x) (.int x)=some true:=by rw [QD];simp
theorem Qcz {α:Type} {f:α->D} (h:∀ a,D.eq (f a) (f a)=some true) (xs:List α):D.eq (.lst (xs.map f)) (.lst (xs.map f))=some true:=by
 rw [JJ]
 refine Yd _ fun x hx=>?_
 obtain ⟨a,_,rfl⟩:=List.mem_map.mp hx
 exact h a
theorem QiW (xs:List Str):D.eq (QE xs) (QE xs)=some true:=Qcz Yw xs
theorem Qs9 (i:It):D.eq i.d i.d=some true:=by
 cases i with
 | word w ns=>simp only [It.d];rw [Jl];refine Yd _ fun x hx=>?_;simp only [List.mem_cons,List.not_mem_nil,or_false] at hx;rcases hx with z | z | z<;>subst z<;>first | exact Yw _ | exact QiW _
 | ref l a b=>simp only [It.d];rw [Jl];refine Yd _ fun x hx=>?_;simp only [List.mem_cons,List.not_mem_nil,or_false] at hx;rcases hx with z | z | z | z<;>subst z<;>exact Yw _
 | mark l=>simp only [It.d];rw [Jl];refine Yd _ fun x hx=>?_;simp only [List.mem_cons,List.not_mem_nil,or_false] at hx;rcases hx with z | z<;>subst z<;>exact Yw _
 | key l=>simp only [It.d];rw [Jl];refine Yd _ fun x hx=>?_;simp only [List.mem_cons,List.not_mem_nil,or_false] at hx;rcases hx with z | z<;>subst z<;>exact Yw _
theorem QmW (b:Bk):D.eq b.d b.d=some true:=by
 cases b with
 | chapter t l=>simp only [Bk.d];rw [Jl];refine Yd _ fun x hx=>?_;simp only [List.mem_cons,List.not_mem_nil,or_false] at hx;rcases hx with z | z | z<;>subst z<;>exact Yw _
 | heading t k l=>simp only [Bk.d];rw [Jl];refine Yd _ fun x hx=>?_;simp only [List.mem_cons,List.not_mem_nil,or_false] at hx;rcases hx with z | z | z | z<;>subst z<;>first | exact Yw _ | exact Qgt _
 | para is=>simp only [Bk.d];rw [Jl];refine Yd _ fun x hx=>?_;simp only [List.mem_cons,List.not_mem_nil,or_false] at hx;rcases hx with z | z<;>subst z<;>first | exact Yw _ | exact Qcz Qs9 _
 | table rs l=>simp only [Bk.d];rw [Jl];refine Yd _ fun x hx=>?_;simp only [List.mem_cons,List.not_mem_nil,or_false] at hx;rcases hx with z | z | z<;>subst z<;>first | exact Yw _ | exact QiW _
 | plates n l=>simp only [Bk.d];rw [Jl];refine Yd _ fun x hx=>?_;simp only [List.mem_cons,List.not_mem_nil,or_false] at hx;rcases hx with z | z | z<;>subst z<;>first | exact Yw _ | exact Qgt _
theorem Qvv (bs:List Bk):D.eqO (bks bs) (bks bs)=some (.bl true):=by
 unfold D.eqO
 rw [if_pos (by have:=QmZ bs;omega),show D.eq (bks bs) (bks bs)=some true from Qcz QmW bs];rfl
theorem QsO (bs:List Bk):D.neO (bks bs) (bks bs)=some (.bl false):=by
 unfold D.neO
 rw [if_pos (by have:=QmZ bs;omega),show D.eq (bks bs) (bks bs)=some true from Qcz QmW bs];rfl
theorem Qgv (ns:List Int):Few (Jt ns):=Qh3 (Qaf ns _ _ _) (Qcg ns) (by decide)
structure Sta where
 p:Int
 l:Int
 u:Int
 f:Int
structure Plc where
 p:Int
 l:Int
 c:Int
def Sta.d (s:Sta):D:=.tup [.int s.p,.int s.l,.int s.u,.int s.f]
def Plc.d (s:Plc):D:=.tup [.int s.p,.int s.l,.int s.c]
def sty (w h:Int) (o li:Bool):D:=.tup [.int w,.int h,.bl o,.bl li]
def Zt (x:Plc×Sta):D:=.tup [x.1.d,x.2.d]
theorem p0 (x:Plc×Sta):D.ix (Zt x) (.int 0)=some x.1.d:=rfl
theorem p1 (x:Plc×Sta):D.ix (Zt x) (.int 1)=some x.2.d:=rfl
def QB (w h:Int) (s:Sta) (n r:Int):Plc×Sta :=
 if (s.u=0\/s.u+1+n<=w)/\s.l+s.f+(1+r)<=h then (⟨s.p,s.l,if s.u=0 then 0 else s.u+1⟩,⟨s.p,s.l,(if s.u=0 then 0 else s.u+1)+n,s.f+r⟩)
 else if 0<s.u/\s.l+s.f+(2+r)<=h then (⟨s.p,s.l+1,0⟩,⟨s.p,s.l+1,0+n,s.f+r⟩)
 else (⟨s.p+1,0,0⟩,⟨s.p+1,0,0+n,r⟩)
theorem Qvp (w h:Int) (o li:Bool) (s:Sta) (n:Int):Qbr [sty w h o li,s.d,.int n]=some (.bl (decide (s.u=0\/s.u+1+n<=w))):=by
 unfold Qbr Qdi sty Sta.d
 by_cases h1:s.u=0<;>by_cases h2:s.u+1+n<=w<;>simp [QF,J1,Zw,lI,QA,sD,sQ,sIf,Qj,ZP,Qd,Zu,JY,sNx,Yt,Z2,gS,JN,Zn,eV,eC,eOp,eUn,Q9,QN,eOr,eIf,JO,Qp,Qi,eK,lN,lC,J5,oNo,oAt,ZQ,D.len,D.lt,D.le,D.gt,D.ge,D.add,D.sub,D.ix,D.eqO,D.neO,D.cmp,D.cmpN,D.inst,tyD,D.isT,D.intB,D.min2,D.max2,D.neg,D.addI,Qo,JS,JU,Jv,QM,QS,JR,JQ,Jj,Ju,JV,JW,Jw,Jy,JT,Q7,JL,Za,Qt,Qz,Jd,Q8,Q4,QV,D.rng,D.its,D.itsT,QD,ZI,QH,Jl,JJ,Jm,Jh,ixD,h1,h2]
theorem QnA (w h:Int) (o li:Bool) (s:Sta) (n:Int):YK [sty w h o li,s.d,.int n]=some (.bl (decide (s.l+s.f+n<=h))):=by
 unfold YK QcK sty Sta.d
 simp [QF,J1,Zw,lI,QA,sD,sQ,sIf,Qj,ZP,Qd,Zu,JY,sNx,Yt,Z2,gS,JN,Zn,eV,eC,eOp,eUn,Q9,QN,eOr,eIf,JO,Qp,Qi,eK,lN,lC,J5,oNo,oAt,ZQ,D.len,D.lt,D.le,D.gt,D.ge,D.add,D.sub,D.ix,D.eqO,D.neO,D.cmp,D.cmpN,D.inst,tyD,D.isT,D.intB,D.min2,D.max2,D.neg,D.addI,Qo,JS,JU,Jv,QM,QS,JR,JQ,Jj,Ju,JV,JW,Jw,Jy,JT,Q7,JL,Za,Qt,Qz,Jd,Q8,Q4,QV,D.rng,D.its,D.itsT,QD,ZI,QH,Jl,JJ,Jm,Jh,ixD]
theorem Qha (w h:Int) (o li:Bool) (s:Sta) (n r:Int):QaF [sty w h o li,s.d,.int n,.int r]=some (Zt (QB w h s n r)):=by
 have a1:=Qvp w h o li s n
 have a2:=QnA w h o li s (1+r)
 have a3:=QnA w h o li s (2+r)
 have i0:D.ix s.d (.int 0)=some (.int s.p):=rfl
 have i1:D.ix s.d (.int 1)=some (.int s.l):=rfl
 have i2:D.ix s.d (.int 2)=some (.int s.u):=rfl
 have i3:D.ix s.d (.int 3)=some (.int s.f):=rfl
 have wa:∀ a b c d e:Int,Qal [.int a,.int b,.int c,.int d,.int e]=some (Zt (⟨a,b,c⟩,⟨a,b,c+d,e⟩)):=fun a b c d e=>by
  unfold Qal Qe8 Zt Plc.d Sta.d
  simp [QF,J1,Zw,lI,QA,sD,sQ,sIf,Qj,ZP,Qd,Zu,JY,sNx,Yt,Z2,gS,JN,Zn,eV,eC,eOp,eUn,Q9,QN,eOr,eIf,JO,Qp,Qi,eK,lN,lC,J5,oNo,oAt,ZQ,D.len,D.lt,D.le,D.gt,D.ge,D.add,D.sub,D.ix,D.eqO,D.neO,D.cmp,D.cmpN,D.inst,tyD,D.isT,D.intB,D.min2,D.max2,D.neg,D.addI,Qo,JS,JU,Jv,QM,QS,JR,JQ,Jj,Ju,JV,JW,Jw,Jy,JT,Q7,JL,Za,Qt,Qz,Jd,Q8,Q4,QV,D.rng,D.its,D.itsT,QD,ZI,QH,Jl,JJ,Jm,Jh]
 have eu:D.eqO (.int s.u) (.int 0)=some (.bl (decide (s.u=0))):=by simp [D.eqO,Qt,QD,D.cmp]
 have gu:D.gt (.int s.u) (.int 0)=some (.bl (decide (0<s.u))):=rfl
 unfold QaF Qek QB
 generalize Sta.d s=σ at *
 generalize sty w h o li=S at *
 refine stD rfl ?_
 refine st (e1:=[some S,some σ,some (.int n),some (.int r),some (.int s.p),none,none,none,none]) (asg (opE rfl rfl i0) rfl) ?_
 refine st (e1:=[some S,some σ,some (.int n),some (.int r),some (.int s.p),some (.int s.l),none,none,none]) (asg (opE rfl rfl i1) rfl) ?_
 refine st (e1:=[some S,some σ,some (.int n),some (.int r),some (.int s.p),some (.int s.l),some (.int s.u),none,none]) (asg (opE rfl rfl i2) rfl) ?_
 refine st (e1:=[some S,some σ,some (.int n),some (.int r),some (.int s.p),some (.int s.l),some (.int s.u),some (.int (s.f+r)),none]) (asg (opE (opE rfl rfl i3) rfl rfl) rfl) ?_
 by_cases h1:(s.u=0\/s.u+1+n<=w)/\s.l+s.f+(1+r)<=h
 ·rw [if_pos h1]
  refine stR (ifT (YH (Zs rfl rfl rfl (by rw [a1,decide_eq_true h1.1])) (Zs rfl rfl (opE rfl rfl rfl) (by rw [a2,decide_eq_true h1.2]))) ?_)
  refine st (e1:=[some S,some σ,some (.int n),some (.int r),some (.int s.p),some (.int s.l),some (.int s.u),some (.int (s.f+r)),some (.int (if s.u=0 then 0 else s.u+1))]) ?_ ?_
  ·refine asg ?_ rfl
   unfold eIf
   rw [show eOp D.eqO (eV 6) (eC (.int 0)) [some S,some σ,some (.int n),some (.int r),some (.int s.p),some (.int s.l),some (.int s.u),some (.int (s.f+r)),none]=some (.bl (decide (s.u=0))) from opE rfl rfl eu,Qo]
   by_cases z:s.u=0
   ·rw [decide_eq_true z,if_pos rfl,if_pos z];rfl
   ·rw [decide_eq_false z,if_neg (by decide),if_neg z];rfl
  ·refine ret ?_
   simp only [eK,lC,lN,eV,List.getElem?_cons_zero,List.getElem?_cons_succ,Option.join_some,Option.bind_some,Option.map_some,wa]
 ·rw [if_neg h1]
  refine st (e1:=[some S,some σ,some (.int n),some (.int r),some (.int s.p),some (.int s.l),some (.int s.u),some (.int (s.f+r)),none]) ?_ ?_
  ·refine ifF ?_ rfl
   by_cases z:s.u=0\/s.u+1+n<=w
   ·exact YH (Zs rfl rfl rfl (by rw [a1,decide_eq_true z])) (Zs rfl rfl (opE rfl rfl rfl) (by rw [a2,decide_eq_false fun q=>h1 ⟨z,q⟩]))
   ·exact YT (Zs rfl rfl rfl (by rw [a1,decide_eq_false z]))
  ·by_cases h2:0<s.u/\s.l+s.f+(2+r)<=h
   ·rw [if_pos h2]
    refine stR (ifT (YH (opE rfl rfl (by rw [gu,decide_eq_true h2.1])) (Zs rfl rfl (opE rfl rfl rfl) (by rw [a3,decide_eq_true h2.2]))) (ret ?_))
    simp only [eK,eOp,eC,lC,lN,eV,List.getElem?_cons_zero,List.getElem?_cons_succ,Option.join_some,Option.bind_some,Option.map_some,add_int,wa]
   ·rw [if_neg h2]
    refine st (e1:=[some S,some σ,some (.int n),some (.int r),some (.int s.p),some (.int s.l),some (.int s.u),some (.int (s.f+r)),none]) ?_ ?_
    ·refine ifF ?_ rfl
     by_cases z:0<s.u
     ·exact YH (opE rfl rfl (by rw [gu,decide_eq_true z])) (Zs rfl rfl (opE rfl rfl rfl) (by rw [a3,decide_eq_false fun q=>h2 ⟨z,q⟩]))
     ·exact YT (opE rfl rfl (by rw [gu,decide_eq_false z]))
    ·refine ret ?_
     simp only [eK,eOp,eC,lC,lN,eV,List.getElem?_cons_zero,List.getElem?_cons_succ,Option.join_some,Option.bind_some,Option.map_some,add_int,wa]
def endLine (s:Sta):Sta:=if s.u=0 then s else ⟨s.p,s.l+1,0,s.f⟩
theorem Qhi (s:Sta):QaH [s.d]=some (endLine s).d:=by
 unfold QaH Qeq endLine
 by_cases z:s.u=0<;>simp [QF,J1,Zw,lI,QA,sD,sQ,sIf,Qj,ZP,Qd,Zu,JY,sNx,Yt,Z2,gS,JN,Zn,eV,eC,eOp,eUn,Q9,QN,eOr,eIf,JO,Qp,Qi,eK,lN,lC,J5,oNo,oAt,ZQ,D.len,D.lt,D.le,D.gt,D.ge,D.add,D.sub,D.ix,D.eqO,D.neO,D.cmp,D.cmpN,D.inst,tyD,D.isT,D.intB,D.min2,D.max2,D.neg,D.addI,Qo,JS,JU,Jv,QM,QS,JR,JQ,Jj,Ju,JV,JW,Jw,Jy,JT,Q7,JL,Za,Qt,Qz,Jd,Q8,Q4,QV,D.rng,D.its,D.itsT,QD,ZI,QH,Jl,JJ,Jm,Jh,Sta.d,ixD,z]
def Q6 (p:Int):Sta:=⟨p,0,0,0⟩
theorem Qch (p:Int):Qax [.int p]=some (Q6 p).d:=by
 unfold Qax QjZ
 simp [QF,J1,Zw,lI,QA,sD,sQ,sIf,Qj,ZP,Qd,Zu,JY,sNx,Yt,Z2,gS,JN,Zn,eV,eC,eOp,eUn,Q9,QN,eOr,eIf,JO,Qp,Qi,eK,lN,lC,J5,oNo,oAt,ZQ,D.len,D.lt,D.le,D.gt,D.ge,D.add,D.sub,D.ix,D.eqO,D.neO,D.cmp,D.cmpN,D.inst,tyD,D.isT,D.intB,D.min2,D.max2,D.neg,D.addI,Qo,JS,JU,Jv,QM,QS,JR,JQ,Jj,Ju,JV,JW,Jw,Jy,JT,Q7,JL,Za,Qt,Qz,Jd,Q8,Q4,QV,D.rng,D.its,D.itsT,QD,ZI,QH,Jl,JJ,Jm,Jh,Sta.d,Q6]
def QL (h:Int) (s:Sta) (rows keep:Int):Plc×Sta :=
 let t:=if (endLine s).l+(endLine s).f+(rows+keep)<=h then endLine s else Q6 ((endLine s).p+1)
 (⟨t.p,t.l,0⟩,⟨t.p,t.l+rows,0,t.f⟩)
theorem Qbq (w h:Int) (o li:Bool) (s:Sta) (rows keep:Int):YD [sty w h o li,s.d,.int rows,.int keep]=some (Zt (QL h s rows keep)):=by
 have a1:=Qhi s
 have a2:=QnA w h o li (endLine s) (rows+keep)
 have a3:=Qch ((endLine s).p+1)
 unfold YD Qdf QL
 generalize endLine s=t at *
 generalize Sta.d s=σ at *
 have i0:D.ix t.d (.int 0)=some (.int t.p):=rfl
 generalize sty w h o li=S at *
 refine stD rfl ?_
 refine st (e1:=[some S,some σ,some (.int rows),some (.int keep),some t.d,none]) (asg (QY rfl a1) rfl) ?_
 obtain ⟨t2,e2⟩:∃ t2,(if t.l+t.f+(rows+keep)<=h then t else Q6 (t.p+1))=t2:=⟨_,rfl⟩
 refine st (e1:=[some S,some σ,some (.int rows),some (.int keep),some t2.d,none]) ?_ ?_
 ·by_cases z:t.l+t.f+(rows+keep)<=h
  ·rw [if_pos z] at e2
   subst e2
   exact ifF (QbP (b:=true) (Zs rfl rfl (opE rfl rfl rfl) (by rw [a2,decide_eq_true z]))) rfl
  ·rw [if_neg z] at e2
   subst e2
   exact ifT (QbP (b:=false) (Zs rfl rfl (opE rfl rfl rfl) (by rw [a2,decide_eq_false z]))) (asg (QY (opE (opE rfl rfl i0) rfl rfl) a3) rfl)
 ·simp only [e2]
  simp [QF,J1,Zw,lI,QA,sD,sQ,sIf,Qj,ZP,Qd,Zu,JY,sNx,Yt,Z2,gS,JN,Zn,eV,eC,eOp,eUn,Q9,QN,eOr,eIf,JO,Qp,Qi,eK,lN,lC,J5,oNo,oAt,ZQ,D.len,D.lt,D.le,D.gt,D.ge,D.add,D.sub,D.ix,D.eqO,D.neO,D.cmp,D.cmpN,D.inst,tyD,D.isT,D.intB,D.min2,D.max2,D.neg,D.addI,Qo,JS,JU,Jv,QM,QS,JR,JQ,Jj,Ju,JV,JW,Jw,Jy,JT,Q7,JL,Za,Qt,Qz,Jd,Q8,Q4,QV,D.rng,D.its,D.itsT,QD,ZI,QH,Jl,JJ,Jm,Jh,Sta.d,Plc.d,Zt,ixD]
def QO (s:Sta):Sta:=if s.l=0/\s.u=0/\s.f=0 then s else Q6 (s.p+1)
theorem Qhb (s:Sta):QaG [s.d]=some (QO s).d:=by
 have b0:=Qch s.p
 have b1:=Qch (s.p+1)
 unfold QaG Qel QO
 have i0:D.ix s.d (.int 0)=some (.int s.p):=rfl
 have eq:D.eqO s.d (Q6 s.p).d=some (.bl (decide (s.l=0/\s.u=0/\s.f=0))):=by
  unfold Sta.d Q6
  by_cases h1:s.l=0<;>by_cases h2:s.u=0<;>by_cases h3:s.f=0<;>simp [D.eqO,Jd,QV,Q4,Qt,Jl,Jh,Jm,QD,D.cmp,Qns,h1,h2,h3]
 refine stD rfl ?_
 by_cases z:s.l=0/\s.u=0/\s.f=0
 ·rw [if_pos z]
  exact stR (ifT (opE (x:=s.d) rfl (QY (opE (x:=s.d) rfl rfl i0) b0) (by rw [eq,decide_eq_true z])) (ret rfl))
 ·rw [if_neg z]
  exact st (e1:=[some s.d]) (ifF (opE (x:=s.d) rfl (QY (opE (x:=s.d) rfl rfl i0) b0) (by rw [eq,decide_eq_false z])) rfl) (ret (QY (opE (opE (x:=s.d) rfl rfl i0) rfl rfl) b1))
def Q0 (o:Bool) (s:Sta):Sta:=if o=true/\(QO s).p%2=0 then Q6 ((QO s).p+1) else QO s
theorem Qez (w h:Int) (o li:Bool) (s:Sta):Vf [sty w h o li,s.d]=some (Q0 o s).d:=by
 have a1:=Qhb s
 have b1:=Qch ((QO s).p+1)
 unfold Vf QbV Q0
 generalize QO s=t at *
 have i0:D.ix t.d (.int 0)=some (.int t.p):=rfl
 have io:D.ix (sty w h o li) (.int 2)=some (.bl o):=rfl
 have em:D.eqO (.int (t.p%2)) (.int 0)=some (.bl (decide (t.p%2=0))):=by simp [D.eqO,Qt,QD,D.cmp]
 generalize sty w h o li=S at *
 refine stD rfl ?_
 refine st (e1:=[some S,some s.d,some t.d]) (asg (QY rfl a1) rfl) ?_
 by_cases z:o=true/\t.p%2=0
 ·rw [if_pos z]
  exact stR (ifT (YH (opE rfl rfl (by rw [io,z.1])) (opE (opE (opE (x:=t.d) rfl rfl i0) rfl (ZE _ (by decide))) rfl (by rw [em,decide_eq_true z.2]))) (ret (QY (opE (opE (x:=t.d) rfl rfl i0) rfl rfl) b1)))
 ·rw [if_neg z]
  refine st (e1:=[some S,some s.d,some t.d]) (ifF ?_ rfl) (ret rfl)
  cases o with
  | false=>exact YT (opE rfl rfl io)
  | true=>exact YH (opE rfl rfl io) (opE (opE (opE (x:=t.d) rfl rfl i0) rfl (ZE _ (by decide))) rfl (by rw [em,decide_eq_false fun q=>z ⟨rfl,q⟩]))
def QbD (s:Sta) (n:Int):Plc×Sta:=(⟨(QO s).p,0,0⟩,Q6 ((QO s).p+n))
theorem Qlc (s:Sta) (n:Int):QaL [s.d,.int n]=some (Zt (QbD s n)):=by
 have a1:=Qhb s
 have b1:=Qch ((QO s).p+n)
 unfold QaL QcI QbD
 generalize QO s=t at *
 have i0:D.ix t.d (.int 0)=some (.int t.p):=rfl
 refine stD rfl ?_
 refine st (e1:=[some s.d,some (.int n),some (.int t.p)]) (asg (opE (QY rfl a1) rfl i0) rfl) (ret ?_)
 simp only [Qp,lC,lN,eV,eC,eK,eOp,List.getElem?_cons_zero,List.getElem?_cons_succ,Option.join_some,Option.bind_some,Option.map_some,add_int,b1,Zt,Plc.d]
def QcQ:Bk->Bool
 | .chapter _ _=>true
 | .heading _ _ _=>true
 | _=>false
theorem Qgq (b:Bk):Vl [b.d]=some (.bl (QcQ b)):=by
 unfold Vl Qdh
 cases b<;>simp [QF,J1,Zw,lI,QA,sD,sQ,sIf,Qj,ZP,Qd,Zu,JY,sNx,Yt,Z2,gS,JN,Zn,eV,eC,eOp,eUn,Q9,QN,eOr,eIf,JO,Qp,Qi,eK,lN,lC,J5,oNo,oAt,ZQ,D.len,D.lt,D.le,D.gt,D.ge,D.add,D.sub,D.ix,D.eqO,D.neO,D.cmp,D.cmpN,D.inst,tyD,D.isT,D.intB,D.min2,D.max2,D.neg,D.addI,Qo,JS,JU,Jv,QM,QS,JR,JQ,Jj,Ju,JV,JW,Jw,Jy,JT,Q7,JL,Za,Qt,Qz,Jd,Q8,Q4,QV,D.rng,D.its,D.itsT,QD,ZI,QH,Jl,JJ,Jm,Jh,ixD,D.inO,Zo,inD,QcQ]
theorem Qd0 (i:It):Yc [i.d]=some (.bl (Q2 i)):=by
 unfold Yc QgA
 cases i<;>simp [QF,J1,Zw,lI,QA,sD,sQ,sIf,Qj,ZP,Qd,Zu,JY,sNx,Yt,Z2,gS,JN,Zn,eV,eC,eOp,eUn,Q9,QN,eOr,eIf,JO,Qp,Qi,eK,lN,lC,J5,oNo,oAt,ZQ,D.len,D.lt,D.le,D.gt,D.ge,D.add,D.sub,D.ix,D.eqO,D.neO,D.cmp,D.cmpN,D.inst,tyD,D.isT,D.intB,D.min2,D.max2,D.neg,D.addI,Qo,JS,JU,Jv,QM,QS,JR,JQ,Jj,Ju,JV,JW,Jw,Jy,JT,Q7,JL,Za,Qt,Qz,Jd,Q8,Q4,QV,D.rng,D.its,D.itsT,QD,ZI,QH,Jl,JJ,Jm,Jh,ixD,D.inO,Zo,inD,Q2,ZX,JH]
def QW (xs:List Plc):D:=.lst (xs.map Plc.d)
theorem QoW {xs:List Plc} (x:Plc) (h:xs.length<lI):D.app (QW xs) x.d=some (QW (xs++[x])):=QbC (f:=Plc.d) x h
def QU (w h:Int) (rooms:List Int) (s:List Plc×Nat×Sta):It->List Plc×Nat×Sta
 | .word x ns=>(s.1++[(QB w h s.2.2 x.length ns.length).1],s.2.1,(QB w h s.2.2 x.length ns.length).2)
 | .ref _ a b=>(s.1++[(QB w h s.2.2 ((a.length:Int)+rooms.getD s.2.1 0+b.length) 0).1],s.2.1+1,(QB w h s.2.2 ((a.length:Int)+rooms.getD s.2.1 0+b.length) 0).2)
 | _=>s
def JM (w h:Int) (s:Sta) (rooms:List Int) (is:List It):List Plc×Nat×Sta:=is.foldl (QU w h rooms) ([],0,s)
theorem QcU {α σ:Type} (f:σ->α->σ) (s:σ) (xs:List α) (i:Nat) (hi:i<xs.length):(xs.take (i+1)).foldl f s=f ((xs.take i).foldl f s) xs[i]:=by
 rw [List.take_succ_eq_append_getElem hi,List.foldl_append];rfl
theorem QnO (is:List It) (i:Nat) (hi:i<is.length):(QG (is.take (i+1))).length=(QG (is.take i)).length+(if JH is[i] then 1 else 0):=by
 unfold QG
 rw [List.take_succ_eq_append_getElem hi,List.filter_append,List.map_append,List.length_append]
 congr 1
 cases q:JH is[i]<;>simp [q]
theorem Qjo (is:List It) (i:Nat):(QG (is.take i)).length<=(QG is).length:=by
 unfold QG
 rw [List.length_map,List.length_map]
 exact ((List.take_sublist i is).filter _).length_le
theorem Qfl (w h:Int) (rooms:List Int):∀ (is:List It) (s:List Plc×Nat×Sta),(is.foldl (QU w h rooms) s).1.length<=s.1.length+is.length/\(is.foldl (QU w h rooms) s).2.1=s.2.1+(QG is).length
 | [],s=>⟨Nat.le_refl _,rfl⟩
 | i::is,s=>by
  obtain ⟨h1,h2⟩:=Qfl w h rooms is (QU w h rooms s i)
  rw [List.foldl_cons,List.length_cons]
  unfold QG at h2 ⊢
  cases i<;>simp [QU,List.filter_cons,JH] at h1 h2 ⊢<;>omega
def ItT:It->Prop
 | .word x ns=>x.length<=1000/\ns.length<=1000/\∀ r∈ns,r.length<=1000
 | .ref _ a b=>a.length<=1000/\b.length<=1000
 | _=>True
theorem QlE (w h:Int) (o li:Bool) (s:Sta) (rooms:List Int) (is:List It) (hl:is.length<=100000) (hr:(QG is).length<=rooms.length) (ht:∀ i∈is,ItT i) :
  VZ [.lst (is.map It.d),sty w h o li,s.d,.lst (rooms.map .int)]=some (.tup [QW (JM w h s rooms is).1,(endLine (JM w h s rooms is).2.2).d]):=by
 unfold VZ Qdd
 refine stD rfl ?_
 refine st (e1:=[some (.lst (is.map It.d)),some (sty w h o li),some s.d,some (.lst (rooms.map .int)),some (QW []),none,none,none,none]) rfl ?_
 refine st (e1:=[some (.lst (is.map It.d)),some (sty w h o li),some s.d,some (.lst (rooms.map .int)),some (QW []),some (.int 0),none,none,none]) rfl ?_
 refine V2 It.d is (fun i e=>∃ a b c,e=[some (.lst (is.map It.d)),some (sty w h o li),some ((is.take i).foldl (QU w h rooms) ([],0,s)).2.2.d,some (.lst (rooms.map .int)),some (QW ((is.take i).foldl (QU w h rooms) ([],0,s)).1),some (.int ((is.take i).foldl (QU w h rooms) ([],0,s)).2.1),a,b,c]) rfl ⟨none,none,none,rfl⟩ ?_ ?_
 ·rintro i hi e ⟨a,b,c,rfl⟩
  rw [QcU _ _ _ _ hi]
  have hb:=(Qfl w h rooms (is.take i) ([],0,s))
  have hlt:((is.take i).foldl (QU w h rooms) ([],0,s)).1.length<lI:=Yb (by have:=hb.1;rw [List.length_take] at this;simp at this;omega)
  have h2:=hb.2
  have h3:=QnO is i hi
  have h4:=Qjo is (i+1)
  have hT:=ht is[i] (List.getElem_mem hi)
  have iset:=Qd0 is[i]
  generalize is[i]=x at *
  generalize (is.take i).foldl (QU w h rooms) ([],0,s)=z at *
  obtain ⟨pl,k,t⟩:=z
  simp only [] at hlt h2 ⊢
  simp at h2
  have ap:=fun y=>QoW (xs:=pl) y hlt
  generalize D.lst (is.map It.d)=IS at *
  cases x with
  | word wd ns =>
   refine ⟨_,.inl ?_,some (It.word wd ns).d,b,some (Zt (QB w h t wd.length ns.length)),rfl⟩
   refine bnd (e1:=[some IS,some (sty w h o li),some t.d,some (.lst (rooms.map .int)),some (QW pl),some (.int k),some (It.word wd ns).d,b,c]) rfl ?_
   refine ifT (QY rfl iset) ?_
   have l1:=V9 (x:=wd) (by have:=hT.1;omega)
   have l2:=Qah ns
   have pw:=Qha w h o li t wd.length ns.length
   refine st (e1:=[some IS,some (sty w h o li),some t.d,some (.lst (rooms.map .int)),some (QW pl),some (.int k),some (It.word wd ns).d,b,some (Zt (QB w h t wd.length ns.length))]) ?_ ?_
   ·refine ifF (opE (x:=.str "word") (opE (x:=(It.word wd ns).d) rfl rfl rfl) rfl (by rw [eqS];simp)) ?_
    exact asg (QdW rfl rfl (unE (opE (x:=(It.word wd ns).d) rfl rfl rfl) l1) (unE (opE (x:=(It.word wd ns).d) rfl rfl rfl) l2) pw) rfl
   ·refine st (e1:=[some IS,some (sty w h o li),some t.d,some (.lst (rooms.map .int)),some (QW (pl++[(QB w h t wd.length ns.length).1])),some (.int k),some (It.word wd ns).d,b,some (Zt (QB w h t wd.length ns.length))]) (Qaa rfl (opE (x:=Zt (QB w h t wd.length ns.length)) rfl rfl (p0 _)) (ap _)) ?_
    exact asg (opE (x:=Zt (QB w h t wd.length ns.length)) rfl rfl (p1 _)) rfl
  | ref l x1 x2 =>
   have hk:k<rooms.length:=by
    have e1:JH (It.ref l x1 x2)=true:=rfl
    rw [e1,if_pos rfl] at h3
    omega
   have rx:D.ix (.lst (rooms.map .int)) (.int k)=some (.int (rooms.getD k 0)):=QhP (f:=D.int) rooms k 0 (by omega) (by omega)
   obtain ⟨sz,esz⟩:∃ sz:Int,(x1.length:Int)+rooms.getD k 0+x2.length=sz:=⟨_,rfl⟩
   have pw:=Qha w h o li t sz 0
   have e1:QU w h rooms (pl,k,t) (.ref l x1 x2)=(pl++[(QB w h t sz 0).1],k+1,(QB w h t sz 0).2):=by rw [<- esz];rfl
   rw [e1]
   refine ⟨_,.inl ?_,some (It.ref l x1 x2).d,some (.int sz),some (Zt (QB w h t sz 0)),rfl⟩
   refine bnd (e1:=[some IS,some (sty w h o li),some t.d,some (.lst (rooms.map .int)),some (QW pl),some (.int k),some (It.ref l x1 x2).d,b,c]) rfl ?_
   refine ifT (QY rfl iset) ?_
   have l1:=V9 (x:=x1) (by have:=hT.1;omega)
   have l2:=V9 (x:=x2) (by have:=hT.2;omega)
   refine st (e1:=[some IS,some (sty w h o li),some t.d,some (.lst (rooms.map .int)),some (QW pl),some (.int (k+1:Nat)),some (It.ref l x1 x2).d,some (.int sz),some (Zt (QB w h t sz 0))]) ?_ ?_
   ·refine ifT (opE (x:=.str "ref") (opE (x:=(It.ref l x1 x2).d) rfl rfl rfl) rfl (by rw [eqS];simp)) ?_
    refine st (e1:=[some IS,some (sty w h o li),some t.d,some (.lst (rooms.map .int)),some (QW pl),some (.int k),some (It.ref l x1 x2).d,some (.int sz),c]) (asg (opE (opE (unE (opE (x:=(It.ref l x1 x2).d) rfl rfl rfl) l1) (opE (x:=.lst (rooms.map .int)) rfl rfl rx) rfl) (unE (opE (x:=(It.ref l x1 x2).d) rfl rfl rfl) l2) (by rw [add_int,esz])) rfl) ?_
    refine st (e1:=[some IS,some (sty w h o li),some t.d,some (.lst (rooms.map .int)),some (QW pl),some (.int k),some (It.ref l x1 x2).d,some (.int sz),some (Zt (QB w h t sz 0))]) (asg (QdW rfl rfl rfl rfl pw) rfl) ?_
    rfl
   ·refine st (e1:=[some IS,some (sty w h o li),some t.d,some (.lst (rooms.map .int)),some (QW (pl++[(QB w h t sz 0).1])),some (.int (k+1:Nat)),some (It.ref l x1 x2).d,some (.int sz),some (Zt (QB w h t sz 0))]) (Qaa rfl (opE (x:=Zt (QB w h t sz 0)) rfl rfl (p0 _)) (ap _)) ?_
    exact asg (opE (x:=Zt (QB w h t sz 0)) rfl rfl (p1 _)) rfl
  | mark l=>exact ⟨_,.inl (bnd (e1:=[some IS,some (sty w h o li),some t.d,some (.lst (rooms.map .int)),some (QW pl),some (.int k),some (It.mark l).d,b,c]) rfl (ifF (QY rfl iset) rfl)),some (It.mark l).d,b,c,rfl⟩
  | key l=>exact ⟨_,.inl (bnd (e1:=[some IS,some (sty w h o li),some t.d,some (.lst (rooms.map .int)),some (QW pl),some (.int k),some (It.key l).d,b,c]) rfl (ifF (QY rfl iset) rfl)),some (It.key l).d,b,c,rfl⟩
 ·rintro e ⟨a,b,c,rfl⟩
  rw [List.take_length]
  refine ret ?_
  have:=Qhi (JM w h s rooms is).2.2
  simp only [Qp,lC,lN,eV,eK,List.getElem?_cons_zero,List.getElem?_cons_succ,Option.join_some,Option.bind_some,Option.map_some]
  rw [show (is.foldl (QU w h rooms) ([],0,s)).2.2=(JM w h s rooms is).2.2 from rfl,this]
  rfl
def Jx (h:Int) (s:List Plc×Sta) (b:Bk):List Plc×Sta:=if QcQ b then (s.1++[(QL h s.2 1 0).1],(QL h s.2 1 0).2) else s
def V4 (h:Int) (bs:List Bk):List Plc×Sta:=bs.foldl (Jx h) ([],Q6 1)
def QX (h:Int) (o li:Bool) (bs:List Bk):List Plc×Sta :=
 if li=true then ((V4 h bs).1,if (V4 h bs).1.length > 0 then Q0 o (V4 h bs).2 else (V4 h bs).2) else ([],Q6 1)
theorem Qfn (h:Int):∀ (bs:List Bk) (s:List Plc×Sta),(bs.foldl (Jx h) s).1.length<=s.1.length+bs.length
 | [],s=>Nat.le_refl _
 | b::bs,s=>by
  have:=Qfn h bs (Jx h s b)
  rw [List.foldl_cons,List.length_cons]
  have:(Jx h s b).1.length<=s.1.length+1:=by unfold Jx;split<;>simp
  omega
theorem QsW (xs:List Plc):D.len (QW xs)=some (.int xs.length):=by
 show some (D.int (xs.map Plc.d).length)=_
 rw [List.length_map]
theorem Qin (w h:Int) (o li:Bool) (bs:List Bk) (hl:bs.length<=100000):VO [bks bs,sty w h o li]=some (.tup [QW (QX h o li bs).1,(QX h o li bs).2.d]):=by
 have b1:=Qch 1
 have io:D.ix (sty w h o li) (.int 3)=some (.bl li):=rfl
 unfold VO Qba QX
 refine stD rfl ?_
 refine st (e1:=[some (bks bs),some (sty w h o li),some (QW []),none,none,none]) rfl ?_
 refine st (e1:=[some (bks bs),some (sty w h o li),some (QW []),some (Q6 1).d,none,none]) (asg (QY rfl b1) rfl) ?_
 cases li with
 | false =>
  rw [if_neg (by decide)]
  exact stR (ifT (QbP (b:=false) (opE rfl rfl io)) (ret rfl))
 | true =>
  rw [if_pos rfl]
  refine st (e1:=[some (bks bs),some (sty w h o true),some (QW []),some (Q6 1).d,none,none]) (ifF (QbP (b:=true) (opE rfl rfl io)) rfl) ?_
  refine V2 Bk.d bs (fun i e=>∃ a b,e=[some (bks bs),some (sty w h o true),some (QW ((bs.take i).foldl (Jx h) ([],Q6 1)).1),some ((bs.take i).foldl (Jx h) ([],Q6 1)).2.d,a,b]) rfl ⟨none,none,rfl⟩ ?_ ?_
  ·rintro i hi e ⟨a,b,rfl⟩
   rw [QcU _ _ _ _ hi]
   have hb:=Qfn h (bs.take i) ([],Q6 1)
   have hlt:((bs.take i).foldl (Jx h) ([],Q6 1)).1.length<lI:=Yb (by rw [List.length_take] at hb;simp at hb;omega)
   have it:=Qgq bs[i]
   generalize bs[i]=x at *
   generalize (bs.take i).foldl (Jx h) ([],Q6 1)=z at *
   obtain ⟨pl,t⟩:=z
   simp only [] at hlt ⊢
   have ap:=fun y=>QoW (xs:=pl) y hlt
   have pb:=Qbq w h o true t 1 0
   unfold Jx
   cases q:QcQ x with
   | true =>
    rw [if_pos rfl]
    rw [q] at it
    refine ⟨_,.inl ?_,some x.d,some (Zt (QL h t 1 0)),rfl⟩
    refine bnd (e1:=[some (bks bs),some (sty w h o true),some (QW pl),some t.d,some x.d,b]) rfl (ifT (QY rfl it) ?_)
    refine st (e1:=[some (bks bs),some (sty w h o true),some (QW pl),some t.d,some x.d,some (Zt (QL h t 1 0))]) (asg (QdW rfl rfl rfl rfl pb) rfl) ?_
    refine st (e1:=[some (bks bs),some (sty w h o true),some (QW (pl++[(QL h t 1 0).1])),some t.d,some x.d,some (Zt (QL h t 1 0))]) (Qaa rfl (opE (x:=Zt (QL h t 1 0)) rfl rfl (p0 _)) (ap _)) ?_
    exact asg (opE (x:=Zt (QL h t 1 0)) rfl rfl (p1 _)) rfl
   | false =>
    rw [if_neg (by decide)]
    rw [q] at it
    exact ⟨_,.inl (bnd (e1:=[some (bks bs),some (sty w h o true),some (QW pl),some t.d,some x.d,b]) rfl (ifF (QY rfl it) rfl)),some x.d,b,rfl⟩
  ·rintro e ⟨a,b,rfl⟩
   rw [List.take_length]
   have nc:=Qez w h o true (V4 h bs).2
   have ln:=QsW (V4 h bs).1
   have cf:bs.foldl (Jx h) ([],Q6 1)=V4 h bs:=rfl
   rw [cf]
   generalize V4 h bs=z at *
   obtain ⟨pl,t⟩:=z
   simp only [] at nc ln ⊢
   refine st (e1:=[some (bks bs),some (sty w h o true),some (QW pl),some (if pl.length > 0 then Q0 o t else t).d,a,b]) ?_ (ret rfl)
   by_cases z:pl.length > 0
   ·rw [if_pos z]
    exact ifT (opE (unE (x:=QW pl) rfl ln) rfl (by show some (D.bl (decide ((0:Int)<pl.length)))=_;rw [decide_eq_true (by omega)])) (asg (J6 rfl rfl nc) rfl)
   ·rw [if_neg z]
    exact ifF (opE (unE (x:=QW pl) rfl ln) rfl (by show some (D.bl (decide ((0:Int)<pl.length)))=_;rw [decide_eq_false (by omega)])) rfl
def QT (h:Int) (o:Bool) (s:Sta):Bk->Plc×Sta
 | .plates n _=>QbD s n
 | .table rs _=>QL h s rs.length 0
 | .heading _ k _=>QL h s 1 k
 | _=>QL h (Q0 o s) 1 0
theorem QlF (w h:Int) (o li:Bool) (s:Sta) (b:Bk) (hb:Qbx b=false):V0 [b.d,sty w h o li,s.d]=some (Zt (QT h o s b)):=by
 unfold V0 Qde
 cases b with
 | para is=>cases hb
 | plates n l =>
  have pp:=Qlc s n
  exact stD rfl (stR (ifT (opE (x:=.str "plates") (opE (x:=(Bk.plates n l).d) rfl rfl rfl) rfl (by rw [eqS];simp)) (ret (J6 rfl (opE (x:=(Bk.plates n l).d) rfl rfl rfl) pp))))
 | table rs l =>
  have pb:=Qbq w h o li s rs.length 0
  refine stD rfl ?_
  refine st (e1:=[some (Bk.table rs l).d,some (sty w h o li),some s.d]) (ifF (opE (x:=.str "table") (opE (x:=(Bk.table rs l).d) rfl rfl rfl) rfl (by rw [eqS];simp)) rfl) ?_
  exact stR (ifT (opE (x:=.str "table") (opE (x:=(Bk.table rs l).d) rfl rfl rfl) rfl (by rw [eqS];simp)) (ret (QdW rfl rfl (unE (opE (x:=(Bk.table rs l).d) rfl rfl rfl) (Qah rs)) rfl pb)))
 | heading t k l =>
  have pb:=Qbq w h o li s 1 k
  refine stD rfl ?_
  refine st (e1:=[some (Bk.heading t k l).d,some (sty w h o li),some s.d]) (ifF (opE (x:=.str "heading") (opE (x:=(Bk.heading t k l).d) rfl rfl rfl) rfl (by rw [eqS];simp)) rfl) ?_
  refine st (e1:=[some (Bk.heading t k l).d,some (sty w h o li),some s.d]) (ifF (opE (x:=.str "heading") (opE (x:=(Bk.heading t k l).d) rfl rfl rfl) rfl (by rw [eqS];simp)) rfl) ?_
  exact stR (ifT (opE (x:=.str "heading") (opE (x:=(Bk.heading t k l).d) rfl rfl rfl) rfl (by rw [eqS];simp)) (ret (QdW rfl rfl rfl (opE (x:=(Bk.heading t k l).d) rfl rfl rfl) pb)))
 | chapter t l =>
  have nc:=Qez w h o li s
  have pb:=Qbq w h o li (Q0 o s) 1 0
  refine stD rfl ?_
  refine st (e1:=[some (Bk.chapter t l).d,some (sty w h o li),some s.d]) (ifF (opE (x:=.str "chapter") (opE (x:=(Bk.chapter t l).d) rfl rfl rfl) rfl (by rw [eqS];simp)) rfl) ?_
  refine st (e1:=[some (Bk.chapter t l).d,some (sty w h o li),some s.d]) (ifF (opE (x:=.str "chapter") (opE (x:=(Bk.chapter t l).d) rfl rfl rfl) rfl (by rw [eqS];simp)) rfl) ?_
  refine st (e1:=[some (Bk.chapter t l).d,some (sty w h o li),some s.d]) (ifF (opE (x:=.str "chapter") (opE (x:=(Bk.chapter t l).d) rfl rfl rfl) rfl (by rw [eqS];simp)) rfl) ?_
  exact ret (QdW rfl (J6 rfl rfl nc) rfl rfl pb)
def Qy (w h:Int) (o:Bool) (rooms:List Int) (s:List (List Plc)×Sta×Nat) (b:Bk):List (List Plc)×Sta×Nat:=match b with
 | .para is=>(s.1++[(JM w h s.2.1 (rooms.drop s.2.2) is).1],endLine (JM w h s.2.1 (rooms.drop s.2.2) is).2.2,s.2.2+(QG is).length)
 | b=>(s.1++[[(QT h o s.2.1 b).1]],(QT h o s.2.1 b).2,s.2.2)
def QaU (w h:Int) (o li:Bool) (rooms:List Int) (bs:List Bk):List (List Plc)×Sta×Nat:=bs.foldl (Qy w h o rooms) ([(QX h o li bs).1],(QX h o li bs).2,0)
theorem Qfo (w h:Int) (o:Bool) (rooms:List Int):∀ (bs:List Bk) (s:List (List Plc)×Sta×Nat),(bs.foldl (Qy w h o rooms) s).1.length=s.1.length+bs.length/\(bs.foldl (Qy w h o rooms) s).2.2=s.2.2+(rO bs).length
 | [],s=>⟨rfl,rfl⟩
 | b::bs,s=>by
  obtain ⟨h1,h2⟩:=Qfo w h o rooms bs (Qy w h o rooms s b)
  rw [List.foldl_cons,List.length_cons,h1,h2]
  have e:(rO (b::bs)).length=(QG (iO b)).length+(rO bs).length:=by unfold rO;rw [List.flatMap_cons,List.length_append]
  rw [e]
  cases b<;>simp [Qy,iO,QG]<;>omega
def ZD (xs:List (List Plc)):D:=.lst (xs.map QW)
theorem Qtr {xs:List (List Plc)} (x:List Plc) (h:xs.length<lI):D.app (ZD xs) (QW x)=some (ZD (xs++[x])):=QbC (f:=QW) x h
theorem QrG (xs:List Int) (k:Nat) (h:k<=xs.length):Zw (.lst (xs.map .int)) (some (k:Int)) none=some (.lst ((xs.drop k).map .int)):=by
 show some (D.lst (ZY (xs.map D.int) (some (k:Int)) none))=_
 congr 1
 unfold ZY Ys
 simp only []
 rw [if_neg (by omega),List.length_map,show min (k:Int).toNat xs.length=k from by omega,List.map_drop,List.take_of_length_le (by rw [List.length_drop,List.length_map];omega)]
def BkT (b:Bk):Prop:=∀ i∈iO b,ItT i
theorem QmS {bs:List Bk} (hf:Few bs) (b:Bk) (hb:b∈bs):Few [b]:=⟨by simp,by have:=Yv hf b hb;simpa using this⟩
theorem Qg9 (b:Bk):rO [b]=QG (iO b):=by unfold rO;simp
theorem QnG (w h:Int) (o li:Bool) (rooms:List Int) (bs:List Bk) (hf:Few bs) (hr:(rO bs).length<=rooms.length) (ht:∀ b∈bs,BkT b) :
  VM [bks bs,sty w h o li,.lst (rooms.map .int)]=some (ZD (QaU w h o li rooms bs).1):=by
 have sc:=Qin w h o li bs hf.1
 unfold VM Qej QaU
 generalize QX h o li bs=c0 at *
 obtain ⟨pl0,s0⟩:=c0
 simp only [] at sc ⊢
 refine stD rfl ?_
 refine st (e1:=[some (bks bs),some (sty w h o li),some (.lst (rooms.map .int)),some (.tup [QW pl0,s0.d]),none,none,none,none]) (asg (J6 rfl rfl sc) rfl) ?_
 refine st (e1:=[some (bks bs),some (sty w h o li),some (.lst (rooms.map .int)),some (.tup [QW pl0,s0.d]),some (ZD [pl0]),none,none,none]) rfl ?_
 refine st (e1:=[some (bks bs),some (sty w h o li),some (.lst (rooms.map .int)),some (.tup [QW pl0,s0.d]),some (ZD [pl0]),some s0.d,none,none]) rfl ?_
 refine st (e1:=[some (bks bs),some (sty w h o li),some (.lst (rooms.map .int)),some (.tup [QW pl0,s0.d]),some (ZD [pl0]),some s0.d,some (.int 0),none]) rfl ?_
 refine V2 Bk.d bs (fun i e=>∃ a b,e=[some (bks bs),some (sty w h o li),some (.lst (rooms.map .int)),a,some (ZD ((bs.take i).foldl (Qy w h o rooms) ([pl0],s0,0)).1),some ((bs.take i).foldl (Qy w h o rooms) ([pl0],s0,0)).2.1.d,some (.int ((bs.take i).foldl (Qy w h o rooms) ([pl0],s0,0)).2.2),b]) rfl ⟨_,none,rfl⟩ ?_ ?_
 ·rintro i hi e ⟨a,b,rfl⟩
  rw [QcU _ _ _ _ hi]
  have hb:=Qfo w h o rooms (bs.take i) ([pl0],s0,0)
  have h1:=hb.1
  have h2:=hb.2
  rw [List.length_take] at h1
  simp at h1 h2
  have hlt:((bs.take i).foldl (Qy w h o rooms) ([pl0],s0,0)).1.length<lI:=Yb (by have:=hf.1;omega)
  have t1:rO (bs.take (i+1))=rO (bs.take i)++QG (iO bs[i]):=fT _ bs i hi
  have t3:(rO (bs.take (i+1))).length<=(rO bs).length:=Yh (fun b=>QG (iO b)) bs (i+1)
  rw [t1,List.length_append] at t3
  have hil:=Yv hf bs[i] (List.getElem_mem hi)
  have hT:=ht bs[i] (List.getElem_mem hi)
  have f1:=QmS hf bs[i] (List.getElem_mem hi)
  generalize bs[i]=x at *
  generalize (bs.take i).foldl (Qy w h o rooms) ([pl0],s0,0)=z at *
  obtain ⟨tl,s,k⟩:=z
  simp only [] at h1 h2 hlt ⊢
  have ap:=fun y=>Qtr (xs:=tl) y hlt
  generalize bks bs=BS at *
  have rest:Qbx x=false->∃ e',((gS 7 x.d [some BS,some (sty w h o li),some (.lst (rooms.map .int)),a,some (ZD tl),some s.d,some (.int k),b]).bind (sQ (sIf (eOp D.eqO (eOp D.ix (eV 7) (eC (.int 0))) (eC (.str "para"))) (sQ (Qd (eK VZ (lC (eOp D.ix (eV 7) (eC (.int 1))) (lC (eV 1) (lC (eV 5) (lC (J1 (eV 2) (oAt (eV 6)) (oNo)) lN))))) (gS 3)) (sQ (sP 4 (eOp D.ix (eV 3) (eC (.int 0)))) (Zu 6 D.addI (eUn D.len (eK ZU (lC (Qi (lC (eV 7) lN)) lN)))))) (sQ (Qd (eK V0 (lC (eV 7) (lC (eV 1) (lC (eV 5) lN)))) (gS 3)) (sP 4 (Qi (lC (eOp D.ix (eV 3) (eC (.int 0))) lN))))) (Qd (eOp D.ix (eV 3) (eC (.int 1))) (gS 5)))=some (.nx e')) /\
    ∃ a b,e'=[some BS,some (sty w h o li),some (.lst (rooms.map .int)),a,some (ZD (tl++[[(QT h o s x).1]])),some (QT h o s x).2.d,some (.int k),b]:=by
   intro hp
   have sb:=QlF w h o li s x hp
   have tg:=QqE x
   rw [hp] at tg
   refine ⟨_,bnd (e1:=[some BS,some (sty w h o li),some (.lst (rooms.map .int)),a,some (ZD tl),some s.d,some (.int k),some x.d]) rfl ?_,some (Zt (QT h o s x)),some x.d,rfl⟩
   refine st (e1:=[some BS,some (sty w h o li),some (.lst (rooms.map .int)),some (Zt (QT h o s x)),some (ZD (tl++[[(QT h o s x).1]])),some s.d,some (.int k),some x.d]) ?_ (asg (opE (x:=Zt (QT h o s x)) rfl rfl (p1 _)) rfl)
   refine ifF (opE (x:=.str (Qf7 x)) (opE (x:=x.d) rfl rfl (QoK x)) rfl (by rw [eqS,tg])) ?_
   refine st (e1:=[some BS,some (sty w h o li),some (.lst (rooms.map .int)),some (Zt (QT h o s x)),some (ZD tl),some s.d,some (.int k),some x.d]) (asg (Zs rfl rfl rfl sb) rfl) ?_
   exact Qaa rfl (d:=QW [(QT h o s x).1]) rfl (ap _)
  cases x with
  | para is =>
   have hk:k<=rooms.length:=by omega
   have hr2:(QG is).length<=(rooms.drop k).length:=by rw [List.length_drop];have:(QG (iO (.para is))).length=(QG is).length:=rfl;omega
   have si:=QlE w h o li s (rooms.drop k) is hil hr2 hT
   have rf:=QfB [.para is] f1
   rw [Qg9] at rf
   have cu:=QrG rooms k hk
   generalize hz:JM w h s (rooms.drop k) is=z at *
   have e1:Qy w h o rooms (tl,s,k) (.para is)=(tl++[z.1],endLine z.2.2,k+(QG is).length):=by show (tl++[(JM w h s (rooms.drop k) is).1],_,_)=_;rw [hz]
   rw [e1]
   refine ⟨_,.inl ?_,some (.tup [QW z.1,(endLine z.2.2).d]),some (Bk.para is).d,rfl⟩
   refine bnd (e1:=[some BS,some (sty w h o li),some (.lst (rooms.map .int)),a,some (ZD tl),some s.d,some (.int k),some (Bk.para is).d]) rfl ?_
   refine st (e1:=[some BS,some (sty w h o li),some (.lst (rooms.map .int)),some (.tup [QW z.1,(endLine z.2.2).d]),some (ZD (tl++[z.1])),some s.d,some (.int (k+(QG is).length:Nat)),some (Bk.para is).d]) ?_ rfl
   refine ifT (opE (x:=.str "para") (opE (x:=(Bk.para is).d) rfl rfl rfl) rfl (by rw [eqS];simp)) ?_
   refine st (e1:=[some BS,some (sty w h o li),some (.lst (rooms.map .int)),some (.tup [QW z.1,(endLine z.2.2).d]),some (ZD tl),some s.d,some (.int k),some (Bk.para is).d]) (asg (QdW (opE (x:=(Bk.para is).d) rfl rfl rfl) rfl rfl (by show Zw (.lst (rooms.map .int)) (some (k:Int)) none=_;exact cu) si) rfl) ?_
   refine st (e1:=[some BS,some (sty w h o li),some (.lst (rooms.map .int)),some (.tup [QW z.1,(endLine z.2.2).d]),some (ZD (tl++[z.1])),some s.d,some (.int k),some (Bk.para is).d]) (Qaa rfl (d:=QW z.1) rfl (ap _)) ?_
   have ln:=Qah (QG is)
   have rf':ZU [.lst [(Bk.para is).d]]=some (QE (QG is)):=rf
   have hA:eUn D.len (eK ZU (lC (Qi (lC (eV 7) lN)) lN)) [some BS,some (sty w h o li),some (.lst (rooms.map .int)),some (.tup [QW z.1,(endLine z.2.2).d]),some (ZD (tl++[z.1])),some s.d,some (.int k),some (Bk.para is).d]=some (.int (QG is).length):=unE (QY (x:=.lst [(Bk.para is).d]) rfl rf') ln
   unfold Zu
   rw [hA]
   rfl
  | chapter t l =>
   obtain ⟨e',h5,h6⟩:=rest rfl
   exact ⟨e',.inl h5,h6⟩
  | heading t n l =>
   obtain ⟨e',h5,h6⟩:=rest rfl
   exact ⟨e',.inl h5,h6⟩
  | table rs l =>
   obtain ⟨e',h5,h6⟩:=rest rfl
   exact ⟨e',.inl h5,h6⟩
  | plates n l =>
   obtain ⟨e',h5,h6⟩:=rest rfl
   exact ⟨e',.inl h5,h6⟩
 ·rintro e ⟨a,b,rfl⟩
  rw [List.take_length]
  exact ret rfl
theorem Qe5 (w h:Int) (s:Sta) (n r:Int):s.p<=(QB w h s n r).1.p/\(QB w h s n r).2.p=(QB w h s n r).1.p/\(QB w h s n r).1.p<=s.p+1:=by
 unfold QB
 split
 ·exact ⟨Int.le_refl _,rfl,by show s.p<=s.p+1;omega⟩
 ·split
  ·exact ⟨Int.le_refl _,rfl,by show s.p<=s.p+1;omega⟩
  ·exact ⟨by show s.p<=s.p+1;omega,rfl,Int.le_refl _⟩
theorem QiY (s:Sta):(endLine s).p=s.p:=by unfold endLine;split<;>rfl
theorem Qb7 (h:Int) (s:Sta) (a b:Int):s.p<=(QL h s a b).1.p/\(QL h s a b).2.p=(QL h s a b).1.p/\(QL h s a b).1.p<=s.p+1:=by
 have e:=QiY s
 unfold QL
 refine ⟨?_,rfl,?_⟩
 ·show s.p<=(if _ then _ else _:Sta).p
  split
  ·omega
  ·show s.p<=(endLine s).p+1;omega
 ·show (if _ then _ else _:Sta).p<=s.p+1
  split
  ·omega
  ·show (endLine s).p+1<=s.p+1;omega
theorem QiJ (s:Sta):s.p<=(QO s).p/\(QO s).p<=s.p+1/\(QO s).l=0/\(QO s).u=0/\(QO s).f=0:=by
 unfold QO
 split
 ·rename_i z;exact ⟨Int.le_refl _,by omega,z⟩
 ·exact ⟨by show s.p<=s.p+1;omega,Int.le_refl _,rfl,rfl,rfl⟩
theorem QcH (o:Bool) (s:Sta):s.p<=(Q0 o s).p/\(Q0 o s).p<=s.p+2/\(Q0 o s).l=0/\(Q0 o s).u=0/\(Q0 o s).f=0:=by
 obtain ⟨h1,h2,h3⟩:=QiJ s
 unfold Q0
 split
 ·exact ⟨by show s.p<=(QO s).p+1;omega,by show (QO s).p+1<=s.p+2;omega,rfl,rfl,rfl⟩
 ·exact ⟨h1,by omega,h3⟩
theorem Qjp (h:Int) (s:Sta) (hh:1<=h) (z:s.l=0/\s.u=0/\s.f=0):(QL h s 1 0).1.p=s.p:=by
 have e:endLine s=s:=by unfold endLine;rw [if_pos z.2.1]
 unfold QL
 rw [e]
 show (if s.l+s.f+(1+0)<=h then s else _:Sta).p=s.p
 rw [if_pos (by rw [z.1,z.2.2];omega)]
def QdS:Bk->Int
 | .plates n _=>2+n
 | .para is=>2+2*((is.filter Q2).length:Int)
 | _=>2
theorem QnH (h:Int) (o:Bool) (s:Sta) (b:Bk) (hh:1<=h) (hp:Qbx b=false) (hn:∀ n l,b=.plates n l->1<=n):s.p<=(QT h o s b).1.p/\(QT h o s b).1.p<=(QT h o s b).2.p/\(QT h o s b).2.p<=s.p+QdS b:=by
 cases b with
 | para is=>cases hp
 | plates n l =>
  have h1:=QiJ s
  have h2:=hn n l rfl
  refine ⟨h1.1,?_,?_⟩
  ·show (QO s).p<=(QO s).p+n;omega
  ·show (QO s).p+n<=s.p+(2+n);omega
 | table rs l =>
  obtain ⟨a,b,c⟩:=Qb7 h s rs.length 0
  exact ⟨a,Int.le_of_eq b.symm,by show (QL h s rs.length 0).2.p<=s.p+2;omega⟩
 | heading t k l =>
  obtain ⟨a,b,c⟩:=Qb7 h s 1 k
  exact ⟨a,Int.le_of_eq b.symm,by show (QL h s 1 k).2.p<=s.p+2;omega⟩
 | chapter t l =>
  have h1:=QcH o s
  have h2:=Qjp h (Q0 o s) hh h1.2.2
  obtain ⟨a,b,c⟩:=Qb7 h (Q0 o s) 1 0
  refine ⟨?_,Int.le_of_eq b.symm,?_⟩
  ·show s.p<=(QL h (Q0 o s) 1 0).1.p;omega
  ·show (QL h (Q0 o s) 1 0).2.p<=s.p+2;omega
def Jq (is:List It):Nat:=(is.filter Q2).length
theorem QcT (i:It) (is:List It):Jq (i::is)=(if Q2 i then 1 else 0)+Jq is:=by
 unfold Jq
 rw [List.filter_cons]
 split<;>simp<;>omega
theorem QmN (w h:Int) (rooms:List Int) (lo:Int):∀ (is:List It) (s:List Plc×Nat×Sta),(∀ x∈s.1,lo<=x.p/\x.p<=s.2.2.p)->lo<=s.2.2.p ->
  let r:=is.foldl (QU w h rooms) s
  (∀ x∈r.1,lo<=x.p/\x.p<=r.2.2.p)/\s.2.2.p<=r.2.2.p/\r.2.2.p<=s.2.2.p+Jq is/\r.1.length=s.1.length+Jq is
 | [],s,h1,h2=>⟨h1,Int.le_refl _,by simp [Jq],by simp [Jq]⟩
 | i::is,s,h1,h2=>by
  have key:(∀ x∈(QU w h rooms s i).1,lo<=x.p/\x.p<=(QU w h rooms s i).2.2.p)/\s.2.2.p<=(QU w h rooms s i).2.2.p/\(QU w h rooms s i).2.2.p<=s.2.2.p+(if Q2 i then 1 else 0:Nat)/\(QU w h rooms s i).1.length=s.1.length+(if Q2 i then 1 else 0:Nat):=by
   have wd:∀ n r,(∀ x∈s.1++[(QB w h s.2.2 n r).1],lo<=x.p/\x.p<=(QB w h s.2.2 n r).2.p):=fun n r x hx=>by
    obtain ⟨a,b,c⟩:=Qe5 w h s.2.2 n r
    rcases List.mem_append.mp hx with z | z
    ·have:=h1 x z;omega
    ·rw [List.mem_singleton.mp z];omega
   cases i with
   | word x ns =>
    obtain ⟨a,b,c⟩:=Qe5 w h s.2.2 x.length ns.length
    refine ⟨wd _ _,?_,?_,by simp [QU,Q2,ZX]⟩
    ·show s.2.2.p<=(QB w h s.2.2 x.length ns.length).2.p;omega
    ·show (QB w h s.2.2 x.length ns.length).2.p<=s.2.2.p+1;omega
   | ref l x y =>
    obtain ⟨a,b,c⟩:=Qe5 w h s.2.2 ((x.length:Int)+rooms.getD s.2.1 0+y.length) 0
    refine ⟨wd _ _,?_,?_,by simp [QU,Q2,ZX,JH]⟩
    ·show s.2.2.p<=(QB w h s.2.2 _ 0).2.p;omega
    ·show (QB w h s.2.2 _ 0).2.p<=s.2.2.p+1;omega
   | mark l=>exact ⟨h1,Int.le_refl _,by show s.2.2.p<=s.2.2.p+0;omega,by simp [QU,Q2,ZX,JH]⟩
   | key l=>exact ⟨h1,Int.le_refl _,by show s.2.2.p<=s.2.2.p+0;omega,by simp [QU,Q2,ZX,JH]⟩
  obtain ⟨k1,k2,k3,k4⟩:=key
  obtain ⟨r1,r2,r3,r4⟩:=QmN w h rooms lo is (QU w h rooms s i) k1 (by omega)
  refine ⟨r1,Int.le_trans k2 r2,?_,?_⟩
  ·have:=QcT i is
   show (is.foldl (QU w h rooms) (QU w h rooms s i)).2.2.p<=_
   rw [this]
   omega
  ·have:=QcT i is
   show (is.foldl (QU w h rooms) (QU w h rooms s i)).1.length=_
   rw [this,r4,k4]
   omega
def nPl:Bk->Nat
 | .para is=>Jq is
 | _=>1
def Qa2 (b:Bk):Prop:=∀ n l,b=.plates n l->1<=n
theorem QoV (w h:Int) (o:Bool) (rooms:List Int) (hh:1<=h):∀ (bs:List Bk) (s:List (List Plc)×Sta×Nat),(∀ b∈bs,Qa2 b) ->
  let r:=bs.foldl (Qy w h o rooms) s
  s.2.1.p<=r.2.1.p/\r.2.1.p<=s.2.1.p+(bs.map QdS).sum/\∃ rows,r.1=s.1++rows/\rows.length=bs.length/\∀ q∈bs.zip rows,q.2.length=nPl q.1/\∀ x∈q.2,s.2.1.p<=x.p/\x.p<=r.2.1.p
 | [],s,_=>⟨Int.le_refl _,by simp,[],by simp,rfl,by simp⟩
 | b::bs,s,hb=>by
  have hbp:=hb b List.mem_cons_self
  have key:∃ row,(Qy w h o rooms s b).1=s.1++[row]/\row.length=nPl b/\(∀ x∈row,s.2.1.p<=x.p/\x.p<=(Qy w h o rooms s b).2.1.p)/\s.2.1.p<=(Qy w h o rooms s b).2.1.p/\(Qy w h o rooms s b).2.1.p<=s.2.1.p+QdS b:=by
   have other:Qbx b=false->Qy w h o rooms s b=(s.1++[[(QT h o s.2.1 b).1]],(QT h o s.2.1 b).2,s.2.2)->nPl b=1->∃ row,(Qy w h o rooms s b).1=s.1++[row]/\row.length=nPl b/\(∀ x∈row,s.2.1.p<=x.p/\x.p<=(Qy w h o rooms s b).2.1.p)/\s.2.1.p<=(Qy w h o rooms s b).2.1.p/\(Qy w h o rooms s b).2.1.p<=s.2.1.p+QdS b:=by
    intro hp e hn
    obtain ⟨a1,a2,a3⟩:=QnH h o s.2.1 b hh hp hbp
    rw [e]
    refine ⟨[(QT h o s.2.1 b).1],rfl,by rw [hn];rfl,fun x hx=>?_,?_,a3⟩
    ·rw [List.mem_singleton.mp hx];exact ⟨a1,a2⟩
    ·show s.2.1.p<=(QT h o s.2.1 b).2.p;omega
   cases b with
   | para is =>
    obtain ⟨a1,a2,a3,a4⟩:=QmN w h (rooms.drop s.2.2) s.2.1.p is ([],0,s.2.1) (by simp) (Int.le_refl _)
    have e:=QiY (JM w h s.2.1 (rooms.drop s.2.2) is).2.2
    refine ⟨(JM w h s.2.1 (rooms.drop s.2.2) is).1,rfl,by unfold nPl JM;simpa using a4,fun x hx=>?_,?_,?_⟩
    ·show _/\x.p<=(endLine (JM w h s.2.1 (rooms.drop s.2.2) is).2.2).p
     rw [e];exact a1 x hx
    ·show _<=(endLine (JM w h s.2.1 (rooms.drop s.2.2) is).2.2).p
     rw [e];exact a2
    ·show (endLine (JM w h s.2.1 (rooms.drop s.2.2) is).2.2).p<=s.2.1.p+(2+2*((is.filter Q2).length:Int))
     rw [e]
     have a3':(JM w h s.2.1 (rooms.drop s.2.2) is).2.2.p<=s.2.1.p+(Jq is:Int):=a3
     have:Jq is=(is.filter Q2).length:=rfl
     omega
   | chapter t l=>exact other rfl rfl rfl
   | heading t k l=>exact other rfl rfl rfl
   | table rs l=>exact other rfl rfl rfl
   | plates n l=>exact other rfl rfl rfl
  obtain ⟨row,k1,k2,k3,k4,k5⟩:=key
  obtain ⟨r1,r2,rows,r3,r4,r5⟩:=QoV w h o rooms hh bs (Qy w h o rooms s b) (fun x hx=>hb x (List.mem_cons_of_mem _ hx))
  refine ⟨Int.le_trans k4 r1,?_,row::rows,?_,by simp [r4],?_⟩
  ·rw [List.map_cons,List.sum_cons]
   show (bs.foldl (Qy w h o rooms) (Qy w h o rooms s b)).2.1.p<=_
   omega
  ·show (bs.foldl (Qy w h o rooms) (Qy w h o rooms s b)).1=_
   rw [r3,k1];simp
  ·intro q hq
   rw [List.zip_cons_cons] at hq
   rcases List.mem_cons.mp hq with z | z
   ·rw [z]
    refine ⟨k2,fun x hx=>?_⟩
    have:=k3 x hx
    exact ⟨this.1,Int.le_trans this.2 r1⟩
   ·obtain ⟨a,b'⟩:=r5 q z
    exact ⟨a,fun x hx=>⟨Int.le_trans k4 (b' x hx).1,(b' x hx).2⟩⟩
def V5 (li:Bool) (b:Bk):Int:=if li=true/\QcQ b=true then 2 else 0
theorem QoT (h:Int):∀ (bs:List Bk) (s:List Plc×Sta),s.2.p<=(bs.foldl (Jx h) s).2.p/\(bs.foldl (Jx h) s).2.p+((bs.foldl (Jx h) s).1.length:Int)<=s.2.p+(s.1.length:Int)+(bs.map (V5 true)).sum
 | [],s=>⟨Int.le_refl _,by simp⟩
 | b::bs,s=>by
  obtain ⟨h1,h2⟩:=QoT h bs (Jx h s b)
  rw [List.foldl_cons,List.map_cons,List.sum_cons]
  have key:s.2.p<=(Jx h s b).2.p/\(Jx h s b).2.p+((Jx h s b).1.length:Int)<=s.2.p+(s.1.length:Int)+V5 true b:=by
   unfold Jx V5
   cases q:QcQ b with
   | true =>
    obtain ⟨a,b',c⟩:=Qb7 h s.2 1 0
    simp
    omega
   | false=>simp
  omega
theorem Qol (h:Int) (o li:Bool) (bs:List Bk):1<=(QX h o li bs).2.p/\(QX h o li bs).2.p<=3+(bs.map (V5 li)).sum:=by
 have nn:0<=(bs.map (V5 li)).sum:=by
  induction bs with
  | nil=>simp
  | cons b bs ih =>
   rw [List.map_cons,List.sum_cons]
   have:0<=V5 li b:=by unfold V5;split<;>omega
   omega
 unfold QX
 cases li with
 | false=>rw [if_neg (by decide)];exact ⟨by decide,by show (1:Int)<=_;omega⟩
 | true =>
  rw [if_pos rfl]
  obtain ⟨h1,h2⟩:=QoT h bs ([],Q6 1)
  have h1':(1:Int)<=(V4 h bs).2.p:=h1
  have h2':(V4 h bs).2.p+((V4 h bs).1.length:Int)<=1+0+(bs.map (V5 true)).sum:=h2
  show 1<=(if _ then _ else _:Sta).p/\(if _ then _ else _:Sta).p<=_
  split
  ·have:=QcH o (V4 h bs).2
   omega
  ·omega
theorem Vz {f:Bk->Int}:∀ (bs:List Bk) (s:Int),bs.foldl (fun s b=>s+f b) s=s+(bs.map f).sum
 | [],s=>by simp
 | b::bs,s=>by rw [List.foldl_cons,Vz bs,List.map_cons,List.sum_cons];omega
theorem QsQ (li:Bool) (bs:List Bk):most li bs=3+(bs.map (V5 li)).sum+(bs.map QdS).sum:=by
 unfold most
 rw [Vz]
 have:(bs.map (Ji li)).sum=(bs.map (V5 li)).sum+(bs.map QdS).sum:=by
  induction bs with
  | nil=>rfl
  | cons b bs ih =>
   simp only [List.map_cons,List.sum_cons,ih]
   have:Ji li b=V5 li b+QdS b:=by
    cases b<;>cases li<;>simp [Ji,V5,QdS,QcQ]
   omega
 omega
theorem Qo5 (w h:Int) (o li:Bool) (rooms:List Int) (bs:List Bk) (hh:1<=h) (hp:∀ b∈bs,Qa2 b):∃ c rows,(QaU w h o li rooms bs).1=c::rows/\rows.length=bs.length/\∀ q∈bs.zip rows,q.2.length=nPl q.1/\∀ x∈q.2,1<=x.p/\x.p<=most li bs:=by
 obtain ⟨c1,c2⟩:=Qol h o li bs
 obtain ⟨r1,r2,rows,r3,r4,r5⟩:=QoV w h o rooms hh bs ([(QX h o li bs).1],(QX h o li bs).2,0) hp
 have me:=QsQ li bs
 refine ⟨(QX h o li bs).1,rows,r3,r4,fun q hq=>?_⟩
 obtain ⟨a,b⟩:=r5 q hq
 refine ⟨a,fun x hx=>?_⟩
 obtain ⟨b1,b2⟩:=b x hx
 have r2':(bs.foldl (Qy w h o rooms) ([(QX h o li bs).1],(QX h o li bs).2,0)).2.1.p<=(QX h o li bs).2.p+(bs.map QdS).sum:=r2
 have b1':(QX h o li bs).2.p<=x.p:=b1
 omega
def JI:Bk->Str
 | .chapter _ l=>l
 | .heading _ _ l=>l
 | .para _=>""
 | .table _ l=>l
 | .plates _ l=>l
theorem QmL (b:Bk):Yn [b.d]=some (.str (JI b)):=by
 unfold Yn Qem
 cases b<;>simp [QF,J1,Zw,lI,QA,sD,sQ,sIf,Qj,ZP,Qd,Zu,JY,sNx,Yt,Z2,gS,JN,Zn,eV,eC,eOp,eUn,Q9,QN,eOr,eIf,JO,Qp,Qi,eK,lN,lC,J5,oNo,oAt,ZQ,D.len,D.lt,D.le,D.gt,D.ge,D.add,D.sub,D.ix,D.eqO,D.neO,D.cmp,D.cmpN,D.inst,tyD,D.isT,D.intB,D.min2,D.max2,D.neg,D.addI,Qo,JS,JU,Jv,QM,QS,JR,JQ,Jj,Ju,JV,JW,Jw,Jy,JT,Q7,JL,Za,Qt,Qz,Jd,Q8,Q4,QV,D.rng,D.its,D.itsT,QD,ZI,QH,Jl,JJ,Jm,Jh,ixD,JI]
def prs (x:Str×Int):D:=.tup [.str x.1,.int x.2]
def Zx (pls:List Plc) (s:List (Str×Int)×Nat) (i:It):List (Str×Int)×Nat:=match i with
 | .mark l=>(s.1++[(l,(pls.getD s.2 ⟨0,0,0⟩).p)],s.2)
 | .key _=>s
 | _=>(s.1,s.2+1)
def VT (pls:List Plc) (is:List It):List (Str×Int):=(is.foldl (Zx pls) ([],0)).1
theorem Qhc (pls:List Plc):∀ (is:List It) (s:List (Str×Int)×Nat),(is.foldl (Zx pls) s).1.length<=s.1.length+is.length/\(is.foldl (Zx pls) s).2=s.2+Jq is
 | [],s=>⟨Nat.le_refl _,rfl⟩
 | i::is,s=>by
  obtain ⟨h1,h2⟩:=Qhc pls is (Zx pls s i)
  rw [List.foldl_cons,List.length_cons,h2,QcT]
  cases i<;>simp [Zx,Q2,ZX,JH] at h1 ⊢<;>omega
def YX (is:List It):Prop:=∀ i (hi:i<is.length),Q2 is[i]=false->Jq (is.take i)<Jq is
theorem Qld (is:List It) (pls:List Plc) (hl:is.length<=100000) (hp:Jq is<=pls.length) (ht:YX is):YJ [.lst (is.map It.d),QW pls,.str "mark"]=some (.lst ((VT pls is).map prs)):=by
 unfold YJ QcJ VT
 refine stD rfl ?_
 refine st (e1:=[some (.lst (is.map It.d)),some (QW pls),some (.str "mark"),some (.lst (([]:List (Str×Int)).map prs)),none,none]) rfl ?_
 refine st (e1:=[some (.lst (is.map It.d)),some (QW pls),some (.str "mark"),some (.lst (([]:List (Str×Int)).map prs)),some (.int 0),none]) rfl ?_
 refine V2 It.d is (fun i e=>∃ a,e=[some (.lst (is.map It.d)),some (QW pls),some (.str "mark"),some (.lst (((is.take i).foldl (Zx pls) ([],0)).1.map prs)),some (.int ((is.take i).foldl (Zx pls) ([],0)).2),a]) rfl ⟨none,rfl⟩ ?_ ?_
 ·rintro i hi e ⟨a,rfl⟩
  rw [QcU _ _ _ _ hi]
  obtain ⟨h1,h2⟩:=Qhc pls (is.take i) ([],0)
  rw [List.length_take] at h1
  simp at h1 h2
  have hT:=ht i hi
  have iset:=Qd0 is[i]
  generalize is[i]=x at *
  generalize (is.take i).foldl (Zx pls) ([],0)=z at *
  obtain ⟨kv,k⟩:=z
  simp only [] at h1 h2 ⊢
  have hlt:kv.length<lI:=Yb (by omega)
  have ap:=fun y=>QbC (f:=prs) (xs:=kv) y hlt
  generalize D.lst (is.map It.d)=IS at *
  cases x with
  | mark l =>
   have hk:k<pls.length:=by have:=hT rfl;omega
   have px:D.ix (QW pls) (.int k)=some (pls.getD k ⟨0,0,0⟩).d:=QhP (f:=Plc.d) pls k ⟨0,0,0⟩ (by omega) (by omega)
   obtain ⟨q,eq⟩:∃ q,pls.getD k ⟨0,0,0⟩=q:=⟨_,rfl⟩
   have e1:Zx pls (kv,k) (.mark l)=(kv++[(l,q.p)],k):=by rw [<- eq];rfl
   rw [eq] at px
   rw [e1]
   refine ⟨[some IS,some (QW pls),some (.str "mark"),some (.lst ((kv++[(l,q.p)]).map prs)),some (.int k),some (It.mark l).d],.inl ?_,some (It.mark l).d,rfl⟩
   ·refine bnd (e1:=[some IS,some (QW pls),some (.str "mark"),some (.lst (kv.map prs)),some (.int k),some (It.mark l).d]) rfl ?_
    refine ifF (QY rfl iset) ?_
    refine ifT (opE (x:=.str "mark") (opE (x:=(It.mark l).d) rfl rfl rfl) rfl (by rw [eqS];simp)) ?_
    refine Qaa (d:=prs (l,q.p)) rfl ?_ (ap _)
    have hq:D.ix q.d (.int 0)=some (.int q.p):=rfl
    have hA:eOp D.ix (eOp D.ix (eV 1) (eV 4)) (eC (.int 0)) [some IS,some (QW pls),some (.str "mark"),some (.lst (kv.map prs)),some (.int k),some (It.mark l).d]=some (.int q.p):=opE (opE rfl rfl px) rfl hq
    simp only [Qp,lC,lN,hA]
    rfl
  | key l =>
   refine ⟨_,.inl (bnd (e1:=[some IS,some (QW pls),some (.str "mark"),some (.lst (kv.map prs)),some (.int k),some (It.key l).d]) rfl (ifF (QY rfl iset) (ifF (opE (x:=.str "key") (opE (x:=(It.key l).d) rfl rfl rfl) rfl (by rw [eqS];simp)) rfl))),some (It.key l).d,rfl⟩
  | word x ns=>exact ⟨_,.inl (bnd (e1:=[some IS,some (QW pls),some (.str "mark"),some (.lst (kv.map prs)),some (.int k),some (It.word x ns).d]) rfl (ifT (QY rfl iset) rfl)),some (It.word x ns).d,rfl⟩
  | ref l x y=>exact ⟨_,.inl (bnd (e1:=[some IS,some (QW pls),some (.str "mark"),some (.lst (kv.map prs)),some (.int k),some (It.ref l x y).d]) rfl (ifT (QY rfl iset) rfl)),some (It.ref l x y).d,rfl⟩
 ·rintro e ⟨a,rfl⟩
  rw [List.take_length]
  exact ret rfl
def Zj (kv:List (Str×Int)):D:=.dic (kv.map fun x=>Sum.inr x.1) (kv.map fun x=>.int x.2)
theorem Qrk {β:Type} (l:Str) (kv:List (Str×β)):hasK (.inr l) (kv.map fun x=>Sum.inr x.1)=true↔l∈kv.map (·.1):=by
 unfold hasK
 rw [List.any_eq_true]
 constructor
 ·rintro ⟨c,hc,e⟩
  obtain ⟨x,hx,rfl⟩:=List.mem_map.mp hc
  have:x.1=l:=by simpa using e
  exact List.mem_map.mpr ⟨x,hx,this⟩
 ·intro h
  obtain ⟨x,hx,rfl⟩:=List.mem_map.mp h
  exact ⟨.inr x.1,List.mem_map.mpr ⟨x,hx,rfl⟩,by simp⟩
theorem Qkj {kv:List (Str×Int)} {l:Str} {p:Int} (h:l∉kv.map (·.1)) (hl:kv.length<lI):D.put (Zj kv) (.str l) (.int p)=some (Zj (kv++[(l,p)])):=by
 show (if (kv.map fun x=>(Sum.inr x.1:Kd)).length<lI then some (QeL _ _ (.inr l) (.int p)) else none)=_
 rw [if_pos (by rw [List.length_map];exact hl)]
 unfold QeL
 rw [if_neg (fun z=>h ((Qrk l kv).mp z))]
 unfold Zj
 rw [List.map_append,List.map_append]
 rfl
theorem Qj9:∀ {kv:List (Str×Int)} {l:Str},l∈kv.map (·.1)->∃ p,(l,p)∈kv/\D.dget (Zj kv) (.str l)=some (.int p)
 | [],l,h=>by simp at h
 | (a,q)::kv,l,h=>by
  by_cases z:a=l
  ·subst z
   refine ⟨q,List.mem_cons_self,?_⟩
   show (if (Sum.inr a:Kd)=.inr a then some (D.int q) else _)=_
   rw [if_pos rfl]
  ·have h':l∈kv.map (·.1):=by
    rcases List.mem_cons.mp (show l∈a::kv.map (·.1) from h) with e | e
    ·exact absurd e.symm z
    ·exact e
   obtain ⟨p,h1,h2⟩:=Qj9 h'
   refine ⟨p,List.mem_cons_of_mem _ h1,?_⟩
   show (if (Sum.inr a:Kd)=.inr l then some (D.int q) else Qc6 _ _ _)=_
   rw [if_neg (by simpa using z)]
   exact h2
def Ja (q:Bk×List Plc):List (Str×Int):=(if JI q.1="" then [] else [(JI q.1,(q.2.getD 0 ⟨0,0,0⟩).p)])++VT q.2 (iO q.1)
def mkL:It->List Str
 | .mark l=>[l]
 | _=>[]
def QC (is:List It):List Str:=is.flatMap mkL
def Zd (b:Bk):List Str:=(if JI b="" then [] else [JI b])++QC (iO b)
def Ql (bs:List Bk):List Str:=bs.flatMap Zd
theorem QfR (pls:List Plc):∀ (is:List It) (s:List (Str×Int)×Nat),(is.foldl (Zx pls) s).1.map (·.1)=s.1.map (·.1)++QC is
 | [],s=>by simp [QC]
 | i::is,s=>by
  rw [List.foldl_cons,QfR pls is]
  cases i<;>simp [Zx,QC,mkL]
theorem QfT (q:Bk×List Plc):(Ja q).map (·.1)=Zd q.1:=by
 unfold Ja Zd
 rw [List.map_append]
 congr 1
 ·split<;>rfl
 ·exact QfR q.2 (iO q.1) ([],0)
theorem Qj6 {α β:Type} (f:α->D) (g:β->D):∀ (xs:List α) (ys:List β),Qao (xs.map f) (ys.map g)=(xs.zip ys).map fun q=>D.tup [f q.1,g q.2]
 | [],_=>by simp [Qao]
 | _::_,[]=>by simp [Qao]
 | x::xs,y::ys=>by
  show D.tup [f x,g y]::Qao (xs.map f) (ys.map g)=_
  rw [Qj6 f g xs ys];rfl
theorem QrF (c:List Plc) (rows:List (List Plc)):Zw (ZD (c::rows)) (some 1) none=some (ZD rows):=by
 show some (D.lst (ZY ((c::rows).map QW) (some 1) none))=_
 unfold ZY Ys ZD
 simp only []
 rw [if_neg (by decide),List.map_cons,List.length_cons]
 show some (D.lst (((QW c::rows.map QW).drop (min 1 ((rows.map QW).length+1))).take _))=_
 rw [show min 1 ((rows.map QW).length+1)=1 from by omega,List.drop_succ_cons,List.drop_zero,List.take_of_length_le (by omega)]
theorem QnW (is:List It):(QC is).length<=is.length:=by
 unfold QC
 induction is with
 | nil=>exact Nat.le_refl _
 | cons i is ih =>
  rw [List.flatMap_cons,List.length_append,List.length_cons]
  have:(mkL i).length<=1:=by cases i<;>simp [mkL]
  omega
theorem Qfp (bs:List Bk):(Ql bs).length<=bs.length+(bs.flatMap iO).length:=by
 unfold Ql
 induction bs with
 | nil=>exact Nat.le_refl _
 | cons b bs ih =>
  rw [List.flatMap_cons,List.flatMap_cons,List.length_append,List.length_append,List.length_cons]
  have h1:=QnW (iO b)
  have h2:(Zd b).length<=1+(iO b).length:=by unfold Zd;rw [List.length_append];split<;>simp<;>omega
  omega
theorem QhS {α β:Type}:∀ (xs:List α) (ys:List β),ys.length=xs.length->(xs.zip ys).map (·.1)=xs
 | [],_,_=>by simp
 | x::xs,[],h=>by simp at h
 | x::xs,y::ys,h=>by simp at h ⊢;exact QhS xs ys h
theorem QaQ {α β γ:Type} (f:α->List γ) (g:α×β->List (γ×Int)) (hg:∀ q,(g q).map (·.1)=f q.1):∀ qs:List (α×β),(qs.flatMap g).map (·.1)=(qs.map (·.1)).flatMap f
 | []=>rfl
 | q::qs=>by rw [List.flatMap_cons,List.map_append,hg,QaQ f g hg qs];simp
theorem QqP (B T P Q:Option D) (u v:Option D) (kv mk:List (Str×Int)) (hn:(kv++mk).map (·.1) |>.Nodup) (hl:(kv++mk).length<lI) (it:EvI) (hit:it [B,T,some (Zj kv),P,Q,u,v]=some (mk.map prs)):∃ u' v',Jn it (JN [gS 5,gS 6]) (QdT 2 (eV 5) (eV 6)) [B,T,some (Zj kv),P,Q,u,v]=some (.nx [B,T,some (Zj (kv++mk)),P,Q,u',v']):=by
 obtain ⟨e',h1,u',v',h2⟩:=QbZ (g:=JN [gS 5,gS 6]) (b:=QdT 2 (eV 5) (eV 6)) prs mk (fun i e=>∃ u v,e=[B,T,some (Zj (kv++mk.take i)),P,Q,u,v]) (by
  rintro i hi e ⟨u,v,rfl⟩
  obtain ⟨⟨l,p⟩,hm⟩:∃ q,mk[i]=q:=⟨_,rfl⟩
  have hnot:l∉(kv++mk.take i).map (·.1):=by
   have e1:kv++mk=(kv++mk.take i)++(mk[i]::mk.drop (i+1)):=by rw [List.append_assoc,<- List.drop_eq_getElem_cons hi,List.take_append_drop]
   rw [e1,List.map_append,List.map_cons,hm] at hn
   intro z
   exact (List.nodup_append.mp hn).2.2 l z l List.mem_cons_self rfl
  have hlt:(kv++mk.take i).length<lI:=by
   refine Nat.lt_of_le_of_lt ?_ hl
   rw [List.length_append,List.length_append,List.length_take];omega
  have pd:=Qkj (p:=p) hnot hlt
  rw [List.take_succ_eq_append_getElem hi,hm,<- List.append_assoc]
  refine ⟨[B,T,some (Zj (kv++mk.take i++[(l,p)])),P,Q,some (.str l),some (.int p)],.inl ?_,_,_,rfl⟩
  refine bnd (e1:=[B,T,some (Zj (kv++mk.take i)),P,Q,some (.str l),some (.int p)]) rfl ?_
  show (D.put (Zj (kv++mk.take i)) (.str l) (.int p)).map _=_
  rw [pd];rfl) [B,T,some (Zj kv),P,Q,u,v] ⟨u,v,by rw [List.take_zero,List.append_nil]⟩
 subst h2
 rw [List.take_length] at h1
 refine ⟨u',v',?_⟩
 unfold Jn
 rw [hit]
 exact h1
theorem Qju (bs:List Bk) (c:List Plc) (rows:List (List Plc)) (hf:Few bs) (hr:rows.length=bs.length) (hn:(Ql bs).Nodup) (hs:∀ q∈bs.zip rows,q.2.length=nPl q.1) (ht:∀ b∈bs,YX (iO b)) :
  Yk [bks bs,ZD (c::rows)]=some (Zj ((bs.zip rows).flatMap Ja)):=by
 unfold Yk QbW
 refine stD rfl ?_
 refine st (e1:=[some (bks bs),some (ZD (c::rows)),some (Zj []),none,none,none,none]) rfl ?_
 have keys:∀ qs:List (Bk×List Plc),(qs.flatMap Ja).map (·.1)=(qs.map (·.1)).flatMap Zd:=QaQ Zd Ja QfT
 have kall:((bs.zip rows).flatMap Ja).map (·.1)=Ql bs:=by rw [keys,QhS bs rows hr];rfl
 have klen:((bs.zip rows).flatMap Ja).length<=200000:=by
  have e:((bs.zip rows).flatMap Ja).length=(Ql bs).length:=by rw [<- kall,List.length_map]
  have:=Qfp bs
  have:=hf.1
  have:=hf.2
  omega
 refine V2 (fun q:Bk×List Plc=>D.tup [q.1.d,QW q.2]) (bs.zip rows) (fun i e=>∃ a b u v,e=[some (bks bs),some (ZD (c::rows)),some (Zj (((bs.zip rows).take i).flatMap Ja)),a,b,u,v]) ?_ ⟨none,none,none,none,rfl⟩ ?_ ?_
 ·have hc:J1 (eV 1) (oAt (eC (.int 1))) oNo [some (bks bs),some (ZD (c::rows)),some (Zj []),none,none,none,none]=some (ZD rows):=QrF c rows
  unfold Qqt
  rw [hc]
  show some (Qao (bs.map Bk.d) (rows.map QW))=_
  rw [Qj6]
 ·rintro i hi e ⟨a,b,u,v,rfl⟩
  rw [fT _ _ _ hi]
  have hle:=Yh Ja (bs.zip rows) (i+1)
  rw [fT _ _ _ hi] at hle
  have hnd:(((bs.zip rows).take i).flatMap Ja++Ja (bs.zip rows)[i]).map (·.1) |>.Nodup:=by
   rw [<- fT _ _ _ hi]
   refine List.Nodup.sublist ?_ (kall▸hn)
   refine List.Sublist.map _ ?_
   conv=>rhs;rw [<- List.take_append_drop (i+1) (bs.zip rows),List.flatMap_append]
   exact List.sublist_append_left _ _
  have hq:=hs (bs.zip rows)[i] (List.getElem_mem hi)
  have hb:(bs.zip rows)[i].1∈bs:=(List.of_mem_zip (List.getElem_mem hi)).1
  generalize (bs.zip rows)[i]=q at *
  generalize ((bs.zip rows).take i).flatMap Ja=kv at *
  obtain ⟨x,pls⟩:=q
  simp only [] at hq hb ⊢
  have tx:=ht x hb
  have il:=Yv hf x hb
  have lb:=QmL x
  have io:=Qb9 x
  have pw:YJ [.lst ((iO x).map It.d),QW pls,.str "mark"]=some (.lst ((VT pls (iO x)).map prs)):=by
   refine Qld _ _ il ?_ tx
   cases x with
   | para is=>exact Nat.le_of_eq hq.symm
   | _=>exact Nat.zero_le _
  obtain ⟨kv2,e2⟩:∃ kv2,kv++(if JI x="" then [] else [(JI x,(pls.getD 0 ⟨0,0,0⟩).p)])=kv2:=⟨_,rfl⟩
  have e3:kv++Ja (x,pls)=kv2++VT pls (iO x):=by rw [<- e2];unfold Ja;rw [List.append_assoc]
  rw [e3] at hnd hle ⊢
  have hlt:(kv2++VT pls (iO x)).length<lI:=Yb (by omega)
  generalize bks bs=BS at *
  generalize ZD (c::rows)=TT at *
  obtain ⟨u',v',hm⟩:=QqP (some BS) (some TT) (some x.d) (some (QW pls)) u v kv2 (VT pls (iO x)) hnd hlt (Q1 (eK YJ (lC (eK Zg (lC (eV 3) lN)) (lC (eV 4) (lC (eC (.str "mark")) lN))))) (by
   unfold Q1
   rw [Zs (QY rfl io) rfl rfl pw]
   rfl)
  refine ⟨_,.inl ?_,some x.d,some (QW pls),u',v',rfl⟩
  refine bnd (e1:=[some BS,some TT,some (Zj kv),some x.d,some (QW pls),u,v]) rfl ?_
  refine st (e1:=[some BS,some TT,some (Zj kv2),some x.d,some (QW pls),u,v]) ?_ hm
  have ne:D.neO (.str (JI x)) (.str (Str.ofString ""))=some (.bl (!decide (JI x=Str.ofString ""))):=by simp [D.neO,Qz,QH,D.cmpN]
  by_cases z:JI x=""
  ·rw [if_pos z,List.append_nil] at e2
   subst e2
   exact ifF (opE (QY rfl lb) rfl (by rw [ne,decide_eq_true z];rfl)) rfl
  ·rw [if_neg z] at e2
   subst e2
   refine ifT (opE (QY rfl lb) rfl (by rw [ne,decide_eq_false z];rfl)) ?_
   have np:pls.length=1:=by cases x<;>first | exact hq | exact absurd rfl z
   obtain ⟨q0,rfl⟩:∃ q0,pls=[q0]:=by
    match pls,np with
    | [q0],_=>exact ⟨q0,rfl⟩
   have hnot:JI x∉kv.map (·.1):=by
    rw [List.append_assoc,List.map_append] at hnd
    intro w
    exact (List.nodup_append.mp hnd).2.2 _ w (JI x) (by simp) rfl
   have pd:=Qkj (p:=q0.p) hnot (Nat.lt_of_le_of_lt (by simp only [List.length_append];omega) hlt)
   unfold QdT
   have hA:eOp D.ix (eOp D.ix (eV 4) (eC (.int 0))) (eC (.int 0)) [some BS,some TT,some (Zj kv),some x.d,some (QW [q0]),u,v]=some (.int q0.p):=rfl
   have hB:eK Yn (lC (eV 3) lN) [some BS,some TT,some (Zj kv),some x.d,some (QW [q0]),u,v]=some (.str (JI x)):=QY rfl lb
   rw [hA,hB]
   show (D.put (Zj kv) (.str (JI x)) (.int q0.p)).map _=_
   rw [pd]
   rfl
 ·rintro e ⟨a,b,u,v,rfl⟩
  rw [List.take_length]
  exact ret rfl
theorem Qhh (n:Int) (h0:0<=n) (h:n<10^60):Qam [.int n]=some (.int (JX n.toNat)):=by
 obtain ⟨m,rfl⟩:∃ m:Nat,n=m:=⟨n.toNat,by omega⟩
 have h':m<10^60:=by
  have:((10^60:Nat):Int)=10^60:=by decide
  omega
 have h2:m<2^1900:=Nat.lt_trans h' (by decide +kernel)
 have e1:D.strI (.int m)=some (.str (Str.ofString (toString (m:Int)))):=if_pos h2
 have hs:=Qmr m
 have hd:=Qtd m h'
 have ln:=V9 (x:=Str.ofString (toString (m:Int))) (by omega)
 rw [hs] at ln
 unfold Qam Qfa
 exact stD rfl (ret (unE (unE rfl e1) ln))
theorem Qkc {it:EvI} {e:Qq} (is:List It) (hit:it e=some (is.map It.d)) (hl:is.length<=1000000):QR 1 [] it (gS 0) (eK Yc (lC (eV 0) lN)) (eV 0) e=some (.lst ((is.filter Q2).map It.d)) :=
 Ze (g:=gS 0) (n:=1) (caps:=[]) It.d is (fun e=>∃ v,e=[v]) Q2 It.d hit (lB hl) ⟨none,rfl⟩ (by
  rintro i hm e ⟨v,rfl⟩
  exact ⟨[some i.d],rfl,⟨_,rfl⟩,QY rfl (Qd0 i),fun h=>rfl⟩)
theorem QoI (is:List It):D.len (.lst (is.map It.d))=some (.int is.length):=by
 show some (D.int (is.map It.d).length)=_
 rw [List.length_map]
theorem QlV (w h:Int) (o li:Bool) (b:Bk) (hl:(iO b).length<=100000):Vk [b.d,sty w h o li]=some (.int (Ji li b)):=by
 have it:=Qgq b
 have io:=Qb9 b
 have ix3:D.ix (sty w h o li) (.int 3)=some (.bl li):=rfl
 have plain:∀ m:Int,((iO b).filter Q2).length=m->(Qj (eOp D.add (eC (.int 2)) (eOp D.mulA (eC (.int 2)) (eUn D.len (QR 1 [] (Q1 (eK Zg (lC (eV 0) lN))) (gS 0) (eK Yc (lC (eV 0) lN)) (eV 0)))))) [some b.d,some (sty w h o li)]=some (.rt (.int (2+2*m))):=by
  intro m em
  have hc:=Qkc (it:=Q1 (eK Zg (lC (eV 0) lN))) (e:=[some b.d,some (sty w h o li)]) (iO b) (by unfold Q1;rw [QY rfl io];rfl) (by omega)
  have ln:=QoI ((iO b).filter Q2)
  rw [em] at ln
  exact ret (opE rfl (opE rfl (unE hc ln) (QtB m)) rfl)
 unfold Vk Qdg
 refine stD rfl ?_
 cases b with
 | plates n l=>exact stR (ifT (opE (x:=.str "plates") (opE (x:=(Bk.plates n l).d) rfl rfl rfl) rfl (by rw [eqS];simp)) (ret (opE rfl (opE (x:=(Bk.plates n l).d) rfl rfl rfl) rfl)))
 | para is =>
  refine st (e1:=[some (Bk.para is).d,some (sty w h o li)]) (ifF (opE (x:=.str "para") (opE (x:=(Bk.para is).d) rfl rfl rfl) rfl (by rw [eqS];simp)) rfl) ?_
  refine st (e1:=[some (Bk.para is).d,some (sty w h o li)]) (ifF (YT (QY rfl it)) rfl) ?_
  exact plain _ rfl
 | table rs l =>
  refine st (e1:=[some (Bk.table rs l).d,some (sty w h o li)]) (ifF (opE (x:=.str "table") (opE (x:=(Bk.table rs l).d) rfl rfl rfl) rfl (by rw [eqS];simp)) rfl) ?_
  refine st (e1:=[some (Bk.table rs l).d,some (sty w h o li)]) (ifF (YT (QY rfl it)) rfl) ?_
  exact plain 0 rfl
 | chapter t l =>
  refine st (e1:=[some (Bk.chapter t l).d,some (sty w h o li)]) (ifF (opE (x:=.str "chapter") (opE (x:=(Bk.chapter t l).d) rfl rfl rfl) rfl (by rw [eqS];simp)) rfl) ?_
  cases li with
  | true=>exact stR (ifT (YH (QY rfl it) (opE rfl rfl ix3)) (ret rfl))
  | false =>
   refine st (e1:=[some (Bk.chapter t l).d,some (sty w h o false)]) (ifF (YH (QY rfl it) (opE rfl rfl ix3)) rfl) ?_
   exact plain 0 rfl
 | heading t k l =>
  refine st (e1:=[some (Bk.heading t k l).d,some (sty w h o li)]) (ifF (opE (x:=.str "heading") (opE (x:=(Bk.heading t k l).d) rfl rfl rfl) rfl (by rw [eqS];simp)) rfl) ?_
  cases li with
  | true=>exact stR (ifT (YH (QY rfl it) (opE rfl rfl ix3)) (ret rfl))
  | false =>
   refine st (e1:=[some (Bk.heading t k l).d,some (sty w h o false)]) (ifF (YH (QY rfl it) (opE rfl rfl ix3)) rfl) ?_
   exact plain 0 rfl
theorem Qir (w h:Int) (o li:Bool) (bs:List Bk) (hf:Few bs):Vr [bks bs,sty w h o li]=some (.int (most li bs)):=by
 have hc:QR 1 [1] (Q1 (eV 0)) (gS 0) (eC (.bl true)) (eK Vk (lC (eV 0) (lC (eV 1) lN))) [some (bks bs),some (sty w h o li)]=some (.lst ((bs.map (Ji li)).map .int)):=by
  rw [Ze (g:=gS 0) (n:=1) (caps:=[1]) (c:=eC (.bl true)) (el:=eK Vk (lC (eV 0) (lC (eV 1) lN))) Bk.d bs (fun e=>∃ v,e=[v,some (sty w h o li)]) (fun _=>true) (fun b=>.int (Ji li b)) rfl (lB (Nat.le_trans hf.1 (by decide))) ⟨none,rfl⟩ (by
   rintro b hb e ⟨v,rfl⟩
   exact ⟨[some b.d,some (sty w h o li)],rfl,⟨_,rfl⟩,rfl,fun _=>J6 rfl rfl (QlV w h o li b (Yv hf b hb))⟩)]
  rw [ZV,List.map_map]
  rfl
 have sm:D.sumL (.lst ((bs.map (Ji li)).map .int))=some (.int (bs.map (Ji li)).sum):=by
  show (intsOf ((bs.map (Ji li)).map .int)).map _=_
  rw [Qeh];rfl
 have me:most li bs=3+(bs.map (Ji li)).sum:=by unfold most;rw [Vz]
 rw [me]
 unfold Vr QaR
 exact stD rfl (ret (opE rfl (unE hc sm) rfl))
theorem Qey (w h:Int) (o li:Bool) (bs:List Bk) (hf:Few bs) (h0:0<=most li bs) (h1:most li bs<10^60):Z8 [bks bs,sty w h o li]=some (.int (JX (most li bs).toNat)):=by
 unfold Z8 Qbb
 exact stD rfl (ret (QY (J6 rfl rfl (Qir w h o li bs hf)) (Qhh _ h0 h1)))
theorem Qfq (xs:List Str) (w:Int) (hl:xs.length<=1000000) (hx:∀ x∈xs,x.length<=1000000) (hw:∀ x∈xs,(x.length:Int)<=w):VD [QE xs,.int w]=some (.bl false):=by
 have hc:QR 1 [1] (Q1 (eV 0)) (gS 0) (eC (.bl true)) (eOp D.gt (eUn D.len (eV 0)) (eV 1)) [some (QE xs),some (.int w)]=some (.lst (xs.map fun _=>.bl false)):=by
  rw [Ze (g:=gS 0) (n:=1) (caps:=[1]) (c:=eC (.bl true)) (el:=eOp D.gt (eUn D.len (eV 0)) (eV 1)) D.str xs (fun e=>∃ v,e=[v,some (.int w)]) (fun _=>true) (fun _=>.bl false) rfl (lB hl) ⟨none,rfl⟩ (by
   rintro x hb e ⟨v,rfl⟩
   refine ⟨[some (.str x),some (.int w)],rfl,⟨_,rfl⟩,rfl,fun _=>opE (unE rfl (V9 (hx x hb))) rfl ?_⟩
   have:=hw x hb
   show some (D.bl (decide (w<(x.length:Int))))=_
   rw [decide_eq_false (by omega)])]
  rw [ZV]
 have ay:∀ xs:List Str,D.anyL (.lst (xs.map fun _=>.bl false))=some (.bl false):=by
  intro xs
  have:VL (xs.map fun _=>D.bl false)=some (xs.map fun _=>false):=by
   induction xs with
   | nil=>rfl
   | cons x xs ih =>
    show (VL (xs.map fun _=>D.bl false)).map _=_
    rw [ih];rfl
  show (VL (xs.map fun _=>D.bl false)).map _=_
  rw [this]
  show some (D.bl ((xs.map fun _=>false).any id))=_
  simp
 unfold VD QcL
 exact stD rfl (ret (unE hc (ay xs)))
def BkS:Bk->Prop
 | .chapter t _=>t.length<=1000
 | .heading t _ _=>t.length<=1000
 | .table rs _=>rs.length<=1000/\∀ r∈rs,r.length<=1000
 | .para is=>∀ i∈is,ItT i
 | .plates _ _=>True
theorem Qk2 (w h:Int) (o li:Bool) (room:Int) (b:Bk) (h0:0<=room) (hs:BkS b) (hf:Qat room w h b):Zl [b.d,sty w h o li,.int room]=some (.bl false):=by
 have it:=Qgq b
 have ix3:D.ix (sty w h o li) (.int 3)=some (.bl li):=rfl
 have ix0:D.ix (sty w h o li) (.int 0)=some (.int w):=rfl
 have tit:∀ (t:Str),D.ix b.d (.int 1)=some (.str t)->t.length<=1000->(t.length:Int)+2+room<=w->QcQ b=true->Zl [b.d,sty w h o li,.int room]=some (.bl false):=by
  intro t i1 tl tw tt
  rw [tt] at it
  unfold Zl ZW
  refine stD rfl (stR (ifT (QY rfl it) ?_))
  refine st (e1:=[some b.d,some (sty w h o li),some (.int room),some (.int (if li then 2+room else 0))]) ?_ ?_
  ·refine asg ?_ rfl
   unfold eIf
   have hX:eOp D.ix (eV 1) (eC (.int 3)) (sD 4 [b.d,sty w h o li,.int room])=some (.bl li):=opE (x:=sty w h o li) rfl rfl ix3
   rw [hX,Qo]
   cases li<;>rfl
  ·refine ret (opE (opE (unE (opE (x:=b.d) rfl rfl i1) (V9 (by omega))) rfl rfl) (opE rfl rfl ix0) ?_)
   show some (D.bl (decide (w<(t.length:Int)+_)))=_
   rw [decide_eq_false (by cases li<;>simp<;>omega)]
 cases b with
 | chapter t l=>exact tit t rfl hs hf rfl
 | heading t k l=>exact tit t rfl hs hf.1 rfl
 | table rs l =>
  have al:=Qfq rs w (by have:=hs.1;omega) (fun x hx=>by have:=hs.2 x hx;omega) hf.2
  unfold Zl ZW
  refine stD rfl (st (e1:=[some (Bk.table rs l).d,some (sty w h o li),some (.int room),none]) (ifF (QY rfl it) rfl) (ret ?_))
  exact YH (opE (x:=.str "table") (opE (x:=(Bk.table rs l).d) rfl rfl rfl) rfl (by rw [eqS];simp)) (J6 (opE (x:=(Bk.table rs l).d) rfl rfl rfl) (opE rfl rfl ix0) al)
 | para is =>
  unfold Zl ZW
  exact stD rfl (st (e1:=[some (Bk.para is).d,some (sty w h o li),some (.int room),none]) (ifF (QY rfl it) rfl) (ret (YT (opE (x:=.str "para") (opE (x:=(Bk.para is).d) rfl rfl rfl) rfl (by rw [eqS];simp)))))
 | plates n l =>
  unfold Zl ZW
  exact stD rfl (st (e1:=[some (Bk.plates n l).d,some (sty w h o li),some (.int room),none]) (ifF (QY rfl it) rfl) (ret (YT (opE (x:=.str "plates") (opE (x:=(Bk.plates n l).d) rfl rfl rfl) rfl (by rw [eqS];simp)))))
theorem Qls (w h:Int) (o li:Bool) (room:Int) (b:Bk) (hf:Qat room w h b):Vs [b.d,sty w h o li]=some (.bl false):=by
 have ix1:D.ix (sty w h o li) (.int 1)=some (.int h):=rfl
 unfold Vs QaT
 refine stD rfl ?_
 cases b with
 | heading t k l =>
  refine stR (ifT (opE (x:=.str "heading") (opE (x:=(Bk.heading t k l).d) rfl rfl rfl) rfl (by rw [eqS];simp)) (ret (opE (opE (opE (x:=(Bk.heading t k l).d) rfl rfl rfl) rfl rfl) (opE rfl rfl ix1) ?_)))
  have:=hf.2
  show some (D.bl (decide (h<k+1)))=_
  rw [decide_eq_false (by omega)]
 | table rs l =>
  refine st (e1:=[some (Bk.table rs l).d,some (sty w h o li)]) (ifF (opE (x:=.str "table") (opE (x:=(Bk.table rs l).d) rfl rfl rfl) rfl (by rw [eqS];simp)) rfl) (ret ?_)
  refine YH (opE (x:=.str "table") (opE (x:=(Bk.table rs l).d) rfl rfl rfl) rfl (by rw [eqS];simp)) (opE (unE (opE (x:=(Bk.table rs l).d) rfl rfl rfl) (Qah rs)) (opE rfl rfl ix1) ?_)
  have:=hf.1
  show some (D.bl (decide (h<(rs.length:Int))))=_
  rw [decide_eq_false (by omega)]
 | chapter t l=>exact st (e1:=[some (Bk.chapter t l).d,some (sty w h o li)]) (ifF (opE (x:=.str "chapter") (opE (x:=(Bk.chapter t l).d) rfl rfl rfl) rfl (by rw [eqS];simp)) rfl) (ret (YT (opE (x:=.str "chapter") (opE (x:=(Bk.chapter t l).d) rfl rfl rfl) rfl (by rw [eqS];simp))))
 | para is=>exact st (e1:=[some (Bk.para is).d,some (sty w h o li)]) (ifF (opE (x:=.str "para") (opE (x:=(Bk.para is).d) rfl rfl rfl) rfl (by rw [eqS];simp)) rfl) (ret (YT (opE (x:=.str "para") (opE (x:=(Bk.para is).d) rfl rfl rfl) rfl (by rw [eqS];simp))))
 | plates n l=>exact st (e1:=[some (Bk.plates n l).d,some (sty w h o li)]) (ifF (opE (x:=.str "plates") (opE (x:=(Bk.plates n l).d) rfl rfl rfl) rfl (by rw [eqS];simp)) rfl) (ret (YT (opE (x:=.str "plates") (opE (x:=(Bk.plates n l).d) rfl rfl rfl) rfl (by rw [eqS];simp))))
theorem QlC (w h:Int) (o li:Bool) (room:Int) (i:It) (hs:ItT i) (hf:QeO room w h i):VP [i.d,sty w h o li,.int room]=some (.bl false):=by
 have ix0:D.ix (sty w h o li) (.int 0)=some (.int w):=rfl
 unfold VP Qbe
 refine stD rfl ?_
 cases i with
 | word x ns =>
  have ad:D.add (.lst [.str x]) (QE ns)=some (QE (x::ns)):=QhQ (f:=D.str) (xs:=[x]) (ys:=ns) (Qhe (by have:=hs.2.1;omega))
  have al:=Qfq (x::ns) w (by have:=hs.2.1;simp;omega) (fun y hy=>by rcases List.mem_cons.mp hy with z | z;rw [z];have:=hs.1;omega;have:=hs.2.2 y z;omega) (fun y hy=>by rcases List.mem_cons.mp hy with z | z;rw [z];exact hf.1;exact hf.2.2 y z)
  exact stR (ifT (opE (x:=.str "word") (opE (x:=(It.word x ns).d) rfl rfl rfl) rfl (by rw [eqS];simp)) (ret (J6 (opE (x:=.lst [.str x]) (y:=QE ns) rfl rfl ad) (opE rfl rfl ix0) al)))
 | ref l a b =>
  refine st (e1:=[some (It.ref l a b).d,some (sty w h o li),some (.int room)]) (ifF (opE (x:=.str "ref") (opE (x:=(It.ref l a b).d) rfl rfl rfl) rfl (by rw [eqS];simp)) rfl) (ret ?_)
  refine YH (opE (x:=.str "ref") (opE (x:=(It.ref l a b).d) rfl rfl rfl) rfl (by rw [eqS];simp)) (opE (opE (opE (unE (opE (x:=(It.ref l a b).d) rfl rfl rfl) (V9 (by have:=hs.1;omega))) rfl rfl) (unE (opE (x:=(It.ref l a b).d) rfl rfl rfl) (V9 (by have:=hs.2;omega))) rfl) (opE rfl rfl ix0) ?_)
  have hf':(a.length:Int)+room+b.length<=w:=hf
  show some (D.bl (decide (w<(a.length:Int)+room+b.length)))=_
  rw [decide_eq_false (by omega)]
 | mark l=>exact st (e1:=[some (It.mark l).d,some (sty w h o li),some (.int room)]) (ifF (opE (x:=.str "mark") (opE (x:=(It.mark l).d) rfl rfl rfl) rfl (by rw [eqS];simp)) rfl) (ret (YT (opE (x:=.str "mark") (opE (x:=(It.mark l).d) rfl rfl rfl) rfl (by rw [eqS];simp))))
 | key l=>exact st (e1:=[some (It.key l).d,some (sty w h o li),some (.int room)]) (ifF (opE (x:=.str "key") (opE (x:=(It.key l).d) rfl rfl rfl) rfl (by rw [eqS];simp)) rfl) (ret (YT (opE (x:=.str "key") (opE (x:=(It.key l).d) rfl rfl rfl) rfl (by rw [eqS];simp))))
theorem Qmd (w h:Int) (o li:Bool) (room:Int) (i:It) (hf:QeO room w h i):VQ [i.d,sty w h o li]=some (.bl false):=by
 have ix1:D.ix (sty w h o li) (.int 1)=some (.int h):=rfl
 unfold VQ Qbf
 refine stD rfl (ret ?_)
 cases i with
 | word x ns =>
  refine YH (opE (x:=.str "word") (opE (x:=(It.word x ns).d) rfl rfl rfl) rfl (by rw [eqS];simp)) (opE (opE (unE (opE (x:=(It.word x ns).d) rfl rfl rfl) (Qah ns)) rfl rfl) (opE rfl rfl ix1) ?_)
  have:=hf.2.1
  show some (D.bl (decide (h<(ns.length:Int)+1)))=_
  rw [decide_eq_false (by omega)]
 | ref l a b=>exact YT (opE (x:=.str "ref") (opE (x:=(It.ref l a b).d) rfl rfl rfl) rfl (by rw [eqS];simp))
 | mark l=>exact YT (opE (x:=.str "mark") (opE (x:=(It.mark l).d) rfl rfl rfl) rfl (by rw [eqS];simp))
 | key l=>exact YT (opE (x:=.str "key") (opE (x:=(It.key l).d) rfl rfl rfl) rfl (by rw [eqS];simp))
theorem lc {a:EvE} {l:EvL} {e:Qq} {x:D} {xs:List D} (ha:a e=some x) (hl:l e=some xs):lC a l e=some (x::xs):=by unfold lC;rw [ha,hl];rfl
theorem stM {n k:Nat} {b:EvS} {ds:List D} {e:Qq} {d:D} (hl:ds.length=k) (h:b (sD n ds)=some (.nx e)) (he:(e[k-1]?).join=some d):Qc5 n k b ds=some d:=by
 unfold Qc5
 rw [if_pos hl,h]
 exact he
theorem QgX {i:Nat} {f:List D->Option D} {l:EvL} {e:Qq} {ds:List D} {d z:D} (hl:l e=some ds) (hd:eV i e=some d) (hf:f (ds++[d])=some z):Vu i f l e=some (.nx (e.set i (some z))):=by
 unfold Vu
 rw [hl,hd]
 show (f (ds++[d])).map _=_
 rw [hf];rfl
def Jg (ls:List Str):D:=.dic (ls.map Sum.inr) (ls.map fun _=>.bl true)
theorem QjT (l:Str) (ls:List Str):hasK (.inr l) (ls.map Sum.inr)=decide (l∈ls):=by
 unfold hasK
 induction ls with
 | nil=>simp
 | cons a ls ih =>
  rw [List.map_cons,List.any_cons,ih]
  by_cases z:a=l
  ·subst z;simp
  ·have:¬ l=a:=fun q=>z q.symm
   simp [z,this]
theorem QfX (l:Str) (n:Int) (ls:List Str) (h:l∉ls) (hl:ls.length<lI):V1 [.str l,.int n,Jg ls]=some (Jg (ls++[l])):=by
 have hi:D.dIn (.str l) (Jg ls)=some (.bl false):=by
  show some (D.bl (hasK (.inr l) (ls.map Sum.inr)))=_
  rw [QjT,decide_eq_false h]
 have pd:D.put (Jg ls) (.str l) (.bl true)=some (Jg (ls++[l])):=by
  show (if (ls.map Sum.inr:List Kd).length<lI then some (QeL _ _ (.inr l) (.bl true)) else none)=_
  rw [if_pos (by rw [List.length_map];exact hl)]
  unfold QeL
  rw [QjT,if_neg (by simpa using h)]
  unfold Jg
  rw [List.map_append,List.map_append];rfl
 unfold V1 Qdj
 refine stM (e:=[some (.str l),some (.int n),some (Jg (ls++[l]))]) rfl ?_ rfl
 refine st (e1:=[some (.str l),some (.int n),some (Jg ls)]) (ifF (opE rfl rfl hi) rfl) ?_
 show (D.put (Jg ls) (.str l) (.bl true)).map _=_
 rw [pd];rfl
def QeI (b:Bk):List Str:=if JI b="" then [] else [JI b]
theorem Qlq (w h:Int) (o li:Bool) (room:Int) (b:Bk) (n:Int) (ls:List Str) (h0:0<=room) (hs:BkS b) (hf:Qat room w h b) (hn:∀ l∈QeI b,l∉ls) (hl:ls.length<lI):Yr [b.d,.int n,sty w h o li,.int room,Jg ls]=some (Jg (ls++QeI b)):=by
 have a1:=Qk2 w h o li room b h0 hs hf
 have a2:=Qls w h o li room b hf
 have a3:=QmL b
 have ne:D.neO (.str (JI b)) (.str (Str.ofString ""))=some (.bl (!decide (JI b=Str.ofString ""))):=by simp [D.neO,Qz,QH,D.cmpN]
 unfold Yr QaS
 refine stM (e:=[some b.d,some (.int n),some (sty w h o li),some (.int room),some (Jg (ls++QeI b))]) rfl ?_ rfl
 refine st (e1:=[some b.d,some (.int n),some (sty w h o li),some (.int room),some (Jg ls)]) (ifF (Zs rfl rfl rfl a1) rfl) ?_
 refine st (e1:=[some b.d,some (.int n),some (sty w h o li),some (.int room),some (Jg ls)]) (ifF (J6 rfl rfl a2) rfl) ?_
 unfold QeI at hn ⊢
 by_cases z:JI b=""
 ·rw [if_pos z,List.append_nil]
  exact ifF (opE (QY rfl a3) rfl (by rw [ne,decide_eq_true z];rfl)) rfl
 ·rw [if_neg z] at hn ⊢
  have al:=QfX (JI b) n ls (hn _ (by simp)) hl
  refine ifT (opE (QY rfl a3) rfl (by rw [ne,decide_eq_false z];rfl)) ?_
  exact QgX (ds:=[.str (JI b),.int n]) (lc (QY rfl a3) rfl) rfl al
theorem Qma (w h:Int) (o li:Bool) (room:Int) (i:It) (n:Int) (ls:List Str) (hs:ItT i) (hf:QeO room w h i) (hn:∀ l∈mkL i,l∉ls) (hl:ls.length<lI):YQ [i.d,.int n,sty w h o li,.int room,Jg ls]=some (Jg (ls++mkL i)):=by
 have a1:=QlC w h o li room i hs hf
 have a2:=Qmd w h o li room i hf
 unfold YQ Qbd
 refine stM (e:=[some i.d,some (.int n),some (sty w h o li),some (.int room),some (Jg (ls++mkL i))]) rfl ?_ rfl
 refine st (e1:=[some i.d,some (.int n),some (sty w h o li),some (.int room),some (Jg ls)]) (ifF (Zs rfl rfl rfl a1) rfl) ?_
 refine st (e1:=[some i.d,some (.int n),some (sty w h o li),some (.int room),some (Jg ls)]) (ifF (J6 rfl rfl a2) rfl) ?_
 cases i with
 | mark l =>
  have al:=QfX l n ls (hn l (by simp [mkL])) hl
  exact ifT (opE (x:=.str "mark") (opE (x:=(It.mark l).d) rfl rfl rfl) rfl (by rw [eqS];simp)) (QgX (ds:=[.str l,.int n]) rfl rfl al)
 | word x ns =>
  have e:mkL (.word x ns)=[]:=rfl
  rw [e,List.append_nil]
  exact ifF (opE (x:=.str "word") (opE (x:=(It.word x ns).d) rfl rfl rfl) rfl (by rw [eqS];simp)) rfl
 | ref l x y =>
  have e:mkL (.ref l x y)=[]:=rfl
  rw [e,List.append_nil]
  exact ifF (opE (x:=.str "ref") (opE (x:=(It.ref l x y).d) rfl rfl rfl) rfl (by rw [eqS];simp)) rfl
 | key x =>
  have e:mkL (.key x)=[]:=rfl
  rw [e,List.append_nil]
  exact ifF (opE (x:=.str "key") (opE (x:=(It.key x).d) rfl rfl rfl) rfl (by rw [eqS];simp)) rfl
theorem QpD (is:List It) (i:Nat) (hi:i<is.length):Jq (is.take (i+1))=Jq (is.take i)+(if Q2 is[i] then 1 else 0):=by
 unfold Jq
 rw [List.take_succ_eq_append_getElem hi,List.filter_append,List.length_append]
 congr 1
 cases q:Q2 is[i]<;>simp [q]
theorem QmD (is:List It) (i:Nat):Jq (is.take i)<=Jq is:=((List.take_sublist i is).filter _).length_le
theorem Qlp (w h:Int) (o li:Bool) (room:Int) (is:List It) (n:Int) (ls:List Str) (hl:is.length<=100000) (hs:∀ i∈is,ItT i) (hf:∀ i∈is,QeO room w h i) (ht:YX is) (hn:(ls++QC is).Nodup) (hll:(ls++QC is).length<lI) :
  Yq [.lst (is.map It.d),.int n,sty w h o li,.int room,Jg ls]=some (Jg (ls++QC is)):=by
 have body:∃ e,Vt (sD 7 [.lst (is.map It.d),.int n,sty w h o li,.int room,Jg ls])=some (.nx e)/\∃ a b,e=[some (.lst (is.map It.d)),some (.int n),some (sty w h o li),some (.int room),some (Jg (ls++QC is)),a,b]:=by
  unfold Vt
  have hc:=Qkc (it:=Q1 (eV 0)) (e:=sD 7 [.lst (is.map It.d),.int n,sty w h o li,.int room,Jg ls]) is rfl (by omega)
  have ln:=QoI (is.filter Q2)
  have e1:((is.filter Q2).length:Int)=(Jq is:Int):=rfl
  rw [e1] at ln
  obtain ⟨e',h1,a,b,h2⟩:=QbZ (g:=gS 6) (b:=sQ (Vu 4 YQ (lC (eV 6) (lC (eV 1) (lC (eV 2) (lC (eV 3) lN))))) (sIf (eK Yc (lC (eV 6) lN)) (Zu 5 D.sub (eC (.int 1))) (sIf (eOp D.eqO (eV 5) (eC (.int 0))) (Vb) (sNx)))) It.d is (fun i e=>∃ a b,e=[some (.lst (is.map It.d)),some (.int n),some (sty w h o li),some (.int room),some (Jg (ls++QC (is.take i))),a,b]/\a=some (.int ((Jq is:Int)-Jq (is.take i)))) (by
   rintro i hi e ⟨a,b,rfl,rfl⟩
   have tk:QC (is.take (i+1))=QC (is.take i)++mkL is[i]:=fT mkL is i hi
   have hm:is[i]∈is:=List.getElem_mem hi
   have iset:=Qd0 is[i]
   have nt:=QpD is i hi
   have nl:=QmD is (i+1)
   have hT:=ht i hi
   have split:ls++QC is=(ls++QC (is.take i))++(mkL is[i]++QC (is.drop (i+1))):=by
    have:QC is=QC (is.take (i+1))++QC (is.drop (i+1)):=by
     unfold QC
     rw [<- List.flatMap_append,List.take_append_drop]
    rw [this,tk];simp [List.append_assoc]
   have hnot:∀ l∈mkL is[i],l∉ls++QC (is.take i):=fun l h1 h2=>by
    rw [split] at hn
    exact (List.nodup_append.mp hn).2.2 l h2 l (List.mem_append_left _ h1) rfl
   have hlt:(ls++QC (is.take i)).length<lI:=by
    rw [split,List.length_append] at hll
    omega
   have li':=Qma w h o li room is[i] n (ls++QC (is.take i)) (hs _ hm) (hf _ hm) hnot hlt
   rw [tk,<- List.append_assoc]
   generalize is[i]=x at *
   refine ⟨[some (.lst (is.map It.d)),some (.int n),some (sty w h o li),some (.int room),some (Jg (ls++QC (is.take i)++mkL x)),some (.int ((Jq is:Int)-Jq (is.take (i+1)))),some x.d],.inl ?_,_,_,rfl,rfl⟩
   refine bnd (e1:=[some (.lst (is.map It.d)),some (.int n),some (sty w h o li),some (.int room),some (Jg (ls++QC (is.take i))),some (.int ((Jq is:Int)-Jq (is.take i))),some x.d]) rfl ?_
   refine st (e1:=[some (.lst (is.map It.d)),some (.int n),some (sty w h o li),some (.int room),some (Jg (ls++QC (is.take i)++mkL x)),some (.int ((Jq is:Int)-Jq (is.take i))),some x.d]) (QgX (ds:=[x.d,.int n,sty w h o li,.int room]) rfl rfl li') ?_
   cases q:Q2 x with
   | true =>
    rw [q] at iset nt
    refine ifT (QY rfl iset) ?_
    rw [nt,if_pos rfl,show ((Jq is:Int)-((Jq (is.take i)+1:Nat):Int))=(Jq is:Int)-Jq (is.take i)-1 from by omega]
    rfl
   | false =>
    rw [q] at iset nt
    have:=hT q
    refine ifF (QY rfl iset) (ifF (opE rfl rfl ?_) ?_)
    ·simp [D.eqO,Qt,QD,D.cmp];omega
    ·rw [nt,if_neg (by decide),Nat.add_zero];rfl) [some (.lst (is.map It.d)),some (.int n),some (sty w h o li),some (.int room),some (Jg ls),some (.int (Jq is)),none] ⟨some (.int (Jq is)),none,by rw [List.take_zero];simp [QC],by rw [List.take_zero];simp [Jq]⟩
  obtain ⟨h2,h3⟩:=h2
  rw [List.take_length] at h2
  refine ⟨e',?_,a,b,h2⟩
  refine st (e1:=[some (.lst (is.map It.d)),some (.int n),some (sty w h o li),some (.int room),some (Jg ls),some (.int (Jq is)),none]) (asg (unE hc ln) rfl) ?_
  unfold Jn
  exact h1
 obtain ⟨e,h1,a,b,rfl⟩:=body
 unfold Yq
 exact stM rfl h1 rfl
theorem stN {n k:Nat} {b:EvS} {ds:List D} {e:Qq} (hl:ds.length=k) (h:b (sD n ds)=some (.nx e)):QA n k b ds=some .non:=by unfold QA;rw [if_pos hl,h];rfl
theorem Quk (l:Str) (ls:List Str) (h:l∈ls):D.dNotIn (.str l) (Jg ls)=some (.bl false):=by
 show some (D.bl (!hasK (.inr l) (ls.map Sum.inr)))=_
 rw [QjT,decide_eq_true h];rfl
theorem Ql9 (bs:List Bk) (ls:List Str) (hf:Few bs) (hr:∀ l∈rO bs,l∈ls):YO [bks bs,Jg ls]=some .non:=by
 obtain ⟨e',h1,_⟩:=QbZ (g:=JN [gS 2,gS 3]) (b:=Jn (Q1 (eK ZU (lC (Qi (lC (eV 3) lN)) lN))) (gS 4) (sIf (eOp D.dNotIn (eV 4) (eV 1)) (Vb) (sNx))) (fun p:Bk×Nat=>D.tup [.int p.2,p.1.d]) bs.zipIdx (fun i e=>∃ a b c,e=[some (bks bs),some (Jg ls),a,b,c]) (by
  rintro i hi e ⟨a,b,c,rfl⟩
  have hi':i<bs.length:=by simpa using hi
  have ei:bs.zipIdx[i]=(bs[i],i):=by simp
  rw [ei]
  have hm:bs[i]∈bs:=List.getElem_mem hi'
  have f1:=QmS hf _ hm
  have rf:=QfB [bs[i]] f1
  rw [Qg9] at rf
  have rf':ZU [.lst [bs[i].d]]=some (QE (QG (iO bs[i]))):=rf
  have hin:∀ l∈QG (iO bs[i]),l∈ls:=fun l hl=>hr l (List.mem_flatMap.mpr ⟨bs[i],hm,hl⟩)
  generalize QG (iO bs[i])=rs at *
  generalize bs[i]=x at *
  obtain ⟨e2,g1,c',g2⟩:=QbZ (g:=gS 4) (b:=sIf (eOp D.dNotIn (eV 4) (eV 1)) (Vb) (sNx)) D.str rs (fun _ e=>∃ c,e=[some (bks bs),some (Jg ls),some (.int i),some x.d,c]) (by
   rintro j hj e ⟨c,rfl⟩
   have nn:=Quk rs[j] ls (hin _ (List.getElem_mem hj))
   exact ⟨_,.inl (bnd (e1:=[some (bks bs),some (Jg ls),some (.int i),some x.d,some (.str rs[j])]) rfl (ifF (opE rfl rfl nn) rfl)),_,rfl⟩) [some (bks bs),some (Jg ls),some (.int i),some x.d,c] ⟨c,rfl⟩
  subst g2
  refine ⟨[some (bks bs),some (Jg ls),some (.int i),some x.d,c'],.inl (bnd (e1:=[some (bks bs),some (Jg ls),some (.int i),some x.d,c]) rfl ?_),some (.int i),some x.d,c',rfl⟩
  ·unfold Jn Q1
   have hR:eK ZU (lC (Qi (lC (eV 3) lN)) lN) [some (bks bs),some (Jg ls),some (.int i),some x.d,c]=some (QE rs):=QY (x:=.lst [x.d]) rfl rf'
   rw [hR]
   exact g1) [some (bks bs),some (Jg ls),none,none,none] ⟨none,none,none,rfl⟩
 unfold YO Qbc
 refine stN (e:=e') rfl ?_
 unfold Jn Qbl
 show (some (VE 0 (bs.map Bk.d))).bind _=_
 rw [QcA]
 exact h1
theorem QsU (w h:Int) (o li:Bool) (bs:List Bk) (hf:Few bs) (hw:4<=w/\w<=90/\2<=h/\h<=60) (h0:0<=most li bs) (h1:most li bs<10^60) (hs:∀ b∈bs,BkS b) (ht:∀ b∈bs,BkT b) (hfit:∀ b∈bs,Qat (JX (most li bs).toNat) w h b) (htt:∀ b∈bs,YX (iO b))
  (hn:(Ql bs).Nodup) (hr:∀ l∈rO bs,l∈Ql bs):Qaw [bks bs,sty w h o li]=some .non:=by
 have si:Qcb [sty w h o li]=some (.bl true):=by
  unfold Qcb Qeo sty
  simp [QF,J1,Zw,lI,QA,sD,sQ,sIf,Qj,ZP,Qd,Zu,JY,sNx,Yt,Z2,gS,JN,Zn,eV,eC,eOp,eUn,Q9,QN,eOr,eIf,JO,Qp,Qi,eK,lN,lC,J5,oNo,oAt,ZQ,D.len,D.lt,D.le,D.gt,D.ge,D.add,D.sub,D.ix,D.eqO,D.neO,D.cmp,D.cmpN,D.inst,tyD,D.isT,D.intB,D.min2,D.max2,D.neg,D.addI,Qo,JS,JU,Jv,QM,QS,JR,JQ,Jj,Ju,JV,JW,Jw,Jy,JT,Q7,JL,Za,Qt,Qz,Jd,Q8,Q4,QV,D.rng,D.its,D.itsT,QD,ZI,QH,Jl,JJ,Jm,Jh,ixD,hw.1,hw.2.1,hw.2.2.1,hw.2.2.2]
 have ra:=Qey w h o li bs hf h0 h1
 have lr:=Ql9 bs (Ql bs) hf hr
 have hbl:=Qfp bs
 obtain ⟨room,er⟩:∃ room:Int,(JX (most li bs).toNat:Int)=room:=⟨_,rfl⟩
 rw [er] at ra hfit
 have r0:0<=room:=by omega
 obtain ⟨e',g1,g2⟩:=QbZ (g:=JN [gS 4,gS 5]) (b:=sQ (Vu 3 Yr (lC (eV 5) (lC (eV 4) (lC (eV 1) (lC (eV 2) lN))))) (Vu 3 Yq (lC (eK Zg (lC (eV 5) lN)) (lC (eV 4) (lC (eV 1) (lC (eV 2) lN)))))) (fun p:Bk×Nat=>D.tup [.int p.2,p.1.d]) bs.zipIdx (fun i e=>∃ a b,e=[some (bks bs),some (sty w h o li),some (.int room),some (Jg (Ql (bs.take i))),a,b]) (by
  rintro i hi e ⟨a,b,rfl⟩
  have hi':i<bs.length:=by simpa using hi
  have ei:bs.zipIdx[i]=(bs[i],i):=by simp
  rw [ei]
  have hm:bs[i]∈bs:=List.getElem_mem hi'
  have tk:Ql (bs.take (i+1))=Ql (bs.take i)++Zd bs[i]:=fT Zd bs i hi'
  have lb:Zd bs[i]=QeI bs[i]++QC (iO bs[i]):=rfl
  have sub:(Ql (bs.take (i+1))).Nodup:=by
   refine List.Nodup.sublist ?_ hn
   unfold Ql
   conv=>rhs;rw [<- List.take_append_drop (i+1) bs,List.flatMap_append]
   exact List.sublist_append_left _ _
  have len:(Ql (bs.take (i+1))).length<=(Ql bs).length:=Yh Zd bs (i+1)
  have hlen:(Ql bs).length<=200000:=by have:=hf.1;have:=hf.2;omega
  have io:=Qb9 bs[i]
  have il:=Yv hf _ hm
  rw [tk,lb,<- List.append_assoc] at sub len
  rw [tk,lb,<- List.append_assoc]
  have sN:=sub
  rw [List.append_assoc] at sN
  have lk1:=Qlq w h o li room bs[i] i (Ql (bs.take i)) r0 (hs _ hm) (hfit _ hm) (fun l h1 h2=>(List.nodup_append.mp sN).2.2 l h2 l (List.mem_append_left _ h1) rfl) (Yb (by rw [List.length_append,List.length_append] at len;omega))
  have lk2:=Qlp w h o li room (iO bs[i]) i (Ql (bs.take i)++QeI bs[i]) il (ht _ hm) (by
   have:=hfit _ hm
   intro j hj
   cases q:bs[i] with
   | para is=>rw [q] at this hj;exact this j hj
   | _=>rw [q] at hj;cases hj) (htt _ hm) sub (Yb (by omega))
  generalize bs[i]=x at *
  refine ⟨[some (bks bs),some (sty w h o li),some (.int room),some (Jg (Ql (bs.take i)++QeI x++QC (iO x))),some (.int i),some x.d],.inl ?_,_,_,rfl⟩
  refine bnd (e1:=[some (bks bs),some (sty w h o li),some (.int room),some (Jg (Ql (bs.take i))),some (.int i),some x.d]) rfl ?_
  refine st (e1:=[some (bks bs),some (sty w h o li),some (.int room),some (Jg (Ql (bs.take i)++QeI x)),some (.int i),some x.d]) (QgX (ds:=[x.d,.int i,sty w h o li,.int room]) rfl rfl lk1) ?_
  exact QgX (ds:=[.lst ((iO x).map It.d),.int i,sty w h o li,.int room]) (lc (QY rfl io) rfl) rfl lk2) [some (bks bs),some (sty w h o li),some (.int room),some (Jg []),none,none] ⟨none,none,rfl⟩
 obtain ⟨a,b,rfl⟩:=g2
 have zl:bs.zipIdx.length=bs.length:=by simp
 rw [zl,List.take_length] at g1
 unfold Qaw QjY
 refine stN (e:=[some (bks bs),some (sty w h o li),some (.int room),some (Jg (Ql bs)),a,b]) rfl ?_
 refine st (e1:=[some (bks bs),some (sty w h o li),none,none,none,none]) (ifF (QbP (b:=true) (QY rfl si)) rfl) ?_
 refine st (e1:=[some (bks bs),some (sty w h o li),some (.int room),none,none,none]) (asg (J6 rfl rfl ra) rfl) ?_
 refine st (e1:=[some (bks bs),some (sty w h o li),some (.int room),some (Jg []),none,none]) rfl ?_
 refine st (e1:=[some (bks bs),some (sty w h o li),some (.int room),some (Jg (Ql bs)),a,b]) ?_ ?_
 ·unfold Jn Qbl
  show (some (VE 0 (bs.map Bk.d))).bind _=_
  rw [QcA]
  exact g1
 ·unfold JY
  have hR:eK YO (lC (eV 0) (lC (eV 3) lN)) [some (bks bs),some (sty w h o li),some (.int room),some (Jg (Ql bs)),a,b]=some .non:=J6 rfl rfl lr
  rw [hR]
  rfl
theorem Qrg (i:It):Q2 i=!isMK i:=by cases i<;>rfl
theorem Qd5 {r:List It} {x:It} (hx:Q2 x=true):YX (r++[x]):=by
 intro i hi h
 have hl:(r++[x]).length=r.length+1:=by simp
 have hir:i<r.length:=by
  rcases Nat.lt_or_ge i r.length with z | z
  ·exact z
  ·have e:i=r.length:=by omega
   subst e
   have:(r++[x])[r.length]=x:=by simp
   rw [this,hx] at h;cases h
 have e1:(r++[x]).take i=r.take i:=by rw [List.take_append_of_le_length (by omega)]
 have e2:Jq (r++[x])=Jq r+1:=by unfold Jq;rw [List.filter_append,List.length_append];simp [hx]
 rw [e1,e2]
 have:=QmD r i
 omega
theorem QcR:YX []:=fun i hi=>by simp at hi
theorem QlD (row:List It):YX (Qk row):=by
 rcases Qoy row with z | ⟨r,x,z⟩
 ·subst z;exact QcR
 ·have cl:Qk row=if isMK x then row++[.word "end" []] else row:=by unfold Qk;rw [z];simp
  rw [cl]
  cases q:isMK x with
  | true=>rw [if_pos rfl];exact Qd5 rfl
  | false=>rw [if_neg (by decide),z];exact Qd5 (by rw [Qrg,q];rfl)
theorem QiQ:∀ (as:List At) (s:List Bk×List It),(∀ a∈as,AtS a\/a=.fin)->(∀ b∈s.1,YX (iO b))->∀ b∈(as.foldl JP s).1,YX (iO b)
 | [],s,_,h=>h
 | a::as,s,ha,h=>by
  refine QiQ as (JP s a) (fun x hx=>ha x (List.mem_cons_of_mem _ hx)) fun b hb=>?_
  obtain ⟨bs,row⟩:=s
  have tc:YX (iO (.para (Qk row))):=QlD row
  have h1:∀ b∈bs++[Bk.para (Qk row)],YX (iO b):=fun b hb=>by
   rcases List.mem_append.mp hb with z | z
   ·exact h b z
   ·rw [List.mem_singleton.mp z];exact tc
  have h2:∀ b∈(if Qk row=[] then bs else bs++[.para (Qk row)]),YX (iO b):=fun b hb=>by
   split at hb
   ·exact h b hb
   ·exact h1 b hb
  cases a with
  | it i=>exact h b hb
  | bk x =>
   rcases List.mem_append.mp hb with z | z
   ·exact h2 b z
   ·rw [List.mem_singleton.mp z]
    rcases ha (.bk x) List.mem_cons_self with q | q
    ·cases x<;>first | exact QcR | exact q.elim
    ·cases q
  | brk=>exact h1 b hb
  | fin=>exact h2 b hb
theorem QbH (P:It->Prop) (he:P (.word "end" [])):∀ (as:List At) (s:List Bk×List It),(∀ a∈as,AtS a\/a=.fin)->(∀ i,At.it i∈as->P i)->(∀ b∈s.1,∀ i∈iO b,P i)->(∀ i∈s.2,P i)->∀ b∈(as.foldl JP s).1,∀ i∈iO b,P i
 | [],s,_,_,h,_=>h
 | a::as,s,ha,hi,h,hrow=>by
  obtain ⟨bs,row⟩:=s
  have hc:∀ i∈Qk row,P i:=fun i hi=>by
   unfold Qk at hi
   split at hi
   ·split at hi
    ·rcases List.mem_append.mp hi with z | z
     ·exact hrow i z
     ·rw [List.mem_singleton.mp z];exact he
    ·exact hrow i hi
   ·exact hrow i hi
  have h1:∀ b∈bs++[Bk.para (Qk row)],∀ i∈iO b,P i:=fun b hb=>by
   rcases List.mem_append.mp hb with z | z
   ·exact h b z
   ·rw [List.mem_singleton.mp z];exact hc
  have h2:∀ b∈(if Qk row=[] then bs else bs++[.para (Qk row)]),∀ i∈iO b,P i:=fun b hb=>by
   split at hb
   ·exact h b hb
   ·exact h1 b hb
  have ha':∀ x∈as,AtS x\/x=.fin:=fun x hx=>ha x (List.mem_cons_of_mem _ hx)
  have hi':∀ i,At.it i∈as->P i:=fun i hx=>hi i (List.mem_cons_of_mem _ hx)
  have nil:∀ i∈([]:List It),P i:=fun i h=>by cases h
  cases a with
  | it x =>
   refine QbH P he as _ ha' hi' h fun i hx=>?_
   rcases List.mem_append.mp hx with z | z
   ·exact hrow i z
   ·rw [List.mem_singleton.mp z];exact hi x List.mem_cons_self
  | bk x =>
   refine QbH P he as _ ha' hi' (fun b hb=>?_) nil
   rcases List.mem_append.mp hb with z | z
   ·exact h2 b z
   ·rw [List.mem_singleton.mp z]
    rcases ha (.bk x) List.mem_cons_self with q | q
    ·cases x<;>first | exact nil | exact q.elim
    ·cases q
  | brk=>exact QbH P he as _ ha' hi' h1 nil
  | fin=>exact QbH P he as _ ha' hi' h2 nil
theorem QfQ (row:List It):QC (Qk row)=QC row:=by
 unfold Qk
 split
 ·split
  ·unfold QC;rw [List.flatMap_append];simp [mkL]
  ·rfl
 ·rfl
theorem Qkz:∀ (as:List At) (s:List Bk×List It),(∀ a∈as,AtS a\/a=.fin)->Ql (as.foldl JP s).1++QC (as.foldl JP s).2=Ql s.1++QC s.2++as.flatMap Jz
 | [],s,_=>by simp
 | a::as,s,ha=>by
  rw [List.foldl_cons,Qkz as _ (fun x hx=>ha x (List.mem_cons_of_mem _ hx)),List.flatMap_cons,<- List.append_assoc]
  congr 1
  obtain ⟨bs,row⟩:=s
  have e1:Ql (bs++[.para (Qk row)])=Ql bs++QC row:=by
   unfold Ql
   rw [List.flatMap_append]
   simp [Zd,JI,iO,QfQ]
  have e2:Ql (if Qk row=[] then bs else bs++[.para (Qk row)])=Ql bs++QC row:=by
   split
   ·rename_i z
    rw [<- QfQ row,z];simp [QC]
   ·exact e1
  have app:∀ (xs:List Bk) (b:Bk),Ql (xs++[b])=Ql xs++Zd b:=fun xs b=>by unfold Ql;rw [List.flatMap_append];simp
  cases a with
  | it i =>
   show Ql bs++QC (row++[i])=Ql bs++QC row++Jz (.it i)
   unfold QC
   rw [List.flatMap_append,<- List.append_assoc]
   congr 1
   cases i<;>simp [mkL,Jz]
  | bk x =>
   show Ql ((if Qk row=[] then bs else bs++[.para (Qk row)])++[x])++QC []=_
   rw [app,e2]
   have:Zd x=Jz (.bk x):=by
    rcases ha (.bk x) List.mem_cons_self with q | q
    ·cases x with
     | para is=>exact q.elim
     | chapter t l=>by_cases z:l=""<;>simp [Zd,JI,Jz,iO,QC,z]
     | heading t k l=>by_cases z:l=""<;>simp [Zd,JI,Jz,iO,QC,z]
     | table rs l=>by_cases z:l=""<;>simp [Zd,JI,Jz,iO,QC,z]
     | plates n l=>by_cases z:l=""<;>simp [Zd,JI,Jz,iO,QC,z]
    ·cases q
   rw [this];simp [QC]
  | brk =>
   show Ql (bs++[.para (Qk row)])++QC []=_
   rw [e1];simp [QC,Jz]
  | fin =>
   show Ql (if Qk row=[] then bs else bs++[.para (Qk row)])++QC []=_
   rw [e2];simp [QC,Jz]
theorem QsY (ls:List Str) (cs:List Int) (i:Nat) (a:At):Jz (pt ls cs i a)=Jz a:=by
 unfold pt
 split
 ·split<;>rfl
 ·rfl
theorem QdH {α β γ:Type} (f:β->List γ) (h:α->List γ):∀ (g:Nat->α->β) (xs:List α),(∀ i a,f (g i a)=h a)->(xs.mapIdx g).flatMap f=xs.flatMap h
 | g,[],_=>rfl
 | g,x::xs,hg=>by
  rw [List.mapIdx_cons,List.flatMap_cons,List.flatMap_cons,hg,QdH f h _ xs (fun i a=>hg _ a)]
theorem Qlr (cs:List Int) (as:List At):labs (Jk cs as)=labs as:=QdH Jz Jz _ as (fun i a=>QsY _ _ i a)
theorem Qkq:∀ (cs:List Int) (n:Nat),n+cs.length<=58->((cs.zipIdx n).flatMap fun p=>Jz (Vc p.1 p.2)).Sublist ((List.range' n cs.length).map lab)
 | [],n,_=>by simp
 | c::cs,n,h=>by
  rw [List.length_cons] at h
  have ih:=Qkq cs (n+1) (by omega)
  have ok:=(Qfc c n (by omega)).2
  rw [List.zipIdx_cons,List.flatMap_cons,List.length_cons,List.range'_succ,List.map_cons]
  have key:Jz (Vc c n)=[]\/Jz (Vc c n)=[lab n]:=by
   have lb:∀ l,Qgd n l->(if l=Str.ofString "" then [] else [l])=[]\/(if l=Str.ofString "" then [] else [l])=[lab n]:=fun l hl=>by
    by_cases z:l=Str.ofString ""
    ·left;rw [if_pos z]
    ·right
     rw [if_neg z]
     rcases hl with q | q
     ·exact absurd q z
     ·rw [q]
   cases q:Vc c n with
   | brk=>exact .inl rfl
   | fin=>exact .inl rfl
   | it i =>
    rw [q] at ok
    cases i with
    | mark l=>right;show [l]=_;rw [show l=lab n from ok]
    | _=>exact .inl rfl
   | bk b =>
    rw [q] at ok
    cases b with
    | chapter t l=>exact lb l ok.2
    | heading t k l=>exact lb l ok.2.2
    | table rs l=>exact lb l ok.2.2
    | plates m l=>exact lb l ok.2
    | para is=>exact ok.elim
  rcases key with z | z
  ·have z':Jz (Vc (c,n).1 (c,n).2)=[]:=z
   rw [z',List.nil_append];exact ih.cons _
  ·have z':Jz (Vc (c,n).1 (c,n).2)=[lab n]:=z
   rw [z'];exact ih.cons_cons _
theorem QfP:∀ xs:List Str,QjB xs=true->xs.Nodup
 | [],_=>List.nodup_nil
 | x::xs,h=>by
  simp only [QjB,Bool.and_eq_true,List.all_eq_true,decide_eq_true_eq] at h
  exact List.nodup_cons.mpr ⟨fun z=>h.1 x z rfl,QfP xs h.2⟩
theorem Qp3 (cs:List Int) (h:cs.length<=58):(labs (JC cs)).Sublist ((List.range 58).map lab):=by
 have h1:=Qkq cs 0 (by omega)
 have e:labs (JC cs)=(cs.zipIdx 0).flatMap fun p=>Jz (Vc p.1 p.2):=by
  unfold labs JC
  rw [List.flatMap_map]
 rw [e]
 refine h1.trans (List.Sublist.map _ ?_)
 have e2:List.range' 0 cs.length++List.range' (0+cs.length) (58-cs.length)=List.range' 0 (cs.length+(58-cs.length)):=List.range'_append_1
 rw [List.range_eq_range',show 58=cs.length+(58-cs.length) from by omega,<- e2]
 exact List.sublist_append_left _ _
theorem QkO (xs ys:List Bk):Ql (xs++ys)=Ql xs++Ql ys:=by unfold Ql;rw [List.flatMap_append]
theorem Qhk (cs:List Int) (h:cs.length<58):Ql (Qb2 cs)=labs (JC cs):=by
 have hB:=QgW cs h
 have g:=Qkz (Jk cs (JC cs)++[.fin]) ([],[]) (fun a ha=>by
  rcases hB a ha with z | z
  ·exact .inl (Qfy z)
  ·exact .inr z)
 have e2:((Jk cs (JC cs)++[At.fin]).foldl JP ([],[])).2=[]:=by
  rw [List.foldl_append]
  show (JP _ .fin).2=[]
  rfl
 rw [e2] at g
 have e3:(Jk cs (JC cs)++[At.fin]).flatMap Jz=labs (JC cs):=by
  rw [List.flatMap_append]
  show labs (Jk cs (JC cs))++_=_
  rw [Qlr];simp [Jz]
 rw [e3] at g
 have e4:Ql (Qb2 cs)=Ql ((Jk cs (JC cs)++[At.fin]).foldl JP ([],[])).1:=rfl
 rw [e4]
 simpa [QC,Ql] using g
theorem QpU (ns:List Int) (w h:Int) (li:Bool):Ql (Zi ns w h li)=[]\/Ql (Zi ns w h li)=[Str.ofString "z"]:=by
 unfold Zi
 split
 ·exact .inl rfl
 ·right;simp [Ql,Zd,JI,iO,QC,mkL]
theorem QpH:((List.range 58).map lab).Nodup:=QfP _ QsZ
theorem Qp6 (ns:List Int):(Ql (Jt ns)).Nodup:=by
 have hl:=VA ns
 have sub:=Qp3 (Zb ns) (by omega)
 unfold Jt dBk
 rw [QkO,Qhk _ hl]
 have nd:(labs (JC (Zb ns))).Nodup:=sub.nodup QpH
 rcases QpU ns (dW ns) (dH ns) (dLi ns) with z | z
 ·rw [z];exact nd
 ·rw [z]
  refine List.nodup_cons.mpr ⟨fun q=>?_,nd⟩
  obtain ⟨k,hk,e⟩:=List.mem_map.mp (sub.subset q)
  exact Qvl k (List.mem_range.mp hk) e
theorem Qhd {bs:List Bk} {l:Str} (h:l∈rO bs):∃ b∈bs,∃ x y,It.ref l x y∈iO b:=by
 obtain ⟨b,hb,h1⟩:=List.mem_flatMap.mp h
 unfold QG at h1
 obtain ⟨i,hi,e⟩:=List.mem_map.mp h1
 obtain ⟨h2,h3⟩:=List.mem_filter.mp hi
 cases i with
 | ref l' x y=>cases e;exact ⟨b,hb,x,y,h2⟩
 | _=>cases h3
def QnC (L:List Str):It->Prop
 | .ref l _ _=>l∈L
 | _=>True
theorem QtT (ls:List Str) (cs:List Int) (k:Nat) (a:At):∀ i,pt ls cs k a=.it i->(∀ j,a=.it j->(∃ l x y,j=.ref l x y)\/QnC ls j)->QnC ls i:=by
 intro i e h
 unfold pt at e
 split at e
 ·split at e
  ·cases e;trivial
  ·rename_i ne
   cases e
   show List.getD _ _ _∈ls
   have hp:(0:Int)<ls.length:=by
    cases ls with
    | nil=>exact absurd rfl ne
    | cons a b=>simp only [List.length_cons];omega
   have h1:=Int.emod_nonneg (mix (cs.getD k 0) (k+90)) (show (ls.length:Int)≠0 by omega)
   have h2:=Int.emod_lt_of_pos (mix (cs.getD k 0) (k+90)) hp
   rw [List.getD_eq_getElem?_getD,List.getElem?_eq_getElem (by omega)]
   exact List.getElem_mem _
 ·rename_i nr
  subst e
  rcases h i rfl with ⟨l,x,y,rfl⟩ | q
  ·exact absurd rfl (nr l x y)
  ·exact q
theorem Qoi (cs:List Int) (h:cs.length<58):∀ l∈rO (Qb2 cs),l∈labs (JC cs):=by
 intro l hl
 obtain ⟨b,hb,x,y,hi⟩:=Qhd hl
 have hB:=QgW cs h
 have g:=QbH (QnC (labs (JC cs))) trivial (Jk cs (JC cs)++[At.fin]) ([],[]) (fun a ha=>by
  rcases hB a ha with z | z
  ·exact .inl (Qfy z)
  ·exact .inr z) (fun i hm=>by
   rcases List.mem_append.mp hm with z | z
   ·unfold Jk at z
    obtain ⟨k,hk,e⟩:=List.mem_mapIdx.mp z
    refine QtT _ _ _ _ i e fun j _=>?_
    cases j with
    | ref l x y=>exact .inl ⟨l,x,y,rfl⟩
    | _=>exact .inr trivial
   ·cases List.mem_singleton.mp z) (by simp) (by simp) b hb (.ref l x y) hi
 exact g
theorem QnN (xs ys:List Bk):rO (xs++ys)=rO xs++rO ys:=by unfold rO;rw [List.flatMap_append]
theorem Qp5 (ns:List Int):∀ l∈rO (Jt ns),l∈Ql (Jt ns):=by
 intro l hl
 have hc:=VA ns
 unfold Jt dBk at *
 rw [QnN] at hl
 rw [QkO]
 rcases List.mem_append.mp hl with z | z
 ·refine List.mem_append_left _ ?_
  unfold Zi at z ⊢
  split at z
  ·cases z
  ·rename_i ne
   rw [if_neg ne]
   obtain ⟨b,hb,x,y,hi⟩:=Qhd z
   simp only [List.mem_cons,List.not_mem_nil,or_false] at hb
   rcases hb with q | q | q<;>subst q
   ·cases hi
   ·cases hi
   ·simp only [iO,List.mem_cons,List.not_mem_nil,or_false] at hi
    rcases hi with q | q | q
    ·cases q
    ·cases q
    ·cases q
     simp [Ql,Zd,JI,iO,QC,mkL]
 ·refine List.mem_append_right _ ?_
  rw [Qhk _ hc]
  exact Qoi _ hc l z
theorem Qoj (ns:List Int):∀ b∈Jt ns,YX (iO b):=by
 intro b hb
 unfold Jt dBk at hb
 rcases List.mem_append.mp hb with z | z
 ·unfold Zi at z
  split at z
  ·cases z
  ·simp only [List.mem_cons,List.not_mem_nil,or_false] at z
   rcases z with q | q | q<;>subst q
   ·exact QcR
   ·exact QcR
   ·exact Qd5 (r:=[_,_]) rfl
 ·exact QiQ _ ([],[]) (fun a ha=>by
   rcases QgW _ (VA ns) a ha with z | z
   ·exact .inl (Qfy z)
   ·exact .inr z) (by simp) b z
theorem QuG (ns:List Int) (w h:Int) (li:Bool) (hw:4<=w/\w<=90) (hh:2<=h/\h<=60):∀ b∈Zi ns w h li,BkS b/\BkT b/\Qa2 b:=by
 intro b hb
 have h6:=Qtt (Qaj ns)
 have hN:=Qaj ns
 unfold Zi at hb
 split at hb
 ·cases hb
 ·simp only [List.mem_cons,List.not_mem_nil,or_false] at hb
  have it:∀ i∈[It.word (Z9 (Str.ofString "w") (if w-1-Jr ns > 1 then w-1-Jr ns else 1)) [],It.mark "z",It.ref "z" "" ""],ItT i:=fun i hi=>by
   simp only [List.mem_cons,List.not_mem_nil,or_false] at hi
   rcases hi with q | q | q<;>subst q
   ·refine ⟨?_,by simp,by simp⟩
    rw [QgQ];split<;>omega
   ·trivial
   ·exact ⟨by rw [Zc];omega,by rw [Zc];omega⟩
  rcases hb with q | q | q<;>subst q
  ·refine ⟨trivial,fun i hi=>(by cases hi),fun n l e=>?_⟩
   cases e;omega
  ·refine ⟨⟨by simp;omega,fun r hr=>?_⟩,fun i hi=>(by cases hi),fun n l e=>(by cases e)⟩
   rw [List.eq_of_mem_replicate hr,Zc];omega
  ·exact ⟨it,it,fun n l e=>(by cases e)⟩
theorem QvF:∀ {b:Bk},BkB b->BkS b/\BkT b/\Qa2 b:=by
 intro b h
 have itT:∀ i,ItB i->ItT i:=fun i hi=>by
  cases i with
  | word x ns=>exact ⟨by have:=hi.1.2;omega,by have:=hi.2.1;omega,fun r hr=>by have:=hi.2.2 r hr;omega⟩
  | ref l x y=>exact ⟨by have:=hi.1;omega,by have:=hi.2;omega⟩
  | _=>trivial
 cases b with
 | chapter t l=>exact ⟨by have:=h.2;show t.length<=1000;omega,fun i hi=>(by cases hi),fun n l e=>(by cases e)⟩
 | heading t k l=>exact ⟨by have:=h.1.2;show t.length<=1000;omega,fun i hi=>(by cases hi),fun n l e=>(by cases e)⟩
 | table rs l=>exact ⟨⟨by have:=h.1.2;omega,fun r hr=>by have:=h.2 r hr;omega⟩,fun i hi=>(by cases hi),fun n l e=>(by cases e)⟩
 | plates n l=>exact ⟨trivial,fun i hi=>(by cases hi),fun m l' e=>(by cases e;exact h.1)⟩
 | para is=>exact ⟨fun i hi=>itT i (h i hi),fun i hi=>itT i (h i hi),fun n l e=>(by cases e)⟩
theorem QoS (ns:List Int):∀ b∈Jt ns,BkS b/\BkT b/\Qa2 b:=by
 intro b hb
 have hw:=Qgc ns
 have hh:=QeM ns
 unfold Jt at hb
 rcases List.mem_append.mp hb with z | z
 ·exact QuG ns _ _ _ ⟨hw.2.1,hw.2.2⟩ ⟨hh.2.1,hh.2.2⟩ b z
 ·exact QvF (Qfx ns b z)
theorem QpT (ns:List Int) (w h w' h':Int) (li li':Bool):(Zi ns w h li).map (Ji li')=(Zi ns w' h' li).map (Ji li'):=by
 unfold Zi
 split
 ·rfl
 ·simp [Ji,Q2,ZX,JH]
theorem Qi1 (ns:List Int):most (dLi ns) (Jt ns)=ZR ns:=by
 unfold ZR Jt dE0 most
 rw [Vz,Vz,List.map_append,List.map_append,QpT ns _ _ 4 2]
theorem QkG (ns:List Int):∀ b∈Jt ns,Qat (dR ns) (dW ns) (dH ns) b:=by
 intro b hb
 have hn:=QbJ ns
 have hw:=Qgc ns
 have hwd:=Qm1 ns
 have hh:=QeM ns
 have hr:=QdD ns
 have hN:=Qaj ns
 unfold Jt at hb
 rcases List.mem_append.mp hb with z | z
 ·have fe:∀ b∈dE0 ns,Qat (dR ns) (Js ns).1 (Js ns).2 b:=fun b hb=>hn.2.2.2.2 b (List.mem_append_right _ hb)
  have ne:¬ (dLi ns=true\/cell ns 4%3≠1):=fun q=>by
   unfold Zi at z
   rw [if_pos q] at z;cases z
  unfold Zi at z
  rw [if_neg ne] at z
  have rm:dR ns<=(Js ns).1:=by
   have:=fe (.para [.word (Z9 "w" (if (4:Int)-1-Jr ns > 1 then 4-1-Jr ns else 1)) [],.mark "z",.ref "z" "" ""]) (by unfold dE0 Zi;rw [if_neg ne];simp) (.ref "z" "" "") (by simp)
   have e:((Str.ofString "").length:Int)+dR ns+((Str.ofString "").length:Int)<=(Js ns).1:=this
   rw [Zc] at e
   omega
  simp only [List.mem_cons,List.not_mem_nil,or_false] at z
  rcases z with q | q | q<;>subst q
  ·trivial
  ·refine ⟨by simp;omega,fun r hr=>?_⟩
   rw [List.eq_of_mem_replicate hr,Zc];omega
  ·intro i hi
   simp only [List.mem_cons,List.not_mem_nil,or_false] at hi
   rcases hi with q | q | q<;>subst q
   ·refine ⟨?_,by simp;omega,by simp⟩
    rw [QgQ];split<;>omega
   ·trivial
   ·show ((Str.ofString "").length:Int)+dR ns+((Str.ofString "").length:Int)<=_
    rw [Zc];omega
 ·exact QiU (by omega) hh.1 (hn.2.2.2.2 b (List.mem_append_left _ z))
def Yu (room:Int) (rs:List Int):Prop:=∀ r∈rs,1<=r/\r<=room
theorem QiO (pls:List Plc) (M:Int) (hb:∀ x∈pls,1<=x.p/\x.p<=M):∀ (is:List It) (s:List (Str×Int)×Nat),(∀ x∈s.1,1<=x.2/\x.2<=M)->(∀ i (hi:i<is.length),Q2 is[i]=false->s.2+Jq (is.take i)<pls.length)->∀ x∈(is.foldl (Zx pls) s).1,1<=x.2/\x.2<=M
 | [],s,h,_=>h
 | i::is,s,h,ht=>by
  have nx:∀ j (hj:j<is.length),Q2 is[j]=false->(Zx pls s i).2+Jq (is.take j)<pls.length:=fun j hj hs=>by
   have:=ht (j+1) (by simpa using hj) (by simpa using hs)
   rw [List.take_succ_cons,QcT] at this
   have e:(Zx pls s i).2=s.2+(if Q2 i then 1 else 0):=by cases i<;>simp [Zx,Q2,ZX,JH]
   rw [e]
   omega
  refine QiO pls M hb is (Zx pls s i) ?_ nx
  cases i with
  | mark l =>
   have hk:=ht 0 (by simp) rfl
   simp [Jq] at hk
   intro x hx
   rcases List.mem_append.mp hx with z | z
   ·exact h x z
   ·rw [List.mem_singleton.mp z]
    show 1<=(pls.getD s.2 ⟨0,0,0⟩).p/\_
    rw [List.getD_eq_getElem?_getD,List.getElem?_eq_getElem hk]
    exact hb _ (List.getElem_mem hk)
  | _=>exact h
theorem QpN (M:Int) (q:Bk×List Plc) (hq:q.2.length=nPl q.1) (hb:∀ x∈q.2,1<=x.p/\x.p<=M) (ht:YX (iO q.1)):∀ x∈Ja q,1<=x.2/\x.2<=M:=by
 obtain ⟨b,pls⟩:=q
 simp only [] at hq hb ht
 intro x hx
 unfold Ja at hx
 rcases List.mem_append.mp hx with z | z
 ·split at z
  ·cases z
  ·rename_i ne
   rw [List.mem_singleton.mp z]
   have np:pls.length=1:=by cases b<;>first | exact hq | exact absurd rfl ne
   match pls,np with
   | [p0],_=>exact hb p0 (by simp)
 ·refine QiO pls M hb (iO b) ([],0) (fun y hy=>by cases hy) (fun i hi hs=>?_) x z
  have:=ht i hi hs
  have le:Jq (iO b)<=pls.length:=by
   cases b with
   | para is=>exact Nat.le_of_eq hq.symm
   | _=>exact Nat.zero_le _
  simp only []
  omega
def Zm (kv:List (Str×Int)) (l:Str):Int:=match D.dget (Zj kv) (.str l) with
 | some (.int p)=>p
 | _=>0
theorem Qmz {kv:List (Str×Int)} {l:Str} (h:l∈kv.map (·.1)):D.dget (Zj kv) (.str l)=some (.int (Zm kv l))/\(l,Zm kv l)∈kv:=by
 obtain ⟨p,h1,h2⟩:=Qj9 h
 have:Zm kv l=p:=by unfold Zm;rw [h2]
 rw [this]
 exact ⟨h2,h1⟩
theorem QjQ (xs:List Int):D.neO (.lst (xs.map .int)) (.lst (xs.map .int))=some (.bl false):=by
 unfold D.neO
 rw [if_pos (by rw [Q8];have:=Y1 (f:=D.int) (n:=0) (fun a=>by rw [Qt];exact Nat.le_refl _) xs;omega),Qcz Qgt];rfl
theorem QlU (bs:List Bk) (fw:Few bs):Qbs [bks bs]=some (QE (rO bs)):=by
 have hr:=Qb5 bs
 unfold Qbs Qdk
 refine stD rfl ?_
 refine st (e1:=[some (bks bs),some (QE []),none]) rfl ?_
 refine V2 Bk.d bs (fun i e=>∃ v,e=[some (bks bs),some (QE (rO (bs.take i))),v]) rfl ⟨none,rfl⟩ ?_ ?_
 ·rintro i hi e ⟨v,rfl⟩
  have t1:rO (bs.take (i+1))=rO (bs.take i)++QG (iO bs[i]):=fT _ bs i hi
  have t3:(rO (bs.take (i+1))).length<=(rO bs).length:=Yh (fun b=>QG (iO b)) bs (i+1)
  rw [t1,List.length_append] at t3
  rw [t1]
  have hil:=Yv fw bs[i] (List.getElem_mem hi)
  have hx:D.add (QE (rO (bs.take i))) (QE (QG (iO bs[i])))=some (QE (rO (bs.take i)++QG (iO bs[i]))):=QhQ (f:=D.str) (lB (by have:=fw.2;omega))
  generalize bs[i]=x at *
  refine ⟨[some (bks bs),some (QE (rO (bs.take i)++QG (iO x))),some x.d],.inl ?_,_,rfl⟩
  refine bnd (e1:=[some (bks bs),some (QE (rO (bs.take i))),some x.d]) rfl ?_
  cases x with
  | para is =>
   have hc:=Qkh (it:=Q1 (eOp D.ix (eV 2) (eC (.int 1)))) (e:=[some (bks bs),some (QE (rO (bs.take i))),some (Bk.para is).d]) is rfl (lB (Nat.le_trans hil (by decide)))
   exact ifT (opE (x:=.str "para") (opE (x:=(Bk.para is).d) rfl rfl rfl) rfl (by rw [eqS];simp)) (asg (opE rfl hc hx) rfl)
  | _ =>
   refine ifF (by simp [eOp,eV,eC,D.ix,ixD,eqS]) ?_
   simp [sNx,iO,QG]
 ·rintro e ⟨v,rfl⟩
  rw [List.take_length]
  exact ret rfl
def J8 (w h:Int) (s:Sta):Prop:=0<=s.l/\0<=s.u/\s.u<=w/\0<=s.f/\s.l+s.f<=h/\(0<s.u->s.l+s.f<h)
def JK (s t:Sta):Prop:=s.p<t.p\/(s.p=t.p/\(s.l<t.l\/(s.l=t.l/\s.u<=t.u))/\s.f<=t.f)
def VR (a b:Plc):Prop:=a.p<b.p\/(a.p=b.p/\(a.l<b.l\/(a.l=b.l/\a.c<=b.c)))
theorem Qpj (a:Plc):VR a a:=.inr ⟨rfl,.inr ⟨rfl,Int.le_refl _⟩⟩
theorem Qlo (a:Sta):JK a a:=.inr ⟨rfl,.inr ⟨rfl,Int.le_refl _⟩,Int.le_refl _⟩
theorem Qb6 {w h:Int} {s:Sta} {n r:Int} (hs:J8 w h s) (hn:1<=n/\n<=w) (hr:0<=r/\r<h):J8 w h (QB w h s n r).2:=by
 obtain ⟨a1,a2,a3,a4,a5,a6⟩:=hs
 unfold QB J8
 split
 ·rename_i z
  by_cases u0:s.u=0
  ·simp only [u0,if_true];omega
  ·have:=z.1
   simp only [u0,if_false];omega
 ·split
  ·dsimp only;omega
  ·dsimp only;omega
theorem Qfj {w h:Int} {s t:Sta} {n m r:Int} (hs:J8 w h s) (ht:J8 w h t) (hl:JK s t) (hn:1<=n/\n<=m/\m<=w) (hr:0<=r/\r<h):VR (QB w h s n r).1 (QB w h t m r).1/\JK (QB w h s n r).2 (QB w h t m r).2:=by
 obtain ⟨a1,a2,a3,a4,a5,a6⟩:=hs
 obtain ⟨b1,b2,b3,b4,b5,b6⟩:=ht
 unfold JK at hl
 unfold QB VR JK
 by_cases x1:(s.u=0\/s.u+1+n<=w)/\s.l+s.f+(1+r)<=h
 ·rw [if_pos x1]
  by_cases y1:(t.u=0\/t.u+1+m<=w)/\t.l+t.f+(1+r)<=h
  ·rw [if_pos y1]
   by_cases u0:s.u=0<;>by_cases v0:t.u=0<;>simp only [u0,v0,if_true,if_false]<;>omega
  ·rw [if_neg y1]
   by_cases y2:0<t.u/\t.l+t.f+(2+r)<=h
   ·rw [if_pos y2]
    by_cases u0:s.u=0<;>simp only [u0,if_true,if_false]<;>omega
   ·rw [if_neg y2]
    by_cases u0:s.u=0<;>simp only [u0,if_true,if_false]<;>omega
 ·rw [if_neg x1]
  by_cases x2:0<s.u/\s.l+s.f+(2+r)<=h
  ·rw [if_pos x2]
   by_cases y1:(t.u=0\/t.u+1+m<=w)/\t.l+t.f+(1+r)<=h
   ·rw [if_pos y1]
    by_cases v0:t.u=0<;>simp only [v0,if_true,if_false]<;>omega
   ·rw [if_neg y1]
    by_cases y2:0<t.u/\t.l+t.f+(2+r)<=h
    ·rw [if_pos y2];dsimp only;omega
    ·rw [if_neg y2];dsimp only;omega
  ·rw [if_neg x2]
   by_cases y1:(t.u=0\/t.u+1+m<=w)/\t.l+t.f+(1+r)<=h
   ·rw [if_pos y1]
    by_cases v0:t.u=0<;>simp only [v0,if_true,if_false]<;>omega
   ·rw [if_neg y1]
    by_cases y2:0<t.u/\t.l+t.f+(2+r)<=h
    ·rw [if_pos y2];dsimp only;omega
    ·rw [if_neg y2];dsimp only;omega
theorem QaI {w h:Int} {s:Sta} (hs:J8 w h s):J8 w h (endLine s)/\(endLine s).u=0:=by
 obtain ⟨a1,a2,a3,a4,a5,a6⟩:=hs
 unfold endLine
 split
 ·rename_i z;exact ⟨⟨a1,a2,a3,a4,a5,a6⟩,z⟩
 ·unfold J8;dsimp only;omega
theorem Qfm {w h:Int} {s t:Sta} (hs:J8 w h s) (ht:J8 w h t) (hl:JK s t):JK (endLine s) (endLine t):=by
 obtain ⟨a1,a2,a3,a4,a5,a6⟩:=hs
 obtain ⟨b1,b2,b3,b4,b5,b6⟩:=ht
 unfold JK at *
 unfold endLine
 by_cases u0:s.u=0<;>by_cases v0:t.u=0<;>simp only [u0,v0,if_true,if_false]<;>omega
theorem Yx {w h:Int} {s:Sta} {a b:Int} (hs:J8 w h s) (ha:1<=a) (hb:0<=b) (hab:a+b<=h):J8 w h (QL h s a b).2:=by
 obtain ⟨⟨a1,a2,a3,a4,a5,a6⟩,z⟩:=QaI hs
 unfold QL J8 Q6
 split
 ·dsimp only;omega
 ·dsimp only;omega
theorem QbU {w h:Int} {s t:Sta} {a b:Int} (hs:J8 w h s) (ht:J8 w h t) (hl:JK s t) (ha:1<=a) (hb:0<=b) (hab:a+b<=h):VR (QL h s a b).1 (QL h t a b).1/\JK (QL h s a b).2 (QL h t a b).2:=by
 have hm:=Qfm hs ht hl
 obtain ⟨⟨a1,a2,a3,a4,a5,a6⟩,z⟩:=QaI hs
 obtain ⟨⟨b1,b2,b3,b4,b5,b6⟩,y⟩:=QaI ht
 unfold JK at hm
 have e1:∀ s:Sta,(endLine s).l+(endLine s).f+(a+b)<=h->QL h s a b=(⟨(endLine s).p,(endLine s).l,0⟩,⟨(endLine s).p,(endLine s).l+a,0,(endLine s).f⟩):=fun s x=>by unfold QL;rw [if_pos x]
 have e2:∀ s:Sta,¬ (endLine s).l+(endLine s).f+(a+b)<=h->QL h s a b=(⟨(endLine s).p+1,0,0⟩,⟨(endLine s).p+1,0+a,0,0⟩):=fun s x=>by unfold QL;rw [if_neg x];rfl
 unfold VR JK
 by_cases x:(endLine s).l+(endLine s).f+(a+b)<=h<;>by_cases v:(endLine t).l+(endLine t).f+(a+b)<=h
 ·rw [e1 s x,e1 t v];dsimp only;omega
 ·rw [e1 s x,e2 t v];dsimp only;omega
 ·rw [e2 s x,e1 t v];dsimp only;omega
 ·rw [e2 s x,e2 t v];dsimp only;omega
theorem Qfk {w h:Int} {s t:Sta} (hs:J8 w h s) (ht:J8 w h t) (hl:JK s t):(QO s).p<=(QO t).p:=by
 obtain ⟨a1,a2,a3,a4,a5,a6⟩:=hs
 obtain ⟨b1,b2,b3,b4,b5,b6⟩:=ht
 unfold JK at hl
 have e1:∀ s:Sta,(s.l=0/\s.u=0/\s.f=0)->(QO s).p=s.p:=fun s x=>by unfold QO;rw [if_pos x]
 have e2:∀ s:Sta,¬ (s.l=0/\s.u=0/\s.f=0)->(QO s).p=s.p+1:=fun s x=>by unfold QO;rw [if_neg x];rfl
 by_cases x:s.l=0/\s.u=0/\s.f=0<;>by_cases v:t.l=0/\t.u=0/\t.f=0
 ·rw [e1 s x,e1 t v];omega
 ·rw [e1 s x,e2 t v];omega
 ·rw [e2 s x,e1 t v];omega
 ·rw [e2 s x,e2 t v];omega
theorem QhH {w h:Int} {s t:Sta} (o:Bool) (hs:J8 w h s) (ht:J8 w h t) (hl:JK s t):(Q0 o s).p<=(Q0 o t).p:=by
 have:=Qfk hs ht hl
 unfold Q0 Q6
 by_cases x:o=true/\(QO s).p%2=0<;>by_cases v:o=true/\(QO t).p%2=0
 ·rw [if_pos x,if_pos v];dsimp only;omega
 ·rw [if_pos x,if_neg v]
  have:¬ (QO t).p%2=0:=fun q=>v ⟨x.1,q⟩
  dsimp only;omega
 ·rw [if_neg x,if_pos v];dsimp only;omega
 ·rw [if_neg x,if_neg v];omega
def JF {α β:Type} (r:α->β->Prop):List α->List β->Prop
 | [],[]=>True
 | a::as,b::bs=>r a b/\JF r as bs
 | _,_=>False
theorem Qag {α β:Type} {r:α->β->Prop}:∀ {as:List α} {bs:List β},JF r as bs->as.length=bs.length
 | [],[],_=>rfl
 | _::_,_::_,h=>by rw [List.length_cons,List.length_cons,Qag h.2]
 | [],_::_,h=>h.elim
 | _::_,[],h=>h.elim
theorem Qan {α β:Type} {r:α->β->Prop} {a:α} {b:β} (hr:r a b):∀ {as:List α} {bs:List β},JF r as bs->JF r (as++[a]) (bs++[b])
 | [],[],_=>⟨hr,trivial⟩
 | _::_,_::_,h=>⟨h.1,Qan hr h.2⟩
 | [],_::_,h=>h.elim
 | _::_,[],h=>h.elim
theorem Qd4 {α β:Type} {r:α->β->Prop}:∀ {as:List α} {bs:List β} (i:Nat) {a:α} {b:β},JF r as bs->as[i]?=some a->bs[i]?=some b->r a b
 | [],[],i,a,b,_,h,_=>by simp at h
 | x::as,y::bs,0,a,b,h,h1,h2=>by simp at h1 h2;subst h1 h2;exact h.1
 | x::as,y::bs,i+1,a,b,h,h1,h2=>Qd4 i h.2 (by simpa using h1) (by simpa using h2)
 | [],_::_,_,_,_,h,_,_=>h.elim
 | _::_,[],_,_,_,h,_,_=>h.elim
def QhR (room:Int) (r1 r2:List Int):Prop:=JF (fun a b=>1<=a/\a<=b/\b<=room) r1 r2
theorem QrL {room:Int} {r1 r2:List Int} (h:QhR room r1 r2) (k:Nat) (hk:k<r1.length):1<=r1.getD k 0/\r1.getD k 0<=r2.getD k 0/\r2.getD k 0<=room:=by
 have hl:=Qag h
 rw [List.getD_eq_getElem?_getD,List.getD_eq_getElem?_getD,List.getElem?_eq_getElem hk,List.getElem?_eq_getElem (by omega)]
 exact Qd4 (r:=fun a b=>1<=a/\a<=b/\b<=room) k h (List.getElem?_eq_getElem hk) (List.getElem?_eq_getElem (by omega))
theorem Qjd {α β:Type} {r:α->β->Prop}:∀ (k:Nat) {as:List α} {bs:List β},JF r as bs->JF r (as.drop k) (bs.drop k)
 | 0,_,_,h=>h
 | k+1,[],[],_=>trivial
 | k+1,_::_,_::_,h=>Qjd k h.2
 | _+1,[],_::_,h=>h.elim
 | _+1,_::_,[],h=>h.elim
def ItW:It->Prop
 | .word x _=>1<=x.length
 | _=>True
def QjC (w h:Int) (a b:List Plc×Nat×Sta):Prop:=JF VR a.1 b.1/\a.2.1=b.2.1/\JK a.2.2 b.2.2/\J8 w h a.2.2/\J8 w h b.2.2
theorem Qhf (w h room:Int) (r1 r2:List Int) (hr:QhR room r1 r2) (hh:1<=h):∀ (is:List It) (a b:List Plc×Nat×Sta),QjC w h a b->(∀ i∈is,QeO room w h i)->(∀ i∈is,ItW i)->a.2.1+(QG is).length<=r1.length->QjC w h (is.foldl (QU w h r1) a) (is.foldl (QU w h r2) b)
 | [],a,b,hab,_,_,_=>hab
 | i::is,a,b,hab,hf,hw,hk=>by
  have key:QjC w h (QU w h r1 a i) (QU w h r2 b i):=by
   obtain ⟨h1,h2,h3,h4,h5⟩:=hab
   have fi:=hf i List.mem_cons_self
   have wi:=hw i List.mem_cons_self
   cases i with
   | word x ns =>
    have n1:1<=(x.length:Int)/\(x.length:Int)<=w:=⟨by have:1<=x.length:=wi;omega,fi.1⟩
    have nr:0<=(ns.length:Int)/\(ns.length:Int)<h:=⟨by omega,by have:=fi.2.1;omega⟩
    obtain ⟨m1,m2⟩:=Qfj h4 h5 h3 ⟨n1.1,Int.le_refl _,n1.2⟩ nr
    exact ⟨Qan m1 h1,h2,m2,Qb6 h4 n1 nr,Qb6 h5 n1 nr⟩
   | ref l x y =>
    have hk':a.2.1<r1.length:=by
     have:(QG (It.ref l x y::is)).length=1+(QG is).length:=by unfold QG;rw [List.filter_cons_of_pos rfl];simp;omega
     omega
    have g:=QrL hr a.2.1 hk'
    have fi':(x.length:Int)+room+y.length<=w:=fi
    have e:b.2.1=a.2.1:=h2.symm
    have nr:0<=(0:Int)/\(0:Int)<h:=⟨Int.le_refl _,by omega⟩
    obtain ⟨m1,m2⟩:=Qfj (n:=(x.length:Int)+r1.getD a.2.1 0+y.length) (m:=(x.length:Int)+r2.getD a.2.1 0+y.length) h4 h5 h3 ⟨by omega,by omega,by omega⟩ nr
    show QjC w h (a.1++[(QB w h a.2.2 ((x.length:Int)+r1.getD a.2.1 0+y.length) 0).1],a.2.1+1,(QB w h a.2.2 ((x.length:Int)+r1.getD a.2.1 0+y.length) 0).2) (b.1++[(QB w h b.2.2 ((x.length:Int)+r2.getD b.2.1 0+y.length) 0).1],b.2.1+1,(QB w h b.2.2 ((x.length:Int)+r2.getD b.2.1 0+y.length) 0).2)
    rw [e]
    exact ⟨Qan m1 h1,rfl,m2,Qb6 h4 ⟨by omega,by omega⟩ nr,Qb6 h5 ⟨by omega,by omega⟩ nr⟩
   | mark l=>exact ⟨h1,h2,h3,h4,h5⟩
   | key l=>exact ⟨h1,h2,h3,h4,h5⟩
  refine Qhf w h room r1 r2 hr hh is _ _ key (fun x hx=>hf x (List.mem_cons_of_mem _ hx)) (fun x hx=>hw x (List.mem_cons_of_mem _ hx)) ?_
  have e:(QU w h r1 a i).2.1+(QG is).length=a.2.1+(QG (i::is)).length:=by
   have:(QG (i::is)).length=(if JH i then 1 else 0)+(QG is).length:=by
    unfold QG
    rw [List.filter_cons]
    split<;>simp<;>omega
   rw [this]
   cases i<;>simp [QU,JH]<;>omega
  omega
def BkW (h:Int):Bk->Prop
 | .heading _ k _=>0<=k/\1+k<=h
 | .table rs _=>1<=rs.length/\(rs.length:Int)<=h
 | .plates n _=>1<=n
 | .para is=>∀ i∈is,ItW i
 | _=>True
theorem QaY {w h p:Int} (hw:0<=w) (hh:1<=h):J8 w h (Q6 p):=by unfold J8 Q6;dsimp only;omega
theorem Qna {p q:Int} (h:p<=q):JK (Q6 p) (Q6 q):=by unfold JK Q6;dsimp only;omega
theorem QaP (o:Bool) (s:Sta):Q0 o s=Q6 (Q0 o s).p:=by
 have h:=QcH o s
 generalize Q0 o s=t at *
 obtain ⟨p,l,u,f⟩:=t
 obtain ⟨_,_,rfl,rfl,rfl⟩:=h
 rfl
theorem Qop (w h:Int) (o:Bool) (b:Bk) {s t:Sta} (hw:0<=w) (hh:1<=h) (hs:J8 w h s) (ht:J8 w h t) (hl:JK s t) (hp:Qbx b=false) (hb:BkW h b):VR (QT h o s b).1 (QT h o t b).1/\JK (QT h o s b).2 (QT h o t b).2/\J8 w h (QT h o s b).2/\J8 w h (QT h o t b).2:=by
 cases b with
 | para is=>cases hp
 | plates n l =>
  have:=Qfk hs ht hl
  refine ⟨?_,Qna (by omega),QaY hw hh,QaY hw hh⟩
  show (QO s).p<(QO t).p\/((QO s).p=(QO t).p/\((0:Int)<0\/((0:Int)=0/\(0:Int)<=0)))
  omega
 | table rs l =>
  obtain ⟨b1,b2⟩:=hb
  obtain ⟨m1,m2⟩:=QbU hs ht hl (a:=rs.length) (b:=0) (by omega) (by omega) (by omega)
  exact ⟨m1,m2,Yx hs (by omega) (by omega) (by omega),Yx ht (by omega) (by omega) (by omega)⟩
 | heading x k l =>
  obtain ⟨b1,b2⟩:=hb
  obtain ⟨m1,m2⟩:=QbU hs ht hl (a:=1) (b:=k) (by omega) (by omega) (by omega)
  exact ⟨m1,m2,Yx hs (by omega) (by omega) (by omega),Yx ht (by omega) (by omega) (by omega)⟩
 | chapter x l =>
  have nc:=QhH o hs ht hl
  have e1:=QaP o s
  have e2:=QaP o t
  have s1:J8 w h (Q0 o s):=by rw [e1];exact QaY hw hh
  have s2:J8 w h (Q0 o t):=by rw [e2];exact QaY hw hh
  have l1:JK (Q0 o s) (Q0 o t):=by rw [e1,e2];exact Qna nc
  obtain ⟨m1,m2⟩:=QbU s1 s2 l1 (a:=1) (b:=0) (by omega) (by omega) (by omega)
  exact ⟨m1,m2,Yx s1 (by omega) (by omega) (by omega),Yx s2 (by omega) (by omega) (by omega)⟩
def QjH (w h:Int) (a b:List (List Plc)×Sta×Nat):Prop:=JF (JF VR) a.1 b.1/\JK a.2.1 b.2.1/\a.2.2=b.2.2/\J8 w h a.2.1/\J8 w h b.2.1
theorem Qi7 (w h room:Int) (o:Bool) (r1 r2:List Int) (hr:QhR room r1 r2) (hw:0<=w) (hh:1<=h):∀ (bs:List Bk) (a b:List (List Plc)×Sta×Nat),QjH w h a b->(∀ x∈bs,Qat room w h x)->(∀ x∈bs,BkW h x)->a.2.2+(rO bs).length<=r1.length->QjH w h (bs.foldl (Qy w h o r1) a) (bs.foldl (Qy w h o r2) b)
 | [],a,b,hab,_,_,_=>hab
 | x::bs,a,b,hab,hf,hbw,hk=>by
  have rl:(rO (x::bs)).length=(QG (iO x)).length+(rO bs).length:=by unfold rO;rw [List.flatMap_cons,List.length_append]
  have key:QjH w h (Qy w h o r1 a x) (Qy w h o r2 b x)/\(Qy w h o r1 a x).2.2=a.2.2+(QG (iO x)).length:=by
   obtain ⟨h1,h2,h3,h4,h5⟩:=hab
   have other:Qbx x=false->Qy w h o r1 a x=(a.1++[[(QT h o a.2.1 x).1]],(QT h o a.2.1 x).2,a.2.2)->Qy w h o r2 b x=(b.1++[[(QT h o b.2.1 x).1]],(QT h o b.2.1 x).2,b.2.2)->iO x=[]->QjH w h (Qy w h o r1 a x) (Qy w h o r2 b x)/\(Qy w h o r1 a x).2.2=a.2.2+(QG (iO x)).length:=by
    intro hp e1 e2 e3
    obtain ⟨m1,m2,m3,m4⟩:=Qop w h o x hw hh h4 h5 h2 hp (hbw x List.mem_cons_self)
    rw [e1,e2,e3]
    exact ⟨⟨Qan ⟨m1,trivial⟩ h1,m2,h3,m3,m4⟩,rfl⟩
   cases x with
   | para is =>
    have dl:QhR room (r1.drop a.2.2) (r2.drop a.2.2):=Qjd _ hr
    have im:=Qhf w h room (r1.drop a.2.2) (r2.drop a.2.2) dl hh is ([],0,a.2.1) ([],0,b.2.1) ⟨trivial,rfl,h2,h4,h5⟩ (hf _ List.mem_cons_self) (hbw _ List.mem_cons_self) (by rw [List.length_drop];have:(QG (iO (.para is))).length=(QG is).length:=rfl;simp only [];omega)
    obtain ⟨i1,i2,i3,i4,i5⟩:=im
    have e2:Qy w h o r2 b (.para is)=(b.1++[(JM w h b.2.1 (r2.drop a.2.2) is).1],endLine (JM w h b.2.1 (r2.drop a.2.2) is).2.2,a.2.2+(QG is).length):=by rw [h3];rfl
    rw [e2]
    exact ⟨⟨Qan i1 h1,Qfm i4 i5 i3,rfl,(QaI i4).1,(QaI i5).1⟩,rfl⟩
   | chapter t l=>exact other rfl rfl rfl rfl
   | heading t k l=>exact other rfl rfl rfl rfl
   | table rs l=>exact other rfl rfl rfl rfl
   | plates n l=>exact other rfl rfl rfl rfl
  refine Qi7 w h room o r1 r2 hr hw hh bs _ _ key.1 (fun y hy=>hf y (List.mem_cons_of_mem _ hy)) (fun y hy=>hbw y (List.mem_cons_of_mem _ hy)) ?_
  rw [key.2];omega
theorem QbM {α:Type} {r:α->α->Prop} (h:∀ a,r a a):∀ xs:List α,JF r xs xs
 | []=>trivial
 | x::xs=>⟨h x,QbM h xs⟩
theorem Qdl {α β:Type} {r:α->β->Prop}:∀ {as:List α} {bs:List β} {cs:List α} {ds:List β},JF r as bs->JF r cs ds->JF r (as++cs) (bs++ds)
 | [],[],_,_,_,h=>h
 | _::_,_::_,_,_,h1,h2=>⟨h1.1,Qdl h1.2 h2⟩
 | [],_::_,_,_,h,_=>h.elim
 | _::_,[],_,_,h,_=>h.elim
theorem QtZ {a b:Plc} (h:VR a b):a.p<=b.p:=by unfold VR at h;omega
def Qf9 (x y:Str×Int):Prop:=x.1=y.1/\x.2<=y.2
theorem QmQ {xs ys:List Plc} (h:JF VR xs ys) (k:Nat):(xs.getD k ⟨0,0,0⟩).p<=(ys.getD k ⟨0,0,0⟩).p:=by
 have hl:=Qag h
 rw [List.getD_eq_getElem?_getD,List.getD_eq_getElem?_getD]
 rcases Nat.lt_or_ge k xs.length with hk | hk
 ·rw [List.getElem?_eq_getElem hk,List.getElem?_eq_getElem (by omega)]
  exact QtZ (Qd4 k h (List.getElem?_eq_getElem hk) (List.getElem?_eq_getElem (by omega)))
 ·rw [List.getElem?_eq_none hk,List.getElem?_eq_none (by omega)]
  exact Int.le_refl _
theorem QaE {xs ys:List Plc} (h:JF VR xs ys):∀ (is:List It) (s t:List (Str×Int)×Nat),JF Qf9 s.1 t.1->s.2=t.2->JF Qf9 (is.foldl (Zx xs) s).1 (is.foldl (Zx ys) t).1
 | [],s,t,h1,_=>h1
 | i::is,s,t,h1,h2=>by
  rw [List.foldl_cons,List.foldl_cons]
  cases i with
  | mark l =>
   refine QaE h is _ _ ?_ h2
   show JF Qf9 (s.1++[_]) (t.1++[(l,(ys.getD t.2 ⟨0,0,0⟩).p)])
   rw [<- h2]
   exact Qan ⟨rfl,QmQ h s.2⟩ h1
  | key l=>exact QaE h is s t h1 h2
  | word x ns=>exact QaE h is (s.1,s.2+1) (t.1,t.2+1) h1 (by simp only [];omega)
  | ref l x y=>exact QaE h is (s.1,s.2+1) (t.1,t.2+1) h1 (by simp only [];omega)
theorem Qn1 (b:Bk) {xs ys:List Plc} (h:JF VR xs ys):JF Qf9 (Ja (b,xs)) (Ja (b,ys)):=by
 unfold Ja
 refine Qdl ?_ (QaE h (iO b) ([],0) ([],0) trivial rfl)
 show JF Qf9 (if JI b="" then [] else [(JI b,_)]) (if JI b="" then [] else [(JI b,_)])
 split
 ·trivial
 ·exact ⟨⟨rfl,QmQ h 0⟩,trivial⟩
theorem QmM:∀ (bs:List Bk) (r1 r2:List (List Plc)),JF (JF VR) r1 r2->JF Qf9 ((bs.zip r1).flatMap Ja) ((bs.zip r2).flatMap Ja)
 | [],_,_,_=>by simp [JF]
 | b::bs,[],[],_=>by simp [JF]
 | b::bs,x::r1,y::r2,h=>by
  rw [List.zip_cons_cons,List.zip_cons_cons,List.flatMap_cons,List.flatMap_cons]
  exact Qdl (Qn1 b h.1) (QmM bs r1 r2 h.2)
 | _::_,[],_::_,h=>h.elim
 | _::_,_::_,[],h=>h.elim
theorem QiG:∀ {kv kv':List (Str×Int)} {l:Str},JF Qf9 kv kv'->l∈kv.map (·.1)->Zm kv l<=Zm kv' l
 | [],[],l,_,h=>by simp at h
 | (a,p)::kv,(b,q)::kv',l,h,hl=>by
  obtain ⟨⟨e,hpq⟩,h2⟩:=h
  have e':a=b:=e
  have hpq':p<=q:=hpq
  subst e'
  have st:∀ (a:Str) (p:Int) (kv:List (Str×Int)),D.dget (Zj ((a,p)::kv)) (.str l)=if a=l then some (.int p) else D.dget (Zj kv) (.str l):=by
   intro a p kv
   show (if (Sum.inr a:Kd)=.inr l then some (D.int p) else Qc6 _ _ _)=_
   by_cases z:a=l
   ·rw [if_pos z,if_pos (by rw [z])]
   ·rw [if_neg z,if_neg (by simpa using z)];rfl
  unfold Zm
  rw [st,st]
  by_cases z:a=l
  ·rw [if_pos z,if_pos z];exact hpq'
  ·rw [if_neg z,if_neg z]
   have hl':l∈kv.map (·.1):=by
    rcases List.mem_cons.mp (show l∈a::kv.map (·.1) from hl) with w | w
    ·exact absurd w.symm z
    ·exact w
   exact QiG h2 hl'
 | [],_::_,_,h,_=>h.elim
 | _::_,[],_,h,_=>h.elim
theorem Qi0 {n m:Nat} (h:n<=m):JX n<=JX m:=(Nat.length_toDigits_le_iff (by decide) (Qa1 m)).mpr (Nat.lt_of_le_of_lt h (Qh8 m))
theorem QkI (w h:Int) (hw:0<=w) (hh:1<=h):∀ (bs:List Bk) (s:List Plc×Sta),J8 w h s.2->J8 w h (bs.foldl (Jx h) s).2
 | [],s,hs=>hs
 | b::bs,s,hs=>by
  rw [List.foldl_cons]
  refine QkI w h hw hh bs _ ?_
  unfold Jx
  split
  ·exact Yx hs (by omega) (by omega) (by omega)
  ·exact hs
theorem QfW (w h:Int) (o li:Bool) (bs:List Bk) (hw:0<=w) (hh:1<=h):J8 w h (QX h o li bs).2:=by
 unfold QX
 split
 ·have:=QkI w h hw hh bs ([],Q6 1) (QaY hw hh)
  show J8 w h (if _ then _ else _:Sta)
  split
  ·rw [QaP];exact QaY hw hh
  ·exact this
 ·exact QaY hw hh
theorem Qk4 (w h room:Int) (o li:Bool) (r1 r2:List Int) (bs:List Bk) (hr:QhR room r1 r2) (hw:0<=w) (hh:1<=h) (hf:∀ x∈bs,Qat room w h x) (hb:∀ x∈bs,BkW h x) (hk:(rO bs).length<=r1.length):JF (JF VR) (QaU w h o li r1 bs).1 (QaU w h o li r2 bs).1:=by
 have:=Qi7 w h room o r1 r2 hr hw hh bs ([(QX h o li bs).1],(QX h o li bs).2,0) ([(QX h o li bs).1],(QX h o li bs).2,0) ⟨⟨QbM Qpj _,trivial⟩,Qlo _,rfl,QfW w h o li bs hw hh,QfW w h o li bs hw hh⟩ hf hb (by simp only [];omega)
 exact this.1
set_option genInjectivity false in
set_option genSizeOfSpec false in
structure Gd where
 w:Int
 h:Int
 o:Bool
 li:Bool
 bs:List Bk
 room:Int
 few:Few bs
 ref200:(rO bs).length<=200
 wb:4<=w/\w<=90
 hb:2<=h/\h<=60
 mb:3<=most li bs/\most li bs<10^42
 rm:room=JX (most li bs).toNat
 room_b:1<=room/\room<=42
 S:∀ b∈bs,BkS b/\BkT b/\Qa2 b
 labs:(Ql bs).Nodup
 refs:∀ l∈rO bs,l∈Ql bs
 tight:∀ b∈bs,YX (iO b)
 fit:∀ b∈bs,Qat room w h b
 W:∀ b∈bs,BkW h b
theorem Gd.look (g:Gd):Qaw [bks g.bs,sty g.w g.h g.o g.li]=some .non:=by
 have hm:=g.mb
 have:(10:Int)^42<10^60:=by decide
 refine QsU _ _ _ _ _ g.few ⟨g.wb.1,g.wb.2,g.hb.1,g.hb.2⟩ (by omega) (by omega) (fun b hb=>(g.S b hb).1) (fun b hb=>(g.S b hb).2.1) (fun b hb=>?_) g.tight g.labs g.refs
 rw [<- g.rm]
 exact g.fit b hb
theorem Qr1 (g:Gd) (kv:List (Str×Int)) (hk:kv.map (·.1)=Ql g.bs) (hv:∀ x∈kv,1<=x.2/\x.2<=most g.li g.bs) (l:Str) (hl:l∈rO g.bs) :
  D.dget (Zj kv) (.str l)=some (.int (Zm kv l))/\1<=Zm kv l/\Zm kv l<10^60/\1<=(JX (Zm kv l).toNat:Int)/\(JX (Zm kv l).toNat:Int)<=g.room:=by
 obtain ⟨h1,h2⟩:=Qmz (kv:=kv) (l:=l) (by rw [hk];exact g.refs l hl)
 have hb:=hv _ h2
 have hm:=g.mb
 have b1:1<=Zm kv l/\Zm kv l<=most g.li g.bs:=hb
 have big:(10:Int)^42<10^60:=by decide
 have dp:=Qa1 (Zm kv l).toNat
 refine ⟨h1,b1.1,by omega,by omega,?_⟩
 rw [g.rm]
 have:JX (Zm kv l).toNat<=JX (most g.li g.bs).toNat:=by
  refine (Nat.length_toDigits_le_iff (by decide) (Qa1 _)).mpr ?_
  exact Nat.lt_of_le_of_lt (by omega) (Qh8 (most g.li g.bs).toNat)
 omega
theorem QpQ (g:Gd) (rooms:List Int) (hr:rooms.length=(rO g.bs).length) (T:D) (kv:List (Str×Int)) (h1:VM [bks g.bs,sty (g.w) (g.h) (g.o) (g.li),.lst (rooms.map .int)]=some T) (h2:Yk [bks g.bs,T]=some (Zj kv)) (hk:kv.map (·.1)=Ql g.bs) (hv:∀ x∈kv,1<=x.2/\x.2<=most g.li g.bs) :
  Zr [bks g.bs,sty (g.w) (g.h) (g.o) (g.li),.lst (rooms.map .int)]=some (.lst (((rO g.bs).map fun l=>(JX (Zm kv l).toNat:Int)).map .int)):=by
 have rf:=QfB g.bs (g.few)
 have rl:=Qb5 g.bs
 have fw:=g.few
 unfold Zr Qbg
 refine stD rfl ?_
 generalize sty (g.w) (g.h) (g.o) (g.li)=S at *
 generalize D.lst (rooms.map .int)=RM at *
 refine st (e1:=[some (bks g.bs),some S,some RM,some (Zj kv)]) (asg (J6 rfl (Zs rfl rfl rfl h1) h2) rfl) (ret ?_)
 rw [Ze (g:=gS 0) (n:=1) (caps:=[3]) (c:=eC (.bl true)) (el:=eK Qam (lC (eOp D.dget (eV 1) (eV 0)) lN)) D.str (rO g.bs) (fun e=>∃ v,e=[v,some (Zj kv)]) (fun _=>true) (fun l=>.int (JX (Zm kv l).toNat)) (by
  have hR:eK ZU (lC (eV 0) lN) [some (bks g.bs),some S,some RM,some (Zj kv)]=some (QE (rO g.bs)):=QY rfl rf
  unfold Q1
  rw [hR];rfl) (lB (by have:=fw.2;omega)) ⟨none,rfl⟩ (by
  rintro l hl e ⟨v,rfl⟩
  obtain ⟨g1,g2,g3,_⟩:=Qr1 g kv hk hv l hl
  exact ⟨[some (.str l),some (Zj kv)],rfl,⟨_,rfl⟩,rfl,fun _=>QY (opE rfl rfl g1) (Qhh _ (by omega) g3)⟩)]
 rw [ZV,List.map_map]
 rfl
noncomputable def S0 (g:Gd):D:=sty (g.w) (g.h) (g.o) (g.li)
noncomputable def QeG (g:Gd) (rs:List Int):List (List Plc):=(QaU (g.w) (g.h) (g.o) (g.li) rs g.bs).1
noncomputable def kvR (g:Gd) (rs:List Int):List (Str×Int):=(g.bs.zip (QeG g rs).tail).flatMap Ja
noncomputable def JE (g:Gd) (rs:List Int):List Int:=(rO g.bs).map fun l=>(JX (Zm (kvR g rs) l).toNat:Int)
theorem QgY (g:Gd) (rs:List Int) (hr:rs.length=(rO g.bs).length):VM [bks g.bs,S0 g,.lst (rs.map .int)]=some (ZD (QeG g rs))/\Yk [bks g.bs,ZD (QeG g rs)]=some (Zj (kvR g rs))/\(kvR g rs).map (·.1)=Ql g.bs/\∀ x∈kvR g rs,1<=x.2/\x.2<=most g.li g.bs:=by
 have hh:=g.hb
 have sb:=QnG (g.w) (g.h) (g.o) (g.li) rs g.bs (g.few) (by omega) (fun b hb=>(g.S b hb).2.1)
 obtain ⟨c,rows,e1,e2,e3⟩:=Qo5 (g.w) (g.h) (g.o) (g.li) rs g.bs (by omega) (fun b hb=>(g.S b hb).2.2)
 have lp:=Qju g.bs c rows (g.few) e2 (g.labs) (fun q hq=>(e3 q hq).1) (g.tight)
 unfold kvR QeG
 refine ⟨sb,?_⟩
 rw [e1]
 refine ⟨lp,?_,fun x hx=>?_⟩
 ·show ((g.bs.zip rows).flatMap Ja).map (·.1)=_
  rw [QaQ Zd Ja QfT,QhS _ _ e2];rfl
 ·obtain ⟨q,hq,hx'⟩:=List.mem_flatMap.mp hx
  exact QpN (most g.li g.bs) q (e3 q hq).1 (e3 q hq).2 (g.tight q.1 (List.of_mem_zip hq).1) x hx'
theorem Qh2 (g:Gd) (rs:List Int) (hr:rs.length=(rO g.bs).length):Zr [bks g.bs,S0 g,.lst (rs.map .int)]=some (.lst ((JE g rs).map .int)):=by
 obtain ⟨h1,h2,h3,h4⟩:=QgY g rs hr
 exact QpQ g rs hr _ _ h1 h2 h3 h4
theorem Qd1 (g:Gd) (rs:List Int):(JE g rs).length=(rO g.bs).length:=by unfold JE;rw [List.length_map]
theorem Qgr (g:Gd) (rs:List Int) (hr:rs.length=(rO g.bs).length):Yu (g.room) (JE g rs):=by
 obtain ⟨h1,h2,h3,h4⟩:=QgY g rs hr
 intro x hx
 obtain ⟨l,hl,rfl⟩:=List.mem_map.mp hx
 have:=Qr1 g _ h3 h4 l hl
 exact ⟨this.2.2.2.1,this.2.2.2.2⟩
abbrev leL (xs ys:List Int):Prop:=JF (fun a b:Int=>a<=b) xs ys
theorem QkP {α β γ:Type} {r:β->γ->Prop} {f:α->β} {g:α->γ}:∀ {xs:List α},(∀ x∈xs,r (f x) (g x))->JF r (xs.map f) (xs.map g)
 | [],_=>trivial
 | x::xs,h=>⟨h x (by simp),QkP fun y hy=>h y (by simp [hy])⟩
theorem Qqk {α β:Type} {r:α->β->Prop}:∀ {as:List α} {bs:List β},JF r as bs->JF r as.tail bs.tail
 | [],[],_=>trivial
 | _::_,_::_,h=>h.2
 | [],_::_,h=>h.elim
 | _::_,[],h=>h.elim
theorem Qmv {room:Int}:∀ {r1 r2:List Int},Yu room r1->Yu room r2->leL r1 r2->QhR room r1 r2
 | [],[],_,_,_=>trivial
 | a::r1,b::r2,h1,h2,h=>⟨⟨(h1 a (by simp)).1,h.1,(h2 b (by simp)).2⟩,Qmv (fun x hx=>h1 x (by simp [hx])) (fun x hx=>h2 x (by simp [hx])) h.2⟩
 | [],_::_,_,_,h=>h.elim
 | _::_,[],_,_,h=>h.elim
theorem QuV (n:Int) (h:1<=n):1<=(Z9 (Str.ofString "w") n).length:=by rw [QgQ];omega
theorem Qo4 (g:Gd) (r1 r2:List Int) (hr:r1.length=(rO g.bs).length) (h1:Yu (g.room) r1) (h2:Yu (g.room) r2) (h:leL r1 r2):JF (JF VR) (QeG g r1) (QeG g r2):=by
 have hw:=g.wb
 have hh:=g.hb
 exact Qk4 (g.w) (g.h) (g.room) (g.o) (g.li) r1 r2 g.bs (Qmv h1 h2 h) (by omega) (by omega) (g.fit) (g.W) (by omega)
theorem QpR (g:Gd) (r1 r2:List Int) (hr:r1.length=(rO g.bs).length) (h1:Yu (g.room) r1) (h2:Yu (g.room) r2) (h:leL r1 r2):leL (JE g r1) (JE g r2):=by
 refine QkP fun l hl=>?_
 obtain ⟨_,_,k1,_⟩:=QgY g r1 hr
 have:=QiG (QmM g.bs _ _ (Qqk (Qo4 g r1 r2 hr h1 h2 h))) (l:=l) (show l∈(kvR g r1).map (·.1) by rw [k1];exact g.refs l hl)
 have q:Zm (kvR g r1) l<=Zm (kvR g r2) l:=this
 have:=Qi0 (n:=(Zm (kvR g r1) l).toNat) (m:=(Zm (kvR g r2) l).toNat) (by omega)
 show (JX (Zm (kvR g r1) l).toNat:Int)<=(JX (Zm (kvR g r2) l).toNat:Int)
 omega
theorem Qe6:∀ {xs ys zs:List Int},leL xs ys->leL ys zs->leL xs zs
 | [],[],[],_,_=>trivial
 | _::_,_::_,_::_,h1,h2=>⟨Int.le_trans h1.1 h2.1,Qe6 h1.2 h2.2⟩
 | [],[],_::_,_,h=>h.elim
 | [],_::_,_,h,_=>h.elim
 | _::_,[],_,h,_=>h.elim
 | _::_,_::_,[],_,h=>h.elim
theorem QmI:∀ {xs ys:List Int},leL xs ys->xs.sum<=ys.sum/\(xs≠ys->xs.sum<ys.sum)
 | [],[],_=>⟨Int.le_refl _,fun h=>absurd rfl h⟩
 | x::xs,y::ys,h=>by
  have ih:=QmI h.2
  have h1:x<=y:=h.1
  rw [List.sum_cons,List.sum_cons]
  refine ⟨by omega,fun ne=>?_⟩
  by_cases e:xs=ys
  ·have:x≠y:=fun q=>ne (by rw [q,e])
   omega
  ·have:=ih.2 e;omega
 | [],_::_,h=>h.elim
 | _::_,[],h=>h.elim
theorem Qm9 {room:Int}:∀ {xs:List Int},Yu room xs->(xs.length:Int)<=xs.sum/\xs.sum<=xs.length*room
 | [],_=>by simp
 | x::xs,h=>by
  have ih:=Qm9 (room:=room) (xs:=xs) fun y hy=>h y (by simp [hy])
  have hx:=h x (by simp)
  rw [List.sum_cons,List.length_cons]
  have e:((xs.length+1:Nat):Int)*room=xs.length*room+room:=by rw [Int.natCast_add,Int.add_mul];simp
  rw [e]
  constructor
  ·have:=ih.1;omega
  ·have:=ih.2;omega
theorem Qj8 {c:EvE} {b:EvS} {env:List Int->Qq} {F:List Int->List Int} {I:List Int->Prop} {m:List Int->Nat}
  (hs:∀ rs,I rs->F rs=rs->c (env rs)=some (.bl false))
  (hg:∀ rs,I rs->F rs≠rs->c (env rs)=some (.bl true)/\b (env rs)=some (.nx (env (F rs)))/\I (F rs)/\m (F rs)<m rs) :
  ∀ (k:Nat) (rs:List Int),I rs->m rs<=k->∃ r,Va c b (k+1) (env rs)=some (.nx (env r))/\I r/\F r=r
 | k,rs,hI,hm=>by
  by_cases e:F rs=rs
  ·refine ⟨rs,?_,hI,e⟩
   show ifO (c (env rs)) _ _=_
   rw [hs rs hI e];rfl
  ·obtain ⟨h1,h2,h3,h4⟩:=hg rs hI e
   cases k with
   | zero=>omega
   | succ k =>
    obtain ⟨r,g1,g2,g3⟩:=Qj8 hs hg k (F rs) h3 (by omega)
    refine ⟨r,?_,g2,g3⟩
    show ifO (c (env rs)) (YU (b (env rs)) (Va c b (k+1))) _=_
    rw [h1,h2]
    exact g1
theorem Qh5:∀ xs ys:List Int,D.eqL (xs.map .int) (ys.map .int)=some (decide (xs=ys))
 | [],[]=>by rw [List.map_nil,Jm];simp
 | x::xs,y::ys=>by
  rw [List.map_cons,List.map_cons,Jh,QD,Qh5 xs ys,Q7]
  congr 1
  by_cases a:x=y<;>by_cases b:xs=ys<;>simp [a,b]
 | [],y::ys=>by simp [D.eqL]
 | x::xs,[]=>by simp [D.eqL]
theorem QhZ (xs ys:List Int):D.neO (.lst (xs.map .int)) (.lst (ys.map .int))=some (.bl (decide (xs≠ys))):=by
 unfold D.neO
 rw [if_pos (by rw [Q8];have:=Y1 (f:=D.int) (n:=0) (fun a=>by rw [Qt];exact Nat.le_refl _) xs;omega),JJ,Qh5]
 by_cases a:xs=ys<;>simp [a,D.cmpN]
theorem QjL {e:Qq} {a:D} {k:EvS} {r:Option Fl} {g:Gd} (h0:e[0]?=some (some (bks g.bs))) (h1:e[1]?=some (some (S0 g))) (hk:k e=r):sQ (JY (eK Qaw (lC (eV 0) (lC (eV 1) lN)))) k e=r:=by
 refine st (e1:=e) ?_ hk
 have hR:eK Qaw (lC (eV 0) (lC (eV 1) lN)) e=some .non:=J6 (show eV 0 e=_ by unfold eV;rw [h0];rfl) (show eV 1 e=_ by unfold eV;rw [h1];rfl) (g.look)
 unfold JY
 rw [hR];rfl
theorem QiL (g:Gd) (rs:List Int) (hr:rs.length=(rO g.bs).length):Qae [bks g.bs,S0 g,.lst (rs.map .int)]=some (.lst ((JE g rs).map .int)):=by
 have:=Qh2 g rs hr
 unfold Qae Qgz
 refine stD rfl (QjL (a:=.non) rfl rfl (ret (Zs rfl rfl rfl this)))
theorem Qgs (g:Gd):(rO g.bs).length<=200:=g.ref200
theorem Qkf (g:Gd):((rO g.bs).length:Int)*g.room<=8400:=by
 have h1:=Qgs g
 have h2:=g.room_b
 have:((rO g.bs).length:Int)*g.room<=200*42:=Int.mul_le_mul (by omega) h2.2 (by omega) (by omega)
 omega
def Box (g:Gd) (rs:List Int):Prop:=rs.length=(rO g.bs).length/\Yu (g.room) rs
theorem Box.fig {g:Gd} {rs:List Int} (h:Box g rs):Box g (JE g rs):=⟨Qd1 g rs,Qgr g rs h.1⟩
theorem Box.mono {g:Gd} {r1 r2:List Int} (h1:Box g r1) (h2:Box g r2) (h:leL r1 r2):leL (JE g r1) (JE g r2):=QpR g r1 r2 h1.1 h1.2 h2.2 h
theorem Box.sum {g:Gd} {rs:List Int} (h:Box g rs):0<=rs.sum/\rs.sum<=(rO g.bs).length*g.room:=by
 have:=Qm9 h.2
 rw [h.1] at this
 omega
theorem QoJ {xs ys:List Int} (h:leL xs ys) (ne:ys≠xs):xs.sum<ys.sum:=(QmI h).2 fun e=>ne e.symm
theorem QfM (g:Gd) (first:List Int) (I:List Int->Prop) (m:List Int->Nat) (hI:∀ rs,I rs->Box g rs) (hg:∀ rs,I rs->JE g rs≠rs->I (JE g rs)/\m (JE g rs)<m rs) (hm:m first<=9000) (h0:I first) :
  ∃ r,QbI [bks g.bs,S0 g,.lst (first.map .int)]=some (.lst (r.map .int))/\I r/\JE g r=r:=by
 obtain ⟨r,h1,h2,h3⟩:=Qj8 (c:=eOp D.neO (eV 4) (eV 3)) (b:=sQ (Qd (eV 4) (gS 3)) (Qd (eK Zr (lC (eV 0) (lC (eV 1) (lC (eV 3) lN)))) (gS 4)))
  (env:=fun rs=>[some (bks g.bs),some (S0 g),some (.lst (first.map .int)),some (.lst (rs.map .int)),some (.lst ((JE g rs).map .int))]) (F:=JE g) (I:=I) (m:=m)
  (fun rs h e=>opE rfl rfl (by rw [QhZ];simp [e]))
  (fun rs h e=>⟨opE rfl rfl (by rw [QhZ];simp [e]),st (e1:=[some (bks g.bs),some (S0 g),some (.lst (first.map .int)),some (.lst ((JE g rs).map .int)),some (.lst ((JE g rs).map .int))]) rfl (asg (Zs rfl rfl rfl (Qh2 g (JE g rs) (Qd1 g rs))) rfl),hg rs h e⟩) 9000 first h0 hm
 refine ⟨r,?_,h2,h3⟩
 have fa:=Qh2 g first (hI first h0).1
 unfold QbI Qe9
 refine stD rfl ?_
 refine st (e1:=[some (bks g.bs),some (S0 g),some (.lst (first.map .int)),some (.lst (first.map .int)),none]) rfl ?_
 refine st (e1:=[some (bks g.bs),some (S0 g),some (.lst (first.map .int)),some (.lst (first.map .int)),some (.lst ((JE g first).map .int))]) (asg (Zs rfl rfl rfl fa) rfl) ?_
 refine st (e1:=[some (bks g.bs),some (S0 g),some (.lst (first.map .int)),some (.lst (r.map .int)),some (.lst ((JE g r).map .int))]) ?_ (ret rfl)
 have h9:=QfL _ _ (9000+1) 100000 (by omega) _ _ h1
 exact h9
theorem Qv2 {a:EvE} {e:Qq} {x:D} (h:a e=some x):Qi (lC a lN) e=some (.lst [x]):=by unfold Qi lC lN;rw [h];rfl
theorem QsP {xs:List D} {n:Int} (h:-1073741824<n/\n<1073741824/\xs.length*n.toNat<=lI):D.mulA (.lst xs) (.int n)=some (.lst (List.replicate n.toNat xs).flatten):=if_pos h
theorem QrV (i:Int) (n:Nat) (h:n<=200):D.mulA (.lst [.int i]) (.int n)=some (.lst ((List.replicate n i).map .int)):=by
 have e:D.mulA (.lst [.int i]) (.int n)=some (.lst (List.replicate (n:Int).toNat [D.int i]).flatten):=QsP ⟨by omega,by omega,lB (by simp;omega)⟩
 rw [e]
 have:(List.replicate (n:Int).toNat [D.int i]).flatten=(List.replicate n i).map D.int:=by simp
 rw [this]
theorem QmH (g:Gd) {e:Qq} (h0:e[0]?=some (some (bks g.bs))):eUn D.len (eK ZU (lC (eV 0) lN)) e=some (.int (rO g.bs).length):=by
 have hR:eK ZU (lC (eV 0) lN) e=some (QE (rO g.bs)):=QY (show eV 0 e=_ by unfold eV;rw [h0];rfl) (QfB g.bs (g.few))
 refine unE hR ?_
 show some (D.int ((rO g.bs).map D.str).length)=_
 rw [List.length_map]
theorem QgG {r:Int->Int->Prop} {x:Int}:∀ {ys:List Int} {n:Nat},ys.length=n->(∀ y∈ys,r x y)->JF r (List.replicate n x) ys
 | [],n,h,_=>by cases h;trivial
 | y::ys,n,h,hr=>by
  cases h
  exact ⟨hr y (by simp),QgG rfl fun z hz=>hr z (by simp [hz])⟩
theorem Qfd {r:Int->Int->Prop} {x:Int}:∀ {ys:List Int} {n:Nat},ys.length=n->(∀ y∈ys,r y x)->JF r ys (List.replicate n x)
 | [],n,h,_=>by cases h;trivial
 | y::ys,n,h,hr=>by
  cases h
  exact ⟨hr y (by simp),Qfd rfl fun z hz=>hr z (by simp [hz])⟩
theorem QfK (g:Gd) (x:Int) (h:1<=x/\x<=g.room):Box g (List.replicate (rO g.bs).length x):=⟨by simp,fun r hr=>by rw [List.eq_of_mem_replicate hr];exact h⟩
theorem Qkp (g:Gd):∃ r,Vh [bks g.bs,S0 g]=some (.lst (r.map .int))/\Box g r/\JE g r=r/\∀ e,Box g e->leL (JE g e) e->leL r e:=by
 have rt:=Qkf g
 have rb:=g.room_b
 obtain ⟨r,h1,⟨h2,h3,h4⟩,h5⟩:=QfM g (List.replicate (rO g.bs).length 1) (fun rs=>Box g rs/\leL rs (JE g rs)/\∀ e,Box g e->leL (JE g e) e->leL rs e) (fun rs=>(((rO g.bs).length:Int)*g.room-rs.sum).toNat) (fun rs h=>h.1)
  (fun rs ⟨a,b,c⟩ ne=>⟨⟨a.fig,a.mono a.fig b,fun e he hf=>Qe6 (a.mono he (c e he hf)) hf⟩,by have:=QoJ b ne;have:=a.fig.sum;omega⟩)
  (by have:=(QfK g 1 ⟨by omega,by omega⟩).sum;omega)
  ⟨QfK g 1 ⟨by omega,by omega⟩,QgG (Qd1 g _) fun y hy=>(Qgr g _ (by simp) y hy).1,fun e he _=>QgG he.1 fun y hy=>(he.2 y hy).1⟩
 refine ⟨r,?_,h2,h5,h4⟩
 unfold Vh Qic
 refine stD rfl (QjL (a:=.non) rfl rfl (ret (Zs rfl rfl ?_ h1)))
 exact opE (x:=.lst [.int 1]) rfl (QmH g rfl) (QrV 1 _ (Qgs g))
theorem Qog (g:Gd):Z8 [bks g.bs,S0 g]=some (.int (g.room)):=by
 have hm:=g.mb
 have:(10:Int)^42<10^60:=by decide
 have:=Qey (g.w) (g.h) (g.o) (g.li) g.bs (g.few) (by omega) (by omega)
 rw [<- g.rm] at this
 exact this
theorem QfU (g:Gd):∃ r,ZS [bks g.bs,S0 g]=some (.lst (r.map .int))/\Box g r/\JE g r=r/\∀ e,Box g e->leL e (JE g e)->leL e r:=by
 have rt:=Qkf g
 have rb:=g.room_b
 obtain ⟨r,h1,⟨h2,h3,h4⟩,h5⟩:=QfM g (List.replicate (rO g.bs).length (g.room)) (fun rs=>Box g rs/\leL (JE g rs) rs/\∀ e,Box g e->leL e (JE g e)->leL e rs) (fun rs=>rs.sum.toNat) (fun rs h=>h.1)
  (fun rs ⟨a,b,c⟩ ne=>⟨⟨a.fig,a.fig.mono a b,fun e he hf=>Qe6 hf (he.mono a (c e he hf))⟩,by have:=QoJ b (fun q=>ne q.symm);have:=a.fig.sum;omega⟩)
  (by have:=(QfK g (g.room) ⟨by omega,by omega⟩).sum;omega)
  ⟨QfK g (g.room) ⟨by omega,by omega⟩,Qfd (Qd1 g _) fun y hy=>(Qgr g _ (by simp) y hy).2,fun e he _=>Qfd he.1 fun y hy=>(he.2 y hy).2⟩
 refine ⟨r,?_,h2,h5,h4⟩
 have rm:=Qog g
 unfold ZS Qep
 refine stD rfl (QjL (a:=.non) rfl rfl (ret (Zs rfl rfl ?_ h1)))
 refine opE (x:=.lst [.int (g.room)]) ?_ (QmH g rfl) (QrV _ _ (Qgs g))
 exact Qv2 (J6 rfl rfl rm)
theorem QiV (ns:List Int):(rO (Jt ns)).length<=200:=by
 have h1:=(Qaf ns (dW ns) (dH ns) (dLi ns)).2
 have h2:=(Qcg ns).2
 have h3:=Qb5 (Jt ns)
 have h4:((Jt ns).flatMap iO).length<=200:=by
  unfold Jt
  rw [List.flatMap_append,List.length_append]
  omega
 omega
theorem QuS (ns:List Int):∀ b∈Jt ns,BkW (dH ns) b:=by
 intro b hb
 have ft:=QkG ns b hb
 have hh:=QeM ns
 have pl:=(QoS ns b hb).2.2
 unfold Jt at hb
 rcases List.mem_append.mp hb with z | z
 ·unfold Zi at z
  split at z
  ·cases z
  ·simp only [List.mem_cons,List.not_mem_nil,or_false] at z
   rcases z with q | q | q<;>subst q
   ·exact pl _ _ rfl
   ·refine ⟨by simp;omega,by simp;omega⟩
   ·intro i hi
    simp only [List.mem_cons,List.not_mem_nil,or_false] at hi
    rcases hi with q | q | q<;>subst q
    ·refine QuV _ ?_
     split<;>omega
    ·trivial
    ·trivial
 ·have hB:=Qfx ns b z
  cases b with
  | chapter t l=>trivial
  | heading t k l=>exact ⟨hB.2.1,by have:=ft.2;omega⟩
  | table rs l=>exact ⟨hB.1.1,ft.1⟩
  | plates n l=>exact hB.1
  | para is =>
   intro i hi
   have:=hB i hi
   cases i with
   | word x n=>exact this.1.1
   | _=>trivial
noncomputable def gD (ns:List Int):Gd:=⟨dW ns,dH ns,dO ns,dLi ns,Jt ns,dR ns,Qgv ns,QiV ns,(Qgc ns).2,(QeM ns).2,by rw [Qi1];exact Qia ns,by rw [Qi1];rfl,QdD ns,QoS ns,Qp6 ns,Qp5 ns,Qoj ns,QkG ns,QuS ns⟩
theorem QqC (i:Int):Qcw [.int i]=some (.bl true):=by
 unfold Qcw QgB
 simp [QF,J1,Zw,lI,QA,sD,sQ,sIf,Qj,ZP,Qd,Zu,JY,sNx,Yt,Z2,gS,JN,Zn,eV,eC,eOp,eUn,Q9,QN,eOr,eIf,JO,Qp,Qi,eK,lN,lC,J5,oNo,oAt,ZQ,D.len,D.lt,D.le,D.gt,D.ge,D.add,D.sub,D.ix,D.eqO,D.neO,D.cmp,D.cmpN,D.inst,tyD,D.isT,D.intB,D.min2,D.max2,D.neg,D.addI,Qo,JS,JU,Jv,QM,QS,JR,JQ,Jj,Ju,JV,JW,Jw,Jy,JT,Q7,JL,Za,Qt,Qz,Jd,Q8,Q4,QV,D.rng,D.its,D.itsT,QD,ZI,QH,Jl,JJ,Jm,Jh]
theorem Qh4 (xs ys:List Int):D.eqO (.lst (xs.map .int)) (.lst (ys.map .int))=some (.bl (decide (xs=ys))):=by
 unfold D.eqO
 rw [if_pos (by rw [Q8];have:=Y1 (f:=D.int) (n:=0) (fun a=>by rw [Qt];exact Nat.le_refl _) xs;omega),JJ,Qh5]
 by_cases a:xs=ys<;>simp [a,D.cmp]
theorem Qv3 (rs:List Int):D.len (.lst (rs.map .int))=some (.int rs.length):=by show some (D.int (rs.map D.int).length)=_;rw [List.length_map]
theorem Qfi (rs:List Int) (room:Int) (n:Nat) (hl:rs.length=n) (hn:n<=200) (h:Yu room rs):Vg [.lst (rs.map .int),.int n,.int room]=some (.bl true):=by
 unfold Vg QbX
 refine stD rfl ?_
 refine st (e1:=[some (.lst (rs.map .int)),some (.int n),some (.int room)]) (ifF (orF (QbP (b:=true) (QrX (x:=.lst (rs.map .int)) rfl rfl)) (opE (unE (x:=.lst (rs.map .int)) rfl (Qv3 rs)) rfl (by simp [D.neO,Qt,QD,D.cmpN,hl]))) rfl) ?_
 have hc:QR 1 [2] (Q1 (eV 0)) (gS 0) (eOr (Q9 (eK Qcw (lC (eV 0) lN))) (eOr (eOp D.lt (eV 0) (eC (.int 1))) (eOp D.gt (eV 0) (eV 1)))) (eV 0) [some (.lst (rs.map .int)),some (.int n),some (.int room)]=some (.lst (([]:List Int).map .int)):=by
  rw [Ze (g:=gS 0) (n:=1) (caps:=[2]) D.int rs (fun e=>∃ v,e=[v,some (.int room)]) (fun _=>false) (fun _=>.non) rfl (lB (by omega)) ⟨none,rfl⟩ (by
   rintro x hx e ⟨v,rfl⟩
   have hb:=h x hx
   refine ⟨[some (.int x),some (.int room)],rfl,⟨_,rfl⟩,?_,fun q=>by cases q⟩
   have l1:D.lt (.int x) (.int 1)=some (.bl false):=by show some (D.bl (decide (x<1)))=_;rw [decide_eq_false (by omega)]
   have l2:D.gt (.int x) (.int room)=some (.bl false):=by show some (D.bl (decide (room<x)))=_;rw [decide_eq_false (by omega)]
   exact orF (QbP (b:=true) (QY rfl (QqC x))) (orF (opE rfl rfl l1) (opE rfl rfl l2)))]
  simp
 exact ret (opE hc rfl ((Qh4 [] []).trans (by simp)))
theorem Qmt (g:Gd) (lo hi:List Int) (h1:Vh [bks g.bs,S0 g]=some (.lst (lo.map .int))) (h2:ZS [bks g.bs,S0 g]=some (.lst (hi.map .int))):Qby [bks g.bs,S0 g]=some (.bl (decide (lo=hi))):=by
 unfold Qby QjW
 exact stD rfl (ret (opE (J6 rfl rfl h1) (J6 rfl rfl h2) (Qh4 lo hi)))
theorem QkM (w h:Int) (o:Bool) (rooms:List Int):∀ (bs:List Bk) (s:List (List Plc)×Sta×Nat),∃ X,(bs.foldl (Qy w h o rooms) s).1=s.1++X
 | [],s=>⟨[],by simp⟩
 | b::bs,s=>by
  obtain ⟨X,hX⟩:=QkM w h o rooms bs (Qy w h o rooms s b)
  rw [List.foldl_cons,hX]
  cases b<;>exact ⟨_,by simp only [Qy,List.append_assoc];rfl⟩
theorem QdC {n k:Nat} (hk:1<=k) (h1:n<10^k) (h2:10^(k-1)<=n):JX n=k:=by
 have a:JX n<=k:=(Nat.length_toDigits_le_iff (by decide) hk).mpr h1
 rcases Nat.lt_or_ge (JX n) k with z | z
 ·have:=Qh8 n
  have:10^JX n<=10^(k-1):=Nat.pow_le_pow_right (by decide) (by omega)
  omega
 ·omega
def YS (n:Int) (rows:List Str) (lb:Str) (x l l':Str):List Bk:=[.plates n "",.table rows lb,.para [.word x [],.mark l,.ref l' "" ""]]
def QbN (w L r p:Int):Int:=if L+1+r<=w then p else p+1
theorem Qky (w h:Int) (o:Bool) (rooms:List Int) (S:List (List Plc)) (s:Sta) (k:Nat) (n p0:Int) (rows:List Str) (lb x l l':Str) (hs:QO s=Q6 p0) (hr:(rows.length:Int)=h-1) (hh:2<=h) (hx:1<=x.length) (h1:1<=rooms.getD k 0) :
  ∃ c1 c2 l2:Int,∃ t:Sta,(YS n rows lb x l l').foldl (Qy w h o rooms) (S,s,k)=(S++[[⟨p0,0,0⟩],[⟨p0+n,0,0⟩],[⟨p0+n,c1,0⟩,⟨QbN w x.length (rooms.getD k 0) (p0+n),l2,c2⟩]],t,k+1)/\(t=⟨p0+n,h,0,0⟩\/t=⟨p0+n+1,1,0,0⟩):=by
 have e1:QT h o s (.plates n "")=(⟨p0,0,0⟩,Q6 (p0+n)):=by
  show QbD s n=_
  unfold QbD
  rw [hs];rfl
 have e2:QT h o (Q6 (p0+n)) (.table rows lb)=(⟨p0+n,0,0⟩,⟨p0+n,h-1,0,0⟩):=by
  show QL h _ _ 0=_
  unfold QL endLine Q6
  simp only [if_true]
  rw [if_pos (by omega),hr]
  simp
 have w1:QB w h ⟨p0+n,h-1,0,0⟩ x.length 0=(⟨p0+n,h-1,0⟩,⟨p0+n,h-1,x.length,0⟩):=by
  unfold QB
  rw [if_pos ⟨.inl rfl,by simp only [];omega⟩]
  simp
 have e0:((Str.ofString "").length:Int)=0:=by rw [Zc];rfl
 have gd:(rooms.drop k).getD 0 0=rooms.getD k 0:=by simp [List.getD_eq_getElem?_getD]
 generalize rooms.getD k 0=r at *
 have it:JM w h ⟨p0+n,h-1,0,0⟩ (rooms.drop k) [.word x [],.mark l,.ref l' "" ""]=([⟨p0+n,h-1,0⟩,(QB w h ⟨p0+n,h-1,x.length,0⟩ r 0).1],1,(QB w h ⟨p0+n,h-1,x.length,0⟩ r 0).2):=by
  unfold JM
  simp only [List.foldl_cons,List.foldl_nil,QU,gd,e0,List.length_nil]
  have z:((0:Nat):Int)=0:=rfl
  rw [z,w1]
  simp
 have rl:(QG [.word x [],.mark l,.ref l' "" ""]).length=1:=by simp [QG,JH,List.filter]
 unfold YS
 simp only [List.foldl_cons,List.foldl_nil,Qy,e1,e2,it,rl]
 by_cases q:(x.length:Int)+1+r<=w
 ·have w2:QB w h ⟨p0+n,h-1,x.length,0⟩ r 0=(⟨p0+n,h-1,x.length+1⟩,⟨p0+n,h-1,x.length+1+r,0⟩):=by
   unfold QB
   rw [if_pos ⟨.inr (by simp only [];omega),by simp only [];omega⟩]
   simp only []
   rw [if_neg (by omega)]
   simp
  rw [w2]
  refine ⟨h-1,x.length+1,h-1,_,?_,.inl rfl⟩
  unfold QbN endLine
  rw [if_pos q]
  simp only []
  rw [if_neg (by omega)]
  simp
 ·have w2:QB w h ⟨p0+n,h-1,x.length,0⟩ r 0=(⟨p0+n+1,0,0⟩,⟨p0+n+1,0,0+r,0⟩):=by
   unfold QB
   rw [if_neg (by simp only [];omega),if_neg (by simp only [];omega)]
  rw [w2]
  refine ⟨h-1,0,0,_,?_,.inr rfl⟩
  unfold QbN endLine
  rw [if_neg q]
  simp only []
  rw [if_neg (by omega)]
  simp
theorem Qpm (l:Str) (p:Int) (kv:List (Str×Int)):Zm ((l,p)::kv) l=p:=by
 unfold Zm
 have:D.dget (Zj ((l,p)::kv)) (.str l)=some (.int p):=by
  show (if (Sum.inr l:Kd)=.inr l then some (D.int p) else Qc6 _ _ _)=_
  rw [if_pos rfl]
 rw [this]
theorem Qkw (n:Int) (pl:List Plc):Ja (.plates n "",pl)=[]:=by simp [Ja,JI,iO,VT]
theorem Qkv (rows:List Str) (lb:Str) (pl:Plc):Ja (.table rows lb,[pl])=if lb="" then [] else [(lb,pl.p)]:=by simp [Ja,JI,iO,VT]
theorem Qkx (x l l':Str) (a b:Plc):Ja (.para [.word x [],.mark l,.ref l' "" ""],[a,b])=[(l,b.p)]:=by simp [Ja,JI,iO,VT,Zx]
theorem Qro (g:Gd) (rest:List Bk) (rows:List Str) (x z:Str) (m:Nat) (hm:1<=m) (hb:g.bs=YS (10^m-2) rows "" x z z++rest) (hli:g.li=false) (hr:(rows.length:Int)=g.h-1) (hx:(x.length:Int)=g.w-1-m) (hx1:1<=x.length) (rs:List Int) (h1:1<=rs.getD 0 0) :
  ∃ T,JE g rs=(if rs.getD 0 0<=m then (m:Int) else m+1)::T:=by
 have hh:=g.hb
 have rf:rO g.bs=z::rO rest:=by rw [hb];simp [rO,YS,iO,QG,JH,Qno,List.filter]
 have sc:(QX g.h g.o g.li g.bs)=([],Q6 1):=by unfold QX;rw [hli];simp
 obtain ⟨c1,c2,l2,t,e,_⟩:=Qky g.w g.h g.o rs [[]] (Q6 1) 0 (10^m-2) 1 rows "" x z z (by simp [QO,Q6]) hr (by omega) hx1 h1
 have sR:∃ X,QeG g rs=[]::[⟨1,0,0⟩]::[⟨1+(10^m-2),0,0⟩]::[⟨1+(10^m-2),c1,0⟩,⟨QbN g.w x.length (rs.getD 0 0) (1+(10^m-2)),l2,c2⟩]::X:=by
  unfold QeG QaU
  rw [sc]
  simp only []
  rw [hb,List.foldl_append,e]
  obtain ⟨X,hX⟩:=QkM g.w g.h g.o rs rest ([[]]++[[⟨1,0,0⟩],[⟨1+(10^m-2),0,0⟩],[⟨1+(10^m-2),c1,0⟩,⟨QbN g.w x.length (rs.getD 0 0) (1+(10^m-2)),l2,c2⟩]],t,0+1)
  exact ⟨X,by rw [hX];simp⟩
 obtain ⟨X,hX⟩:=sR
 have kv:∃ Y,kvR g rs=(z,QbN g.w x.length (rs.getD 0 0) (1+(10^m-2)))::Y:=by
  refine ⟨(rest.zip X).flatMap Ja,?_⟩
  unfold kvR
  rw [hX,hb]
  simp only [YS,List.tail_cons,List.cons_append,List.nil_append,List.zip_cons_cons,List.flatMap_cons,Qkw,Qkv,Qkx]
  simp
 obtain ⟨Y,hY⟩:=kv
 refine ⟨(rO rest).map fun l=>(JX (Zm (kvR g rs) l).toNat:Int),?_⟩
 unfold JE
 rw [rf,List.map_cons]
 congr 1
 rw [hY,Qpm]
 unfold QbN
 have pw:(1:Nat)<=10^(m-1):=Nat.pos_of_ne_zero (by simp)
 have ps:(10:Nat)^m=10*10^(m-1):=by rw [<- Nat.pow_succ'];congr 1;omega
 have pi:((10:Int)^m)=((10^m:Nat):Int):=by simp
 have ps2:(10:Nat)^(m+1)=10*10^m:=by rw [Nat.pow_succ']
 generalize rs.getD 0 0=r at *
 rw [pi]
 by_cases q:r<=m
 ·rw [if_pos (by omega),if_pos q]
  rw [QdC hm (n:=(1+(((10^m:Nat):Int)-2)).toNat) (by omega) (by omega)]
 ·rw [if_neg (by omega),if_neg q]
  rw [QdC (k:=m+1) (by omega) (n:=(1+(((10^m:Nat):Int)-2)+1).toNat) (by omega) (by rw [Nat.add_sub_cancel];omega)]
  rfl
theorem Qrn (g:Gd) (m:Int) (hm:1<=m) (hr:m+1<=g.room) (hF:∀ rs,Box g rs->∃ T,JE g rs=(if rs.getD 0 0<=m then m else m+1)::T)
  (lo hi:List Int) (b4:Box g lo) (fx:JE g lo=lo) (mn:∀ e,Box g e->leL (JE g e) e->leL lo e) (b5:Box g hi) (fy:JE g hi=hi) (mx:∀ e,Box g e->leL e (JE g e)->leL e hi):lo≠hi:=by
 obtain ⟨T,hT⟩:=hF lo b4
 obtain ⟨U,hU⟩:=hF hi b5
 rw [fx] at hT
 rw [fy] at hU
 have low:lo.getD 0 0<=m:=by
  rcases Int.lt_or_le m (lo.getD 0 0) with q | q
  ·rw [if_neg (by omega)] at hT
   have bx:Box g (m::T):=⟨by rw [<- b4.1,hT];rfl,fun y hy=>by
    rcases List.mem_cons.mp hy with z | z
    ·subst z;omega
    ·exact b4.2 y (by rw [hT];exact List.mem_cons_of_mem _ z)⟩
   have le:leL (m::T) lo:=by rw [hT];exact ⟨by show m<=m+1;omega,QbM (fun a=>Int.le_refl a) T⟩
   have f1:=bx.mono b4 le
   obtain ⟨V,hV⟩:=hF (m::T) bx
   rw [if_pos (show (m::T).getD 0 0<=m from Int.le_refl _)] at hV
   rw [fx,hT,hV] at f1
   have:=mn (m::T) bx (by rw [hV];exact ⟨Int.le_refl _,f1.2⟩)
   rw [hT] at this
   have:=this.1
   have:m+1<=m:=this
   omega
  ·exact q
 have high:m+1<=hi.getD 0 0:=by
  rcases Int.lt_or_le m (hi.getD 0 0) with q | q
  ·exact q
  ·rw [if_pos q] at hU
   have bx:Box g ((m+1)::U):=⟨by rw [<- b5.1,hU];rfl,fun y hy=>by
    rcases List.mem_cons.mp hy with z | z
    ·subst z;omega
    ·exact b5.2 y (by rw [hU];exact List.mem_cons_of_mem _ z)⟩
   have le:leL hi ((m+1)::U):=by rw [hU];exact ⟨by show m<=m+1;omega,QbM (fun a=>Int.le_refl a) U⟩
   have f1:=b5.mono bx le
   obtain ⟨V,hV⟩:=hF ((m+1)::U) bx
   rw [if_neg (show ¬ ((m+1)::U).getD 0 0<=m from by show ¬ m+1<=m;omega)] at hV
   rw [fy,hU,hV] at f1
   have:=mx ((m+1)::U) bx (by rw [hV];exact ⟨Int.le_refl _,f1.2⟩)
   rw [hU] at this
   have:=this.1
   have:m+1<=m:=this
   omega
 intro q
 rw [q] at low
 omega
theorem QmX (ns:List Int) (hne:Zi ns (dW ns) (dH ns) (dLi ns)≠[]):dLi ns=false/\∀ w h,Zi ns w h (dLi ns)=YS (10^(Jr ns).toNat-2) (List.replicate (h-1).toNat "") "" (Z9 "w" (if w-1-Jr ns > 1 then w-1-Jr ns else 1)) "z" "z":=by
 by_cases z:dLi ns=true\/cell ns 4%3≠1
 ·exact absurd (by unfold Zi;rw [if_pos z]) hne
 ·refine ⟨by cases q:dLi ns<;>simp_all,fun w h=>?_⟩
  unfold Zi YS
  rw [if_neg z]
theorem QpS (ns:List Int) (hne:Zi ns (dW ns) (dH ns) (dLi ns)≠[]):Jr ns+1<=dR ns/\dR ns+2<=dW ns:=by
 obtain ⟨hli,he⟩:=QmX ns hne
 have eb:=Qaj ns
 have hw:=Qgc ns
 have e0:dE0 ns=_:=he 4 2
 refine ⟨?_,?_⟩
 ·have hb:∀ b∈dE0 ns++dBk ns,BkB b/\(iO b).length<=1000:=fun b hb=>by
   have h1:BkB b:=by
    rcases List.mem_append.mp hb with z | z
    ·exact QjG ns b z
    ·exact Qfx ns b z
   refine ⟨h1,?_⟩
   have hf:((dE0 ns++dBk ns).flatMap iO).length<=119:=by
    rw [List.flatMap_append,List.length_append]
    have h1:=(Qaf ns 4 2 (dLi ns)).2
    have h2:=(Qcg ns).2
    unfold dE0;omega
   obtain ⟨s,t,e⟩:=List.append_of_mem hb
   rw [e,List.flatMap_append,List.flatMap_cons] at hf
   simp only [List.length_append] at hf
   omega
  have ge:(10:Int)^(Jr ns).toNat<=ZR ns:=by
   unfold ZR most
   rw [e0] at hb ⊢
   unfold YS at hb ⊢
   rw [List.cons_append] at hb ⊢
   rw [List.foldl_cons]
   have:=(QjR (dLi ns) _ (3+Ji (dLi ns) (.plates (10^(Jr ns).toNat-2) "")) (fun b h=>hb b (List.mem_cons_of_mem _ h))).1
   have e:Ji (dLi ns) (.plates (10^(Jr ns).toNat-2) "")=10^(Jr ns).toNat:=by show 2+((10:Int)^(Jr ns).toNat-2)=_;omega
   rw [e] at this ⊢
   omega
  unfold dR
  have pi:((10:Int)^(Jr ns).toNat)=((10^(Jr ns).toNat:Nat):Int):=by simp
  have d1:JX (10^(Jr ns).toNat)=(Jr ns).toNat+1:=QdC (by omega) (by rw [Nat.pow_succ];have:1<=10^(Jr ns).toNat:=Nat.pos_of_ne_zero (by simp);omega) (by rw [Nat.add_sub_cancel];exact Nat.le_refl _)
  have:=Qi0 (n:=10^(Jr ns).toNat) (m:=(ZR ns).toNat) (by omega)
  omega
 ·have:dR ns+2<=YW ns:=by
   unfold YW
   rw [e0]
   show _<=if (false=true) then _ else _
   rw [if_neg (by simp)]
   split<;>omega
  omega
theorem QpW (ns:List Int) (hne:Zi ns (dW ns) (dH ns) (dLi ns)≠[]) (lo hi:List Int) (b4:Box (gD ns) lo) (fx:JE (gD ns) lo=lo) (mn:∀ e,Box (gD ns) e->leL (JE (gD ns) e) e->leL lo e) (b5:Box (gD ns) hi) (fy:JE (gD ns) hi=hi) (mx:∀ e,Box (gD ns) e->leL e (JE (gD ns) e)->leL e hi):lo≠hi:=by
 obtain ⟨hli,he⟩:=QmX ns hne
 obtain ⟨r1,r2⟩:=QpS ns hne
 have eb:=Qaj ns
 have hh:=QeM ns
 have hb:(gD ns).bs=YS (10^(Jr ns).toNat-2) (List.replicate (dH ns-1).toNat "") "" (Z9 "w" (dW ns-1-Jr ns)) "z" "z"++dBk ns:=by
  show Jt ns=_
  unfold Jt
  rw [he,if_pos (by omega)]
 have xl:(Z9 (Str.ofString "w") (dW ns-1-Jr ns)).length=(dW ns-1-Jr ns).toNat:=QgQ _
 refine Qrn (gD ns) (Jr ns) eb.1 r1 (fun rs bx=>?_) lo hi b4 fx mn b5 fy mx
 have rf:rO (gD ns).bs=Str.ofString "z"::rO (dBk ns):=by rw [hb];simp [rO,YS,iO,QG,JH,Qno,List.filter]
 have:=Qro (gD ns) (dBk ns) _ _ "z" (Jr ns).toNat (by omega) hb hli (by show ((List.replicate (dH ns-1).toNat (Str.ofString "")).length:Int)=dH ns-1;rw [List.length_replicate];omega) (by rw [xl];show _=dW ns-1-_;omega) (by rw [xl];omega) rs (by
  have hl:=bx.1
  rw [rf] at hl
  match rs,hl with
  | r::rs,_=>exact (bx.2 r (by simp)).1)
 rw [show (((Jr ns).toNat:Nat):Int)=Jr ns from by omega] at this
 exact this
def chNames:List String:=["la","lb","lc","ld","le","lf","lg","lh","li","lj","lk","ll","lm","ln"]
def chL (i:Nat):Str:=Str.ofString (chNames.getD i "z")
theorem QuT:∀ i:Nat,i<14->(D.ix (.str (Str.ofString "abcdefghijklmn")) (.int (i:Int))).bind (D.add (.str (Str.ofString "l")))=some (.str (chL i))
 | 0,_=>rfl
 | 1,_=>rfl
 | 2,_=>rfl
 | 3,_=>rfl
 | 4,_=>rfl
 | 5,_=>rfl
 | 6,_=>rfl
 | 7,_=>rfl
 | 8,_=>rfl
 | 9,_=>rfl
 | 10,_=>rfl
 | 11,_=>rfl
 | 12,_=>rfl
 | 13,_=>rfl
 | n+14,h=>absurd h (by omega)
theorem Qtp:∀ i,i<14->∀ j,j<14->chL i=chL j->i=j:=by
 intro i hi j hj h
 unfold chL at h
 rw [tg] at h
 have:∀ i<14,∀ j<14,chNames.getD i "z"=chNames.getD j "z"->i=j:=by decide
 exact this i hi j hj h
theorem Qr6:∀ i,i<14->chL i≠Str.ofString "z"/\chL i≠Str.ofString "":=by
 intro i hi
 unfold chL
 rw [ne_eq,tg,ne_eq,tg]
 have:∀ i<14,chNames.getD i "z"≠"z"/\chNames.getD i "z"≠"":=by decide
 exact this i hi
def JD:Nat->Str
 | 0=>Str.ofString "z"
 | i+1=>chL i
def max2 (i:Nat):Int:=if (1:Int)+i > 2 then 1+i else 2
def chN (i:Nat):Int:=if i=0 then 8 else 9*10^i-2
def chZ (kk:Int) (c:Int) (i:Nat):Str:=if i=0/\kk=c then Str.ofString "z" else Str.ofString ""
def chX (w:Int) (i:Nat):Str:=Z9 (Str.ofString "x") (w-max2 i)
def chG (w kk:Int) (i:Nat):List Bk:=YS (chN i) [Str.ofString ""] (chZ kk 0 i) (chX w i) (chL i) (JD i)++[.table [Str.ofString ""] (chZ kk 1 i)]
def chB (w kk:Int):Nat->List Bk
 | 0=>[]
 | i+1=>chB w kk i++chG w kk i
theorem QfJ (w kk:Int):∀ m,(chB w kk m).length=4*m
 | 0=>rfl
 | m+1=>by
  show (chB w kk m++chG w kk m).length=_
  rw [List.length_append,QfJ w kk m]
  simp [chG,YS]
  omega
def due (kk:Int) (i:Nat):Int:=if i=0 then 1+kk else i+kk
def QdR (kk:Int) (m:Nat):List Int:=(List.range m).map (due kk)
theorem Qnr {bs:List Bk} (b:Bk) (h:bs.length<=1000):D.app (bks bs) b.d=some (bks (bs++[b])):=QbC (f:=Bk.d) b (Yb (by omega))
theorem QrI (n:Int) (m:Nat) (w kk:Int) (em:11+n%4=m) (ew:20+n/4%9=w) (ek:n/36%2=kk):Qa0 [.int n]=some (.tup [bks (chB w kk m),sty w 2 false false,.lst ((QdR kk m).map .int)]):=by
 have hm:11<=m/\m<=14:=by omega
 have hw:20<=w/\w<=28:=by omega
 have hk:kk=0\/kk=1:=by omega
 have rg:∀ (e:Qq) (a:Int),0<=a->a<=2->eV 1 e=some (.int m)->Qb0 (eC (.int a)) (eOp D.add (eV 1) (eC (.int 1))) e=some ((List.range (m+1-a.toNat)).map fun i:Nat=>D.int (a+i)):=by
  intro e a h1 h2 h3
  unfold Qb0
  have h4:eOp D.add (eV 1) (eC (.int 1)) e=some (.int ((m:Int)+1)):=opE h3 rfl rfl
  rw [h4]
  show (if a.natAbs<4611686018427387904/\((m:Int)+1).natAbs<4611686018427387904 then some (rD a ((m:Int)+1-a).toNat) else none)=_
  rw [if_pos (by omega)]
  have:((m:Int)+1-a).toNat=m+1-a.toNat:=by omega
  rw [this];rfl
 unfold Qa0 QgF
 refine stD rfl ?_
 refine st (e1:=[some (.int n),some (.int m),none,none,none,none,none,none,none,none]) (asg (opE rfl (opE rfl rfl (ZE n (by decide))) (show _=some (D.int m) from by rw [<- em];rfl)) rfl) ?_
 refine st (e1:=[some (.int n),some (.int m),some (.int w),none,none,none,none,none,none,none]) (asg (opE rfl (opE (opE rfl rfl (YG n (by decide))) rfl (ZE _ (by decide))) (show _=some (D.int w) from by rw [<- ew];rfl)) rfl) ?_
 refine st (e1:=[some (.int n),some (.int m),some (.int w),some (.int kk),none,none,none,none,none,none]) (asg (opE (opE rfl rfl (YG n (by decide))) rfl (show _=some (D.int kk) from by rw [<- ek];exact ZE _ (by decide))) rfl) ?_
 refine st (e1:=[some (.int n),some (.int m),some (.int w),some (.int kk),some (bks []),none,none,none,none,none]) rfl ?_
 refine st (e1:=[some (.int n),some (.int m),some (.int w),some (.int kk),some (bks []),some (.str "z"),none,none,none,none]) rfl ?_
 refine st (e1:=[some (.int n),some (.int m),some (.int w),some (.int kk),some (bks []),some (.str "z"),some (.int 1),none,none,none]) rfl ?_
 refine V2 (fun i:Nat=>D.int (1+i)) (List.range m) (fun i e=>∃ a b c,e=[some (.int n),some (.int m),some (.int w),some (.int kk),some (bks (chB w kk i)),some (.str (JD i)),some (.int (10^i)),a,b,c]) (by rw [rg _ 1 (by omega) (by omega) rfl];rfl) ⟨none,none,none,rfl⟩ ?_ ?_
 ·rintro i hi e ⟨a,b,c,rfl⟩
  have hi':i<m:=by simpa using hi
  have ei:(List.range m)[i]=i:=by simp
  rw [ei]
  have cl:=QfJ w kk i
  have lb:=QuT i (by omega)
  have mx:D.mulA (.str (Str.ofString "x")) (.int (w-max2 i))=some (.str (chX w i)):=if_pos ⟨by unfold max2;split<;>omega,by unfold max2;split<;>omega,by
   have:(Str.ofString "x").length=1:=rfl
   rw [this]
   exact lB (by unfold max2;split<;>omega)⟩
  have m2:D.max2 (.int 2) (.int (1+i))=some (.int (max2 i)):=by
   show some (D.int (if (1:Int)+i > 2 then 1+i else 2))=_
   rfl
  have t9:(10:Int)^i<2^64:=by
   have:(10:Int)^i<=10^14:=by
    have:=Nat.pow_le_pow_right (n:=10) (by decide) (show i<=14 by omega)
    exact_mod_cast this
   have:(10:Int)^14<2^64:=by decide
   omega
  have e1:D.eqO (.int (1+(i:Int))) (.int 1)=some (.bl (decide (i=0))):=by
   rw [show D.eqO (.int (1+(i:Int))) (.int 1)=some (.bl (decide (1+(i:Int)=1))) from by simp [D.eqO,Qt,QD,D.cmp]]
   congr 2
   exact decide_eq_decide.mpr (by omega)
  have ekc:∀ c:Int,D.eqO (.int kk) (.int c)=some (.bl (decide (kk=c))):=fun c=>by simp [D.eqO,Qt,QD,D.cmp]
  have z0:∀ c:Int,∀ e:Qq,eV 7 e=some (.int (1+(i:Int)))->eV 3 e=some (.int kk)->eOp D.ix (Qi (lC (eC (.str "")) (lC (eC (.str "z")) lN))) (eUn D.intB (QN (eOp D.eqO (eV 7) (eC (.int 1))) (eOp D.eqO (eV 3) (eC (.int c))))) e=some (.str (chZ kk c i)):=by
   intro c e h7 h3
   have ha:QN (eOp D.eqO (eV 7) (eC (.int 1))) (eOp D.eqO (eV 3) (eC (.int c))) e=some (.bl (decide (i=0/\kk=c))):=by
    by_cases q:i=0
    ·refine (YH (opE h7 rfl (by rw [e1,decide_eq_true q])) (opE h3 rfl (ekc c))).trans ?_
     simp [q]
    ·refine (YT (opE h7 rfl (by rw [e1,decide_eq_false q]))).trans ?_
     simp [q]
   refine opE (x:=.lst [.str "",.str "z"]) rfl (unE ha rfl) ?_
   unfold chZ
   by_cases q:i=0/\kk=c
   ·rw [if_pos q,decide_eq_true q];rfl
   ·rw [if_neg q,decide_eq_false q];rfl
  have n9:∀ e:Qq,eV 6 e=some (.int (10^i))->eV 7 e=some (.int (1+(i:Int)))->eOp D.ix (Qi (lC (eOp D.sub (eOp D.mulA (eC (.int 9)) (eV 6)) (eC (.int 2))) (lC (eC (.int 8)) lN))) (eUn D.intB (eOp D.eqO (eV 7) (eC (.int 1)))) e=some (.int (chN i)):=by
   intro e h6 h7
   have h9:eOp D.sub (eOp D.mulA (eC (.int 9)) (eV 6)) (eC (.int 2)) e=some (.int (9*10^i-2)):=opE (opE rfl h6 ((QF _ _).trans (QdU (by omega)))) rfl rfl
   refine opE (x:=.lst [.int (9*10^i-2),.int 8]) (by unfold Qi lC lN;rw [h9];rfl) (unE (opE h7 rfl e1) rfl) ?_
   unfold chN
   by_cases q:i=0
   ·rw [if_pos q,decide_eq_true q];rfl
   ·rw [if_neg q,decide_eq_false q];rfl
  obtain ⟨X,eX⟩:∃ X,chX w i=X:=⟨_,rfl⟩
  rw [eX] at mx
  obtain ⟨y,hy1,hy2⟩:∃ y,D.ix (.str (Str.ofString "abcdefghijklmn")) (.int i)=some y/\D.add (.str (Str.ofString "l")) y=some (.str (chL i)):=by
   cases q:D.ix (.str (Str.ofString "abcdefghijklmn")) (.int i) with
   | none=>rw [q] at lb;cases lb
   | some y=>rw [q] at lb;exact ⟨y,rfl,lb⟩
  have sb:D.sub (.int (1+(i:Int))) (.int 1)=some (.int i):=by show some (D.int (1+(i:Int)-1))=_;congr 2;omega
  have tn:D.mulA (.int (10^i)) (.int 10)=some (.int (10^(i+1))):=(QF _ _).trans ((QgS (by decide)).trans (by rw [Int.pow_succ]))
  have eB:chB w kk (i+1)=(((chB w kk i++[Bk.plates (chN i) (Str.ofString "")])++[Bk.table [Str.ofString ""] (chZ kk 0 i)])++[Bk.para [.word X [],.mark (chL i),.ref (JD i) (Str.ofString "") (Str.ofString "")]])++[Bk.table [Str.ofString ""] (chZ kk 1 i)]:=by
   show chB w kk i++chG w kk i=_
   rw [<- eX]
   simp [chG,YS]
  have l1:(chB w kk i++[Bk.plates (chN i) (Str.ofString "")]).length=4*i+1:=by rw [List.length_append,cl];rfl
  have l2:((chB w kk i++[Bk.plates (chN i) (Str.ofString "")])++[Bk.table [Str.ofString ""] (chZ kk 0 i)]).length=4*i+2:=by rw [List.length_append,l1];rfl
  have l3:(((chB w kk i++[Bk.plates (chN i) (Str.ofString "")])++[Bk.table [Str.ofString ""] (chZ kk 0 i)])++[Bk.para [.word X [],.mark (chL i),.ref (JD i) (Str.ofString "") (Str.ofString "")]]).length=4*i+3:=by rw [List.length_append,l2];rfl
  have a1:=Qnr (bs:=chB w kk i) (Bk.plates (chN i) (Str.ofString "")) (by omega)
  have a2:=Qnr (bs:=chB w kk i++[Bk.plates (chN i) (Str.ofString "")]) (Bk.table [Str.ofString ""] (chZ kk 0 i)) (by omega)
  have a3:=Qnr (bs:=(chB w kk i++[Bk.plates (chN i) (Str.ofString "")])++[Bk.table [Str.ofString ""] (chZ kk 0 i)]) (Bk.para [.word X [],.mark (chL i),.ref (JD i) (Str.ofString "") (Str.ofString "")]) (by omega)
  have a4:=Qnr (bs:=((chB w kk i++[Bk.plates (chN i) (Str.ofString "")])++[Bk.table [Str.ofString ""] (chZ kk 0 i)])++[Bk.para [.word X [],.mark (chL i),.ref (JD i) (Str.ofString "") (Str.ofString "")]]) (Bk.table [Str.ofString ""] (chZ kk 1 i)) (by omega)
  refine ⟨[some (.int n),some (.int m),some (.int w),some (.int kk),some (bks (chB w kk (i+1))),some (.str (JD (i+1))),some (.int (10^(i+1))),some (.int (1+i)),some (.str (chL i)),some (.str X)],.inl ?_,_,_,_,rfl⟩
  rw [eB]
  generalize bks (chB w kk i)=B0 at *
  generalize bks (chB w kk i++[Bk.plates (chN i) (Str.ofString "")])=B1 at *
  generalize bks ((chB w kk i++[Bk.plates (chN i) (Str.ofString "")])++[Bk.table [Str.ofString ""] (chZ kk 0 i)])=B2 at *
  generalize bks (((chB w kk i++[Bk.plates (chN i) (Str.ofString "")])++[Bk.table [Str.ofString ""] (chZ kk 0 i)])++[Bk.para [.word X [],.mark (chL i),.ref (JD i) (Str.ofString "") (Str.ofString "")]])=B3 at *
  generalize bks ((((chB w kk i++[Bk.plates (chN i) (Str.ofString "")])++[Bk.table [Str.ofString ""] (chZ kk 0 i)])++[Bk.para [.word X [],.mark (chL i),.ref (JD i) (Str.ofString "") (Str.ofString "")]])++[Bk.table [Str.ofString ""] (chZ kk 1 i)])=B4 at *
  refine bnd (e1:=[some (.int n),some (.int m),some (.int w),some (.int kk),some B0,some (.str (JD i)),some (.int (10^i)),some (.int (1+i)),b,c]) rfl ?_
  refine st (e1:=[some (.int n),some (.int m),some (.int w),some (.int kk),some B0,some (.str (JD i)),some (.int (10^i)),some (.int (1+i)),some (.str (chL i)),c]) (asg (opE rfl (opE rfl (opE rfl rfl sb) hy1) hy2) rfl) ?_
  refine st (e1:=[some (.int n),some (.int m),some (.int w),some (.int kk),some B0,some (.str (JD i)),some (.int (10^i)),some (.int (1+i)),some (.str (chL i)),some (.str X)]) (asg (opE rfl (opE rfl (opE rfl rfl m2) rfl) mx) rfl) ?_
  refine st (e1:=[some (.int n),some (.int m),some (.int w),some (.int kk),some B1,some (.str (JD i)),some (.int (10^i)),some (.int (1+i)),some (.str (chL i)),some (.str X)]) (Qaa (x:=B0) (z:=B1) rfl (QeF rfl (n9 _ rfl rfl) rfl) a1) ?_
  refine st (e1:=[some (.int n),some (.int m),some (.int w),some (.int kk),some B2,some (.str (JD i)),some (.int (10^i)),some (.int (1+i)),some (.str (chL i)),some (.str X)]) (Qaa (x:=B1) (z:=B2) rfl (QeF rfl rfl (z0 0 _ rfl rfl)) a2) ?_
  refine st (e1:=[some (.int n),some (.int m),some (.int w),some (.int kk),some B3,some (.str (JD i)),some (.int (10^i)),some (.int (1+i)),some (.str (chL i)),some (.str X)]) (Qaa (x:=B2) (z:=B3) rfl rfl a3) ?_
  refine st (e1:=[some (.int n),some (.int m),some (.int w),some (.int kk),some B4,some (.str (JD i)),some (.int (10^i)),some (.int (1+i)),some (.str (chL i)),some (.str X)]) (Qaa (x:=B3) (z:=B4) rfl (QeF rfl rfl (z0 1 _ rfl rfl)) a4) ?_
  refine st (e1:=[some (.int n),some (.int m),some (.int w),some (.int kk),some B4,some (.str (chL i)),some (.int (10^i)),some (.int (1+i)),some (.str (chL i)),some (.str X)]) rfl ?_
  exact asg (opE rfl rfl tn) rfl
 ·rintro e ⟨a,b,c,rfl⟩
  rw [List.length_range]
  have cp:QR 1 [3] (Qb0 (eC (.int 2)) (eOp D.add (eV 1) (eC (.int 1)))) (gS 0) (eC (.bl true)) (eOp D.add (eOp D.sub (eV 0) (eC (.int 1))) (eV 1)) [some (.int n),some (.int m),some (.int w),some (.int kk),some (bks (chB w kk m)),some (.str (JD m)),some (.int (10^m)),a,b,c]=some (.lst (((List.range (m+1-2)).map fun i:Nat=>((2:Int)+i)-1+kk).map .int)):=by
   rw [Ze (g:=gS 0) (n:=1) (caps:=[3]) (fun i:Nat=>D.int (2+i)) (List.range (m+1-2)) (fun e=>∃ v,e=[v,some (.int kk)]) (fun _=>true) (fun i:Nat=>.int (((2:Int)+i)-1+kk)) (rg _ 2 (by omega) (by omega) rfl) (lB (by rw [List.length_range];omega)) ⟨none,rfl⟩ (by
    rintro x hx e ⟨v,rfl⟩
    exact ⟨[some (.int (2+x)),some (.int kk)],rfl,⟨_,rfl⟩,rfl,fun _=>rfl⟩)]
   rw [ZV,List.map_map];rfl
  have dl:QdR kk m=[1+kk]++(List.range (m+1-2)).map fun i:Nat=>((2:Int)+i)-1+kk:=by
   unfold QdR
   rw [show m=(m+1-2)+1 from by omega,List.range_succ_eq_map,List.map_cons,List.map_map]
   show due kk 0::_=(1+kk)::_
   congr 1
   rw [show m+1-2+1+1-2=m+1-2 from by omega]
   refine List.map_congr_left fun i _=>?_
   show due kk (i+1)=_
   unfold due
   rw [if_neg (by omega)]
   omega
  have ad:D.add (.lst ([1+kk].map .int)) (.lst (((List.range (m+1-2)).map fun i:Nat=>((2:Int)+i)-1+kk).map .int))=some (.lst ((QdR kk m).map .int)):=by
   rw [dl]
   exact QhQ (f:=D.int) (lB (by simp;omega))
  have h3:eOp D.add (Qi (lC (eOp D.add (eC (.int 1)) (eV 3)) lN)) (QR 1 [3] (Qb0 (eC (.int 2)) (eOp D.add (eV 1) (eC (.int 1)))) (gS 0) (eC (.bl true)) (eOp D.add (eOp D.sub (eV 0) (eC (.int 1))) (eV 1))) [some (.int n),some (.int m),some (.int w),some (.int kk),some (bks (chB w kk m)),some (.str (JD m)),some (.int (10^m)),a,b,c]=some (.lst ((QdR kk m).map .int)):=opE (x:=.lst ([1+kk].map .int)) rfl cp ad
  exact ret (QeF rfl rfl h3)
theorem QdF {w kk:Int} {b:Bk}:∀ {m:Nat},b∈chB w kk m->∃ i,i<m/\b∈chG w kk i
 | 0,h=>by cases h
 | m+1,h=>by
  rcases List.mem_append.mp (show b∈chB w kk m++chG w kk m from h) with z | z
  ·obtain ⟨i,h1,h2⟩:=QdF z
   exact ⟨i,by omega,h2⟩
  ·exact ⟨m,by omega,z⟩
theorem QfI {w kk:Int} {b:Bk} {i:Nat} (h:b∈chG w kk i):b=.plates (chN i) ""\/(∃ l,b=.table [Str.ofString ""] l)\/b=.para [.word (chX w i) [],.mark (chL i),.ref (JD i) "" ""]:=by
 unfold chG YS at h
 simp only [List.cons_append,List.nil_append,List.mem_cons,List.not_mem_nil,or_false] at h
 rcases h with q | q | q | q
 ·exact .inl q
 ·exact .inr (.inl ⟨_,q⟩)
 ·exact .inr (.inr q)
 ·exact .inr (.inl ⟨_,q⟩)
theorem QcC (w kk:Int):∀ m,rO (chB w kk m)=(List.range m).map JD
 | 0=>rfl
 | m+1=>by
  have:rO (chB w kk (m+1))=rO (chB w kk m)++[JD m]:=by
   show (chB w kk m++chG w kk m).flatMap _=_
   rw [List.flatMap_append]
   congr 1
  rw [this,QcC w kk m,List.range_succ,List.map_append]
  rfl
theorem Qi5 (w kk:Int):∀ m,((chB w kk m).flatMap iO).length=3*m
 | 0=>rfl
 | m+1=>by
  show ((chB w kk m++chG w kk m).flatMap iO).length=_
  rw [List.flatMap_append,List.length_append,Qi5 w kk m]
  simp [chG,YS,iO]
  omega
def QeJ (kk:Int) (i:Nat):List Str:=if i=0 then (if kk=0 then ["z",chL 0] else if kk=1 then [chL 0,"z"] else [chL 0]) else [chL i]
theorem QrJ (w kk:Int) (i:Nat):(chG w kk i).flatMap Zd=QeJ kk i:=by
 unfold chG YS QeJ chZ
 by_cases h0:i=0
 ·subst h0
  by_cases k0:kk=0
  ·subst k0;simp [Zd,JI,QC,mkL,iO]
  ·by_cases k1:kk=1
   ·subst k1;simp [Zd,JI,QC,mkL,iO]
   ·simp [Zd,JI,QC,mkL,iO,k0,k1]
 ·simp [Zd,JI,QC,mkL,iO,h0]
theorem Qd3 (w kk:Int) (m:Nat):Ql (chB w kk (m+1))=Ql (chB w kk m)++QeJ kk m:=by
 unfold Ql
 show (chB w kk m++chG w kk m).flatMap Zd=_
 rw [List.flatMap_append,QrJ]
theorem QmK {kk:Int} {i:Nat} {l:Str} (h:l∈QeJ kk i):l=chL i\/(i=0/\l="z"):=by
 unfold QeJ at h
 by_cases h0:i=0
 ·subst h0
  rw [if_pos rfl] at h
  by_cases k0:kk=0
  ·simp [k0] at h;rcases h with q | q<;>simp [q]
  ·by_cases k1:kk=1
   ·simp [k1] at h;rcases h with q | q<;>simp [q]
   ·simp [k0,k1] at h;simp [h]
 ·rw [if_neg h0] at h
  simp at h;simp [h]
theorem Qm8 {w kk:Int} {l:Str}:∀ {m:Nat},l∈Ql (chB w kk m)->l="z"\/∃ i,i<m/\l=chL i
 | 0,h=>by cases h
 | m+1,h=>by
  rw [Qd3] at h
  rcases List.mem_append.mp h with z | z
  ·rcases Qm8 z with q | ⟨i,h1,h2⟩
   ·exact .inl q
   ·exact .inr ⟨i,by omega,h2⟩
  ·rcases QmK z with q | q
   ·exact .inr ⟨m,by omega,q⟩
   ·exact .inl q.2
theorem Qi4 (w kk:Int) (hk:kk=0\/kk=1):∀ m,m<=14->(Ql (chB w kk m)).Nodup
 | 0,_=>List.nodup_nil
 | m+1,h=>by
  rw [Qd3]
  refine List.nodup_append.mpr ⟨Qi4 w kk hk m (by omega),?_,?_⟩
  ·unfold QeJ
   have:=(Qr6 0 (by decide)).1
   by_cases h0:m=0
   ·rw [if_pos h0]
    rcases hk with q | q<;>subst q<;>simp [this,this.symm]
   ·rw [if_neg h0];simp
  ·intro a ha b hb e
   subst e
   rcases QmK hb with q | q
   ·rcases Qm8 ha with u | ⟨i,h1,h2⟩
    ·exact (Qr6 m (by omega)).1 (q▸u)
    ·have:=Qtp i (by omega) m (by omega) (h2▸q)
     omega
   ·have e0:m=0:=q.1
    subst e0
    cases ha
theorem Qr7 (w kk:Int) (hk:kk=0\/kk=1):∀ m,1<=m->Str.ofString "z"∈Ql (chB w kk m)
 | 0,h=>by omega
 | m+1,_=>by
  rw [Qd3]
  by_cases h0:m=0
  ·refine List.mem_append_right _ ?_
   unfold QeJ
   rw [if_pos h0]
   rcases hk with q | q<;>subst q<;>simp
  ·exact List.mem_append_left _ (Qr7 w kk hk m (by omega))
theorem Qr8 (w kk:Int) (i:Nat):∀ m,i<m->chL i∈Ql (chB w kk m)
 | 0,h=>by omega
 | m+1,h=>by
  rw [Qd3]
  by_cases h0:i=m
  ·refine List.mem_append_right _ ?_
   subst h0
   unfold QeJ
   by_cases k0:i=0
   ·subst k0
    rw [if_pos rfl]
    split
    ·simp
    ·split<;>simp
   ·rw [if_neg k0];simp
  ·exact List.mem_append_left _ (Qr8 w kk i m (by omega))
theorem Qgy (w kk:Int):∀ m,most false (chB w kk (m+1))=10^(m+1)+10*(m+1)+3
 | 0=>by
  show most false ([]++chG w kk 0)=_
  unfold most
  rw [Vz]
  simp [chG,YS,Ji,chN,Q2,ZX,JH,List.filter]
 | m+1=>by
  have ih:=Qgy w kk m
  unfold most at ih ⊢
  show (chB w kk (m+1)++chG w kk (m+1)).foldl _ 3=_
  rw [List.foldl_append,ih,Vz]
  simp [chG,YS,Ji,chN,Q2,ZX,JH,List.filter]
  have:(10:Int)^(m+1+1)=10^(m+1)*10:=Int.pow_succ _ _
  omega
theorem QdE (w:Int) (i:Nat):(chX w i).length=(w-max2 i).toNat:=by
 unfold chX
 rw [Qgp]
 have:(Str.ofString "x").length=1:=rfl
 rw [this];omega
theorem QeT (i:Nat) (h:i<14):2<=max2 i/\max2 i<=14:=by unfold max2;split<;>omega
theorem Qm6 (i:Nat):1<=chN i:=by
 unfold chN
 split
 ·omega
 ·have:(1:Int)<=10^i:=by have:=Nat.pos_of_ne_zero (n:=10^i) (by simp);exact_mod_cast this
  omega
theorem QoU (m:Nat) (w kk:Int) (hm:11<=m/\m<=14):1<=JX (most false (chB w kk m)).toNat/\JX (most false (chB w kk m)).toNat<=15:=by
 have:=Qgy w kk (m-1)
 rw [show m-1+1=m from by omega] at this
 have p2:(10:Int)^m<=10^14:=by have:=Nat.pow_le_pow_right (n:=10) (by decide) hm.2;exact_mod_cast this
 have p3:(10:Int)^14+1000<10^15:=by decide
 have p4:((10^15:Nat):Int)=10^15:=by simp
 refine ⟨Qa1 _,(Nat.length_toDigits_le_iff (by decide) (by decide)).mpr ?_⟩
 omega
noncomputable def gC (m:Nat) (w kk:Int) (hm:11<=m/\m<=14) (hw:20<=w/\w<=28) (hk:kk=0\/kk=1):Gd where
 w:=w
 h:=2
 o:=false
 li:=false
 bs:=chB w kk m
 room:=JX (most false (chB w kk m)).toNat
 few:=⟨by rw [QfJ];omega,by rw [Qi5];omega⟩
 ref200:=by rw [QcC];simp;omega
 wb:=by omega
 hb:=by omega
 mb:=by
  have:=Qgy w kk (m-1)
  rw [show m-1+1=m from by omega] at this
  rw [this]
  have p1:(0:Int)<10^m:=by have:=Nat.pos_of_ne_zero (n:=10^m) (by simp);exact_mod_cast this
  have p2:(10:Int)^m<=10^14:=by have:=Nat.pow_le_pow_right (n:=10) (by decide) hm.2;exact_mod_cast this
  have p3:(10:Int)^14+1000<10^42:=by decide
  omega
 rm:=rfl
 room_b:=by
  have:=QoU m w kk hm
  omega
 S:=by
  intro b hb
  obtain ⟨i,hi,hb⟩:=QdF hb
  have mb:=QeT i (by omega)
  rcases QfI hb with q | ⟨l,q⟩ | q<;>subst q
  ·exact ⟨trivial,fun i hi=>(by cases hi),fun n l e=>(by cases e;exact Qm6 _)⟩
  ·exact ⟨⟨by simp,fun r hr=>by rw [List.mem_singleton.mp hr,Zc];omega⟩,fun i hi=>(by cases hi),fun n l e=>(by cases e)⟩
  ·have it:∀ j∈[It.word (chX w i) [],.mark (chL i),.ref (JD i) "" ""],ItT j:=by
    intro j hj
    simp only [List.mem_cons,List.not_mem_nil,or_false] at hj
    rcases hj with q | q | q<;>subst q
    ·refine ⟨by rw [QdE];omega,by simp,fun r hr=>by cases hr⟩
    ·trivial
    ·exact ⟨by rw [Zc];omega,by rw [Zc];omega⟩
   exact ⟨it,it,fun n l e=>(by cases e)⟩
 labs:=Qi4 w kk hk m hm.2
 refs:=by
  intro l hl
  rw [QcC] at hl
  obtain ⟨i,hi,rfl⟩:=List.mem_map.mp hl
  have hi':i<m:=by simpa using hi
  cases i with
  | zero=>exact Qr7 w kk hk m (by omega)
  | succ i=>exact Qr8 w kk i m (by omega)
 tight:=by
  intro b hb
  obtain ⟨i,hi,hb⟩:=QdF hb
  rcases QfI hb with q | ⟨l,q⟩ | q<;>subst q
  ·intro i hi;cases hi
  ·intro i hi;cases hi
  ·intro j hj hs
   have hj':j<3:=hj
   have:j=0\/j=1\/j=2:=by omega
   rcases this with q | q | q<;>subst q
   ·simp [iO,Q2,ZX,JH] at hs
   ·simp [iO,Jq,Q2,ZX,JH,List.filter]
   ·simp [iO,Q2,ZX,JH] at hs
 fit:=by
  intro b hb
  have cr:=QoU m w kk hm
  obtain ⟨i,hi,hb⟩:=QdF hb
  have mb:=QeT i (by omega)
  rcases QfI hb with q | ⟨l,q⟩ | q<;>subst q
  ·trivial
  ·exact ⟨by simp,fun r hr=>by rw [List.mem_singleton.mp hr,Zc];omega⟩
  ·intro j hj
   simp only [List.mem_cons,List.not_mem_nil,or_false] at hj
   rcases hj with q | q | q<;>subst q
   ·exact ⟨by rw [QdE];omega,by simp,fun r hr=>by cases hr⟩
   ·trivial
   ·show ((Str.ofString "").length:Int)+_+((Str.ofString "").length:Int)<=_
    rw [Zc];omega
 W:=by
  intro b hb
  obtain ⟨i,hi,hb⟩:=QdF hb
  have mb:=QeT i (by omega)
  rcases QfI hb with q | ⟨l,q⟩ | q<;>subst q
  ·exact Qm6 i
  ·exact ⟨by simp,by simp⟩
  ·intro j hj
   simp only [List.mem_cons,List.not_mem_nil,or_false] at hj
   rcases hj with q | q | q<;>subst q
   ·show 1<=(chX w i).length
    rw [QdE];omega
   ·trivial
   ·trivial
def chP (i:Nat):Int:=10^(i+1)-1
def kvG (w kk:Int) (rs:List Int) (i:Nat):List (Str×Int):=(if chZ kk 0 i=Str.ofString "" then [] else [(chZ kk 0 i,chP i)])++([(chL i,QbN w (chX w i).length (rs.getD i 0) (chP i))]++(if chZ kk 1 i=Str.ofString "" then [] else [(chZ kk 1 i,chP i+1)]))
def kvC (w kk:Int) (rs:List Int):Nat->List (Str×Int)
 | 0=>[]
 | i+1=>kvC w kk rs i++kvG w kk rs i
theorem QqF (l:Str) (p:Int) (t:Sta) (h:t=⟨p,2,0,0⟩\/t=⟨p+1,1,0,0⟩):∃ c s,QT 2 false t (.table [Str.ofString ""] l)=(⟨p+1,c,0⟩,s)/\QO s=Q6 (p+1+1):=by
 rcases h with q | q<;>subst q
 ·exact ⟨0,⟨p+1,1,0,0⟩,by simp [QT,QL,endLine,Q6],by simp [QO]⟩
 ·exact ⟨1,⟨p+1,2,0,0⟩,by simp [QT,QL,endLine,Q6],by simp [QO]⟩
theorem Qm7 (w kk:Int) (hw:20<=w) (rs:List Int):∀ m,m<=14->(∀ i<m,1<=rs.getD i 0)->∃ X s,(chB w kk m).foldl (Qy w 2 false rs) ([[]],Q6 1,0)=([]::X,s,m)/\X.length=4*m/\((chB w kk m).zip X).flatMap Ja=kvC w kk rs m/\QO s=Q6 (if m=0 then 1 else 10^m+1)
 | 0,_,_=>⟨[],Q6 1,rfl,rfl,rfl,by simp [QO,Q6]⟩
 | m+1,hm,hr=>by
  obtain ⟨X,s,h1,h2,h3,h4⟩:=Qm7 w kk hw rs m (by omega) (fun i hi=>hr i (by omega))
  have mb:=QeT m (by omega)
  have xl:=QdE w m
  obtain ⟨c1,c2,l2,t,e,ht⟩:=Qky w 2 false rs ([]::X) s m (chN m) _ [Str.ofString ""] (chZ kk 0 m) (chX w m) (chL m) (JD m) h4 rfl (by omega) (by omega) (hr m (by omega))
  have pp:(if m=0 then (1:Int) else 10^m+1)+chN m=chP m:=by
   unfold chN chP
   by_cases q:m=0
   ·subst q;rfl
   ·rw [if_neg q,if_neg q,Int.pow_succ];omega
  rw [pp] at e ht
  obtain ⟨c,s',e2,hs'⟩:=QqF (chZ kk 1 m) (chP m) t ht
  generalize hp0:(if m=0 then (1:Int) else 10^m+1)=p0 at *
  refine ⟨X++[[⟨p0,0,0⟩],[⟨chP m,0,0⟩],[⟨chP m,c1,0⟩,⟨QbN w (chX w m).length (rs.getD m 0) (chP m),l2,c2⟩],[⟨chP m+1,c,0⟩]],s',?_,?_,?_,?_⟩
  ·show (chB w kk m++chG w kk m).foldl _ _=_
   rw [List.foldl_append,h1]
   unfold chG
   rw [List.foldl_append,e,List.foldl_cons,List.foldl_nil]
   simp only [Qy,e2]
   simp
  ·rw [List.length_append,h2]
   simp
   omega
  ·show ((chB w kk m++chG w kk m).zip _).flatMap Ja=kvC w kk rs m++kvG w kk rs m
   rw [List.zip_append (by rw [QfJ,h2]),List.flatMap_append,h3]
   congr 1
   unfold chG YS kvG
   simp only [List.cons_append,List.nil_append,List.zip_cons_cons,List.zip_nil_right,List.flatMap_cons,List.flatMap_nil,Qkw,Qkv,Qkx,List.append_nil]
  ·rw [hs',if_neg (by omega)]
   unfold chP
   congr 1
   omega
theorem Qh0 {w kk:Int} {rs:List Int} {x:Str×Int} {i:Nat} (h:x∈kvG w kk rs i):∀ m,i<m->x∈kvC w kk rs m
 | 0,q=>by omega
 | m+1,q=>by
  show x∈kvC w kk rs m++kvG w kk rs m
  by_cases e:i=m
  ·subst e;exact List.mem_append_right _ h
  ·exact List.mem_append_left _ (Qh0 h m (by omega))
theorem QoG:∀ {kv:List (Str×Int)} {l:Str} {p q:Int},(kv.map (·.1)).Nodup->(l,p)∈kv->(l,q)∈kv->p=q
 | [],_,_,_,_,h,_=>by cases h
 | x::kv,l,p,q,nd,h1,h2=>by
  rw [List.map_cons,List.nodup_cons] at nd
  rcases List.mem_cons.mp h1 with a | a<;>rcases List.mem_cons.mp h2 with b | b
  ·have:=a.trans b.symm;exact (Prod.mk.inj this).2
  ·exact absurd (List.mem_map.mpr ⟨_,b,by rw [<- a]⟩) nd.1
  ·exact absurd (List.mem_map.mpr ⟨_,a,by rw [<- b]⟩) nd.1
  ·exact QoG nd.2 a b
theorem QoB {kv:List (Str×Int)} {l:Str} {p:Int} (nd:(kv.map (·.1)).Nodup) (h:(l,p)∈kv):Zm kv l=p:=QoG nd (Qmz (List.mem_map.mpr ⟨_,h,rfl⟩)).2 h
theorem QuW (i:Nat):(chP i).toNat=10^(i+1)-1/\(chP i+1).toNat=10^(i+1)/\1<=(10:Nat)^i:=by
 unfold chP
 have:(10:Int)^(i+1)=((10^(i+1):Nat):Int):=by simp
 have h1:1<=(10:Nat)^(i+1):=Nat.pos_of_ne_zero (by simp)
 have h2:1<=(10:Nat)^i:=Nat.pos_of_ne_zero (by simp)
 rw [this]
 refine ⟨by omega,by omega,h2⟩
theorem Qru (w r:Int) (i:Nat) (hi:i<14) (hw:20<=w):(JX (QbN w (chX w i).length r (chP i)).toNat:Int)=if r<=max2 i-1 then (i:Int)+1 else i+2:=by
 obtain ⟨t1,t2,t3⟩:=QuW i
 have mb:=QeT i hi
 have ps:(10:Nat)^(i+1)=10*10^i:=Nat.pow_succ'
 unfold QbN
 rw [QdE]
 by_cases q:r<=max2 i-1
 ·rw [if_pos (by omega),if_pos q,t1,QdC (k:=i+1) (by omega) (by omega) (by rw [Nat.add_sub_cancel];omega)]
  rfl
 ·rw [if_neg (by omega),if_neg q,t2,QdC (k:=i+2) (by omega) (by rw [show i+2=(i+1)+1 from rfl,Nat.pow_succ'];omega) (by rw [show i+2-1=i+1 from by omega];exact Nat.le_refl _)]
  rfl
theorem Qta (kk:Int) (i:Nat):max2 i-1=due kk i-kk:=by
 unfold max2 due
 by_cases h:i=0
 ·subst h;simp
 ·rw [if_neg h]
  split<;>omega
theorem Qi3 (m:Nat) (w kk:Int) (hm:11<=m/\m<=14) (hw:20<=w/\w<=28) (hk:kk=0\/kk=1) (rs:List Int) (hb:Box (gC m w kk hm hw hk) rs) (hf:JE (gC m w kk hm hw hk) rs=rs):rs=QdR kk m:=by
 have hl:rs.length=m:=by rw [hb.1];show (rO (chB w kk m)).length=m;rw [QcC];simp
 have r1:∀ i<m,1<=rs.getD i 0:=fun i hi=>by
  rw [List.getD_eq_getElem?_getD,List.getElem?_eq_getElem (by omega)]
  exact (hb.2 _ (List.getElem_mem _)).1
 obtain ⟨X,s,h1,h2,h3,h4⟩:=Qm7 w kk hw.1 rs m hm.2 r1
 have kv:kvR (gC m w kk hm hw hk) rs=kvC w kk rs m:=by
  show ((chB w kk m).zip ((chB w kk m).foldl (Qy w 2 false rs) ([[]],Q6 1,0)).1.tail).flatMap Ja=_
  rw [h1]
  exact h3
 obtain ⟨_,_,k3,_⟩:=QgY (gC m w kk hm hw hk) rs hb.1
 have nd:((kvC w kk rs m).map (·.1)).Nodup:=by
  rw [<- kv,k3]
  exact (gC m w kk hm hw hk).labs
 have at_:∀ j,j<m->rs.getD j 0=(JX (Zm (kvC w kk rs m) (JD j)).toNat:Int):=fun j hj=>by
  have e:rs=((List.range m).map JD).map fun l=>(JX (Zm (kvC w kk rs m) l).toNat:Int):=by
   have q:JE (gC m w kk hm hw hk) rs=((List.range m).map JD).map fun l=>(JX (Zm (kvC w kk rs m) l).toNat:Int):=by
    show (rO (chB w kk m)).map _=_
    rw [QcC,kv]
   rw [<- q];exact hf.symm
  conv=>lhs;rw [e]
  rw [List.getD_eq_getElem?_getD,List.getElem?_eq_getElem (by simp;exact hj)]
  simp
 have all:∀ j,j<m->rs.getD j 0=due kk j:=by
  intro j
  induction j with
  | zero =>
   intro hj
   rw [at_ 0 hj]
   have z:(Str.ofString "z",9+kk)∈kvC w kk rs m:=Qh0 (i:=0) (by
    unfold kvG chZ
    rcases hk with q | q<;>subst q<;>simp [chP]) m hj
   rw [show JD 0=Str.ofString "z" from rfl,QoB nd z]
   rcases hk with q | q<;>subst q<;>rfl
  | succ i ih =>
   intro hj
   have ih':=ih (by omega)
   rw [at_ (i+1) hj]
   have z:(chL i,QbN w (chX w i).length (rs.getD i 0) (chP i))∈kvC w kk rs m:=Qh0 (i:=i) (by unfold kvG;simp) m (by omega)
   rw [show JD (i+1)=chL i from rfl,QoB nd z,Qru w _ i (by omega) hw.1,ih']
   rw [Qta kk]
   rcases hk with q | q<;>subst q
   ·rw [if_pos (by omega)];unfold due;rw [if_neg (Nat.succ_ne_zero i)];omega
   ·rw [if_neg (by omega)];unfold due;rw [if_neg (Nat.succ_ne_zero i)];omega
 refine List.ext_getElem (by unfold QdR;simp [hl]) fun i p1 p2=>?_
 have:=all i (by omega)
 rw [List.getD_eq_getElem?_getD,List.getElem?_eq_getElem p1] at this
 have e2:(QdR kk m)[i]=due kk i:=by simp [QdR]
 rw [e2]
 exact this
theorem Qii {α β:Type} {r:α->β->Prop} (a0:α) (b0:β):∀ {xs:List α} {ys:List β},xs.length=ys.length->(∀ i,i<xs.length->r (xs.getD i a0) (ys.getD i b0))->JF r xs ys
 | [],[],_,_=>trivial
 | x::xs,y::ys,hl,h=>⟨by simpa using h 0 (by simp),Qii a0 b0 (by simpa using hl) fun i hi=>by simpa using h (i+1) (by simpa using hi)⟩
 | [],_::_,hl,_=>by simp at hl
 | _::_,[],hl,_=>by simp at hl
theorem Qnd {α β:Type} {r:α->β->Prop} (a0:α) (b0:β) {xs:List α} {ys:List β} (h:JF r xs ys) (i:Nat) (hi:i<xs.length):r (xs.getD i a0) (ys.getD i b0):=by
 have hl:=Qag h
 rw [List.getD_eq_getElem?_getD,List.getD_eq_getElem?_getD,List.getElem?_eq_getElem hi,List.getElem?_eq_getElem (by omega)]
 exact Qd4 i h (List.getElem?_eq_getElem hi) (List.getElem?_eq_getElem (by omega))
def QjJ (P:Int->Int->Bool) (xs ys:List Int):List Int:=((List.range xs.length).filter fun i=>P (xs.getD i 0) (ys.getD i 0)).map fun i:Nat=>0+(i:Int)
theorem Qri {P:Int->Int->Bool} {xs ys:List Int} (hl:xs.length=ys.length):QjJ P xs ys=[]↔JF (fun a b=>P a b=false) xs ys:=by
 unfold QjJ
 rw [List.map_eq_nil_iff,List.filter_eq_nil_iff]
 constructor
 ·intro h
  refine Qii 0 0 hl fun i hi=>?_
  have:=h i (List.mem_range.mpr hi)
  simpa using this
 ·intro h i hi
  have:=Qnd 0 0 h i (List.mem_range.mp hi)
  rw [this];simp
theorem ixI (xs:List Int) (i:Nat) (h:i<xs.length):D.ix (.lst (xs.map .int)) (.int (0+(i:Int)))=some (.int (xs.getD i 0)):=by
 have:=QhP (f:=D.int) xs (0+(i:Int)) 0 (by omega) (by omega)
 rw [this]
 congr 3
 omega
theorem Qv5 {op:D->D->Option D} {P:Int->Int->Bool} (hop:∀ i j,op (.int i) (.int j)=some (.bl (P i j))) {caps:List Nat} {a:EvE} {e:Qq} {xs ys:List Int} (ha:a e=some (.int xs.length)) (hn:xs.length<=200) (hl:xs.length=ys.length) (hc:QbR 1 caps e=[none,some (.lst (xs.map .int)),some (.lst (ys.map .int))]) :
  QR 1 caps (YR a) (gS 0) (eOp op (eOp D.ix (eV 1) (eV 0)) (eOp D.ix (eV 2) (eV 0))) (eV 0) e=some (.lst ((QjJ P xs ys).map .int)):=by
 rw [Ze (fun i:Nat=>D.int (0+(i:Int))) (List.range xs.length) (fun e=>∃ v,e=[v,some (.lst (xs.map .int)),some (.lst (ys.map .int))]) (fun i=>P (xs.getD i 0) (ys.getD i 0)) (fun i:Nat=>.int (0+(i:Int))) (by unfold YR;rw [ha];exact Qdu _ (by omega)) (lB (by simp;omega)) ⟨none,hc⟩ (by
  rintro i hi e ⟨v,rfl⟩
  have h1:=List.mem_range.mp hi
  refine ⟨[some (.int (0+(i:Int))),some (.lst (xs.map .int)),some (.lst (ys.map .int))],rfl,⟨_,rfl⟩,opE (opE rfl rfl (ixI xs i h1)) (opE rfl rfl (ixI ys i (by omega))) (hop _ _),fun _=>rfl⟩)]
 unfold QjJ
 rw [List.map_map]
 rfl
theorem Qul:D.neO (.lst (([]:List Int).map .int)) (.lst [])=some (.bl false):=QhZ [] []
theorem gtP (i j:Int):D.gt (.int i) (.int j)=some (.bl (decide (j<i))):=rfl
theorem QpB {xs ys:List Int} (h:leL xs ys):QjJ (fun i j=>decide (j<i)) xs ys=[]:=(Qri (Qag h)).mpr (Qii 0 0 (Qag h) fun i hi=>by
 have:=Qnd 0 0 h i hi
 simp only [decide_eq_false_iff_not]
 omega)
theorem QpC {xs ys:List Int} (h:leL xs ys) (hn:xs.length<=200) {caps:List Nat} {a:EvE} {e:Qq} (ha:a e=some (.int xs.length)) (hc:QbR 1 caps e=[none,some (.lst (xs.map .int)),some (.lst (ys.map .int))]) :
  eOp D.neO (QR 1 caps (YR a) (gS 0) (eOp D.gt (eOp D.ix (eV 1) (eV 0)) (eOp D.ix (eV 2) (eV 0))) (eV 0)) (Qi (lN)) e=some (.bl false):=by
 have:=Qv5 gtP (xs:=xs) (ys:=ys) ha hn (Qag h) hc
 rw [QpB h] at this
 exact opE this rfl Qul
theorem QrH (n:Int):∃ B S L:D,Qa0 [.int n]=some (.tup [B,S,L])/\Vh [B,S]=some L/\ZS [B,S]=some L/\Qby [B,S]=some (.bl true)/\D.neO L L=some (.bl false):=by
 obtain ⟨m,em⟩:∃ m:Nat,11+n%4=m:=⟨(11+n%4).toNat,by omega⟩
 have ca:=QrI n m _ _ em rfl rfl
 have hm:11<=m/\m<=14:=by omega
 have hw:20<=20+n/4%9/\20+n/4%9<=28:=by omega
 have hk:n/36%2=0\/n/36%2=1:=by omega
 generalize 20+n/4%9=w at *
 generalize n/36%2=kk at *
 obtain ⟨lo,la,b4,fx,mn⟩:=Qkp (gC m w kk hm hw hk)
 obtain ⟨hi,ga,b5,fy,mx⟩:=QfU (gC m w kk hm hw hk)
 have e1:=Qi3 m w kk hm hw hk lo b4 fx
 have e2:=Qi3 m w kk hm hw hk hi b5 fy
 have so:=Qmt (gC m w kk hm hw hk) lo hi la ga
 subst e1
 subst e2
 rw [decide_eq_true rfl] at so
 exact ⟨_,_,_,ca,la,ga,so,QjQ _⟩
theorem Qrd (ns:List Int):Qfw [.scr ns]=some (.bl true):=by
 have c6:Je [.scr ns,.int 6]=some (.int (cell ns 6)):=QaX ns 6
 have mx6:=Qbw (cell ns 6) 77 (by decide) (by decide)
 generalize mix (cell ns 6) 77=q at *
 have dr:Qcy [.scr ns]=some (.tup [bks (Jt ns),S0 (gD ns),.int (dR ns)]):=Qrs ns
 have fr:=QiV ns
 have pt:=QlU (Jt ns) (Qgv ns)
 have cp:=Qtn (Jt ns) (Qgv ns)
 obtain ⟨lo,la,b4,fx,mn⟩:=Qkp (gD ns)
 obtain ⟨hi,ga,b5,fy,mx⟩:=QfU (gD ns)
 have so:=Qmt (gD ns) lo hi la ga
 have n4:=QiL (gD ns) lo b4.1
 have n5:=QiL (gD ns) hi b5.1
 rw [fx] at n4
 rw [fy] at n5
 have t4:=Qfi lo (dR ns) (rO (Jt ns)).length b4.1 fr b4.2
 have t5:=Qfi hi (dR ns) (rO (Jt ns)).length b5.1 fr b5.2
 have le:leL lo hi:=mn hi b5 (by rw [fy];exact QbM (fun a=>Int.le_refl a) hi)
 have two:=fun hne=>QpW ns hne lo hi b4 fx mn b5 fy mx
 have ed:=Qh6 ns (dW ns) (dH ns) (dO ns) (dLi ns) ⟨(Qgc ns).2.1,by have:=Qgc ns;omega⟩ ⟨(QeM ns).2.1,by have:=QeM ns;omega⟩
 have ll:D.len (QE (rO (Jt ns)))=some (.int (rO (Jt ns)).length):=by show some (D.int ((rO (Jt ns)).map D.str).length)=_;rw [List.length_map]
 have lo_len:lo.length=(rO (Jt ns)).length:=b4.1
 have nb:=QsO (Jt ns)
 have la':Vh [bks (Jt ns),S0 (gD ns)]=some (.lst (lo.map .int)):=la
 have ga':ZS [bks (Jt ns),S0 (gD ns)]=some (.lst (hi.map .int)):=ga
 have so':Qby [bks (Jt ns),S0 (gD ns)]=some (.bl (decide (lo=hi))):=so
 have n4':Qae [bks (Jt ns),S0 (gD ns),.lst (lo.map .int)]=some (.lst (lo.map .int)):=n4
 have n5':Qae [bks (Jt ns),S0 (gD ns),.lst (hi.map .int)]=some (.lst (hi.map .int)):=n5
 have ed':QaW [.scr ns,S0 (gD ns)]=some (bks (Zi ns (dW ns) (dH ns) (dLi ns))):=ed
 clear la ga so n4 n5 ed
 generalize S0 (gD ns)=S at *
 generalize rO (Jt ns)=R at *
 unfold Qfw QnB
 refine stD rfl ?_
 refine st (e1:=[some (.scr ns),some (.int q),none,none,none,none,none,none,none,none,none]) (asg (J6 (J6 rfl rfl c6) rfl mx6) rfl) ?_
 have eq8:D.eqO (.int (q%8)) (.int 1)=some (.bl (decide (q%8=1))):=by simp [D.eqO,Qt,QD,D.cmp]
 have key:∃ a b c:Option D,sIf (eOp D.eqO (eOp D.mod (eV 1) (eC (.int 8))) (eC (.int 1))) (sQ (Qd (eK Qa0 (lC (eOp D.fdiv (eV 1) (eC (.int 8))) lN)) (JN [gS 2,gS 3,gS 4])) (sIf (eOr (eOp D.neO (eK Vh (lC (eV 2) (lC (eV 3) lN))) (eV 4)) (eOr (eOp D.neO (eK ZS (lC (eV 2) (lC (eV 3) lN))) (eV 4)) (eUn D.isNT (eK Qby (lC (eV 2) (lC (eV 3) lN)))))) (Qj (eC (.bl false))) (sNx))) (sNx) [some (.scr ns),some (.int q),none,none,none,none,none,none,none,none,none]=some (.nx [some (.scr ns),some (.int q),a,b,c,none,none,none,none,none,none]):=by
  by_cases z:q%8=1
  ·obtain ⟨B,T,L,h1,h2,h3,h4,h5⟩:=QrH (q/8)
   refine ⟨some B,some T,some L,ifT (opE (opE rfl rfl (ZE q (by decide))) rfl (by rw [eq8,decide_eq_true z])) ?_⟩
   refine st (e1:=[some (.scr ns),some (.int q),some B,some T,some L,none,none,none,none,none,none]) (asg (QY (opE rfl rfl (YG q (by decide))) h1) rfl) ?_
   exact ifF (orF (opE (J6 rfl rfl h2) rfl h5) (orF (opE (J6 rfl rfl h3) rfl h5) (unE (J6 rfl rfl h4) rfl))) rfl
  ·exact ⟨none,none,none,ifF (opE (opE rfl rfl (ZE q (by decide))) rfl (by rw [eq8,decide_eq_false z])) rfl⟩
 obtain ⟨a,b,c,k1⟩:=key
 refine st k1 ?_
 generalize hB:bks (Jt ns)=B at *
 refine st (e1:=[some (.scr ns),some (.int q),some B,some S,c,some (.int (dR ns)),none,none,none,none,none]) (asg (QY rfl dr) rfl) ?_
 refine st (e1:=[some (.scr ns),some (.int q),some B,some S,c,some (.int (dR ns)),some (.int R.length),none,none,none,none]) (asg (unE (QY rfl pt) ll) rfl) ?_
 refine st (e1:=[some (.scr ns),some (.int q),some B,some S,c,some (.int (dR ns)),some (.int R.length),some B,none,none,none]) (asg (QY rfl cp) rfl) ?_
 refine st (e1:=[some (.scr ns),some (.int q),some B,some S,c,some (.int (dR ns)),some (.int R.length),some B,some (.lst (lo.map .int)),none,none]) (asg (J6 rfl rfl la') rfl) ?_
 refine st (e1:=[some (.scr ns),some (.int q),some B,some S,c,some (.int (dR ns)),some (.int R.length),some B,some (.lst (lo.map .int)),some (.lst (hi.map .int)),none]) (asg (J6 rfl rfl ga') rfl) ?_
 refine st (e1:=[some (.scr ns),some (.int q),some B,some S,c,some (.int (dR ns)),some (.int R.length),some B,some (.lst (lo.map .int)),some (.lst (hi.map .int)),some (.bl (decide (lo=hi)))]) (asg (J6 rfl rfl so') rfl) ?_
 refine st (e1:=[some (.scr ns),some (.int q),some B,some S,c,some (.int (dR ns)),some (.int R.length),some B,some (.lst (lo.map .int)),some (.lst (hi.map .int)),some (.bl (decide (lo=hi)))]) (ifF (orF (opE rfl rfl nb) (orF (QbP (b:=true) (Zs rfl rfl rfl t4)) (QbP (b:=true) (Zs rfl rfl rfl t5)))) rfl) ?_
 refine st (e1:=[some (.scr ns),some (.int q),some B,some S,c,some (.int (dR ns)),some (.int R.length),some B,some (.lst (lo.map .int)),some (.lst (hi.map .int)),some (.bl (decide (lo=hi)))]) (ifF (orF (opE (Zs rfl rfl rfl n4') rfl (QjQ lo)) (opE (Zs rfl rfl rfl n5') rfl (QjQ hi))) rfl) ?_
 refine st (e1:=[some (.scr ns),some (.int q),some B,some S,c,some (.int (dR ns)),some (.int R.length),some B,some (.lst (lo.map .int)),some (.lst (hi.map .int)),some (.bl (decide (lo=hi)))]) (ifF (orF (QpC le (by rw [lo_len];exact fr) (by rw [lo_len];rfl) rfl) (orF (QbP (b:=true) (QrX (x:=.bl (decide (lo=hi))) rfl rfl)) (opE (x:=.bl (decide (lo=hi))) rfl (opE rfl rfl (Qh4 lo hi)) ?_))) rfl) ?_
 ·simp [D.neO,Za,ZI,D.cmpN]
 ·refine ret ?_
  by_cases e:lo=hi
  ·have ez:Zi ns (dW ns) (dH ns) (dLi ns)=[]:=Classical.byContradiction fun hne=>two hne e
   rw [ez] at ed'
   rw [decide_eq_true e]
   exact orF (QbP (b:=true) rfl) (opE (J6 rfl rfl ed') rfl (Qvv []))
  ·rw [decide_eq_false e]
   exact orT (QbP (b:=false) rfl)
end
section
open PySem PySem.Spec PyProof.Rows L2 Wd
def top (i:Nat):Stmt:=PySem.Challenge.pw_leastbook_k18_whole_least_and_greatest_a.main.body.getD i (.Pass ⟨0,0,0,0⟩)
abbrev Qe3:Stmt:=top 17
abbrev QjO:Stmt:=top 18
abbrev QcG:Stmt:=top 19
abbrev Qdb:Stmt:=top 20
abbrev Qe1:Stmt:=top 21
abbrev Qd7:Stmt:=top 22
abbrev Qed:Stmt:=top 23
abbrev Qc9:Stmt:=top 24
abbrev Qd8:Stmt:=top 25
abbrev QbS:Stmt:=top 26
abbrev QcE:Stmt:=top 27
abbrev Qeb:Stmt:=top 29
abbrev Qda:Stmt:=top 30
abbrev Qgj:Stmt:=top 31
abbrev Qd9:Stmt:=top 32
abbrev Qea:Stmt:=top 33
abbrev QgZ:Stmt:=top 34
abbrev Qbo:Stmt:=top 35
abbrev Vp:Stmt:=top 36
abbrev Qa4:Stmt:=top 37
abbrev QaK:Stmt:=top 38
abbrev QaN:Stmt:=top 39
abbrev Qa7:Stmt:=top 40
abbrev QaO:Stmt:=top 41
abbrev Qa8:Stmt:=top 42
abbrev Qdc:Stmt:=top 43
abbrev QaM:Stmt:=top 44
abbrev Qa6:Stmt:=top 45
abbrev Vq:Stmt:=top 46
abbrev Qa5:Stmt:=top 47
abbrev QjN:Stmt:=top 48
abbrev Qa3:Stmt:=top 50
abbrev Qc7:Stmt:=top 51
abbrev Qc8:Stmt:=top 52
abbrev Qd6:Stmt:=top 53
abbrev QcF:Stmt:=top 54
abbrev QbT:Stmt:=top 55
abbrev VN:Stmt:=top 57
abbrev Qe2:Stmt:=top 58
abbrev Qgi:Stmt:=top 59
abbrev QhV:Stmt:=top 60
abbrev Qec:Stmt:=top 61
abbrev QjM:Stmt:=top 62
abbrev Qeg:Stmt:=top 64
abbrev Qgk:Stmt:=top 65
abbrev QjP:Stmt:=top 66
abbrev Qgm:Stmt:=top 67
abbrev Qe4:Stmt:=top 68
abbrev Qgl:Stmt:=top 69
abbrev Qdt:Stmt:=top 70
abbrev Qee:Stmt:=top 71
abbrev Qef:Stmt:=top 72
abbrev QfA:Stmt:=top 73
abbrev YY:Stmt:=top 74
abbrev Qfz:Stmt:=top 75
abbrev Qcn:Stmt:=top 76
abbrev QhW:Stmt:=top 78
abbrev Qbp:Stmt:=top 80
abbrev V6:Stmt:=top 81
abbrev QdZ:Stmt:=top 82
abbrev QgR:Stmt:=top 83
structure Txt (K:Fg) (mg:Str->Option Value):Prop where
 g_FOOT:∃ t,mg "FOOT"=some (.int 3 t)
 g_HEIGHT:∃ t,mg "HEIGHT"=some (.int 1 t)
 g_LINE:∃ t,mg "LINE"=some (.int 1 t)
 g_LISTED:∃ t,mg "LISTED"=some (.int 3 t)
 g_ODD:∃ t,mg "ODD"=some (.int 2 t)
 g_PAGE:∃ t,mg "PAGE"=some (.int 0 t)
 g_USED:∃ t,mg "USED"=some (.int 2 t)
 g_WIDTH:∃ t,mg "WIDTH"=some (.int 0 t)
 b_any:mg "any"=none
 b_bool:mg "bool"=none
 b_enumerate:mg "enumerate"=none
 b_int:mg "int"=none
 b_isinstance:mg "isinstance"=none
 b_len:mg "len"=none
 b_list:mg "list"=none
 b_max:mg "max"=none
 b_range:mg "range"=none
 b_str:mg "str"=none
 b_sum:mg "sum"=none
 b_zip:mg "zip"=none
 z:True
section
variable {P:Program} {w:World} {K:Fg} {mg:Str->Option Value} {base:Heap}
abbrev Vy:List Str:=["number"]
abbrev Qcj:List Str:=["page"]
abbrev Ye:List Str:=["style","state","lines"]
abbrev YB:List Str:=["style","state","size"]
abbrev Vx:List Str:=["page","line","column","size","foot"]
abbrev QaB:List Str:=["style","state","size","rows"]
abbrev Qhm:List Str:=["style","state","size","rows","page","line","used","foot","column"]
abbrev Y7:List Str:=["state"]
abbrev VX:List Str:=["style","state","rows","keep"]
abbrev QfZ:List Str:=["style","state","rows","keep","start","place"]
abbrev Y2:List Str:=["state"]
abbrev Vd:List Str:=["style","state"]
abbrev QeA:List Str:=["style","state","start"]
abbrev VB:List Str:=["state","many"]
abbrev Qfr:List Str:=["state","many","page"]
abbrev Y5:List Str:=["style"]
abbrev YA:List Str:=["block"]
abbrev Qac:List Str:=["item"]
abbrev Y3:List Str:=["block"]
abbrev Y4:List Str:=["block"]
abbrev QeQ:List Str:=["book"]
abbrev QoX:List Str:=["book","labels","block"]
abbrev Yz:List Str:=["block","style"]
abbrev Zy:List Str:=["book","style"]
abbrev ZL:List Str:=["book","style"]
abbrev Yg:List Str:=["texts","width"]
abbrev Yp:List Str:=["block","style","room"]
abbrev QcY:List Str:=["block","style","room","beside"]
abbrev ZN:List Str:=["item","style","room"]
abbrev ZA:List Str:=["block","style"]
abbrev ZO:List Str:=["item","style"]
abbrev YC:List Str:=["label","number","known"]
abbrev Zz:List Str:=["block","number","style","room","known"]
abbrev ZM:List Str:=["item","number","style","room","known"]
abbrev Yo:List Str:=["items","number","style","room","known"]
abbrev QcX:List Str:=["items","number","style","room","known","words_left","item"]
abbrev YM:List Str:=["book","known"]
abbrev QdJ:List Str:=["book","known","number","block","label"]
abbrev QeR:List Str:=["book","style"]
abbrev QoY:List Str:=["book","style","room","known","number","block"]
abbrev YL:List Str:=["book","style"]
abbrev QdI:List Str:=["book","style","places","state","block","put"]
abbrev VW:List Str:=["items","style","state","rooms"]
abbrev QfY:List Str:=["items","style","state","rooms","places","refs_set","item","size","put"]
abbrev Yy:List Str:=["block","style","state"]
abbrev QaA:List Str:=["book","style","rooms"]
abbrev Qhl:List Str:=["book","style","rooms","put","told","state","refs_set","block"]
abbrev VC:List Str:=["items","places","kind"]
abbrev Qfs:List Str:=["items","places","kind","found","words_set","item"]
abbrev Ve:List Str:=["book","told"]
abbrev QeB:List Str:=["book","told","pages","block","places","label","page"]
abbrev YN:List Str:=["book","style","rooms"]
abbrev QdK:List Str:=["book","style","rooms","pages"]
abbrev QbE:List Str:=["book","style","first"]
abbrev Qje:List Str:=["book","style","first","rooms","wanted"]
abbrev Qab:List Str:=["book","style","rooms"]
abbrev QaV:List Str:=["book","style"]
abbrev Y6:List Str:=["book","style"]
abbrev Qci:List Str:=["book","style"]
abbrev Y8:List Str:=["_law_script","_law_k"]
abbrev Qad:List Str:=["_law_found"]
abbrev QeS:List Str:=["_law_cell","_law_turn"]
abbrev QoZ:List Str:=["_law_cell","_law_turn","_law_number"]
abbrev Qcq:List Str:=["_law_k"]
abbrev QkS:List Str:=["_law_k","_law_some"]
abbrev QbF:List Str:=["_law_cell","_law_number"]
abbrev Qjf:List Str:=["_law_cell","_law_number","_law_ten","_law_k"]
abbrev Qco:List Str:=["_law_number","_law_size","_law_gaps"]
abbrev QkQ:List Str:=["_law_number","_law_size","_law_gaps","_law_some","_law_found","_law_k","_law_at","_law_sign"]
abbrev Qdy:List Str:=["_law_cell","_law_k"]
abbrev Qnh:List Str:=["_law_cell","_law_k","_law_number","_law_kind","_law_size","_law_many","_law_text","_law_word","_law_label_here","_law_name"]
abbrev QaC:List Str:=["_law_atoms","_law_cells"]
abbrev Qhn:List Str:=["_law_atoms","_law_cells","_law_labels","_law_atom_here","_law_found","_law_k","_law_label_here"]
abbrev QaD:List Str:=["_law_atoms"]
abbrev Qho:List Str:=["_law_atoms","_law_book","_law_row","_law_atom_here"]
abbrev Qdw:List Str:=["_law_script","_law_style"]
abbrev Qnf:List Str:=["_law_script","_law_style","_law_many","_law_ten","_law_k","_law_row"]
abbrev Qcp:List Str:=["_law_book","_law_most_here"]
abbrev QkR:List Str:=["_law_book","_law_most_here","_law_wide","_law_high","_law_block","_law_notes","_law_rows"]
abbrev Qdv:List Str:=["_law_book","_law_listed"]
abbrev Qne:List Str:=["_law_book","_law_listed","_law_most_here","_law_block"]
abbrev Qcr:List Str:=["_law_script"]
abbrev QkT:List Str:=["_law_script","_law_every","_law_cells","_law_book","_law_listed","_law_edge_here","_law_most_here","_law_wide","_law_high","_law_width","_law_height","_law_style"]
abbrev Qdx:List Str:=["_law_book"]
abbrev Qng:List Str:=["_law_book","_law_found","_law_block","_law_row","_law_item"]
abbrev VY:List Str:=["_law_book"]
abbrev Qf0:List Str:=["_law_book","_law_found","_law_block"]
abbrev Z0:List Str:=["_law_found","_law_many","_law_most_here"]
abbrev Qcs:List Str:=["_law_number"]
abbrev QkU:List Str:=["_law_number","_law_many","_law_wide","_law_kicked","_law_book","_law_behind","_law_ten","_law_j","_law_name","_law_word"]
abbrev QrS:List Str:=["_law_script"]
abbrev Qr9:List Str:=["_law_script","_law_number","_law_book","_law_style","_law_due","_law_most_here","_law_many","_law_handed","_law_low","_law_high","_law_one"]
section
variable (P:Program) (w:World) (K:Fg) (mg:Str->Option Value) (base:Heap)
abbrev Qff:=Cal P w K mg base 1 "figures" Vy (spD K Qam)
abbrev Qdr:=Cal P w K mg base 1 "bare" Qcj (spD K Qax)
abbrev QcM:=Cal P w K mg base 1 "has_height" Ye (spD K YK)
abbrev Qf4:=Cal P w K mg base 1 "has_width" YB (spD K Qbr)
abbrev Qjg:=Cal P w K mg base 1 "word_at" Vx (spD K Qal)
abbrev Qhq:=Cal P w K mg base 2 "put_word" QaB (spD K QaF)
abbrev Qex:=Cal P w K mg base 1 "end_line" Y7 (spD K QaH)
abbrev Qdm:=Cal P w K mg base 2 "put_block" VX (spD K YD)
abbrev Qeu:=Cal P w K mg base 2 "new_page" Y2 (spD K QaG)
abbrev QbY:=Cal P w K mg base 3 "new_chapter" Vd (spD K Vf)
abbrev Qft:=Cal P w K mg base 3 "put_plates" VB (spD K QaL)
abbrev Qhr:=Cal P w K mg base 1 "is_style" Y5 (spD K Qcb)
abbrev Qbu:=Cal P w K mg base 1 "is_titled" YA (spD K Vl)
abbrev QcD:=Cal P w K mg base 1 "is_set" Qac (spD K Yc)
abbrev Qev:=Cal P w K mg base 1 "label_of" Y3 (spD K Yn)
abbrev QaJ:=Cal P w K mg base 1 "items_of" Y4 (spD K Zg)
abbrev Qdq:=Cal P w K mg base 2 "refs" QeQ (spD K ZU)
abbrev Qf3:=Cal P w K mg base 2 "pages_for" Yz (spD K Vk)
abbrev QcZ:=Cal P w K mg base 3 "pages_at_most" Zy (spD K Vr)
abbrev Qbh:=Cal P w K mg base 4 "room_at_most" ZL (spD K Z8)
abbrev QcN:=Cal P w K mg base 1 "any_longer" Yg (spD K VD)
abbrev Qc2:=Cal P w K mg base 2 "is_wide_block" Yp (spD K Zl)
abbrev QdO:=Cal P w K mg base 2 "is_wide_item" ZN (spD K VP)
abbrev Qc3:=Cal P w K mg base 1 "is_high_block" ZA (spD K Vs)
abbrev QdP:=Cal P w K mg base 1 "is_high_item" ZO (spD K VQ)
abbrev Qdn:=Cal P w K mg base 1 "add_label" YC (spM K V1)
abbrev Qc1:=Cal P w K mg base 3 "look_at_block" Zz (spM K Yr)
abbrev QdN:=Cal P w K mg base 3 "look_at_item" ZM (spM K YQ)
abbrev Qc0:=Cal P w K mg base 4 "look_at_items" Yo (spM K Yq)
abbrev QdM:=Cal P w K mg base 3 "look_at_refs" YM (spD K YO)
abbrev Qg6:=Cal P w K mg base 5 "look" QeR (spD K Qaw)
abbrev QdL:=Cal P w K mg base 4 "set_contents" YL (spD K VO)
abbrev Qf1:=Cal P w K mg base 3 "set_items" VW (spD K VZ)
abbrev Qf2:=Cal P w K mg base 4 "set_block" Yy (spD K V0)
abbrev Qhp:=Cal P w K mg base 5 "set_book" QaA (spD K VM)
abbrev Qfu:=Cal P w K mg base 2 "pages_with" VC (spD K YJ)
abbrev QeC:=Cal P w K mg base 3 "label_pages" Ve (spD K Yk)
abbrev Qbi:=Cal P w K mg base 6 "figures_told" YN (spD K Zr)
abbrev Qfe:=Cal P w K mg base 7 "settled" QbE (spD K QbI)
abbrev QkV:=Cal P w K mg base 7 "needed" Qab (spD K Qae)
abbrev Qik:=Cal P w K mg base 8 "least" QaV (spD K Vh)
abbrev Qew:=Cal P w K mg base 8 "greatest" Y6 (spD K ZS)
abbrev Qo0:=Cal P w K mg base 9 "sole" Qci (spD K Qby)
abbrev Qce:=Cal P w K mg base 1 "_law_cell_at" Y8 (spD K Je)
abbrev QkW:=Cal P w K mg base 1 "_law_whole" Qad (spD K Qcw)
abbrev Qds:=Cal P w K mg base 1 "_law_mix" QeS (spD K Ym)
abbrev QkZ:=Cal P w K mg base 1 "_law_label" Qcq (spD K QaZ)
abbrev Qjh:=Cal P w K mg base 1 "_law_plates" QbF (spD K QcV)
abbrev QkX:=Cal P w K mg base 1 "_law_signs" Qco (spD K Y0)
abbrev Qnk:=Cal P w K mg base 2 "_law_atom" Qdy (spD K Qai)
abbrev Qhs:=Cal P w K mg base 2 "_law_pointed" QaC (spD K Qcc)
abbrev Qht:=Cal P w K mg base 1 "_law_grouped" QaD (spD K Y9)
abbrev Qil:=Cal P w K mg base 2 "_law_edge" Qdw (spD K QaW)
abbrev QkY:=Cal P w K mg base 1 "_law_needs" Qcp (spD K Qcx)
abbrev Qni:=Cal P w K mg base 1 "_law_most" Qdv (spD K QdB)
abbrev Qk0:=Cal P w K mg base 3 "_law_drawn" Qcr (spD K Qcy)
abbrev Qnj:=Cal P w K mg base 1 "_law_copy" Qdx (spD K QfE)
abbrev Qf5:=Cal P w K mg base 1 "_law_pointers" VY (spD K Qbs)
abbrev QeD:=Cal P w K mg base 2 "_law_rooms_told" Z0 (spD K Vg)
abbrev Qk1:=Cal P w K mg base 1 "_law_chain" Qcs (spD K Qa0)
end
theorem QnL:FnScope Vy Vy (Qb Qe3):=by constructor<;>first | rfl | decide +kernel
theorem QnU (h:Df K mg "figures" Qe3 Vy) (T:Txt K mg):Qff P w K mg base :=
 okD Vy Vy Qfa 0 h QnL (fun nd=>fun hr=>(So (Qm (Jc QK rfl T.b_len PySem.boot_len (dr (Qcl Qi6 rfl T.b_str PyProof.Rows.boot_str (dv 0)))))))
theorem Qsk:FnScope Qcj Qcj (Qb QjO):=by constructor<;>first | rfl | decide +kernel
theorem QsL (h:Df K mg "bare" QjO Qcj) (T:Txt K mg):Qdr P w K mg base :=
 okD Qcj Qcj QjZ 0 h Qsk (fun nd=>fun hr=>(So (Qm (QI (dn 0 (Dk Qw (Dk Qw (Dk Qw Dz)))) lz4))))
theorem Qjm:FnScope Ye Ye (Qb QcG):=by constructor<;>first | rfl | decide +kernel
theorem Qjs (h:Df K mg "has_height" QcG Ye) (T:Txt K mg):QcM P w K mg base :=
 okD Ye Ye QcK 0 h Qjm (fun nd=>fun hr=>(So (Qm (JB (Qdp hr.units0) (dr (Qa Qh (dr (Qa Qh (dr (Qc (dv 1) (dr (QQ T.g_LINE rfl)))) (dr (Qc (dv 1) (dr (QQ T.g_FOOT rfl)))))) (dv 2))) (dr (Qc (dv 0) (dr (QQ T.g_HEIGHT rfl)))) (Qf _)))))
theorem Qla:FnScope YB YB (Qb Qdb):=by constructor<;>first | rfl | decide +kernel
theorem Qlk (h:Df K mg "has_width" Qdb YB) (T:Txt K mg):Qf4 P w K mg base :=
 okD YB YB Qdi 0 h Qla (fun nd=>fun hr=>(So (Qm (Qr4 (dr (JB (Qr hr.units) (dr (Qc (dv 1) (dr (QQ T.g_USED rfl)))) dq (Qf _))) (VV (JB (Qdp hr.units0) (dr (Qa Qh (dr (Qa Qh (dr (Qc (dv 1) (dr (QQ T.g_USED rfl)))) dq)) (dv 2))) (dr (Qc (dv 0) (dr (QQ T.g_WIDTH rfl)))) (Qf _)))))))
theorem QnJ:FnScope Vx Vx (Qb Qe1):=by constructor<;>first | rfl | decide +kernel
theorem QnS (h:Df K mg "word_at" Qe1 Vx) (T:Txt K mg):Qjg P w K mg base :=
 okD Vx Vx Qe8 0 h QnJ (fun nd=>fun hr=>(So (Qm (QI (Dt (QI (dn 0 (dn 1 (dn 2 Dz))) lz3) (Dt (QI (dn 0 (dn 1 (Db (Qa Qh (dv 2) (dv 3)) (dn 4 Dz)))) lz4) Dz)) lz2))))
theorem QlJ:FnScope Qhm QaB (Qb Qd7):=by constructor<;>first | rfl | decide +kernel
theorem QlX (h:Df K mg "put_word" Qd7 QaB) (T:Txt K mg) (c_has_height:QcM P w K mg base) (c_has_width:Qf4 P w K mg base) (c_word_at:Qjg P w K mg base):Qhq P w K mg base :=
 okD Qhm QaB Qek 1 h QlJ (fun nd=>fun hr=>(by refine Ss (O1:=[]) ?_ ?_;exact (Qg 4 nd (Qc (dv 1) (dr (QQ T.g_PAGE rfl))));exact (by refine Ss (O1:=[]) ?_ ?_;exact (Qg 5 nd (Qc (dv 1) (dr (QQ T.g_LINE rfl))));exact (by refine Ss (O1:=[]) ?_ ?_;exact (Qg 6 nd (Qc (dv 1) (dr (QQ T.g_USED rfl))));exact (by refine Ss (O1:=[]) ?_ ?_;exact (Qg 7 nd (Qa Qh (dr (Qc (dv 1) (dr (QQ T.g_FOOT rfl)))) (dv 3)));exact (by refine Ss (O1:=[]) ?_ ?_;exact (Qx (PW.pt (Qay (JA (dr (dc c_has_width hr (dn 0 (dn 1 (dn 2 Dz)))))) (Zp (JA (dr (dc c_has_height hr (dn 0 (dn 1 (Db (Qa Qh dq (dv 3)) Dz))))))))) (Ss (O1:=[]) (Qg 8 nd (QjF (Qn (Qr hr.units) (dv 6) dq (Qf _)) Qw (Qa Qh (dv 6) dq))) (So (Qm (dc c_word_at hr (dn 4 (dn 5 (dn 8 (dn 2 (dn 7 Dz))))))))) Sn);exact (by refine Ss (O1:=[]) ?_ ?_;exact (Qx (PW.pt (Qay (Qn VS (dv 6) dq (Qf _)) (Zp (JA (dr (dc c_has_height hr (dn 0 (dn 1 (Db (Qa Qh dq (dv 3)) Dz))))))))) (So (Qm (dc c_word_at hr (dn 4 (Db (Qa Qh (dv 5) dq) (Dk Qw (dn 2 (dn 7 Dz)))))))) Sn);exact (So (Qm (dc c_word_at hr (Db (Qa Qh (dv 4) dq) (Dk Qw (Dk Qw (dn 2 (dn 3 Dz)))))))))))))))
theorem QlP:FnScope Y7 Y7 (Qb Qed):=by constructor<;>first | rfl | decide +kernel
theorem Ql3 (h:Df K mg "end_line" Qed Y7) (T:Txt K mg):Qex P w K mg base :=
 okD Y7 Y7 Qeq 0 h QlP (fun nd=>fun hr=>(Ss (O1:=[]) (Qx (Qn (Qr hr.units) (dr (Qc (dv 0) (dr (QQ T.g_USED rfl)))) dq (Qf _)) (So (Qm (Qu 0))) Sn) (So (Qm (QI (Du (Qc (dv 0) (dr (QQ T.g_PAGE rfl))) (Db (Qa Qh (dr (Qc (dv 0) (dr (QQ T.g_LINE rfl)))) dq) (Dk Qw (Du (Qc (dv 0) (dr (QQ T.g_FOOT rfl))) Dz)))) lz4)))))
theorem Qk7:FnScope QfZ VX (Qb Qc9):=by constructor<;>first | rfl | decide +kernel
theorem Qlh (h:Df K mg "put_block" Qc9 VX) (T:Txt K mg) (c_bare:Qdr P w K mg base) (c_end_line:Qex P w K mg base) (c_has_height:QcM P w K mg base):Qdm P w K mg base :=
 okD QfZ VX Qdf 1 h Qk7 (fun nd=>fun hr=>(by refine Ss (O1:=[]) ?_ ?_;exact (Qg 4 nd (dc c_end_line hr (dn 1 Dz)));exact (by refine Ss (O1:=[]) ?_ ?_;exact (Qx (Qbz (JA (dr (dc c_has_height hr (dn 0 (dn 4 (Db (Qa Qh (dv 2) (dv 3)) Dz))))))) (So (Qg 4 nd (dc c_bare hr (Db (Qa Qh (dr (Qc (dv 4) (dr (QQ T.g_PAGE rfl)))) dq) Dz)))) Sn);exact (Ss (O1:=[]) (Qg 5 nd (QI (Du (Qc (dv 4) (dr (QQ T.g_PAGE rfl))) (Du (Qc (dv 4) (dr (QQ T.g_LINE rfl))) (Dk Qw Dz))) lz3)) (So (Qm (QI (dn 5 (Dt (QI (Du (Qc (dv 4) (dr (QQ T.g_PAGE rfl))) (Db (Qa Qh (dr (Qc (dv 4) (dr (QQ T.g_LINE rfl)))) (dv 2)) (Dk Qw (Du (Qc (dv 4) (dr (QQ T.g_FOOT rfl))) Dz)))) lz4) Dz)) lz2)))))))
theorem QlK:FnScope Y2 Y2 (Qb Qd8):=by constructor<;>first | rfl | decide +kernel
theorem QlY (h:Df K mg "new_page" Qd8 Y2) (T:Txt K mg) (c_bare:Qdr P w K mg base):Qeu P w K mg base :=
 okD Y2 Y2 Qel 1 h QlK (fun nd=>fun hr=>(Ss (O1:=[]) (Qx (Qn (Qr hr.units) (dv 0) (dr (dc c_bare hr (Du (Qc (dv 0) (dr (QQ T.g_PAGE rfl))) Dz))) (Qf _)) (So (Qm (Qu 0))) Sn) (So (Qm (dc c_bare hr (Db (Qa Qh (dr (Qc (dv 0) (dr (QQ T.g_PAGE rfl)))) dq) Dz))))))
theorem Qio:FnScope QeA Vd (Qb QbS):=by constructor<;>first | rfl | decide +kernel
theorem Qis (h:Df K mg "new_chapter" QbS Vd) (T:Txt K mg) (c_bare:Qdr P w K mg base) (c_new_page:Qeu P w K mg base):QbY P w K mg base :=
 okD QeA Vd QbV 2 h Qio (fun nd=>fun hr=>(by refine Ss (O1:=[]) ?_ ?_;exact (Qg 2 nd (dc c_new_page hr (dn 1 Dz)));exact (by refine Ss (O1:=[]) ?_ ?_;exact (Qx (PW.pt (Qay (JA (dr (Qc (dv 0) (dr (QQ T.g_ODD rfl))))) (Zp (Qn (Qr hr.units) (dr (Qa QP (dr (Qc (dv 2) (dr (QQ T.g_PAGE rfl)))) dq)) dq (Qf _))))) (So (Qm (dc c_bare hr (Db (Qa Qh (dr (Qc (dv 2) (dr (QQ T.g_PAGE rfl)))) dq) Dz)))) Sn);exact (So (Qm (Qu 2))))))
theorem Qjk:FnScope Qfr VB (Qb QcE):=by constructor<;>first | rfl | decide +kernel
theorem Qjq (h:Df K mg "put_plates" QcE VB) (T:Txt K mg) (c_bare:Qdr P w K mg base) (c_new_page:Qeu P w K mg base):Qft P w K mg base :=
 okD Qfr VB QcI 2 h Qjk (fun nd=>fun hr=>(Ss (O1:=[]) (Qg 2 nd (Qc (dr (dc c_new_page hr (dn 0 Dz))) (dr (QQ T.g_PAGE rfl)))) (So (Qm (QI (Dt (QI (dn 2 (Dk Qw (Dk Qw Dz))) lz3) (Dl (dc c_bare hr (Db (Qa Qh (dv 2) (dv 1)) Dz)) Dz)) lz2)))))
theorem QlN:FnScope Y5 Y5 (Qb Qeb):=by constructor<;>first | rfl | decide +kernel
theorem Ql1 (h:Df K mg "is_style" Qeb Y5) (T:Txt K mg):Qhr P w K mg base :=
 okD Y5 Y5 Qeo 0 h QlN (fun nd=>fun hr=>(So (Qm (QbB (dr (QkF (Qdp hr.units0) (Qdp hr.units0) dq (dr (Qc (dv 0) (dr (QQ T.g_WIDTH rfl)))) dq)) (VV (QkF (Qdp hr.units0) (Qdp hr.units0) dq (dr (Qc (dv 0) (dr (QQ T.g_HEIGHT rfl)))) dq))))))
theorem Qk9:FnScope YA YA (Qb Qda):=by constructor<;>first | rfl | decide +kernel
theorem Qlj (h:Df K mg "is_titled" Qda YA) (T:Txt K mg):Qbu P w K mg base :=
 okD YA YA Qdh 0 h Qk9 (fun nd=>fun hr=>(So (Qm (JB Qg1 (dr (Qc (dv 0) dq)) (dr (QI (Dk Qe (Dk Qe Dz)) lz2)) (by with_unfolding_all rfl)))))
theorem Qo8:FnScope Qac Qac (Qb Qgj):=by constructor<;>first | rfl | decide +kernel
theorem Qpq (h:Df K mg "is_set" Qgj Qac) (T:Txt K mg):QcD P w K mg base :=
 okD Qac Qac QgA 0 h Qo8 (fun nd=>fun hr=>(So (Qm (JB Qg1 (dr (Qc (dv 0) dq)) (dr (QI (Dk Qe (Dk Qe Dz)) lz2)) (by with_unfolding_all rfl)))))
theorem QlL:FnScope Y3 Y3 (Qb Qd9):=by constructor<;>first | rfl | decide +kernel
theorem QlZ (h:Df K mg "label_of" Qd9 Y3) (T:Txt K mg):Qev P w K mg base :=
 okD Y3 Y3 Qem 0 h QlL (fun nd=>fun hr=>(So (Qm (QjF (Qn (Qr hr.units) (dr (Qc (dv 0) dq)) (dr Qe) (Qf _)) Qe (Qc (dv 0) (dr (Qg4 dq)))))))
theorem QlM:FnScope Y4 Y4 (Qb Qea):=by constructor<;>first | rfl | decide +kernel
theorem Ql0 (h:Df K mg "items_of" Qea Y4) (T:Txt K mg):QaJ P w K mg base :=
 okD Y4 Y4 Qen 0 h QlM (fun nd=>fun hr=>(So (Qm (QjF (Qn (Qr hr.units) (dr (Qc (dv 0) dq)) (dr Qe) (Qf _)) (Qc (dv 0) dq) (QZ Dz lz0)))))
theorem Qsi:FnScope QoX QeQ (Qb QgZ):=by constructor<;>first | rfl | decide +kernel
theorem QsJ (h:Df K mg "refs" QgZ QeQ) (T:Txt K mg) (c_items_of:QaJ P w K mg base):Qdq P w K mg base :=
 okD QoX QeQ QjX 1 h Qsi (fun nd=>fun hr=>(by refine Ss (O1:=[1]) ?_ ?_;exact (ZK 1 nd (YI Dz lz0));exact (by refine Ss (O1:=[1]) ?_ ?_;exact (by refine JZ rfl PassesOwn.never ?_ ?_ ?_;exact (Jo (Qu 0));exact Qs 2 nd;exact (by refine So ?_;exact (by refine QuI 1 (by decide) ?_;exact (by refine dr ?_;exact (by refine Zh ?_;exact (by refine J4 rfl rfl (Jf (show J0 (Qb QgZ) ["book","labels","block"] _ 1 ["item"] []=true by decide +kernel)) (by decide) ?_ ?_ ?_ ?_;exact (dih (Jo (dc c_items_of hr (dn 2 Dz))));exact fun cl C ex s2 H2 pn=>Qs 0 (show List.Nodup (["item"]:List Str) by decide +kernel);exact fun cl C ex s2 H2 pn=>(Vi (Qn (Qr hr.units) (dr (Qc (dv 0) dq)) (dr Qe) (Qf _)));exact fun cl C ex s2 H2 pn=>(Qc (dv 0) dq)))))));exact (ZB 1 (So (Qm (Qu 1)))))))
theorem Qk8:FnScope Yz Yz (Qb Qbo):=by constructor<;>first | rfl | decide +kernel
theorem Qli (h:Df K mg "pages_for" Qbo Yz) (T:Txt K mg) (c_is_set:QcD P w K mg base) (c_is_titled:Qbu P w K mg base) (c_items_of:QaJ P w K mg base):Qf3 P w K mg base :=
 okD Yz Yz Qdg 1 h Qk8 (fun nd=>fun hr=>(by refine Ss (O1:=[]) ?_ ?_;exact (Qx (Qn (Qr hr.units) (dr (Qc (dv 0) dq)) (dr Qe) (Qf _)) (So (Qm (Qa Qh dq (dr (Qc (dv 0) dq))))) Sn);exact (by refine Ss (O1:=[]) ?_ ?_;exact (Qx (PW.pt (Qay (JA (dr (dc c_is_titled hr (dn 0 Dz)))) (Zp (JA (dr (Qc (dv 1) (dr (QQ T.g_LISTED rfl)))))))) (So (Qm Qw)) Sn);exact (by refine So ?_;exact (by refine Qm ?_;exact (by refine Qa Qh ?_ ?_;exact dq;exact (by refine dr ?_;exact (by refine Qa J3 ?_ ?_;exact dq;exact (by refine dr ?_;exact (by refine Jc QK rfl T.b_len PySem.boot_len ?_;exact (by refine dr ?_;exact (by refine Zh ?_;exact (by refine J4 rfl rfl (Jf (show J0 (Qb Qbo) ["block","style"] _ 1 ["item"] []=true by decide +kernel)) (by decide) ?_ ?_ ?_ ?_;exact (dih (Jo (dc c_items_of hr (dn 0 Dz))));exact fun cl C ex s2 H2 pn=>Qs 0 (show List.Nodup (["item"]:List Str) by decide +kernel);exact fun cl C ex s2 H2 pn=>(Vi (JA (dr (dc c_is_set hr (dn 0 Dz)))));exact fun cl C ex s2 H2 pn=>Qu 0)))))))))))))
theorem QgI:FnScope Zy Zy (Qb Vp):=by constructor<;>first | rfl | decide +kernel
theorem QgL (h:Df K mg "pages_at_most" Vp Zy) (T:Txt K mg) (c_pages_for:Qf3 P w K mg base):QcZ P w K mg base :=
 okD Zy Zy QaR 2 h QgI (fun nd=>fun hr=>(by refine So ?_;exact (by refine Qm ?_;exact (by refine Qa Qh ?_ ?_;exact dq;exact (by refine dr ?_;exact (by refine Jc (Qqd rfl) rfl T.b_sum PyProof.Rows.boot_sum ?_;exact (by refine dr ?_;exact (by refine Zh ?_;exact (by refine J4 rfl rfl (Jf (show J0 (Qb Vp) ["book","style"] _ 1 ["block","style"] [1]=true by decide +kernel)) (by decide) ?_ ?_ ?_ ?_;exact (dih (Jo (Qu 0)));exact fun cl C ex s2 H2 pn=>Qs 0 (show List.Nodup (["block","style"]:List Str) by decide +kernel);exact fun cl C ex s2 H2 pn=>ZZ;exact fun cl C ex s2 H2 pn=>(dc c_pages_for hr (dn 0 (dn 1 Dz))))))))))))
theorem Qhv:FnScope ZL ZL (Qb Qa4):=by constructor<;>first | rfl | decide +kernel
theorem QhB (h:Df K mg "room_at_most" Qa4 ZL) (T:Txt K mg) (c_figures:Qff P w K mg base) (c_pages_at_most:QcZ P w K mg base):Qbh P w K mg base :=
 okD ZL ZL Qbb 3 h Qhv (fun nd=>fun hr=>(So (Qm (dc c_figures hr (Dl (dc c_pages_at_most hr (dn 0 (dn 1 Dz))) Dz)))))
theorem Qjn:FnScope Yg Yg (Qb QaK):=by constructor<;>first | rfl | decide +kernel
theorem Qjt (h:Df K mg "any_longer" QaK Yg) (T:Txt K mg):QcN P w K mg base :=
 okD Yg Yg QcL 0 h Qjn (fun nd=>fun hr=>(by refine So ?_;exact (by refine Qm ?_;exact (by refine Jc (Qqi rfl) rfl T.b_any PyProof.Rows.boot_any ?_;exact (by refine dr ?_;exact (by refine Zh ?_;exact (by refine J4 rfl rfl (Jf (show J0 (Qb QaK) ["texts","width"] _ 1 ["text","width"] [1]=true by decide +kernel)) (by decide) ?_ ?_ ?_ ?_;exact (dih (Jo (Qu 0)));exact fun cl C ex s2 H2 pn=>Qs 0 (show List.Nodup (["text","width"]:List Str) by decide +kernel);exact fun cl C ex s2 H2 pn=>ZZ;exact fun cl C ex s2 H2 pn=>(JB VS (dr (Jc QK rfl T.b_len PySem.boot_len (dv 0))) (dv 1) (Qf _)))))))))
theorem QgJ:FnScope QcY Yp (Qb QaN):=by constructor<;>first | rfl | decide +kernel
theorem QgO (h:Df K mg "is_wide_block" QaN Yp) (T:Txt K mg) (c_any_longer:QcN P w K mg base) (c_is_titled:Qbu P w K mg base):Qc2 P w K mg base :=
 okD QcY Yp ZW 1 h QgJ (fun nd=>fun hr=>(by refine Ss (O1:=[]) ?_ ?_;exact (Qx (JA (dr (dc c_is_titled hr (dn 0 Dz)))) (Ss (O1:=[]) (Qg 3 nd (QjF (JA (dr (Qc (dv 1) (dr (QQ T.g_LISTED rfl))))) (Qa Qh dq (dv 2)) Qw)) (So (Qm (JB VS (dr (Qa Qh (dr (Jc QK rfl T.b_len PySem.boot_len (dr (Qc (dv 0) dq)))) (dv 3))) (dr (Qc (dv 1) (dr (QQ T.g_WIDTH rfl)))) (Qf _))))) Sn);exact (So (Qm (QbB (dr (JB (Qr hr.units) (dr (Qc (dv 0) dq)) (dr Qe) (Qf _))) (VV (dc c_any_longer hr (Du (Qc (dv 0) dq) (Du (Qc (dv 1) (dr (QQ T.g_WIDTH rfl))) Dz)))))))))
theorem Qhx:FnScope ZN ZN (Qb Qa7):=by constructor<;>first | rfl | decide +kernel
theorem QhE (h:Df K mg "is_wide_item" Qa7 ZN) (T:Txt K mg) (c_any_longer:QcN P w K mg base):QdO P w K mg base :=
 okD ZN ZN Qbe 1 h Qhx (fun nd=>fun hr=>(by refine Ss (O1:=[]) ?_ ?_;exact (Qx (Qn (Qr hr.units) (dr (Qc (dv 0) dq)) (dr Qe) (Qf _)) (So (Qm (dc c_any_longer hr (Db (Qa Qh (dr (QZ (Du (Qc (dv 0) dq) Dz) lz1)) (dr (Qc (dv 0) dq))) (Du (Qc (dv 1) (dr (QQ T.g_WIDTH rfl))) Dz))))) Sn);exact (by refine So ?_;exact (by refine Qm ?_;exact (QbB (dr (JB (Qr hr.units) (dr (Qc (dv 0) dq)) (dr Qe) (Qf _))) (VV (JB VS (dr (Qa Qh (dr (Qa Qh (dr (Jc QK rfl T.b_len PySem.boot_len (dr (Qc (dv 0) dq)))) (dv 2))) (dr (Jc QK rfl T.b_len PySem.boot_len (dr (Qc (dv 0) dq)))))) (dr (Qc (dv 1) (dr (QQ T.g_WIDTH rfl)))) (Qf _))))))))
theorem QgK:FnScope ZA ZA (Qb QaO):=by constructor<;>first | rfl | decide +kernel
theorem QgP (h:Df K mg "is_high_block" QaO ZA) (T:Txt K mg):Qc3 P w K mg base :=
 okD ZA ZA QaT 0 h QgK (fun nd=>fun hr=>(Ss (O1:=[]) (Qx (Qn (Qr hr.units) (dr (Qc (dv 0) dq)) (dr Qe) (Qf _)) (So (Qm (JB VS (dr (Qa Qh (dr (Qc (dv 0) dq)) dq)) (dr (Qc (dv 1) (dr (QQ T.g_HEIGHT rfl)))) (Qf _)))) Sn) (So (Qm (QbB (dr (JB (Qr hr.units) (dr (Qc (dv 0) dq)) (dr Qe) (Qf _))) (VV (JB VS (dr (Jc QK rfl T.b_len PySem.boot_len (dr (Qc (dv 0) dq)))) (dr (Qc (dv 1) (dr (QQ T.g_HEIGHT rfl)))) (Qf _))))))))
theorem Qhy:FnScope ZO ZO (Qb Qa8):=by constructor<;>first | rfl | decide +kernel
theorem QhF (h:Df K mg "is_high_item" Qa8 ZO) (T:Txt K mg):QdP P w K mg base :=
 okD ZO ZO Qbf 0 h Qhy (fun nd=>fun hr=>(So (Qm (QbB (dr (JB (Qr hr.units) (dr (Qc (dv 0) dq)) (dr Qe) (Qf _))) (VV (JB VS (dr (Qa Qh (dr (Jc QK rfl T.b_len PySem.boot_len (dr (Qc (dv 0) dq)))) dq)) (dr (Qc (dv 1) (dr (QQ T.g_HEIGHT rfl)))) (Qf _)))))))
theorem Qfh:FnScope YC YC (Qb Qdc):=by constructor<;>first | rfl | decide +kernel
theorem Qll (h:Df K mg "add_label" Qdc YC) (T:Txt K mg):Qdn P w K mg base :=
 have nd:=(Qfh).nd
 Qnn (b:=Qdj) (k:=0) (N:=YC) (ps:=YC) (O':=[2,1002]) (OL:=[]) h Qfh (by decide) (by decide) (by decide) (by decide) (by decide) (fun f cdv A outer s H E hr=>(Ss (O1:=[2,1002]) (Qx (QuH hr.units1 (dv 0) (VU 2)) (So Vw) Sn) (So (Qh7 2 (by decide) hr.units1 (dv 0) Qb1))))
theorem QcP:FnScope Zz Zz (Qb QaM):=by constructor<;>first | rfl | decide +kernel
theorem QgN (h:Df K mg "look_at_block" QaM Zz) (T:Txt K mg) (c_add_label:Qdn P w K mg base) (c_is_high_block:Qc3 P w K mg base) (c_is_wide_block:Qc2 P w K mg base) (c_label_of:Qev P w K mg base):Qc1 P w K mg base :=
 have nd:=(QcP).nd
 Qnn (b:=QaS) (k:=2) (N:=Zz) (ps:=Zz) (O':=[4,1004]) (OL:=[]) h QcP (by decide) (by decide) (by decide) (by decide) (by decide) (fun f cdv A outer s H E hr=>(by refine Ss (O1:=[4,1004]) ?_ ?_;exact (Qx (JA (dr (dc c_is_wide_block hr (dn 0 (dn 2 (dn 3 Dz)))))) (So Vw) Sn);exact (by refine Ss (O1:=[4,1004]) ?_ ?_;exact (Qx (JA (dr (dc c_is_high_block hr (dn 0 (dn 2 Dz))))) (So Vw) Sn);exact (by refine So ?_;exact (by refine Qx ?_ ?_ ?_;exact (Qn (Z1 hr.units) (dr (dc c_label_of hr (dn 0 Dz))) (dr Qe) (Qf _));exact (by refine So ?_;exact (by refine QcB 4 (by decide) c_add_label (hr.mono (by decide)) rfl ?_;exact (by refine Zk ?_ ?_ ?_;exact (dc c_label_of hr (dn 0 Dz));exact (by refine Zk ?_ ?_ ?_;exact Qu 1;exact (QeY 4);exact ZJ);exact QhU)));exact Sn)))))
theorem QcW:FnScope ZM ZM (Qb Qa6):=by constructor<;>first | rfl | decide +kernel
theorem QhD (h:Df K mg "look_at_item" Qa6 ZM) (T:Txt K mg) (c_add_label:Qdn P w K mg base) (c_is_high_item:QdP P w K mg base) (c_is_wide_item:QdO P w K mg base):QdN P w K mg base :=
 have nd:=(QcW).nd
 Qnn (b:=Qbd) (k:=2) (N:=ZM) (ps:=ZM) (O':=[4,1004]) (OL:=[]) h QcW (by decide) (by decide) (by decide) (by decide) (by decide) (fun f cdv A outer s H E hr=>(by refine Ss (O1:=[4,1004]) ?_ ?_;exact (Qx (JA (dr (dc c_is_wide_item hr (dn 0 (dn 2 (dn 3 Dz)))))) (So Vw) Sn);exact (by refine Ss (O1:=[4,1004]) ?_ ?_;exact (Qx (JA (dr (dc c_is_high_item hr (dn 0 (dn 2 Dz))))) (So Vw) Sn);exact (by refine So ?_;exact (by refine Qx ?_ ?_ ?_;exact (Qn (Qr hr.units) (dr (Qc (dv 0) dq)) (dr Qe) (Qf _));exact (by refine So ?_;exact (by refine QcB 4 (by decide) c_add_label (hr.mono (by decide)) rfl ?_;exact (by refine Zk ?_ ?_ ?_;exact (Qc (dv 0) dq);exact (by refine Zk ?_ ?_ ?_;exact Qu 1;exact (QeY 4);exact ZJ);exact Qfg)));exact Sn)))))
theorem QcO:FnScope QcX Yo (Qb Vq):=by constructor<;>first | rfl | decide +kernel
theorem QgM (h:Df K mg "look_at_items" Vq Yo) (T:Txt K mg) (c_is_set:QcD P w K mg base) (c_look_at_item:QdN P w K mg base):Qc0 P w K mg base :=
 have nd:=(QcO).nd
 Qnn (b:=Vt) (k:=3) (N:=QcX) (ps:=Yo) (O':=[4,1004]) (OL:=[]) h QcO (by decide) (by decide) (by decide) (by decide) (by decide) (fun f cdv A outer s H E hr=>(by refine Ss (O1:=[4,1004]) ?_ ?_;exact (by refine Qg 5 nd ?_;exact (by refine Jc QK rfl T.b_len PySem.boot_len ?_;exact (by refine dr ?_;exact (by refine Zh ?_;exact (by refine J4 rfl rfl (Jf (show J0 (Qb Vq) ["items","number","style","room","known","words_left","item"] _ 1 ["item"] []=true by decide +kernel)) (by decide) ?_ ?_ ?_ ?_;exact (dih (Jo (Qu 0)));exact fun cl C ex s2 H2 pn=>Qs 0 (show List.Nodup (["item"]:List Str) by decide +kernel);exact fun cl C ex s2 H2 pn=>(Vi (JA (dr (dc c_is_set hr (dn 0 Dz)))));exact fun cl C ex s2 H2 pn=>Qu 0)))));exact (by refine So ?_;exact (by refine JZ rfl PassesOwn.never ?_ ?_ ?_;exact (Jo (Qu 0));exact Qs 6 nd;exact (by refine Ss (O1:=[4,1004]) ?_ ?_;exact (by refine QcB 4 (by decide) c_look_at_item (hr.mono (by decide)) rfl ?_;exact (by refine Zk ?_ ?_ ?_;exact Qu 6;exact (by refine Zk ?_ ?_ ?_;exact Qu 1;exact (by refine Zk ?_ ?_ ?_;exact Qu 2;exact (by refine Zk ?_ ?_ ?_;exact Qu 3;exact (QeY 4);exact ZJ);exact ZJ);exact ZJ);exact ZJ));exact (So (Qx (JA (dr (dc c_is_set hr (dn 6 Dz)))) (So (Qg3 5 nd (by decide) dq Qs3)) (So (Qx (Qn (Qr hr.units) (dv 5) dq (Qf _)) (So Vw) Sn)))))))))
theorem Qhw:FnScope QdJ YM (Qb Qa5):=by constructor<;>first | rfl | decide +kernel
theorem QhC (h:Df K mg "look_at_refs" Qa5 YM) (T:Txt K mg) (c_refs:Qdq P w K mg base):QdM P w K mg base :=
 okD QdJ YM Qbc 2 h Qhw (fun nd=>fun hr=>(by refine So ?_;exact (JZ rfl PassesOwn.never (QfG rfl T.b_enumerate (Qu 0)) (Qaz rfl (JG (O1:=[]) (Qs 2 nd) (JG (O1:=[]) (Qs 3 nd) VH)) rfl) (So (JZ rfl PassesOwn.never (Jo (dc c_refs hr (Vj (QZ (dn 3 Dz) lz1) Dz))) (Qs 4 nd) (So (Qx (QpV hr.units1 (dv 4) (dv 1)) (So Vw) Sn)))))))
theorem Qsj:FnScope QoY QeR (Qb QjN):=by constructor<;>first | rfl | decide +kernel
theorem QsK (h:Df K mg "look" QjN QeR) (T:Txt K mg) (c_is_style:Qhr P w K mg base) (c_items_of:QaJ P w K mg base) (c_look_at_block:Qc1 P w K mg base) (c_look_at_items:Qc0 P w K mg base) (c_look_at_refs:QdM P w K mg base) (c_room_at_most:Qbh P w K mg base):Qg6 P w K mg base :=
 okD QoY QeR QjY 4 h Qsj (fun nd=>fun hr=>(by refine Ss (O1:=[]) ?_ ?_;exact (Qx (Qbz (JA (dr (dc c_is_style hr (dn 1 Dz))))) (So Vw) Sn);exact (by refine Ss (O1:=[]) ?_ ?_;exact (Qg 2 nd (dc c_room_at_most hr (dn 0 (dn 1 Dz))));exact (by refine Ss (O1:=[3]) ?_ ?_;exact (ZK 3 nd Qm3);exact (by refine Ss (O1:=[3]) ?_ ?_;exact (by refine JZ rfl PassesOwn.never ?_ ?_ ?_;exact (QfG rfl T.b_enumerate (Qu 0));exact (Qaz rfl (JG (O1:=[3]) (Qs 4 nd) (JG (O1:=[3]) (Qs 5 nd) VH)) rfl);exact (by refine Ss (O1:=[3]) ?_ ?_;exact (by refine QcB 3 (by decide) c_look_at_block (hr.mono (by decide)) rfl ?_;exact (by refine Zk ?_ ?_ ?_;exact Qu 5;exact (by refine Zk ?_ ?_ ?_;exact Qu 4;exact (by refine Zk ?_ ?_ ?_;exact Qu 1;exact (by refine Zk ?_ ?_ ?_;exact Qu 2;exact (QeY 3);exact ZJ);exact ZJ);exact ZJ);exact ZJ));exact (by refine So ?_;exact (by refine QcB 3 (by decide) c_look_at_items (hr.mono (by decide)) rfl ?_;exact (by refine Zk ?_ ?_ ?_;exact (dc c_items_of hr (dn 5 Dz));exact (by refine Zk ?_ ?_ ?_;exact Qu 4;exact (by refine Zk ?_ ?_ ?_;exact Qu 1;exact (by refine Zk ?_ ?_ ?_;exact Qu 2;exact (QeY 3);exact ZJ);exact ZJ);exact ZJ);exact QhU)))));exact (ZB 3 (So (QfF (dc c_look_at_refs hr (dn 0 (dn 3 Dz)))))))))))
theorem Qhu:FnScope QdI YL (Qb Qa3):=by constructor<;>first | rfl | decide +kernel
theorem QhA (h:Df K mg "set_contents" Qa3 YL) (T:Txt K mg) (c_bare:Qdr P w K mg base) (c_is_titled:Qbu P w K mg base) (c_new_chapter:QbY P w K mg base) (c_put_block:Qdm P w K mg base):QdL P w K mg base :=
 okD QdI YL Qba 3 h Qhu (fun nd=>fun hr=>(by refine Ss (O1:=[2]) ?_ ?_;exact (ZK 2 nd (YI Dz lz0));exact (by refine Ss (O1:=[2]) ?_ ?_;exact (Qg 3 nd (dc c_bare hr (Dk Qw Dz)));exact (by refine Ss (O1:=[2]) ?_ ?_;exact (Qx (Qbz (JA (dr (Qc (dv 1) (dr (QQ T.g_LISTED rfl)))))) (ZB 2 (So (Qm (QI (dn 2 (dn 3 Dz)) lz2)))) Sn);exact (by refine Ss (O1:=[2]) ?_ ?_;exact (by refine JZ rfl PassesOwn.never ?_ ?_ ?_;exact (Jo (Qu 0));exact Qs 4 nd;exact (by refine So ?_;exact (Qx (JA (dr (dc c_is_titled hr (dn 4 Dz)))) (Ss (O1:=[2]) (Qg 5 nd (dc c_put_block hr (dn 1 (dn 3 (Dk Qw (Dk Qw Dz)))))) (Ss (O1:=[2]) (J9 2 (by decide) (Qc (dv 5) dq)) (So (Qg 3 nd (Qc (dv 5) dq))))) Sn)));exact (Ss (O1:=[2]) (Qx (Qn VS (dr (Jc QK rfl T.b_len PySem.boot_len (VU 2))) dq (Qf _)) (So (Qg 3 nd (dc c_new_chapter hr (dn 1 (dn 3 Dz))))) Sn) (ZB 2 (So (Qm (QI (dn 2 (dn 3 Dz)) lz2))))))))))
theorem Qk5:FnScope QfY VW (Qb Qc7):=by constructor<;>first | rfl | decide +kernel
theorem Qlf (h:Df K mg "set_items" Qc7 VW) (T:Txt K mg) (c_end_line:Qex P w K mg base) (c_is_set:QcD P w K mg base) (c_put_word:Qhq P w K mg base):Qf1 P w K mg base :=
 okD QfY VW Qdd 2 h Qk5 (fun nd=>fun hr=>(by refine Ss (O1:=[4]) ?_ ?_;exact (ZK 4 nd (YI Dz lz0));exact (by refine Ss (O1:=[4]) ?_ ?_;exact (Qg 5 nd Qw);exact (by refine Ss (O1:=[4]) ?_ ?_;exact (by refine JZ rfl PassesOwn.never ?_ ?_ ?_;exact (Jo (Qu 0));exact Qs 6 nd;exact (by refine So ?_;exact (by refine Qx ?_ ?_ ?_;exact (JA (dr (dc c_is_set hr (dn 6 Dz))));exact (by refine Ss (O1:=[4]) ?_ ?_;exact (by refine Qx ?_ ?_ ?_;exact (Qn (Qr hr.units) (dr (Qc (dv 6) dq)) (dr Qe) (Qf _));exact (Ss (O1:=[4]) (Qg 7 nd (Qa Qh (dr (Qa Qh (dr (Jc QK rfl T.b_len PySem.boot_len (dr (Qc (dv 6) dq)))) (dr (Qc (dv 3) (dv 5))))) (dr (Jc QK rfl T.b_len PySem.boot_len (dr (Qc (dv 6) dq)))))) (Ss (O1:=[4]) (Qg 8 nd (dc c_put_word hr (dn 1 (dn 2 (dn 7 (Dk Qw Dz)))))) (So (Qg3 5 nd (by decide) dq Qh1))));exact (So (Qg 8 nd (dc c_put_word hr (dn 1 (dn 2 (Dl (Jc QK rfl T.b_len PySem.boot_len (dr (Qc (dv 6) dq))) (Dl (Jc QK rfl T.b_len PySem.boot_len (dr (Qc (dv 6) dq))) Dz))))))));exact (Ss (O1:=[4]) (J9 4 (by decide) (Qc (dv 8) dq)) (So (Qg 2 nd (Qc (dv 8) dq)))));exact Sn)));exact (ZB 4 (So (Qm (QI (dn 4 (Dl (dc c_end_line hr (dn 2 Dz)) Dz)) lz2))))))))
theorem Qk6:FnScope Yy Yy (Qb Qc8):=by constructor<;>first | rfl | decide +kernel
theorem Qlg (h:Df K mg "set_block" Qc8 Yy) (T:Txt K mg) (c_new_chapter:QbY P w K mg base) (c_put_block:Qdm P w K mg base) (c_put_plates:Qft P w K mg base):Qf2 P w K mg base :=
 okD Yy Yy Qde 3 h Qk6 (fun nd=>fun hr=>(by refine Ss (O1:=[]) ?_ ?_;exact (Qx (Qn (Qr hr.units) (dr (Qc (dv 0) dq)) (dr Qe) (Qf _)) (So (Qm (dc c_put_plates hr (dn 2 (Du (Qc (dv 0) dq) Dz))))) Sn);exact (by refine Ss (O1:=[]) ?_ ?_;exact (Qx (Qn (Qr hr.units) (dr (Qc (dv 0) dq)) (dr Qe) (Qf _)) (So (Qm (dc c_put_block hr (dn 1 (dn 2 (Dl (Jc QK rfl T.b_len PySem.boot_len (dr (Qc (dv 0) dq))) (Dk Qw Dz))))))) Sn);exact (Ss (O1:=[]) (Qx (Qn (Qr hr.units) (dr (Qc (dv 0) dq)) (dr Qe) (Qf _)) (So (Qm (dc c_put_block hr (dn 1 (dn 2 (Dk Qw (Du (Qc (dv 0) dq) Dz))))))) Sn) (So (Qm (dc c_put_block hr (dn 1 (Dl (dc c_new_chapter hr (dn 1 (dn 2 Dz))) (Dk Qw (Dk Qw Dz)))))))))))
theorem QlI:FnScope Qhl QaA (Qb Qd6):=by constructor<;>first | rfl | decide +kernel
theorem QlW (h:Df K mg "set_book" Qd6 QaA) (T:Txt K mg) (c_refs:Qdq P w K mg base) (c_set_block:Qf2 P w K mg base) (c_set_contents:QdL P w K mg base) (c_set_items:Qf1 P w K mg base):Qhp P w K mg base :=
 okD Qhl QaA Qej 4 h QlI (fun nd=>fun hr=>(by refine Ss (O1:=[]) ?_ ?_;exact (Qg 3 nd (dc c_set_contents hr (dn 0 (dn 1 Dz))));exact (by refine Ss (O1:=[4]) ?_ ?_;exact (ZK 4 nd (YI (Du (Qc (dv 3) dq) Dz) lz1));exact (by refine Ss (O1:=[4]) ?_ ?_;exact (Qg 5 nd (Qc (dv 3) dq));exact (by refine Ss (O1:=[4]) ?_ ?_;exact (Qg 6 nd Qw);exact (by refine Ss (O1:=[4]) ?_ ?_;exact (by refine JZ rfl PassesOwn.never ?_ ?_ ?_;exact (Jo (Qu 0));exact Qs 7 nd;exact (by refine Ss (O1:=[4]) ?_ ?_;exact (by refine Qx ?_ ?_ ?_;exact (Qn (Qr hr.units) (dr (Qc (dv 7) dq)) (dr Qe) (Qf _));exact (Ss (O1:=[4]) (Qg 3 nd (dc c_set_items hr (Du (Qc (dv 7) dq) (dn 1 (dn 5 (Du (VI (dv 2) (VF (dv 6)) VG) Dz)))))) (Ss (O1:=[4]) (J9 4 (by decide) (Qc (dv 3) dq)) (So (Qg3 6 nd (by decide) (dr (Jc QK rfl T.b_len PySem.boot_len (dr (dc c_refs hr (Vj (QZ (dn 7 Dz) lz1) Dz))))) Qh1))));exact (Ss (O1:=[4]) (Qg 3 nd (dc c_set_block hr (dn 7 (dn 1 (dn 5 Dz))))) (So (J9 4 (by decide) (QZ (Du (Qc (dv 3) dq) Dz) lz1)))));exact (So (Qg 5 nd (Qc (dv 3) dq)))));exact (ZB 4 (So (Qm (Qu 4))))))))))
theorem Qjl:FnScope Qfs VC (Qb QcF):=by constructor<;>first | rfl | decide +kernel
theorem Qjr (h:Df K mg "pages_with" QcF VC) (T:Txt K mg) (c_is_set:QcD P w K mg base):Qfu P w K mg base :=
 okD Qfs VC QcJ 1 h Qjl (fun nd=>fun hr=>(by refine Ss (O1:=[3]) ?_ ?_;exact (ZK 3 nd (YI Dz lz0));exact (by refine Ss (O1:=[3]) ?_ ?_;exact (Qg 4 nd Qw);exact (by refine Ss (O1:=[3]) ?_ ?_;exact (by refine JZ rfl PassesOwn.never ?_ ?_ ?_;exact (Jo (Qu 0));exact Qs 5 nd;exact (by refine So ?_;exact (Qx (JA (dr (dc c_is_set hr (dn 5 Dz)))) (So (Qg3 4 nd (by decide) dq Qh1)) (So (Qx (Qn (Qr hr.units) (dr (Qc (dv 5) dq)) (dv 2) (Qf _)) (So (J9 3 (by decide) (QI (Du (Qc (dv 5) dq) (Du (Qc (dr (Qc (dv 1) (dv 4))) (dr (QQ T.g_PAGE rfl))) Dz)) lz2))) Sn)))));exact (ZB 3 (So (Qm (Qu 3))))))))
theorem Qip:FnScope QeB Ve (Qb QbT):=by constructor<;>first | rfl | decide +kernel
theorem Qit (h:Df K mg "label_pages" QbT Ve) (T:Txt K mg) (c_items_of:QaJ P w K mg base) (c_label_of:Qev P w K mg base) (c_pages_with:Qfu P w K mg base):QeC P w K mg base :=
 okD QeB Ve QbW 2 h Qip (fun nd=>fun hr=>(by refine Ss (O1:=[2]) ?_ ?_;exact (ZK 2 nd Qm3);exact (by refine Ss (O1:=[2]) ?_ ?_;exact (by refine JZ rfl PassesOwn.never ?_ ?_ ?_;exact (QuK rfl T.b_zip (Qu 0) (VI (dv 1) (VF dq) VG));exact (Qaz rfl (JG (O1:=[2]) (Qs 3 nd) (JG (O1:=[2]) (Qs 4 nd) VH)) rfl);exact (by refine Ss (O1:=[2]) ?_ ?_;exact (Qx (Qn (Z1 hr.units) (dr (dc c_label_of hr (dn 3 Dz))) (dr Qe) (Qf _)) (So (Qh7 2 (by decide) hr.units1 (dr (dc c_label_of hr (dn 3 Dz))) (Qc (dr (Qc (dv 4) dq)) (dr (QQ T.g_PAGE rfl))))) Sn);exact (So (JZ rfl PassesOwn.never (Jo (dc c_pages_with hr (Dl (dc c_items_of hr (dn 3 Dz)) (dn 4 (Dk Qe Dz))))) (Qaz rfl (JG (O1:=[2]) (Qs 5 nd) (JG (O1:=[2]) (Qs 6 nd) VH)) rfl) (So (Qh7 2 (by decide) hr.units1 (dv 5) (Qu 6)))))));exact (ZB 2 (So (Qm (Qu 2)))))))
theorem Qhz:FnScope QdK YN (Qb VN):=by constructor<;>first | rfl | decide +kernel
theorem QhG (h:Df K mg "figures_told" VN YN) (T:Txt K mg) (c_figures:Qff P w K mg base) (c_label_pages:QeC P w K mg base) (c_refs:Qdq P w K mg base) (c_set_book:Qhp P w K mg base):Qbi P w K mg base :=
 okD QdK YN Qbg 5 h Qhz (fun nd=>fun hr=>(by refine Ss (O1:=[]) ?_ ?_;exact (Qg 3 nd (dc c_label_pages hr (dn 0 (Dl (dc c_set_book hr (dn 0 (dn 1 (dn 2 Dz)))) Dz))));exact (by refine So ?_;exact (by refine Qm ?_;exact (by refine Zh ?_;exact (by refine J4 rfl rfl (Jf (show J0 (Qb VN) ["book","style","rooms","pages"] _ 1 ["label","pages"] [3]=true by decide +kernel)) (by decide) ?_ ?_ ?_ ?_;exact (dih (Jo (dc c_refs hr (dn 0 Dz))));exact fun cl C ex s2 H2 pn=>Qs 0 (show List.Nodup (["label","pages"]:List Str) by decide +kernel);exact fun cl C ex s2 H2 pn=>ZZ;exact fun cl C ex s2 H2 pn=>(dc c_figures hr (Du (Qtf hr.units1 (dv 1) (dv 0)) Dz))))))))
theorem QnK:FnScope Qje QbE (Qb Qe2):=by constructor<;>first | rfl | decide +kernel
theorem QnT (h:Df K mg "settled" Qe2 QbE) (T:Txt K mg) (c_figures_told:Qbi P w K mg base):Qfe P w K mg base :=
 okD Qje QbE Qe9 6 h QnK (fun nd=>fun hr=>(by refine Ss (O1:=[]) ?_ ?_;exact (Qg 3 nd (Qu 2));exact (Ss (O1:=[]) (Qg 4 nd (dc c_figures_told hr (dn 0 (dn 1 (dn 3 Dz))))) (Ss (O1:=[]) (Qrr PassesOwn.never (Qn (Z1 hr.units) (dv 4) (dv 3) (Qf _)) (Ss (O1:=[]) (Qg 3 nd (Qu 4)) (So (Qg 4 nd (dc c_figures_told hr (dn 0 (dn 1 (dn 3 Dz)))))))) (So (Qm (Qu 3)))))))
theorem Qo7:FnScope Qab Qab (Qb Qgi):=by constructor<;>first | rfl | decide +kernel
theorem Qpp (h:Df K mg "needed" Qgi Qab) (T:Txt K mg) (c_figures_told:Qbi P w K mg base) (c_look:Qg6 P w K mg base):QkV P w K mg base :=
 okD Qab Qab Qgz 6 h Qo7 (fun nd=>fun hr=>(Ss (O1:=[]) (QfF (dc c_look hr (dn 0 (dn 1 Dz)))) (So (Qm (dc c_figures_told hr (dn 0 (dn 1 (dn 2 Dz))))))))
theorem QqJ:FnScope QaV QaV (Qb QhV):=by constructor<;>first | rfl | decide +kernel
theorem QqZ (h:Df K mg "least" QhV QaV) (T:Txt K mg) (c_look:Qg6 P w K mg base) (c_refs:Qdq P w K mg base) (c_settled:Qfe P w K mg base):Qik P w K mg base :=
 okD QaV QaV Qic 7 h QqJ (fun nd=>fun hr=>(Ss (O1:=[]) (QfF (dc c_look hr (dn 0 (dn 1 Dz)))) (So (Qm (dc c_settled hr (dn 0 (dn 1 (Db (Qa J3 (dr (QZ (Dk Qw Dz) lz1)) (dr (Jc QK rfl T.b_len PySem.boot_len (dr (dc c_refs hr (dn 0 Dz)))))) Dz))))))))
theorem QlO:FnScope Y6 Y6 (Qb Qec):=by constructor<;>first | rfl | decide +kernel
theorem Ql2 (h:Df K mg "greatest" Qec Y6) (T:Txt K mg) (c_look:Qg6 P w K mg base) (c_refs:Qdq P w K mg base) (c_room_at_most:Qbh P w K mg base) (c_settled:Qfe P w K mg base):Qew P w K mg base :=
 okD Y6 Y6 Qep 7 h QlO (fun nd=>fun hr=>(by refine Ss (O1:=[]) ?_ ?_;exact (QfF (dc c_look hr (dn 0 (dn 1 Dz))));exact (So (Qm (dc c_settled hr (dn 0 (dn 1 (Db (Qa J3 (dr (QZ (Dl (dc c_room_at_most hr (dn 0 (dn 1 Dz))) Dz) lz1)) (dr (Jc QK rfl T.b_len PySem.boot_len (dr (dc c_refs hr (dn 0 Dz)))))) Dz))))))))
theorem Qsh:FnScope Qci Qci (Qb QjM):=by constructor<;>first | rfl | decide +kernel
theorem QsI (h:Df K mg "sole" QjM Qci) (T:Txt K mg) (c_greatest:Qew P w K mg base) (c_least:Qik P w K mg base):Qo0 P w K mg base :=
 okD Qci Qci QjW 8 h Qsh (fun nd=>fun hr=>(So (Qm (JB (Qr hr.units) (dr (dc c_least hr (dn 0 (dn 1 Dz)))) (dr (dc c_greatest hr (dn 0 (dn 1 Dz)))) (Qf _)))))
theorem QlS:FnScope Y8 Y8 (Qb Qeg):=by constructor<;>first | rfl | decide +kernel
theorem Ql6 (h:Df K mg "_law_cell_at" Qeg Y8) (T:Txt K mg):Qce P w K mg base :=
 okD Y8 Y8 Qet 0 h QlS (fun nd=>fun hr=>(Ss (O1:=[]) (Qx (Qn Qg0 (dv 1) (dr (Jc QK rfl T.b_len PySem.boot_len (dv 0))) (Qf _)) (So (Qm (Qc (dv 0) (dv 1)))) Sn) (So (Qm Qw))))
theorem Qo9:FnScope Qad Qad (Qb Qgk):=by constructor<;>first | rfl | decide +kernel
theorem Qpr (h:Df K mg "_law_whole" Qgk Qad) (T:Txt K mg):QkW P w K mg base :=
 okD Qad Qad QgB 0 h Qo9 (fun nd=>fun hr=>(So (Qm (QbB (dr (QfH (Qs1 _) rfl T.b_isinstance PyProof.Rows.boot_isinstance rfl T.b_int PyProof.Rows.boot_int (dv 0))) (VV (QoR (dr (QfH (Qkt _) rfl T.b_isinstance PyProof.Rows.boot_isinstance rfl T.b_bool PyProof.Rows.boot_bool (dv 0)))))))))
theorem Qsl:FnScope QoZ QeS (Qb QjP):=by constructor<;>first | rfl | decide +kernel
theorem QsM (h:Df K mg "_law_mix" QjP QeS) (T:Txt K mg):Qds P w K mg base :=
 okD QoZ QeS Qj0 0 h Qsl (fun nd=>fun hr=>(Ss (O1:=[]) (Qg 2 nd (Qa QP (dr (Qa J3 (dr (Qa Qh (dr (Qa Qh (dr (Qa QP (dv 0) dq)) (dr (Qa J3 (dr (Qa J3 (dv 1) (dv 1))) dq)))) dq)) dq)) dq)) (So (Qm (Qa QP (dr (Qa Qh (dr (Qa J3 (dv 2) (dv 2))) (dr (Qa J3 dq (dv 1))))) dq)))))
theorem Qpc:FnScope QkS Qcq (Qb Qgm):=by constructor<;>first | rfl | decide +kernel
theorem Qpu (h:Df K mg "_law_label" Qgm Qcq) (T:Txt K mg):QkZ P w K mg base :=
 okD QkS Qcq QkN 0 h Qpc (fun nd=>fun hr=>(by refine Ss (O1:=[]) ?_ ?_;exact (Qg 1 nd Qe);exact (by refine So ?_;exact (by refine Qm ?_;exact (Qa Qh (dr (Qa Qh (dr (Qa Qh (dr (VI (dr Qe) VG (VF (dr (Qa QP (dr (Qa J3 (dv 0) dq)) dq))))) (dr (Qc (dv 1) (dr (Qa QP (dr (Qa Jp (dv 0) dq)) dq)))))) (dr (Qc (dv 1) (dr (Qa QP (dv 0) dq)))))) (dr (VI (dr Qe) VG (VF (dr (Qa QP (dr (Qa J3 (dv 0) dq)) dq))))))))))
theorem QnM:FnScope Qjf QbF (Qb Qe4):=by constructor<;>first | rfl | decide +kernel
theorem QnV (h:Df K mg "_law_plates" Qe4 QbF) (T:Txt K mg):Qjh P w K mg base :=
 okD Qjf QbF Qfb 0 h QnM (fun nd=>fun hr=>(by refine Ss (O1:=[]) ?_ ?_;exact (Qg 2 nd Qw);exact (by refine Ss (O1:=[]) ?_ ?_;exact (JZ rfl PassesOwn.never (QbA rfl T.b_range (dr (Qa QP (dr (Qa Jp (dv 1) dq)) dq))) (Qs 3 nd) (So (Qg 2 nd (Qa J3 (dv 2) dq))));exact (by refine Ss (O1:=[]) ?_ ?_;exact (Qx (Qn (Qr hr.units) (dr (Qa QP (dr (Qa Jp (dv 1) dq)) dq)) dq (Qf _)) (So (Qg 2 nd (Qa QmC dq dq))) Sn);exact (by refine So ?_;exact (by refine Qm ?_;exact (by refine Qc ?_ ?_;exact (by refine dr ?_;exact (by refine QZ ?_ ?_;exact (Db (Qa Qh dq (dr (Qa QP (dr (Qa Jp (dv 1) dq)) dq))) (Db (Qa Z6 (dr (Qa Z6 (dv 2) dq)) (dr (Qa QP (dr (Qa Jp (dv 1) dq)) dq))) (Db (Qa Qh dq (dr (Qa QP (dv 0) (dr (Qa QmC dq dq))))) Dz)));exact lz3));exact (dr (Qa QP (dr (Qa Jp (dv 1) dq)) dq)))))))))
theorem Qpa:FnScope QkQ Qco (Qb Qgl):=by constructor<;>first | rfl | decide +kernel
theorem Qps (h:Df K mg "_law_signs" Qgl Qco) (T:Txt K mg):QkX P w K mg base :=
 okD QkQ Qco QgC 0 h Qpa (fun nd=>fun hr=>(by refine Ss (O1:=[]) ?_ ?_;exact (Qg 3 nd Qe);exact (by refine Ss (O1:=[]) ?_ ?_;exact (Qg 3 nd (Qa Qh (dv 3) (dr Qe)));exact (by refine Ss (O1:=[]) ?_ ?_;exact (Qg 4 nd Qe);exact (by refine Ss (O1:=[]) ?_ ?_;exact (by refine JZ rfl PassesOwn.never ?_ ?_ ?_;exact (QbA rfl T.b_range (dv 1));exact Qs 5 nd;exact (by refine Ss (O1:=[]) ?_ ?_;exact (Qg 6 nd (Qa Qh (dr (Qa Qh (dr (Qa Jp (dv 0) dq)) (dr (Qa J3 (dv 5) (dr (Qa Qh dq (dr (Qa QP (dv 0) dq)))))))) (dr (Qa J3 (dv 5) (dv 5)))));exact (by refine Ss (O1:=[]) ?_ ?_;exact (Qg 7 nd (Qc (dv 3) (dr (Qa QP (dv 6) (dr (Qa Qh (dr (Qa Z6 (dr (Jc QK rfl T.b_len PySem.boot_len (dv 3))) dq)) (dv 2)))))));exact (Ss (O1:=[]) (Qx (PW.pt (Qay (Qn (Qr hr.units) (dv 2) dq (Qf _)) (Zp (Qn (Qr hr.units) (dr (Qa QP (dr (Qa Qh (dr (Qa Jp (dv 0) dq)) (dv 5))) dq)) dq (Qf _))))) (So (Qg 7 nd Qe)) Sn) (So (Qg 4 nd (Qa Qh (dv 4) (dv 7))))))));exact (So (Qm (Qu 4))))))))
theorem QqN:FnScope Qnh Qdy (Qb Qdt):=by constructor<;>first | rfl | decide +kernel
theorem Qq3 (h:Df K mg "_law_atom" Qdt Qdy) (T:Txt K mg) (c_Llabel:QkZ P w K mg base) (c_Lmix:Qds P w K mg base) (c_Lplates:Qjh P w K mg base) (c_Lsigns:QkX P w K mg base):Qnk P w K mg base :=
 okD Qnh Qdy Qig 1 h QqN (fun nd=>fun hr=>(by refine Ss (O1:=[]) ?_ ?_;exact (Qg 2 nd (dc c_Lmix hr (dn 0 (Db (Qa Qh (dv 1) dq) Dz))));exact (by refine Ss (O1:=[]) ?_ ?_;exact (Qg 3 nd (Qa QP (dv 2) dq));exact (by refine Ss (O1:=[]) ?_ ?_;exact (Qg 4 nd (Qa Qh dq (dr (Qa QP (dr (Qa Jp (dv 2) dq)) (dr (Qc (dr (QZ (Dk Qw (Dk Qw Dz)) lz2)) (dr (Qcl QbL rfl T.b_int PyProof.Rows.boot_int (dr (JB (Qr hr.units) (dr (Qa QP (dr (Qa Jp (dv 2) dq)) dq)) dq (Qf _)))))))))));exact (by refine Ss (O1:=[]) ?_ ?_;exact (Qg 5 nd (Qa Qh dq (dr (Qa QP (dr (Qa Jp (dv 2) dq)) (dr (Qc (dr (QZ (Dk Qw (Dk Qw Dz)) lz2)) (dr (Qcl QbL rfl T.b_int PyProof.Rows.boot_int (dr (JB (Qr hr.units) (dr (Qa QP (dr (Qa Jp (dv 2) dq)) dq)) dq (Qf _)))))))))));exact (by refine Ss (O1:=[]) ?_ ?_;exact (Qg 6 nd (dc c_Lsigns hr (Db (Qa Jp (dv 2) dq) (dn 4 (Dk Qw Dz)))));exact (by refine Ss (O1:=[]) ?_ ?_;exact (Qg 7 nd (dc c_Lsigns hr (Db (Qa Jp (dv 2) dq) (dn 4 (Dk Qw Dz)))));exact (by refine Ss (O1:=[]) ?_ ?_;exact (Qg 8 nd (dc c_Llabel hr (dn 1 Dz)));exact (by refine Ss (O1:=[]) ?_ ?_;exact (Qg 9 nd (Qu 8));exact (by refine Ss (O1:=[]) ?_ ?_;exact (Qx (Qn (Qr hr.units) (dr (Qa QP (dr (Qa Jp (dv 2) dq)) dq)) dq (Qf _)) (So (Qg 9 nd Qe)) Sn);exact (by refine Ss (O1:=[]) ?_ ?_;exact (Qx (Qn (Qr hr.units) (dv 3) dq (Qf _)) (So (Qm (QI (Dk Qe (Db (Qa Qh (dr (Qc (dv 7) dq)) (dr (QkE (dv 6)))) (dn 9 Dz))) lz3))) Sn);exact (by refine Ss (O1:=[]) ?_ ?_;exact (Qx (Qn (Qr hr.units) (dv 3) dq (Qf _)) (So (Qm (QI (Dk Qe (Db (Qa Qh (dr (Qc (dv 7) dq)) (dr (QkE (dv 6)))) (Db (Qa Z6 (dv 5) dq) (dn 9 Dz)))) lz4))) Sn);exact (by refine Ss (O1:=[]) ?_ ?_;exact (by refine Qx ?_ ?_ ?_;exact (Qn (Qr hr.units) (dv 3) dq (Qf _));exact (by refine So ?_;exact (by refine Qm ?_;exact (by refine QI ?_ ?_;exact (by refine Dk ?_ ?_;exact Qe;exact (by refine Qbt ?_ ?_;exact (by refine Zh ?_;exact (by refine J4 rfl rfl (Jf (show J0 (Qb Qdt) ["_law_cell","_law_k","_law_number","_law_kind","_law_size","_law_many","_law_text","_law_word","_law_label_here","_law_name"] _ 1 ["_law_j","_law_text","_law_size"] [6,4]=true by decide +kernel)) (by decide) ?_ ?_ ?_ ?_;exact (dih (QbA rfl T.b_range (dv 5)));exact fun cl C ex s2 H2 pn=>Qs 0 (show List.Nodup (["_law_j","_law_text","_law_size"]:List Str) by decide +kernel);exact fun cl C ex s2 H2 pn=>ZZ;exact fun cl C ex s2 H2 pn=>(VI (dv 1) VG (VF (dr (Qbn (Z4 rfl) rfl T.b_max PyProof.Rows.boot_max dq (dr (Qa Z6 (dv 2) (dv 0)))))))));exact (dn 9 Dz)));exact lz3)));exact Sn);exact (by refine Ss (O1:=[]) ?_ ?_;exact (Qx (Qn (Qr hr.units) (dv 3) dq (Qf _)) (So (Qm (QI (Dk Qe (Dl (dc c_Lplates hr (dn 0 (dn 2 Dz))) (dn 9 Dz))) lz3))) Sn);exact (by refine Ss (O1:=[]) ?_ ?_;exact (Qx (Qn (Qr hr.units) (dv 3) dq (Qf _)) (So (Qm (QI (Dk Qe (Dk Qe (Dk Qe Dz))) lz3))) Sn);exact (by refine Ss (O1:=[]) ?_ ?_;exact (Qx (Qn Qg0 (dv 3) dq (Qf _)) (So (Qm (QI (Dk Qe (dn 8 Dz)) lz2))) Sn);exact (by refine Ss (O1:=[]) ?_ ?_;exact (Qx (Qn (Qr hr.units) (dv 3) dq (Qf _)) (So (Qm (QI (Dk Qe (Du (VI (dr (Qa J3 (dv 7) dq)) VG (VF (dr (Qa Qh dq (dr (Qa QP (dr (Qa Jp (dv 2) dq)) dq)))))) Dz)) lz2))) Sn);exact (by refine Ss (O1:=[]) ?_ ?_;exact (by refine Qx ?_ ?_ ?_;exact (Qn Qg0 (dv 3) dq (Qf _));exact (by refine So ?_;exact (by refine Qm ?_;exact (by refine QI ?_ ?_;exact (by refine Dk ?_ ?_;exact Qe;exact (Dk Qe (Du (VI (dv 7) VG (VF (dr (Qa QP (dr (Qa Jp (dv 2) dq)) dq)))) (Dl (dc c_Lsigns hr (Db (Qa Jp (dv 2) dq) (Db (Qa QP (dr (Qa Jp (dv 2) dq)) dq) (Dk Qw Dz)))) Dz))));exact lz4)));exact Sn);exact (by refine Ss (O1:=[]) ?_ ?_;exact (by refine Qx ?_ ?_ ?_;exact (Qn (Qr hr.units) (dv 3) dq (Qf _));exact (by refine So ?_;exact (by refine Qm ?_;exact (by refine QI ?_ ?_;exact (by refine Dk ?_ ?_;exact Qe;exact (by refine Qh9 ?_ ?_;exact Qu 7;exact (by refine Qbt ?_ ?_;exact (by refine Zh ?_;exact (by refine J4 rfl rfl (Jf (show J0 (Qb Qdt) ["_law_cell","_law_k","_law_number","_law_kind","_law_size","_law_many","_law_text","_law_word","_law_label_here","_law_name"] _ 1 ["_law_j","_law_text"] [6]=true by decide +kernel)) (by decide) ?_ ?_ ?_ ?_;exact (dih (QbA rfl T.b_range (dv 5)));exact fun cl C ex s2 H2 pn=>Qs 0 (show List.Nodup (["_law_j","_law_text"]:List Str) by decide +kernel);exact fun cl C ex s2 H2 pn=>ZZ;exact fun cl C ex s2 H2 pn=>(VI (dv 1) (VF (dv 0)) VG)));exact Dz)));exact lz3)));exact Sn);exact (So (Qm (QI (Dk Qe (dn 7 (Vj (QZ Dz lz0) Dz))) lz3))))))))))))))))))))))
theorem QlQ:FnScope Qhn QaC (Qb Qee):=by constructor<;>first | rfl | decide +kernel
theorem Ql4 (h:Df K mg "_law_pointed" Qee QaC) (T:Txt K mg) (c_Lmix:Qds P w K mg base):Qhs P w K mg base :=
 okD Qhn QaC Qer 1 h QlQ (fun nd=>fun hr=>(by refine Ss (O1:=[2]) ?_ ?_;exact (ZK 2 nd (YI Dz lz0));exact (by refine Ss (O1:=[2]) ?_ ?_;exact (by refine JZ rfl PassesOwn.never ?_ ?_ ?_;exact (Jo (Qu 0));exact Qs 3 nd;exact (by refine So ?_;exact (by refine Qx ?_ ?_ ?_;exact (Qn (Qr hr.units) (dr (Qc (dv 3) dq)) (dr Qe) (Qf _));exact (So (J9 2 (by decide) (Qc (dv 3) dq)));exact (by refine So ?_;exact (Qx (PW.pt (Qay (Qn QiI (dr (Qc (dv 3) dq)) (dr (QZ (Dk Qe (Dk Qe (Dk Qe (Dk Qe Dz)))) lz4)) (by with_unfolding_all rfl)) (Zp (Qn (Z1 hr.units) (dr (Qc (dv 3) (dr (Qg4 dq)))) (dr Qe) (Qf _))))) (So (J9 2 (by decide) (Qc (dv 3) (dr (Qg4 dq))))) Sn)))));exact (by refine Ss (O1:=[2,4]) ?_ ?_;exact (ZK 4 nd (YI Dz lz0));exact (by refine Ss (O1:=[2,4]) ?_ ?_;exact (by refine JZ rfl PassesOwn.never ?_ ?_ ?_;exact (QfG rfl T.b_enumerate (Qu 0));exact (Qaz rfl (JG (O1:=[2,4]) (Qs 5 nd) (JG (O1:=[2,4]) (Qs 3 nd) VH)) rfl);exact (by refine So ?_;exact (by refine Qx ?_ ?_ ?_;exact (PW.pt (Qay (Qn (Qr hr.units) (dr (Qc (dv 3) dq)) (dr Qe) (Qf _)) (Zp (Qn (Qr hr.units) (VU 2) (dr (QZ Dz lz0)) (Qf _)))));exact (So (J9 4 (by decide) (QI (Dk Qe (Dk Qe (Vj (QZ Dz lz0) Dz))) lz3)));exact (by refine So ?_;exact (by refine Qx ?_ ?_ ?_;exact (Qn (Qr hr.units) (dr (Qc (dv 3) dq)) (dr Qe) (Qf _));exact (Ss (O1:=[2,4]) (Qg 6 nd (Qc (VU 2) (dr (Qa QP (dr (dc c_Lmix hr (Du (Qc (dv 1) (dv 5)) (Db (Qa Qh (dv 5) dq) Dz)))) (dr (Jc QK rfl T.b_len PySem.boot_len (VU 2))))))) (So (J9 4 (by decide) (QI (Dk Qe (dn 6 (Du (Qc (dv 3) dq) (Du (Qc (dv 3) dq) Dz)))) lz4))));exact (So (J9 4 (by decide) (Qu 3))))))));exact (ZB 4 (So (Qm (Qu 4)))))))))
theorem QlR:FnScope Qho QaD (Qb Qef):=by constructor<;>first | rfl | decide +kernel
theorem Ql5 (h:Df K mg "_law_grouped" Qef QaD) (T:Txt K mg):Qht P w K mg base :=
 okD Qho QaD Qes 0 h QlR (fun nd=>fun hr=>(by refine Ss (O1:=[1]) ?_ ?_;exact (ZK 1 nd (YI Dz lz0));exact (by refine Ss (O1:=[1,2]) ?_ ?_;exact (ZK 2 nd (YI Dz lz0));exact (by refine Ss (O1:=[1,2]) ?_ ?_;exact (by refine JZ rfl PassesOwn.never ?_ ?_ ?_;exact (Jo (Qa Qh (dv 0) (dr (QZ (Dt (QI (Dk Qe (Dk Qe (Dk Qe Dz))) lz3) Dz) lz1))));exact Qs 3 nd;exact (by refine Ss (O1:=[1,2]) ?_ ?_;exact (Qx (Qn Qg1 (dr (Qc (dv 3) dq)) (dr (QZ (Dk Qe (Dk Qe (Dk Qe (Dk Qe Dz)))) lz4)) (by with_unfolding_all rfl)) (Ss (O1:=[1,2]) (J9 2 (by decide) (Qu 3)) (So Qtc)) Sn);exact (by refine Ss (O1:=[1,2]) ?_ ?_;exact (Qx (PW.pt (Qay (Qn (Z1 hr.units) (VU 2) (dr (QZ Dz lz0)) (Qf _)) (Zp (Qn Qg1 (dr (Qc (dr (Qc (VU 2) (dr (Qg4 dq)))) dq)) (dr (QZ (Dk Qe (Dk Qe Dz)) lz2)) (by with_unfolding_all rfl))))) (So (J9 2 (by decide) (QI (Dk Qe (Dk Qe (Vj (QZ Dz lz0) Dz))) lz3))) Sn);exact (Ss (O1:=[1]) (Qx (PW.pt (YV (Qn (Z1 hr.units) (VU 2) (dr (QZ Dz lz0)) (Qf _)) (Zp (Qn (Qr hr.units) (dr (Qc (dv 3) dq)) (dr Qe) (Qf _))))) (ZB 2 (So (J9 1 (by decide) (QI (Dk Qe (dn 2 Dz)) lz2)))) (Qrq 2 [1,2] Sn)) (Ss (O1:=[1,2]) (ZK 2 nd (YI Dz lz0)) (So (Qx (Qn QiI (dr (Qc (dv 3) dq)) (dr (QZ (Dk Qe (Dk Qe Dz)) lz2)) (by with_unfolding_all rfl)) (So (J9 1 (by decide) (Qu 3))) Sn)))))));exact (ZB 1 (So (Qm (Qu 1))))))))
theorem QqL:FnScope Qnf Qdw (Qb QfA):=by constructor<;>first | rfl | decide +kernel
theorem Qq1 (h:Df K mg "_law_edge" QfA Qdw) (T:Txt K mg) (c_Lcell_at:Qce P w K mg base) (c_Lmix:Qds P w K mg base):Qil P w K mg base :=
 okD Qnf Qdw Qie 1 h QqL (fun nd=>fun hr=>(by refine Ss (O1:=[]) ?_ ?_;exact (Qx (PW.pt (YV (JA (dr (Qc (dv 1) dq))) (Zp (Qn (Z1 hr.units) (dr (Qa QP (dr (dc c_Lcell_at hr (dn 0 (Dk Qw Dz)))) dq)) dq (Qf _))))) (So (Qm (QZ Dz lz0))) Sn);exact (by refine Ss (O1:=[]) ?_ ?_;exact (Qg 2 nd (Qa Qh dq (dr (Qa QP (dr (dc c_Lmix hr (Dl (dc c_Lcell_at hr (dn 0 (Dk Qw Dz))) (Dk Qw Dz)))) dq))));exact (by refine Ss (O1:=[]) ?_ ?_;exact (Qg 3 nd Qw);exact (by refine Ss (O1:=[]) ?_ ?_;exact (JZ rfl PassesOwn.never (QbA rfl T.b_range (dv 2)) (Qs 4 nd) (So (Qg 3 nd (Qa J3 (dv 3) dq))));exact (by refine Ss (O1:=[]) ?_ ?_;exact (by refine Qg 5 nd ?_;exact (by refine QZ ?_ ?_;exact (Dt (QI (Dk Qe (Db (Qa J3 (dr Qe) (dr (Qbn (Z4 rfl) rfl T.b_max PyProof.Rows.boot_max dq (dr (Qa Z6 (dr (Qa Z6 (dr (Qc (dv 1) dq)) dq)) (dv 2)))))) (Vj (QZ Dz lz0) Dz))) lz3) (Dt (QI (Dk Qe (Dk Qe Dz)) lz2) (Dt (QI (Dk Qe (Dk Qe (Dk Qe (Dk Qe Dz)))) lz4) Dz)));exact lz3));exact (by refine So ?_;exact (by refine Qm ?_;exact (by refine QZ ?_ ?_;exact (by refine Dt ?_ ?_;exact (QI (Dk Qe (Db (Qa Z6 (dv 3) dq) (Dk Qe Dz))) lz3);exact (by refine Dt ?_ ?_;exact (by refine QI ?_ ?_;exact (by refine Dk ?_ ?_;exact Qe;exact (by refine Qbt ?_ ?_;exact (by refine Zh ?_;exact (by refine J4 rfl rfl (Jf (show J0 (Qb QfA) ["_law_script","_law_style","_law_many","_law_ten","_law_k","_law_row"] _ 1 ["_law_k"] []=true by decide +kernel)) (by decide) ?_ ?_ ?_ ?_;exact (dih (QbA rfl T.b_range (dr (Qa Z6 (dr (Qc (dv 1) dq)) dq))));exact fun cl C ex s2 H2 pn=>Qs 0 (show List.Nodup (["_law_k"]:List Str) by decide +kernel);exact fun cl C ex s2 H2 pn=>ZZ;exact fun cl C ex s2 H2 pn=>Qe));exact (Dk Qe Dz)));exact lz3);exact (Dt (QI (Dk Qe (dn 5 Dz)) lz2) Dz)));exact lz3)))))))))
theorem Qpb:FnScope QkR Qcp (Qb YY):=by constructor<;>first | rfl | decide +kernel
theorem Qpt (h:Df K mg "_law_needs" YY Qcp) (T:Txt K mg):QkY P w K mg base :=
 okD QkR Qcp QgD 0 h Qpb (fun nd=>fun hr=>(by refine Ss (O1:=[]) ?_ ?_;exact (Qg 2 nd Qw);exact (by refine Ss (O1:=[]) ?_ ?_;exact (Qg 3 nd Qw);exact (by refine Ss (O1:=[]) ?_ ?_;exact (by refine JZ rfl PassesOwn.never ?_ ?_ ?_;exact (Jo (Qu 0));exact Qs 4 nd;exact (by refine Ss (O1:=[]) ?_ ?_;exact (Qx (PW.pt (YV (Qn (Qr hr.units) (dr (Qc (dv 4) dq)) (dr Qe) (Qf _)) (Zp (Qn (Qr hr.units) (dr (Qc (dv 4) dq)) (dr Qe) (Qf _))))) (So (Qg 2 nd (Qbn (Z4 rfl) rfl T.b_max PyProof.Rows.boot_max (dv 2) (dr (Qa Qh (dr (Qa Qh (dr (Jc QK rfl T.b_len PySem.boot_len (dr (Qc (dv 4) dq)))) dq)) (dv 1)))))) Sn);exact (by refine Ss (O1:=[]) ?_ ?_;exact (Qx (Qn (Qr hr.units) (dr (Qc (dv 4) dq)) (dr Qe) (Qf _)) (So (Qg 3 nd (Qbn (Z4 rfl) rfl T.b_max PyProof.Rows.boot_max (dv 3) (dr (Qa Qh (dr (Qc (dv 4) dq)) dq))))) Sn);exact (by refine Ss (O1:=[]) ?_ ?_;exact (by refine Qx ?_ ?_ ?_;exact (Qn (Qr hr.units) (dr (Qc (dv 4) dq)) (dr Qe) (Qf _));exact (by refine Ss (O1:=[]) ?_ ?_;exact (Qg 3 nd (Qbn (Z4 rfl) rfl T.b_max PyProof.Rows.boot_max (dv 3) (dr (Jc QK rfl T.b_len PySem.boot_len (dr (Qc (dv 4) dq))))));exact (by refine So ?_;exact (by refine Qg 2 nd ?_;exact (by refine Jc (QbK rfl) rfl T.b_max PyProof.Rows.boot_max ?_;exact (by refine dr ?_;exact (by refine Qa Qh ?_ ?_;exact (dr (QZ (dn 2 Dz) lz1));exact (by refine dr ?_;exact (by refine Zh ?_;exact (by refine J4 rfl rfl (Jf (show J0 (Qb YY) ["_law_book","_law_most_here","_law_wide","_law_high","_law_block","_law_notes","_law_rows"] _ 1 ["_law_row"] []=true by decide +kernel)) (by decide) ?_ ?_ ?_ ?_;exact (dih (Jo (Qc (dv 4) dq)));exact fun cl C ex s2 H2 pn=>Qs 0 (show List.Nodup (["_law_row"]:List Str) by decide +kernel);exact fun cl C ex s2 H2 pn=>ZZ;exact fun cl C ex s2 H2 pn=>(Jc QK rfl T.b_len PySem.boot_len (dv 0)))))))))));exact Sn);exact (by refine So ?_;exact (by refine Qx ?_ ?_ ?_;exact (Qn (Qr hr.units) (dr (Qc (dv 4) dq)) (dr Qe) (Qf _));exact (by refine Ss (O1:=[]) ?_ ?_;exact (by refine Qg 2 nd ?_;exact (by refine Jc (QbK rfl) rfl T.b_max PyProof.Rows.boot_max ?_;exact (by refine dr ?_;exact (by refine Qa Qh ?_ ?_;exact (dr (QZ (dn 2 Dz) lz1));exact (by refine dr ?_;exact (by refine Zh ?_;exact (by refine J4 rfl rfl (Jf (show J0 (Qb YY) ["_law_book","_law_most_here","_law_wide","_law_high","_law_block","_law_notes","_law_rows"] _ 1 ["_law_item","_law_most_here"] [1]=true by decide +kernel)) (by decide) ?_ ?_ ?_ ?_;exact (dih (Jo (Qc (dv 4) dq)));exact fun cl C ex s2 H2 pn=>Qs 0 (show List.Nodup (["_law_item","_law_most_here"]:List Str) by decide +kernel);exact fun cl C ex s2 H2 pn=>(Vi (Qn (Qr hr.units) (dr (Qc (dv 0) dq)) (dr Qe) (Qf _)));exact fun cl C ex s2 H2 pn=>(Qa Qh (dr (Qa Qh (dr (Jc QK rfl T.b_len PySem.boot_len (dr (Qc (dv 0) dq)))) (dv 1))) (dr (Jc QK rfl T.b_len PySem.boot_len (dr (Qc (dv 0) dq))))))))))));exact (by refine Ss (O1:=[]) ?_ ?_;exact (by refine Qg 2 nd ?_;exact (by refine Jc (QbK rfl) rfl T.b_max PyProof.Rows.boot_max ?_;exact (by refine dr ?_;exact (by refine Qa Qh ?_ ?_;exact (dr (QZ (dn 2 Dz) lz1));exact (by refine dr ?_;exact (by refine Zh ?_;exact (by refine J4 rfl rfl (Jf (show J0 (Qb YY) ["_law_book","_law_most_here","_law_wide","_law_high","_law_block","_law_notes","_law_rows"] _ 1 ["_law_item"] []=true by decide +kernel)) (by decide) ?_ ?_ ?_ ?_;exact (dih (Jo (Qc (dv 4) dq)));exact fun cl C ex s2 H2 pn=>Qs 0 (show List.Nodup (["_law_item"]:List Str) by decide +kernel);exact fun cl C ex s2 H2 pn=>(Vi (Qn (Qr hr.units) (dr (Qc (dv 0) dq)) (dr Qe) (Qf _)));exact fun cl C ex s2 H2 pn=>(Jc QK rfl T.b_len PySem.boot_len (dr (Qc (dv 0) dq))))))))));exact (by refine Ss (O1:=[5]) ?_ ?_;exact (by refine Qhj 5 nd rfl rfl (Jf (show J0 (Qb YY) ["_law_book","_law_most_here","_law_wide","_law_high","_law_block","_law_notes","_law_rows"] _ 1 ["_law_item"] []=true by decide +kernel)) (by decide) ?_ ?_ ?_ ?_;exact (dih (Jo (Qc (dv 4) dq)));exact fun cl C ex s2 H2 pn=>Qs 0 (show List.Nodup (["_law_item"]:List Str) by decide +kernel);exact fun cl C ex s2 H2 pn=>(Vi (Qn (Qr hr.units) (dr (Qc (dv 0) dq)) (dr Qe) (Qf _)));exact fun cl C ex s2 H2 pn=>(Qc (dv 0) dq));exact (by refine Ss (O1:=[5]) ?_ ?_;exact (by refine Qg 3 nd ?_;exact (by refine Jc (QbK rfl) rfl T.b_max PyProof.Rows.boot_max ?_;exact (by refine dr ?_;exact (by refine Qa Qh ?_ ?_;exact (dr (QZ (dn 3 Dz) lz1));exact (by refine dr ?_;exact (by refine Zh ?_;exact (by refine J4 rfl rfl (Jf (show J0 (Qb YY) ["_law_book","_law_most_here","_law_wide","_law_high","_law_block","_law_notes","_law_rows"] _ 1 ["_law_rows"] []=true by decide +kernel)) (by decide) ?_ ?_ ?_ ?_;exact QuL 5;exact fun cl C ex s2 H2 pn=>Qs 0 (show List.Nodup (["_law_rows"]:List Str) by decide +kernel);exact fun cl C ex s2 H2 pn=>ZZ;exact fun cl C ex s2 H2 pn=>(Qa Qh dq (dr (Jc QK rfl T.b_len PySem.boot_len (dv 0)))))))))));exact (by refine ZB 5 ?_;exact (by refine So ?_;exact (by refine JZ rfl PassesOwn.never ?_ ?_ ?_;exact (Jo (Qu 5));exact Qs 6 nd;exact (by refine So ?_;exact (by refine Qg 2 nd ?_;exact (by refine Jc (QbK rfl) rfl T.b_max PyProof.Rows.boot_max ?_;exact (by refine dr ?_;exact (by refine Qa Qh ?_ ?_;exact (dr (QZ (dn 2 Dz) lz1));exact (by refine dr ?_;exact (by refine Zh ?_;exact (by refine J4 rfl rfl (Jf (show J0 (Qb YY) ["_law_book","_law_most_here","_law_wide","_law_high","_law_block","_law_notes","_law_rows"] _ 1 ["_law_row"] []=true by decide +kernel)) (by decide) ?_ ?_ ?_ ?_;exact (dih (Jo (Qu 6)));exact fun cl C ex s2 H2 pn=>Qs 0 (show List.Nodup (["_law_row"]:List Str) by decide +kernel);exact fun cl C ex s2 H2 pn=>ZZ;exact fun cl C ex s2 H2 pn=>(Jc QK rfl T.b_len PySem.boot_len (dv 0)))))))))))))))));exact Sn))))));exact (So (Qm (QI (dn 2 (dn 3 Dz)) lz2)))))))
theorem QqK:FnScope Qne Qdv (Qb Qfz):=by constructor<;>first | rfl | decide +kernel
theorem Qq0 (h:Df K mg "_law_most" Qfz Qdv) (T:Txt K mg):Qni P w K mg base :=
 okD Qne Qdv Qid 0 h QqK (fun nd=>fun hr=>(by refine Ss (O1:=[]) ?_ ?_;exact (Qg 2 nd Qw);exact (by refine Ss (O1:=[]) ?_ ?_;exact (by refine JZ rfl PassesOwn.never ?_ ?_ ?_;exact (Jo (Qu 0));exact Qs 3 nd;exact (by refine Ss (O1:=[]) ?_ ?_;exact (Qg 2 nd (Qa Qh (dv 2) dq));exact (by refine Ss (O1:=[]) ?_ ?_;exact (Qx (PW.pt (Qay (JA (dv 1)) (Zp (PW.pt (YV (Qn (Qr hr.units) (dr (Qc (dv 3) dq)) (dr Qe) (Qf _)) (Zp (Qn (Qr hr.units) (dr (Qc (dv 3) dq)) (dr Qe) (Qf _)))))))) (So (Qg 2 nd (Qa Qh (dv 2) dq))) Sn);exact (by refine Ss (O1:=[]) ?_ ?_;exact (Qx (Qn (Qr hr.units) (dr (Qc (dv 3) dq)) (dr Qe) (Qf _)) (So (Qg 2 nd (Qa Qh (dv 2) (dr (Qc (dv 3) dq))))) Sn);exact (by refine So ?_;exact (by refine Qx ?_ ?_ ?_;exact (Qn (Qr hr.units) (dr (Qc (dv 3) dq)) (dr Qe) (Qf _));exact (by refine So ?_;exact (by refine Qg 2 nd ?_;exact (by refine Qa Qh ?_ ?_;exact (dv 2);exact (by refine dr ?_;exact (by refine Qa J3 ?_ ?_;exact dq;exact (by refine dr ?_;exact (by refine Jc QK rfl T.b_len PySem.boot_len ?_;exact (by refine dr ?_;exact (by refine Zh ?_;exact (by refine J4 rfl rfl (Jf (show J0 (Qb Qfz) ["_law_book","_law_listed","_law_most_here","_law_block"] _ 1 ["_law_item"] []=true by decide +kernel)) (by decide) ?_ ?_ ?_ ?_;exact (dih (Jo (Qc (dv 3) dq)));exact fun cl C ex s2 H2 pn=>Qs 0 (show List.Nodup (["_law_item"]:List Str) by decide +kernel);exact fun cl C ex s2 H2 pn=>(Vi (PW.pt (YV (Qn (Qr hr.units) (dr (Qc (dv 0) dq)) (dr Qe) (Qf _)) (Zp (Qn (Qr hr.units) (dr (Qc (dv 0) dq)) (dr Qe) (Qf _))))));exact fun cl C ex s2 H2 pn=>Qu 0))))))))));exact Sn))))));exact (So (Qm (Qu 2))))))
theorem Qpd:FnScope QkT Qcr (Qb Qcn):=by constructor<;>first | rfl | decide +kernel
theorem Qpv (h:Df K mg "_law_drawn" Qcn Qcr) (T:Txt K mg) (c_Latom:Qnk P w K mg base) (c_Lcell_at:Qce P w K mg base) (c_Ledge:Qil P w K mg base) (c_Lgrouped:Qht P w K mg base) (c_Lmix:Qds P w K mg base) (c_Lmost:Qni P w K mg base) (c_Lneeds:QkY P w K mg base) (c_Lpointed:Qhs P w K mg base):Qk0 P w K mg base :=
 okD QkT Qcr QgE 2 h Qpd (fun nd=>fun hr=>(by refine Ss (O1:=[]) ?_ ?_;exact (Qg 1 nd (Qa Qh (dr (VI (dv 0) VG (VF dq))) (dr (QZ (Dk Qw Dz) lz1))));exact (by refine Ss (O1:=[2]) ?_ ?_;exact (by refine Qhj 2 nd rfl rfl (Jf (show J0 (Qb Qcn) ["_law_script","_law_every","_law_cells","_law_book","_law_listed","_law_edge_here","_law_most_here","_law_wide","_law_high","_law_width","_law_height","_law_style"] _ 1 ["_law_k","_law_every"] [1]=true by decide +kernel)) (by decide) ?_ ?_ ?_ ?_;exact (dih (QbA rfl T.b_range (dr (Qa QP (dr (dc c_Lmix hr (Dl (dc c_Lcell_at hr (dn 0 (Dk Qw Dz))) (Dk Qw Dz)))) dq))));exact fun cl C ex s2 H2 pn=>Qs 0 (show List.Nodup (["_law_k","_law_every"]:List Str) by decide +kernel);exact fun cl C ex s2 H2 pn=>ZZ;exact fun cl C ex s2 H2 pn=>(Qc (dv 1) (dr (Qa QP (dv 0) (dr (Jc QK rfl T.b_len PySem.boot_len (dv 1)))))));exact (by refine ZB 2 ?_;exact (by refine Ss (O1:=[]) ?_ ?_;exact (by refine Qg 3 nd ?_;exact (by refine dc c_Lgrouped hr ?_;exact (by refine Dl ?_ ?_;exact (by refine dc c_Lpointed hr ?_;exact (by refine Qbt ?_ ?_;exact (by refine Zh ?_;exact (by refine J4 rfl rfl (Jf (show J0 (Qb Qcn) ["_law_script","_law_every","_law_cells","_law_book","_law_listed","_law_edge_here","_law_most_here","_law_wide","_law_high","_law_width","_law_height","_law_style"] _ 2 ["_law_k","_law_cell"] []=true by decide +kernel)) (by decide) ?_ ?_ ?_ ?_;exact (dih (QfG rfl T.b_enumerate (Qu 2)));exact fun cl C ex s2 H2 pn=>(Qaz rfl (JG (O1:=[]) (Qs 0 (show List.Nodup (["_law_k","_law_cell"]:List Str) by decide +kernel)) (JG (O1:=[]) (Qs 1 (show List.Nodup (["_law_k","_law_cell"]:List Str) by decide +kernel)) VH)) rfl);exact fun cl C ex s2 H2 pn=>ZZ;exact fun cl C ex s2 H2 pn=>(dc c_Latom hr (dn 1 (dn 0 Dz)))));exact (dn 2 Dz)));exact Dz)));exact (by refine Ss (O1:=[]) ?_ ?_;exact (Qg 4 nd (JB (Qr hr.units) (dr (Qa QP (dr (dc c_Lcell_at hr (dn 0 (Dk Qw Dz)))) dq)) dq (Qf _)));exact (by refine Ss (O1:=[]) ?_ ?_;exact (Qg 5 nd (dc c_Ledge hr (dn 0 (Dt (QI (Dk Qw (Dk Qw (Dk Qb1 (dn 4 Dz)))) lz4) Dz))));exact (by refine Ss (O1:=[]) ?_ ?_;exact (Qg 6 nd (Jc QK rfl T.b_len PySem.boot_len (dr (Qcl Qi6 rfl T.b_str PyProof.Rows.boot_str (dr (dc c_Lmost hr (Db (Qa Qh (dv 5) (dv 3)) (dn 4 Dz))))))));exact (by refine Ss (O1:=[]) ?_ ?_;exact (QjV (dc c_Lneeds hr (Db (Qa Qh (dv 3) (dv 5)) (dn 6 Dz))) (Qaz rfl (JG (O1:=[]) (Qs 7 nd) (JG (O1:=[]) (Qs 8 nd) VH)) rfl));exact (by refine Ss (O1:=[]) ?_ ?_;exact (Qx (Qn (Z1 hr.units) (dv 5) (dr (QZ Dz lz0)) (Qf _)) (So (Qg 7 nd (Qbn (Z4 rfl) rfl T.b_max PyProof.Rows.boot_max (dv 7) (dr (Qa Qh (dv 6) dq))))) Sn);exact (by refine Ss (O1:=[]) ?_ ?_;exact (Qg 9 nd (Qbn (Z4 rfl) rfl T.b_max PyProof.Rows.boot_max (dv 7) (dr (Qa Qh dq (dr (Qa QP (dr (dc c_Lmix hr (Dl (dc c_Lcell_at hr (dn 0 (Dk Qw Dz))) (Dk Qw Dz)))) dq))))));exact (by refine Ss (O1:=[]) ?_ ?_;exact (Qg 10 nd (Qbn (Z4 rfl) rfl T.b_max PyProof.Rows.boot_max (dv 8) (dr (Qa Qh dq (dr (Qa QP (dr (dc c_Lmix hr (Dl (dc c_Lcell_at hr (dn 0 (Dk Qw Dz))) (Dk Qw Dz)))) dq))))));exact (by refine Ss (O1:=[]) ?_ ?_;exact (Qx (Qn (Qr hr.units) (dr (Qa QP (dr (dc c_Lcell_at hr (dn 0 (Dk Qw Dz)))) dq)) dq (Qf _)) (So (Qg 10 nd (Qbn (Z4 rfl) rfl T.b_max PyProof.Rows.boot_max (dv 8) (dr (Qa Qh dq (dr (Qa QP (dr (dc c_Lmix hr (Dl (dc c_Lcell_at hr (dn 0 (Dk Qw Dz))) (Dk Qw Dz)))) dq))))))) Sn);exact (Ss (O1:=[]) (Qg 11 nd (QI (dn 9 (dn 10 (Qn4 (JB (Qr hr.units) (dr (Qa QP (dr (dc c_Lcell_at hr (dn 0 (Dk Qw Dz)))) dq)) dq (Qf _)) (dn 4 Dz)))) lz4)) (So (Qm (QI (Db (Qa Qh (dr (dc c_Ledge hr (dn 0 (dn 11 Dz)))) (dv 3)) (dn 11 (dn 6 Dz))) lz3)))))))))))))))))
theorem QqM:FnScope Qng Qdx (Qb QhW):=by constructor<;>first | rfl | decide +kernel
theorem Qq2 (h:Df K mg "_law_copy" QhW Qdx) (T:Txt K mg):Qnj P w K mg base :=
 okD Qng Qdx Qif 0 h QqM (fun nd=>fun hr=>(by refine Ss (O1:=[1]) ?_ ?_;exact (ZK 1 nd (YI Dz lz0));exact (by refine Ss (O1:=[1]) ?_ ?_;exact (by refine JZ rfl PassesOwn.never ?_ ?_ ?_;exact (Jo (Qu 0));exact Qs 2 nd;exact (by refine So ?_;exact (by refine Qx ?_ ?_ ?_;exact (Qn (Qr hr.units) (dr (Qc (dv 2) dq)) (dr Qe) (Qf _));exact (by refine Ss (O1:=[1,3]) ?_ ?_;exact (ZK 3 nd (YI Dz lz0));exact (by refine Ss (O1:=[1,3]) ?_ ?_;exact (JZ rfl PassesOwn.never (Jo (Qc (dv 2) dq)) (Qs 4 nd) (So (Qx (Qn (Qr hr.units) (dr (Qc (dv 4) dq)) (dr Qe) (Qf _)) (So (J9 3 (by decide) (QI (Dk Qe (Du (Qc (dv 4) dq) (Dl (Zh (Qm2 rfl T.b_list PyProof.Rows.boot_list (dr (Qc (dv 4) dq)))) Dz))) lz3))) (So (J9 3 (by decide) (Qu 4))))));exact (ZB 3 (So (J9 1 (by decide) (QI (Dk Qe (dn 3 Dz)) lz2))))));exact (So (Qx (Qn (Qr hr.units) (dr (Qc (dv 2) dq)) (dr Qe) (Qf _)) (So (J9 1 (by decide) (QI (Dk Qe (Dl (Zh (Qm2 rfl T.b_list PyProof.Rows.boot_list (dr (Qc (dv 2) dq)))) (Du (Qc (dv 2) dq) Dz))) lz3))) (So (J9 1 (by decide) (Qu 2))))))));exact (ZB 1 (So (Qm (Qu 1)))))))
theorem Qlb:FnScope Qf0 VY (Qb Qbp):=by constructor<;>first | rfl | decide +kernel
theorem Qlm (h:Df K mg "_law_pointers" Qbp VY) (T:Txt K mg):Qf5 P w K mg base :=
 okD Qf0 VY Qdk 0 h Qlb (fun nd=>fun hr=>(by refine Ss (O1:=[]) ?_ ?_;exact (Qg 1 nd (QZ Dz lz0));exact (by refine Ss (O1:=[]) ?_ ?_;exact (by refine JZ rfl PassesOwn.never ?_ ?_ ?_;exact (Jo (Qu 0));exact Qs 2 nd;exact (by refine So ?_;exact (by refine Qx ?_ ?_ ?_;exact (Qn (Qr hr.units) (dr (Qc (dv 2) dq)) (dr Qe) (Qf _));exact (by refine So ?_;exact (by refine Qg 1 nd ?_;exact (by refine Qa Qh ?_ ?_;exact (dv 1);exact (by refine dr ?_;exact (by refine Zh ?_;exact (by refine J4 rfl rfl (Jf (show J0 (Qb Qbp) ["_law_book","_law_found","_law_block"] _ 1 ["_law_item"] []=true by decide +kernel)) (by decide) ?_ ?_ ?_ ?_;exact (dih (Jo (Qc (dv 2) dq)));exact fun cl C ex s2 H2 pn=>Qs 0 (show List.Nodup (["_law_item"]:List Str) by decide +kernel);exact fun cl C ex s2 H2 pn=>(Vi (Qn (Qr hr.units) (dr (Qc (dv 0) dq)) (dr Qe) (Qf _)));exact fun cl C ex s2 H2 pn=>(Qc (dv 0) dq)))))));exact Sn)));exact (So (Qm (Qu 1))))))
theorem Qiq:FnScope Z0 Z0 (Qb V6):=by constructor<;>first | rfl | decide +kernel
theorem Qiu (h:Df K mg "_law_rooms_told" V6 Z0) (T:Txt K mg) (c_Lwhole:QkW P w K mg base):QeD P w K mg base :=
 okD Z0 Z0 QbX 1 h Qiq (fun nd=>fun hr=>(by refine Ss (O1:=[]) ?_ ?_;exact (Qx (PW.pt (YV (Qbz (JA (dr (QfH (Qrf _) rfl T.b_isinstance PyProof.Rows.boot_isinstance rfl T.b_list PyProof.Rows.boot_list (dv 0))))) (Zp (Qn (Z1 hr.units) (dr (Jc QK rfl T.b_len PySem.boot_len (dv 0))) (dv 1) (Qf _))))) (So (Qm Qb1)) Sn);exact (by refine So ?_;exact (by refine Qm ?_;exact (by refine JB (Qr hr.units) ?_ ?_ (Qf _);exact (by refine dr ?_;exact (by refine Zh ?_;exact (by refine J4 rfl rfl (Jf (show J0 (Qb V6) ["_law_found","_law_many","_law_most_here"] _ 1 ["_law_one","_law_most_here"] [2]=true by decide +kernel)) (by decide) ?_ ?_ ?_ ?_;exact (dih (Jo (Qu 0)));exact fun cl C ex s2 H2 pn=>Qs 0 (show List.Nodup (["_law_one","_law_most_here"]:List Str) by decide +kernel);exact fun cl C ex s2 H2 pn=>(Vi (PW.pt (YV (Qbz (JA (dr (dc c_Lwhole hr (dn 0 Dz))))) (YV (Qn Qg0 (dv 0) dq (Qf _)) (Zp (Qn VS (dv 0) (dv 1) (Qf _)))))));exact fun cl C ex s2 H2 pn=>Qu 0)));exact (dr (QZ Dz lz0)))))))
theorem Qpe:FnScope QkU Qcs (Qb QdZ):=by constructor<;>first | rfl | decide +kernel
theorem Qpw (h:Df K mg "_law_chain" QdZ Qcs) (T:Txt K mg):Qk1 P w K mg base :=
 okD QkU Qcs QgF 0 h Qpe (fun nd=>fun hr=>(by refine Ss (O1:=[]) ?_ ?_;exact (Qg 1 nd (Qa Qh dq (dr (Qa QP (dv 0) dq))));exact (by refine Ss (O1:=[]) ?_ ?_;exact (Qg 2 nd (Qa Qh dq (dr (Qa QP (dr (Qa Jp (dv 0) dq)) dq))));exact (by refine Ss (O1:=[]) ?_ ?_;exact (Qg 3 nd (Qa QP (dr (Qa Jp (dv 0) dq)) dq));exact (by refine Ss (O1:=[4]) ?_ ?_;exact (ZK 4 nd (YI Dz lz0));exact (by refine Ss (O1:=[4]) ?_ ?_;exact (Qg 5 nd Qe);exact (by refine Ss (O1:=[4]) ?_ ?_;exact (Qg 6 nd Qw);exact (by refine Ss (O1:=[4]) ?_ ?_;exact (by refine JZ rfl PassesOwn.never ?_ ?_ ?_;exact (QmY rfl T.b_range Qw (Qa Qh (dv 1) dq));exact Qs 7 nd;exact (by refine Ss (O1:=[4]) ?_ ?_;exact (Qg 8 nd (Qa Qh (dr Qe) (dr (Qc (dr Qe) (dr (Qa Z6 (dv 7) dq))))));exact (by refine Ss (O1:=[4]) ?_ ?_;exact (Qg 9 nd (Qa J3 (dr Qe) (dr (Qa Z6 (dv 2) (dr (Qbn (Z4 rfl) rfl T.b_max PyProof.Rows.boot_max dq (dv 7)))))));exact (by refine Ss (O1:=[4]) ?_ ?_;exact (J9 4 (by decide) (QI (Dk Qe (Du (Qc (dr (QZ (Db (Qa Z6 (dr (Qa J3 dq (dv 6))) dq) (Dk Qw Dz)) lz2)) (dr (Qcl QbL rfl T.b_int PyProof.Rows.boot_int (dr (JB (Qr hr.units) (dv 7) dq (Qf _)))))) (Dk Qe Dz))) lz3));exact (by refine Ss (O1:=[4]) ?_ ?_;exact (J9 4 (by decide) (QI (Dk Qe (Vj (QZ (Dk Qe Dz) lz1) (Du (Qc (dr (QZ (Dk Qe (Dk Qe Dz)) lz2)) (dr (Qcl QbL rfl T.b_int PyProof.Rows.boot_int (dr (QbB (dr (JB (Qr hr.units) (dv 7) dq (Qf _))) (VV (JB (Qr hr.units) (dv 3) dq (Qf _)))))))) Dz))) lz3));exact (by refine Ss (O1:=[4]) ?_ ?_;exact (J9 4 (by decide) (QI (Dk Qe (Vj (QZ (Dt (QI (Dk Qe (dn 9 (Vj (QZ Dz lz0) Dz))) lz3) (Dt (QI (Dk Qe (dn 8 Dz)) lz2) (Dt (QI (Dk Qe (dn 5 (Dk Qe (Dk Qe Dz)))) lz4) Dz))) lz3) Dz)) lz2));exact (by refine Ss (O1:=[4]) ?_ ?_;exact (J9 4 (by decide) (QI (Dk Qe (Vj (QZ (Dk Qe Dz) lz1) (Du (Qc (dr (QZ (Dk Qe (Dk Qe Dz)) lz2)) (dr (Qcl QbL rfl T.b_int PyProof.Rows.boot_int (dr (QbB (dr (JB (Qr hr.units) (dv 7) dq (Qf _))) (VV (JB (Qr hr.units) (dv 3) dq (Qf _)))))))) Dz))) lz3));exact (Ss (O1:=[4]) (Qg 5 nd (Qu 8)) (So (Qg 6 nd (Qa J3 (dv 6) dq)))))))))));exact (by refine ZB 4 ?_;exact (by refine So ?_;exact (by refine Qm ?_;exact (by refine QI ?_ ?_;exact (by refine Qh9 ?_ ?_;exact Qu 4;exact (by refine Dt ?_ ?_;exact (QI (dn 2 (Dk Qw (Dk Qb1 (Dk Qb1 Dz)))) lz4);exact (by refine Db ?_ ?_;exact (by refine Qa Qh ?_ ?_;exact (dr (QZ (Db (Qa Qh dq (dv 3)) Dz) lz1));exact (by refine dr ?_;exact (by refine Zh ?_;exact (by refine J4 rfl rfl (Jf (show J0 (Qb QdZ) ["_law_number","_law_many","_law_wide","_law_kicked","_law_book","_law_behind","_law_ten","_law_j","_law_name","_law_word"] _ 1 ["_law_j","_law_kicked"] [3]=true by decide +kernel)) (by decide) ?_ ?_ ?_ ?_;exact (dih (QmY rfl T.b_range Qw (Qa Qh (dv 1) dq)));exact fun cl C ex s2 H2 pn=>Qs 0 (show List.Nodup (["_law_j","_law_kicked"]:List Str) by decide +kernel);exact fun cl C ex s2 H2 pn=>ZZ;exact fun cl C ex s2 H2 pn=>(Qa Qh (dr (Qa Z6 (dv 0) dq)) (dv 1))))));exact Dz)));exact lz3))))))))))))
theorem sc_law:FnScope Qr9 QrS (Qb QgR):=by constructor<;>first | rfl | decide +kernel
theorem Quj {f:Addr} {fd:FuncData} (h:Fun K "law" "law" QgR f fd) (T:Txt K mg) (c_Lcell_at:Qce P w K mg base) (c_Lchain:Qk1 P w K mg base) (c_Lcopy:Qnj P w K mg base) (c_Ldrawn:Qk0 P w K mg base) (c_Ledge:Qil P w K mg base) (c_Lmix:Qds P w K mg base) (c_Lpointers:Qf5 P w K mg base) (c_Lrooms_told:QeD P w K mg base) (c_greatest:Qew P w K mg base) (c_least:Qik P w K mg base) (c_needed:QkV P w K mg base) (c_sole:Qo0 P w K mg base):FnOk P w K mg base CX0 10 f fd ["_law_script"] (spD K Qfw) :=
 have nd:=sc_law.nd
 okF (b:=QnB) (k:=9) (N:=Qr9) (ps:=QrS) (O':=[]) (OL:=[]) h sc_law fun cdv A outer s H E hr=>(by refine Ss (O1:=[]) ?_ ?_;exact (Qg 1 nd (dc c_Lmix hr (Dl (dc c_Lcell_at hr (dn 0 (Dk Qw Dz))) (Dk Qw Dz))));exact (by refine Ss (O1:=[]) ?_ ?_;exact (by refine Qx ?_ ?_ ?_;exact (Qn (Qr hr.units) (dr (Qa QP (dv 1) dq)) dq (Qf _));exact (by refine Ss (O1:=[]) ?_ ?_;exact (QjV (dc c_Lchain hr (Db (Qa Jp (dv 1) dq) Dz)) (Qaz rfl (JG (O1:=[]) (Qs 2 nd) (JG (O1:=[]) (Qs 3 nd) (JG (O1:=[]) (Qs 4 nd) VH))) rfl));exact (by refine So ?_;exact (by refine Qx ?_ ?_ ?_;exact (by refine PW.pt ?_;exact (YV (Qn (Z1 hr.units) (dr (dc c_least hr (dn 2 (dn 3 Dz)))) (dv 4) (Qf _)) (YV (Qn (Z1 hr.units) (dr (dc c_greatest hr (dn 2 (dn 3 Dz)))) (dv 4) (Qf _)) (Zp (Qtb (dr (dc c_sole hr (dn 2 (dn 3 Dz)))))))));exact (So (Qm Qb1));exact Sn)));exact Sn);exact (by refine Ss (O1:=[]) ?_ ?_;exact (QjV (dc c_Ldrawn hr (dn 0 Dz)) (Qaz rfl (JG (O1:=[]) (Qs 2 nd) (JG (O1:=[]) (Qs 3 nd) (JG (O1:=[]) (Qs 5 nd) VH))) rfl));exact (by refine Ss (O1:=[]) ?_ ?_;exact (Qg 6 nd (Jc QK rfl T.b_len PySem.boot_len (dr (dc c_Lpointers hr (dn 2 Dz)))));exact (by refine Ss (O1:=[]) ?_ ?_;exact (Qg 7 nd (dc c_Lcopy hr (dn 2 Dz)));exact (by refine Ss (O1:=[]) ?_ ?_;exact (Qg 8 nd (dc c_least hr (dn 7 (dn 3 Dz))));exact (by refine Ss (O1:=[]) ?_ ?_;exact (Qg 9 nd (dc c_greatest hr (dn 7 (dn 3 Dz))));exact (by refine Ss (O1:=[]) ?_ ?_;exact (Qg 10 nd (dc c_sole hr (dn 7 (dn 3 Dz))));exact (by refine Ss (O1:=[]) ?_ ?_;exact (Qx (PW.pt (YV (Qn (Z1 hr.units) (dv 7) (dv 2) (Qf _)) (YV (Qbz (JA (dr (dc c_Lrooms_told hr (dn 8 (dn 6 (dn 5 Dz))))))) (Zp (Qbz (JA (dr (dc c_Lrooms_told hr (dn 9 (dn 6 (dn 5 Dz))))))))))) (So (Qm Qb1)) Sn);exact (by refine Ss (O1:=[]) ?_ ?_;exact (Qx (PW.pt (YV (Qn (Z1 hr.units) (dr (dc c_needed hr (dn 2 (dn 3 (dn 8 Dz))))) (dv 8) (Qf _)) (Zp (Qn (Z1 hr.units) (dr (dc c_needed hr (dn 2 (dn 3 (dn 9 Dz))))) (dv 9) (Qf _))))) (So (Qm Qb1)) Sn);exact (by refine Ss (O1:=[]) ?_ ?_;exact (by refine Qx ?_ ?_ ?_;exact (by refine PW.pt ?_;exact (by refine YV ?_ ?_;exact (by refine Qn (Z1 hr.units) ?_ ?_ (Qf _);exact (by refine dr ?_;exact (by refine Zh ?_;exact (by refine J4 rfl rfl (Jf (show J0 (Qb QgR) ["_law_script","_law_number","_law_book","_law_style","_law_due","_law_most_here","_law_many","_law_handed","_law_low","_law_high","_law_one"] _ 1 ["_law_k","_law_low","_law_high"] [8,9]=true by decide +kernel)) (by decide) ?_ ?_ ?_ ?_;exact (dih (QbA rfl T.b_range (dv 6)));exact fun cl C ex s2 H2 pn=>Qs 0 (show List.Nodup (["_law_k","_law_low","_law_high"]:List Str) by decide +kernel);exact fun cl C ex s2 H2 pn=>(Vi (Qn VS (dr (Qc (dv 1) (dv 0))) (dr (Qc (dv 2) (dv 0))) (Qf _)));exact fun cl C ex s2 H2 pn=>Qu 0)));exact (dr (QZ Dz lz0)));exact (YV (Qbz (JA (dr (QfH (Qkt _) rfl T.b_isinstance PyProof.Rows.boot_isinstance rfl T.b_bool PyProof.Rows.boot_bool (dv 10))))) (Zp (Qn (Z1 hr.units) (dv 10) (dr (JB (Qr hr.units) (dv 8) (dv 9) (Qf _))) (Qf _))))));exact (So (Qm Qb1));exact Sn);exact (So (Qm (Qr4 (dr (QoR (dv 10))) (VV (JB (Qr hr.units) (dr (dc c_Ledge hr (dn 0 (dn 3 Dz)))) (dr (QZ Dz lz0)) (Qf _)))))))))))))))))
end
end
open PySem PySem.Spec PyProof.Rows L2 Wd
theorem walk {l:PySem.W.OpenLaw} {q:Program} {loose:List Str} {XP:(Str->Option Value)->Heap->Prop} {YP:World->Heap->Prop} {d:DefRec} {K:Params->PySem.W.Frag} (hn:l.most=some 63) (hdf:d.params.defaults=[])
  (hY:∀ (w:World) (h:Heap),YP w h->(K w.params).In h)
  (F:∀ (w:World) (mg:Str->Option Value) (fa:Addr) (h:Heap),(K w.params).In h->h.Ns mainGlobals mg->mg d.name=some (.ref fa) ->
   ∃ fd:FuncData,(∀ (s:Shared) (u:Value),BindsTo s fd ⟨[u],[]⟩ [("_law_script",u)])/\∀ base:Heap,(K w.params).In base->base.Ns mainGlobals mg->FnOk l.prog w (K w.params) mg base CX0 10 fa fd ["_law_script"] (spD (K w.params) Qfw)) :
  PySem.W.WalkO q loose XP YP l.row.toRowW d [] (fun f vs=>PySem.call f vs) :=
 L2.walk_of (n:=63) (k:=10) (x:="_law_script") (CX:=fun _=>CX0) (sp:=fun w=>spD (K w.params) Qfw) hn (by decide) hdf ⟨rfl,by decide,by decide⟩ hY F (fun w H a ns _ _ hS=>Qup (K w.params) Qfw Qrd H a ns hS) fun _ _ _ _ _ z=>z
end My


namespace Hd
open PySem PySem.W PySem.Calls PyProof.Rows My L2
theorem Qkd {tb:String->Option Builtin} {p:Program} {w:World} {n₀:Nat} {ann:Option Value}:∀ {n:Nat} {s s':Shared} {t:Thread} {f:Flow} {c:Code} {q:Pos},
  segRun tb p w n₀ ann 0 n s t=some (f,s',c,q)->topRun tb p w n₀ ann n s t=some s'
 | 0,_,_,_,_,_,_,h=>by cases h
 | n + 1,s,s',t,f,c,q,h=>by
  unfold segRun at h
  unfold topRun
  have hz:(endAt 0 t).isSome=through t:=by
   obtain ⟨cur,code,pos,st⟩:=t
   cases st with
   | nil =>
    cases cur with
    | pure x=>cases x <;> rfl
    | _=>rfl
   | cons a b=>rfl
  cases he:endAt 0 t with
  | some g =>
   rw [he] at h hz
   rw [<- hz]
   cases h;rfl
  | none =>
   rw [he] at h hz
   rw [<- hz]
   cases hk:stepOk n₀ ann t with
   | false=>rw [hk] at h;cases h
   | true =>
    rw [hk] at h
    cases hs:step (denote tb) p w s t with
    | halt o s₂=>rw [hs] at h;cases h
    | go s₂ t₂=>rw [hs] at h;exact Qkd h
noncomputable def T0 (P:Params):BT:=(boot_heap P).objs.toList.foldl (fun x o=>(x.1.ins x.2 o,x.2 + 1)) (BT.nil,0) |>.1
noncomputable def st0 (w:World) (os:OsState):SharedT:=⟨T0 w.params,11,{},Array.mk [],boot_drawn,boot_toks,os⟩
theorem Qms (w:World) (os:OsState):(st0 w os).abs=⟨boot_heap w.params,Array.mk [],boot_drawn,boot_toks,os⟩:=by kernel_rfl
noncomputable def runs (p:Program) (M:Nat) (w:World) (os:OsState):Option Shared:=(segRunT treeTable p w 11 (some (.ref 6)) 0 M (st0 w os) (topStub p)).map fun r=>r.2.1.abs
noncomputable def chk (p:Program) (w:World) (s:Shared):Bool:=staticsOk (importedModules p.main.body) (boot_heap w.params) s.heap && namesBound p s.heap && gensDone s && laidKept (boot_heap w.params) s.heap
theorem left {p q:Program} {loose:List Str} {Xt:Shared->Bool} {α:Type} {Yf:Shared->α} {Ya:World->α} {N:Nat} {g0:Bool} {M:Nat}
  (e:opening p=plainProg p.main.scope.names) (f:∀ s,fenceModules? p s=some s) (hN:Nat.ble 600 N=true) (le:Nat.ble M N=true)
  (size:∀ w:World,((boot_heap w.params).isNs mainGlobals,(boot_heap w.params).objs.size,(boot_heap w.params).nsMap mainGlobals "__annotations__")=(true,11,some (.ref 6)))
  (ra:∀ (w:World) (os:OsState),(runs p M w os).map (chk p w)=some true)
  (rb:∀ (w:World) (os:OsState),(runs p M w os).map (openSeen q loose (importedModules p.main.body) Xt g0)=some (openGood q loose))
  (rc:∀ (w:World) (os:OsState),(runs p M w os).map Yf=some (Ya w)) :
  LeftO p q loose Xt Yf Ya N g0:=fun w=>by
 obtain ⟨u,e1,e2⟩:=Option.map_eq_some_iff.mp (boot_open e hN f w)
 obtain ⟨v,r1,l1⟩:=Option.map_eq_some_iff.mp (ra w u.os)
 obtain ⟨⟨_,v',_⟩,r2,r3⟩:=Option.map_eq_some_iff.mp r1
 have l2:=rb w u.os
 have l3:=rc w u.os
 rw [r1] at l2 l3
 have hu:u=(st0 w u.os).abs:=by
  rw [Qms]
  cases u
  cases e2
  rfl
 have go:=topRun_mono (N - M) _ _ _ _ (Qkd (segRun_of r2))
 rw [Nat.add_sub_of_le (Nat.le_of_ble_eq_true le)] at go
 have t:topFrom treeTable p w N u=some v:=by
  have z:=size w
  simp only [Prod.mk.injEq] at z
  rw [hu]
  unfold topFrom
  rw [Qms] at go ⊢
  simp only [z.1,z.2.1,z.2.2,go]
  simp only [<- r3] at l1 ⊢
  unfold chk at l1
  simp [l1]
 simp only [openEnds,e1,Option.bind_some,t,Option.map_some]
 rw [Option.some.inj l2,Option.some.inj l3]
abbrev p:=PySem.Challenge.pw_leastbook_k18_whole_least_and_greatest_a
noncomputable section
def Qqs (s:Stmt):Str:=match s with
 | .FunctionDef n _ _ _ _ _ _ _ _ _=>n
 | _=>""
def Qvb (s:Stmt):Pos:=match s with
 | .FunctionDef _ _ _ _ _ _ _ _ _ p=>p
 | _=>⟨0,0,0,0⟩
abbrev m0:Value:=.str "leastbook.places" 348
abbrev m1:Value:=.str "leastbook.books" 468
abbrev m2:Value:=.str "leastbook.setting" 632
abbrev m3:Value:=.str "leastbook.least" 709
abbrev m4:Value:=.str "law_leastbook_k18_whole_least_and_greatest_a" 761
def tb:List (Nat×Nat×Nat×Nat×Nat×Value):=
 [(17,141,366,370,1),(18,148,373,377,1),(19,155,380,386,1),(20,162,389,395,1),(21,169,398,406,1),(22,176,409,421,1),(23,183,424,428,1),(24,190,431,440,1),(25,197,443,447,1),(26,204,450,456,1),(27,211,459,465,1)].map (fun x=>(x.1,x.2.1,x.2.2.1,x.2.2.2.1,x.2.2.2.2,m0))
 ++ [(29,218,470,474,1),(30,225,477,481,1),(31,232,484,488,1),(32,239,491,495,1),(33,246,498,502,1),(34,251,505,508,0),(35,256,511,514,0),(36,261,517,520,0),(37,268,523,528,1),(38,273,531,534,0),(39,280,537,544,1),(40,287,547,553,1),(41,294,556,561,1),(42,301,564,569,1),(43,308,572,578,1),(44,315,581,589,1),(45,322,592,600,1),(46,327,603,606,0),(47,334,609,617,1),(48,341,620,629,1)].map (fun x=>(x.1,x.2.1,x.2.2.1,x.2.2.2.1,x.2.2.2.2,m1))
 ++ [(50,348,634,643,1),(51,355,646,658,1),(52,362,661,667,1),(53,369,670,681,1),(54,376,684,693,1),(55,383,696,706,1)].map (fun x=>(x.1,x.2.1,x.2.2.1,x.2.2.2.1,x.2.2.2.2,m2))
 ++ [(57,388,711,714,0),(58,395,717,725,1),(59,402,728,734,1),(60,409,737,742,1),(61,416,745,750,1),(62,423,753,758,1)].map (fun x=>(x.1,x.2.1,x.2.2.1,x.2.2.2.1,x.2.2.2.2,m3))
 ++ [(64,430,763,768,1),(65,437,771,775,1),(66,444,778,784,1),(67,451,787,792,1),(68,458,795,802,1),(69,465,805,816,1),(70,470,819,822,0),(71,477,825,835,1),(72,484,838,845,1),(73,489,848,851,0),(74,494,854,857,0),(75,499,860,863,0),(76,504,866,869,0),(77,511,872,884,1),(78,518,887,895,1),(79,525,898,908,1),(80,530,911,914,0),(81,535,917,920,0),(82,540,923,926,0),(83,545,929,932,0)].map (fun x=>(x.1,x.2.1,x.2.2.1,x.2.2.2.1,x.2.2.2.2,m4))
def en (P:Params) (x:Str) (t:Nat) (v:Value):DictEntry:=⟨PyData.keyHash P x,.str x t,v⟩
def ns (P:Params):List DictEntry:=
 ([en P "__name__" 165 (.str "law_leastbook_k18_whole_least_and_greatest_a" 761),en P "__doc__" 166 (.none),en P "__package__" 167 (.none),en P "__loader__" 168 (.builtin "__main__.__loader__#opaque"),en P "__spec__" 169 (.none),en P "__annotations__" 170 (.ref 6),en P "__builtins__" 171 (.ref 4),en P "__file__" 173 (.str "/claim/cut.py" 172),en P "__cached__" 174 (.none),en P "BookError" 206 (.ref 24),en P "NoStyle" 222 (.ref 37),en P "TooWide" 247 (.ref 56),en P "TooHigh" 272 (.ref 75),en P "Twice" 297 (.ref 94),en P "Loose" 322 (.ref 113),en P "NoLabel" 347 (.ref 132),en P "WIDTH" 351 (.int 0 350),en P "HEIGHT" 353 (.int 1 352),en P "ODD" 355 (.int 2 354),en P "LISTED" 357 (.int 3 356),en P "PAGE" 359 (.int 0 358),en P "LINE" 361 (.int 1 360),en P "USED" 363 (.int 2 362),en P "FOOT" 365 (.int 3 364)])
 ++ (((tb.drop 0).take 63).map fun r=>en P (Qqs (top r.1)) (r.2.2.2.1+2) (.ref r.2.1))
def ob (r:Nat×Nat×Nat×Nat×Nat×Value):List (Nat×Obj):=let (i,f,t,u,b,m):=r
 let s:=top i
 let x:=Qqs s
 let l:Value:=.int (Qvb s).line 0
 let c:Str:="/claim/cut.py"
 let n:Value:=.int 0 0
 [(f-1,⟨.type "code",none,.fields #[.str x t,.str x (t+1),.str c (t+2),l,.int (Yj s).args.length 0,n,n,.int 3 0,.ref (if b=1 then f-6 else f-4),.bool true,.int 181 0,.ref (if b=1 then f-5 else f-3),.none,if b=1 then .ref (f-4) else .none,if b=1 then .ref (f-3) else .none,.ref (f-2),.int u 0,l,.str c (u+1)],#[]⟩),
  (f,⟨.type "function",none,.func (fnOf x x (Yj s) (ZC s) (Qb s) .none .none .none m none (.ref (f-1)) .none),#[]⟩)]
def K (P:Params):List (Nat×Obj):=(3,⟨.type "dict",none,.dict (ns P).toArray 87,#[]⟩)::tb.flatMap ob
def as:List Nat:=3::tb.flatMap fun r=>[r.2.1-1,r.2.1]
theorem QvD (P:Params):as=(K P).map (·.1):=by kernel_rfl
abbrev rw_:=PySem.Challenge.rw_leastbook_k18_whole_least_and_greatest_a.row
def vw:Program:=view p [83]
def ls:List Str:=(["BookError","NoStyle","TooWide","TooHigh","Twice","Loose","NoLabel","WIDTH","HEIGHT","ODD","LISTED","PAGE","LINE","USED","FOOT"]:List Str)++tb.dropLast.map fun r=>Qqs (top r.1)
def Xt (s:Shared):Bool:=xlAt vw [] s&&recOk (RowW.records rw_.toRowW) s
abbrev rn:=Hd.runs p 7360
def ha (w:World) (os:OsState):=(rn w os).map (Hd.chk p w)
def hb (w:World) (os:OsState):=(rn w os).map (openSeen vw ls (importedModules p.main.body) Xt true)
def hc (w:World) (os:OsState):=(rn w os).map fun s=>as.map s.heap.get?
def wb:=some (openGood vw ls)
def wc (w:World):=some ((K w.params).map fun p=>some p.2)
theorem ha_r:ha=ha:=rfl
theorem hb_r:hb=hb:=rfl
theorem hc_r:hc=hc:=rfl
theorem wb_r:wb=wb:=rfl
theorem wc_r:wc=wc:=rfl
end
section
variable {P:Params} {h:Heap} {mg:Str->Option Value} {x:Str} {st:Stmt} {ps:List Str} {y:Str} {fa:Addr}
abbrev fx (P:Params) (x:Str) (f:Nat):=(nsIn (K P) mainGlobals x,List.lookup f (K P),codeIn (K P) (.ref (f-1)) x,keepIn (K P) (.ref f))
abbrev fw (x:Str) (st:Stmt) (f:Nat) (m:Value):Option (Option Value)×Option Obj×Bool×Bool:=(some (some (.ref f)),some ⟨.type "function",none,.func (fnOf x x (Yj st) (ZC st) (Qb st) .none .none .none m none (.ref (f-1)) .none),#[]⟩,true,true)
theorem dk (f:Nat) (m:Value) (X:Frag.In (K P) h) (G:h.Ns mainGlobals mg) (hb:∀ (kV doc pm:Value) (an:Option Addr) (cdv ct:Value) (us:List Value),us.length=ps.length->bindArgs (fnOf x x (Yj st) (ZC st) (Qb st) .none kV doc pm an cdv ct) ⟨us,[]⟩=pure (ps.zip us):=by intro _ _ _ _ _ _ us hl;rcases us with _|⟨_,_|⟨_,_|⟨_,_|⟨_,_|⟨_,_|⟨_,_⟩⟩⟩⟩⟩⟩<;>first | (exfalso;simp at hl;done) | rfl)
  (e:fx P x f=fw x st f m:=by kernel_rfl):Wd.Df (K P) mg x st ps:=by
 obtain ⟨a,l,c,k⟩:_/\_/\_/\_:=by simpa only [Prod.mk.injEq] using e
 exact Wd.df_mk X G hb a l c k
theorem gk {i:Int} (t:Nat) (X:Frag.In (K P) h) (G:h.Ns mainGlobals mg) (a:nsIn (K P) mainGlobals x=some (some (.int i t)):=by kernel_rfl):∃ t,mg x=some (.int i t):=Wd.gint_mk X G a ⟨_,rfl⟩
variable (X:Frag.In (K P) h) (G:h.Ns mainGlobals mg)
include X G
theorem Qp1:Wd.Df (K P) mg "figures" Qe3 Vy:=dk 141 m0 X G
theorem QuQ:Wd.Df (K P) mg "bare" QjO Qcj:=dk 148 m0 X G
theorem Qlv:Wd.Df (K P) mg "has_height" QcG Ye:=dk 155 m0 X G
theorem Qml:Wd.Df (K P) mg "has_width" Qdb YB:=dk 162 m0 X G
theorem QpX:Wd.Df (K P) mg "word_at" Qe1 Vx:=dk 169 m0 X G
theorem Qn6:Wd.Df (K P) mg "put_word" Qd7 QaB:=dk 176 m0 X G
theorem Qoc:Wd.Df (K P) mg "end_line" Qed Y7:=dk 183 m0 X G
theorem Qmi:Wd.Df (K P) mg "put_block" Qc9 VX:=dk 190 m0 X G
theorem Qn7:Wd.Df (K P) mg "new_page" Qd8 Y2:=dk 197 m0 X G
theorem Qjw:Wd.Df (K P) mg "new_chapter" QbS Vd:=dk 204 m0 X G
theorem Qlt:Wd.Df (K P) mg "put_plates" QcE VB:=dk 211 m0 X G
theorem Qoa:Wd.Df (K P) mg "is_style" Qeb Y5:=dk 218 m1 X G
theorem Qmk:Wd.Df (K P) mg "is_titled" Qda YA:=dk 225 m1 X G
theorem Qrx:Wd.Df (K P) mg "is_set" Qgj Qac:=dk 232 m1 X G
theorem Qn8:Wd.Df (K P) mg "label_of" Qd9 Y3:=dk 239 m1 X G
theorem Qn9:Wd.Df (K P) mg "items_of" Qea Y4:=dk 246 m1 X G
theorem QuO:Wd.Df (K P) mg "refs" QgZ QeQ:=dk 251 m1 X G
theorem Qmj:Wd.Df (K P) mg "pages_for" Qbo Yz:=dk 256 m1 X G
theorem QhJ:Wd.Df (K P) mg "pages_at_most" Vp Zy:=dk 261 m1 X G
theorem Qiw:Wd.Df (K P) mg "room_at_most" Qa4 ZL:=dk 268 m1 X G
theorem Qlw:Wd.Df (K P) mg "any_longer" QaK Yg:=dk 273 m1 X G
theorem QhM:Wd.Df (K P) mg "is_wide_block" QaN Yp:=dk 280 m1 X G
theorem Qiz:Wd.Df (K P) mg "is_wide_item" Qa7 ZN:=dk 287 m1 X G
theorem QhN:Wd.Df (K P) mg "is_high_block" QaO ZA:=dk 294 m1 X G
theorem QiA:Wd.Df (K P) mg "is_high_item" Qa8 ZO:=dk 301 m1 X G
theorem Qmm:Wd.Df (K P) mg "add_label" Qdc YC:=dk 308 m1 X G
theorem QhL:Wd.Df (K P) mg "look_at_block" QaM Zz:=dk 315 m1 X G
theorem Qiy:Wd.Df (K P) mg "look_at_item" Qa6 ZM:=dk 322 m1 X G
theorem QhK:Wd.Df (K P) mg "look_at_items" Vq Yo:=dk 327 m1 X G
theorem Qix:Wd.Df (K P) mg "look_at_refs" Qa5 YM:=dk 334 m1 X G
theorem QuP:Wd.Df (K P) mg "look" QjN QeR:=dk 341 m1 X G
theorem Qiv:Wd.Df (K P) mg "set_contents" Qa3 YL:=dk 348 m2 X G
theorem Qmg:Wd.Df (K P) mg "set_items" Qc7 VW:=dk 355 m2 X G
theorem Qmh:Wd.Df (K P) mg "set_block" Qc8 Yy:=dk 362 m2 X G
theorem Qn5:Wd.Df (K P) mg "set_book" Qd6 QaA:=dk 369 m2 X G
theorem Qlu:Wd.Df (K P) mg "pages_with" QcF VC:=dk 376 m2 X G
theorem Qjx:Wd.Df (K P) mg "label_pages" QbT Ve:=dk 383 m2 X G
theorem QiB:Wd.Df (K P) mg "figures_told" VN YN:=dk 388 m3 X G
theorem QpY:Wd.Df (K P) mg "settled" Qe2 QbE:=dk 395 m3 X G
theorem Qrw:Wd.Df (K P) mg "needed" Qgi Qab:=dk 402 m3 X G
theorem Qth:Wd.Df (K P) mg "least" QhV QaV:=dk 409 m3 X G
theorem Qob:Wd.Df (K P) mg "greatest" Qec Y6:=dk 416 m3 X G
theorem QuN:Wd.Df (K P) mg "sole" QjM Qci:=dk 423 m3 X G
theorem Qof:Wd.Df (K P) mg "_law_cell_at" Qeg Y8:=dk 430 m4 X G
theorem Qry:Wd.Df (K P) mg "_law_whole" Qgk Qad:=dk 437 m4 X G
theorem QuR:Wd.Df (K P) mg "_law_mix" QjP QeS:=dk 444 m4 X G
theorem QrB:Wd.Df (K P) mg "_law_label" Qgm Qcq:=dk 451 m4 X G
theorem Qp2:Wd.Df (K P) mg "_law_plates" Qe4 QbF:=dk 458 m4 X G
theorem Qrz:Wd.Df (K P) mg "_law_signs" Qgl Qco:=dk 465 m4 X G
theorem Qtl:Wd.Df (K P) mg "_law_atom" Qdt Qdy:=dk 470 m4 X G
theorem Qod:Wd.Df (K P) mg "_law_pointed" Qee QaC:=dk 477 m4 X G
theorem Qoe:Wd.Df (K P) mg "_law_grouped" Qef QaD:=dk 484 m4 X G
theorem Qtj:Wd.Df (K P) mg "_law_edge" QfA Qdw:=dk 489 m4 X G
theorem QrA:Wd.Df (K P) mg "_law_needs" YY Qcp:=dk 494 m4 X G
theorem Qti:Wd.Df (K P) mg "_law_most" Qfz Qdv:=dk 499 m4 X G
theorem QrC:Wd.Df (K P) mg "_law_drawn" Qcn Qcr:=dk 504 m4 X G
theorem Qtk:Wd.Df (K P) mg "_law_copy" QhW Qdx:=dk 518 m4 X G
theorem Qmn:Wd.Df (K P) mg "_law_pointers" Qbp VY:=dk 530 m4 X G
theorem Qjy:Wd.Df (K P) mg "_law_rooms_told" V6 Z0:=dk 535 m4 X G
theorem QrD:Wd.Df (K P) mg "_law_chain" QdZ Qcs:=dk 540 m4 X G
theorem QvA (hm:mg "law"=some (.ref fa)):∃ fd,(∀ (s:Shared) (u:Value),BindsTo s fd ⟨[u],[]⟩ [("_law_script",u)])/\L2.Fun (K P) "law" "law" QgR fa fd:=by
 have e:fx P "law" 545=fw "law" QgR 545 m4:=by kernel_rfl
 obtain ⟨a,l,c,k⟩:_/\_/\_/\_:=by simpa only [Prod.mk.injEq] using e
 exact Wd.law_mk X G hm (fun _ _ _ _ _ _ u=>rfl) a l c k
theorem txt:Txt (K P) mg:=⟨gk 364 X G,gk 352 X G,gk 360 X G,gk 356 X G,gk 354 X G,gk 358 X G,gk 362 X G,gk 350 X G,mg_none_of X G (by kernel_rfl),mg_none_of X G (by kernel_rfl),mg_none_of X G (by kernel_rfl),mg_none_of X G (by kernel_rfl),mg_none_of X G (by kernel_rfl),mg_none_of X G (by kernel_rfl),mg_none_of X G (by kernel_rfl),mg_none_of X G (by kernel_rfl),mg_none_of X G (by kernel_rfl),mg_none_of X G (by kernel_rfl),mg_none_of X G (by kernel_rfl),mg_none_of X G (by kernel_rfl),trivial⟩
end
end Hd
open PySem PySem.W PyProof.Rows
name_quick haQ for Hd.ha by Hd.ha_r
name_quick hbQ for Hd.hb by Hd.hb_r
name_quick hcQ for Hd.hc by Hd.hc_r
name_quick wbQ for Hd.wb by Hd.wb_r
name_quick wcQ for Hd.wc by Hd.wc_r
namespace Hd
theorem oa (w:World) (os:OsState):Fast.haQ w os=some true:=by kernel_rfl
theorem oz (w:World) (os:OsState):Fast.hbQ w os=Fast.wbQ:=by kernel_rfl
theorem oc (w:World) (os:OsState):Fast.hcQ w os=Fast.wcQ w:=by kernel_rfl
theorem pa (w:World) (os:OsState):ha w os=some true:=by rw [Fast.haQ_eq];exact oa w os
theorem pb (w:World) (os:OsState):hb w os=wb:=by rw [Fast.hbQ_eq,Fast.wbQ_eq];exact oz w os
theorem pc (w:World) (os:OsState):hc w os=wc w:=by rw [Fast.hcQ_eq,Fast.wcQ_eq];exact oc w os
theorem hl:LeftO p vw ls Xt (fun s=>as.map s.heap.get?) (fun w=>(K w.params).map fun p=>some p.2) 7360:=
 left (M:=7360) (by kernel_rfl) (fun s=>by kernel_rfl) rfl rfl (fun w=>by kernel_rfl) pa pb pc
end Hd
open Hd My
set_option maxRecDepth 100000 in
set_option maxHeartbeats 0 in
theorem PySem.Challenge.cw_leastbook_k18_whole_least_and_greatest_a_holds : PySem.Challenge.rw_leastbook_k18_whole_least_and_greatest_a.Holds := by
 w_on;o_law
 refine holds_open (q:=vw) (loose:=ls) (Xt:=Hd.Xt) (XP:=XL vw []) (YP:=InK K) hl (InK.of QvD) InK.keeps (fun s e=>xl_of s (Bool.and_eq_true_iff.mp e).1) XL.keeps rfl rfl rfl
  (fun s e=>recFacts_of (Bool.and_eq_true_iff.mp e).2) rfl ‹_› (by decide +kernel) ⟨rfl,rfl,rfl,rfl,rfl,by decide +kernel⟩ ?hw ?hc
 case hw=>w_witness2
 refine My.walk (l:=PySem.Challenge.rw_leastbook_k18_whole_least_and_greatest_a) rfl rfl (fun w h Y=>Y) ?F
 intro w mg fa h X G hmg
 have T:=txt X G
 obtain ⟨fd,hb,F⟩:=QvA X G hmg
 refine ⟨fd,hb,fun b kb nb=>?_⟩
 have c_figures:=QnU (P:=p) (w:=w) (base:=b) (Qp1 X G) T
 have c_bare:=QsL (P:=p) (w:=w) (base:=b) (QuQ X G) T
 have c_has_height:=Qjs (P:=p) (w:=w) (base:=b) (Qlv X G) T
 have c_has_width:=Qlk (P:=p) (w:=w) (base:=b) (Qml X G) T
 have c_word_at:=QnS (P:=p) (w:=w) (base:=b) (QpX X G) T
 have c_put_word:=QlX (P:=p) (w:=w) (base:=b) (Qn6 X G) T c_has_height c_has_width c_word_at
 have c_end_line:=Ql3 (P:=p) (w:=w) (base:=b) (Qoc X G) T
 have c_put_block:=Qlh (P:=p) (w:=w) (base:=b) (Qmi X G) T c_bare c_end_line c_has_height
 have c_new_page:=QlY (P:=p) (w:=w) (base:=b) (Qn7 X G) T c_bare
 have c_new_chapter:=Qis (P:=p) (w:=w) (base:=b) (Qjw X G) T c_bare c_new_page
 have c_put_plates:=Qjq (P:=p) (w:=w) (base:=b) (Qlt X G) T c_bare c_new_page
 have c_is_style:=Ql1 (P:=p) (w:=w) (base:=b) (Qoa X G) T
 have c_is_titled:=Qlj (P:=p) (w:=w) (base:=b) (Qmk X G) T
 have c_is_set:=Qpq (P:=p) (w:=w) (base:=b) (Qrx X G) T
 have c_label_of:=QlZ (P:=p) (w:=w) (base:=b) (Qn8 X G) T
 have c_items_of:=Ql0 (P:=p) (w:=w) (base:=b) (Qn9 X G) T
 have c_refs:=QsJ (P:=p) (w:=w) (base:=b) (QuO X G) T c_items_of
 have c_pages_for:=Qli (P:=p) (w:=w) (base:=b) (Qmj X G) T c_is_set c_is_titled c_items_of
 have c_pages_at_most:=QgL (P:=p) (w:=w) (base:=b) (QhJ X G) T c_pages_for
 have c_room_at_most:=QhB (P:=p) (w:=w) (base:=b) (Qiw X G) T c_figures c_pages_at_most
 have c_any_longer:=Qjt (P:=p) (w:=w) (base:=b) (Qlw X G) T
 have c_is_wide_block:=QgO (P:=p) (w:=w) (base:=b) (QhM X G) T c_any_longer c_is_titled
 have c_is_wide_item:=QhE (P:=p) (w:=w) (base:=b) (Qiz X G) T c_any_longer
 have c_is_high_block:=QgP (P:=p) (w:=w) (base:=b) (QhN X G) T
 have c_is_high_item:=QhF (P:=p) (w:=w) (base:=b) (QiA X G) T
 have c_add_label:=Qll (P:=p) (w:=w) (base:=b) (Qmm X G) T
 have c_look_at_block:=QgN (P:=p) (w:=w) (base:=b) (QhL X G) T c_add_label c_is_high_block c_is_wide_block c_label_of
 have c_look_at_item:=QhD (P:=p) (w:=w) (base:=b) (Qiy X G) T c_add_label c_is_high_item c_is_wide_item
 have c_look_at_items:=QgM (P:=p) (w:=w) (base:=b) (QhK X G) T c_is_set c_look_at_item
 have c_look_at_refs:=QhC (P:=p) (w:=w) (base:=b) (Qix X G) T c_refs
 have c_look:=QsK (P:=p) (w:=w) (base:=b) (QuP X G) T c_is_style c_items_of c_look_at_block c_look_at_items c_look_at_refs c_room_at_most
 have c_set_contents:=QhA (P:=p) (w:=w) (base:=b) (Qiv X G) T c_bare c_is_titled c_new_chapter c_put_block
 have c_set_items:=Qlf (P:=p) (w:=w) (base:=b) (Qmg X G) T c_end_line c_is_set c_put_word
 have c_set_block:=Qlg (P:=p) (w:=w) (base:=b) (Qmh X G) T c_new_chapter c_put_block c_put_plates
 have c_set_book:=QlW (P:=p) (w:=w) (base:=b) (Qn5 X G) T c_refs c_set_block c_set_contents c_set_items
 have c_pages_with:=Qjr (P:=p) (w:=w) (base:=b) (Qlu X G) T c_is_set
 have c_label_pages:=Qit (P:=p) (w:=w) (base:=b) (Qjx X G) T c_items_of c_label_of c_pages_with
 have c_figures_told:=QhG (P:=p) (w:=w) (base:=b) (QiB X G) T c_figures c_label_pages c_refs c_set_book
 have c_settled:=QnT (P:=p) (w:=w) (base:=b) (QpY X G) T c_figures_told
 have c_needed:=Qpp (P:=p) (w:=w) (base:=b) (Qrw X G) T c_figures_told c_look
 have c_least:=QqZ (P:=p) (w:=w) (base:=b) (Qth X G) T c_look c_refs c_settled
 have c_greatest:=Ql2 (P:=p) (w:=w) (base:=b) (Qob X G) T c_look c_refs c_room_at_most c_settled
 have c_sole:=QsI (P:=p) (w:=w) (base:=b) (QuN X G) T c_greatest c_least
 have c_Lcell_at:=Ql6 (P:=p) (w:=w) (base:=b) (Qof X G) T
 have c_Lwhole:=Qpr (P:=p) (w:=w) (base:=b) (Qry X G) T
 have c_Lmix:=QsM (P:=p) (w:=w) (base:=b) (QuR X G) T
 have c_Llabel:=Qpu (P:=p) (w:=w) (base:=b) (QrB X G) T
 have c_Lplates:=QnV (P:=p) (w:=w) (base:=b) (Qp2 X G) T
 have c_Lsigns:=Qps (P:=p) (w:=w) (base:=b) (Qrz X G) T
 have c_Latom:=Qq3 (P:=p) (w:=w) (base:=b) (Qtl X G) T c_Llabel c_Lmix c_Lplates c_Lsigns
 have c_Lpointed:=Ql4 (P:=p) (w:=w) (base:=b) (Qod X G) T c_Lmix
 have c_Lgrouped:=Ql5 (P:=p) (w:=w) (base:=b) (Qoe X G) T
 have c_Ledge:=Qq1 (P:=p) (w:=w) (base:=b) (Qtj X G) T c_Lcell_at c_Lmix
 have c_Lneeds:=Qpt (P:=p) (w:=w) (base:=b) (QrA X G) T
 have c_Lmost:=Qq0 (P:=p) (w:=w) (base:=b) (Qti X G) T
 have c_Ldrawn:=Qpv (P:=p) (w:=w) (base:=b) (QrC X G) T c_Latom c_Lcell_at c_Ledge c_Lgrouped c_Lmix c_Lmost c_Lneeds c_Lpointed
 have c_Lcopy:=Qq2 (P:=p) (w:=w) (base:=b) (Qtk X G) T
 have c_Lpointers:=Qlm (P:=p) (w:=w) (base:=b) (Qmn X G) T
 have c_Lrooms_told:=Qiu (P:=p) (w:=w) (base:=b) (Qjy X G) T c_Lwhole
 have c_Lchain:=Qpw (P:=p) (w:=w) (base:=b) (QrD X G) T
 exact Quj F T c_Lcell_at c_Lchain c_Lcopy c_Ldrawn c_Ledge c_Lmix c_Lpointers c_Lrooms_told c_greatest c_least c_needed c_sole
#print axioms PySem.Challenge.cw_leastbook_k18_whole_least_and_greatest_a_holds
