import PyProof.Rows.All
import Wide.All
import OpenK.AllK
import Wide.FinOn
import Lean
import PyProof.EqAt
import PyProof.EqKinds
import PyProof.TupleCall
import PyProof.NeKinds
import PyProof.ZipIter
import KE.KDictList
import KE.KItemsList
import PySem.Challenge.RW_leastbook_k15_pages_of_labels
set_option maxHeartbeats 4000000
set_option Elab.async false
set_option linter.all false
set_option maxRecDepth 100000
namespace L2
open PySem PySem.Spec PyProof.Rows
abbrev Key:=Sum Int Str
def keyIs:Key->Value->Bool
 | .inl k,v=>Value.isInt k v
 | .inr x,v=>Value.isStrOf x v
def keyH (w:World):Key->Int
 | .inl k=>hashInt k
 | .inr x=>hashStr w x
theorem keyIs_shape:∀ {k:Key} {v:Value},keyIs k v=true->(∃ i t,k=Sum.inl i/\v=Value.int i t)\/(∃ x t,k=Sum.inr x/\v=Value.str x t)
 | .inl i,v,h=>by
  obtain ⟨t,e⟩:=Value.isInt_shape (k:=i) (v:=v) h
  exact .inl ⟨i,t,rfl,e⟩
 | .inr x,v,h=>by
  obtain ⟨t,e⟩:=Value.isStrOf_shape (x:=x) (v:=v) h
  exact .inr ⟨x,t,rfl,e⟩
theorem keyIs_int (i:Int) (t:Tok):keyIs (.inl i) (.int i t)=true:=by simp [keyIs,Value.isInt]
theorem keyIs_str (x:Str) (t:Tok):keyIs (.inr x) (.str x t)=true:=by simp [keyIs,Value.isStrOf]
theorem key_ll (a b:Int):decide ((Sum.inl a:Key)=Sum.inl b)=(a==b):=by
 by_cases e:a=b
 ·subst e;simp
 ·have h:¬ (Sum.inl a:Key)=Sum.inl b:=fun q=>e (Sum.inl.inj q)
  rw [decide_eq_false h]
  exact (beq_eq_false_iff_ne.mpr e).symm
theorem key_rr (a b:Str):decide ((Sum.inr a:Key)=Sum.inr b)=decide (a=b):=by
 by_cases e:a=b
 ·subst e;simp
 ·have h:¬ (Sum.inr a:Key)=Sum.inr b:=fun q=>e (Sum.inr.inj q)
  rw [decide_eq_false h,decide_eq_false e]
theorem key_lr (a:Int) (b:Str):decide ((Sum.inl a:Key)=Sum.inr b)=false:=decide_eq_false (fun q=>nomatch q)
theorem key_rl (a:Str) (b:Int):decide ((Sum.inr a:Key)=Sum.inl b)=false:=decide_eq_false (fun q=>nomatch q)
def mixKind (prog:Program) (w:World):PySem.KeyKind prog w Key where
 is:=keyIs
 hash:=keyH w
 inj:=fun v a b ha hb=>by
  rcases keyIs_shape ha with ⟨i,t,rfl,rfl⟩ | ⟨x,t,rfl,rfl⟩
  ·rcases keyIs_shape hb with ⟨j,u,rfl,e⟩ | ⟨y,u,rfl,e⟩
   ·injection e with e1 _;rw [e1]
   ·exact nomatch e
  ·rcases keyIs_shape hb with ⟨j,u,rfl,e⟩ | ⟨y,u,rfl,e⟩
   ·exact nomatch e
   ·injection e with e1 _;rw [e1]
 byValue:=fun k v h=>by
  rcases keyIs_shape h with ⟨i,t,rfl,rfl⟩ | ⟨x,t,rfl,rfl⟩<;>rfl
 pyHash:=fun hv h=>by
  rcases keyIs_shape hv with ⟨i,t,rfl,rfl⟩ | ⟨x,t,rfl,rfl⟩
  ·exact wpAny_pyHash_int h
  ·exact wpAny_pyHash_str h
 eqBool:=fun hu hv h=>by
  rcases keyIs_shape hu with ⟨i,t,rfl,rfl⟩ | ⟨x,t,rfl,rfl⟩
  ·rcases keyIs_shape hv with ⟨j,u,rfl,rfl⟩ | ⟨y,u,rfl,rfl⟩
   ·rw [key_ll] at h;exact wpAny_eqBool_int h
   ·rw [key_lr] at h;exact SeqAt.EqAt.int_str i t y u _ _ _ _ h
  ·rcases keyIs_shape hv with ⟨j,u,rfl,rfl⟩ | ⟨y,u,rfl,rfl⟩
   ·rw [key_rl] at h;exact SeqAt.EqAt.str_int x t j u _ _ _ _ h
   ·rw [key_rr] at h;exact wpAny_eqBool_str h
 «strs»:=fun k x t v h=>by
  rcases keyIs_shape h with ⟨i,u,rfl,e⟩ | ⟨y,u,rfl,e⟩
  ·exact nomatch e
  ·injection e with e1 _
   subst e1
   cases v<;>rfl
theorem mixKind_int (prog:Program) (w:World) (i:Int) (t:Tok):(mixKind prog w).is (.inl i) (.int i t)=true:=keyIs_int i t
theorem mixKind_str (prog:Program) (w:World) (x:Str) (t:Tok):(mixKind prog w).is (.inr x) (.str x t)=true:=keyIs_str x t
end L2
namespace L2
open PySem PySem.Spec PyProof.Rows
inductive V where
 | non | bl (b:Bool) | int (i:Int) | str (x:Str) | byt (b:Array UInt8) | flt (b:UInt64) | ref (a:Addr) | ty (n:String)
 deriving DecidableEq
def RelV:V->Value->Prop
 | .non,u=>u=Value.none
 | .bl b,u=>u=Value.bool b
 | .int i,u=>∃ t,u=Value.int i t
 | .str x,u=>∃ t,u=Value.str x t
 | .byt b,u=>∃ t,u=Value.bytes b t
 | .flt b,u=>∃ t,u=Value.float b t
 | .ref a,u=>u=Value.ref a
 | .ty n,u=>u=Value.type n
abbrev Vals:List V->List Value->Prop:=Paired RelV
theorem Vals.length {xs:List V} {us:List Value} (r:Vals xs us):xs.length=us.length:=Paired.length r
theorem Vals.get:∀ {xs:List V} {us:List Value} {i:Nat} {x:V},Vals xs us->xs[i]?=some x->∃ u,us[i]?=some u/\RelV x u
 | _,_,_,_,.nil,e=>by simp at e
 | _,_,0,_,.cons r _,e=>by simp at e;subst e;exact ⟨_,rfl,r⟩
 | _,_,i+1,x,.cons _ t,e=>by
  obtain ⟨u,h1,h2⟩:=Vals.get (i:=i) (x:=x) t (by simpa using e)
  exact ⟨u,by simpa using h1,h2⟩
theorem Vals.set {x:V} {u:Value} (r:RelV x u):∀ {xs:List V} {us:List Value} (i:Nat),Vals xs us->Vals (xs.set i x) (us.set i u)
 | _,_,_,.nil=>.nil
 | _,_,0,.cons _ t=>.cons r t
 | _,_,i+1,.cons q t=>.cons q (Vals.set r i t)
theorem Vals.append:∀ {xs ys:List V} {us ws:List Value},Vals xs us->Vals ys ws->Vals (xs++ys) (us++ws)
 | _,_,_,_,.nil,s=>s
 | _,_,_,_,.cons r t,s=>.cons r (Vals.append t s)
theorem Vals.take:∀ {xs:List V} {us:List Value} (n:Nat),Vals xs us->Vals (xs.take n) (us.take n)
 | _,_,0,_=>.nil
 | _,_,_+1,.nil=>.nil
 | _,_,n+1,.cons r t=>.cons r (Vals.take n t)
theorem Vals.drop:∀ {xs:List V} {us:List Value} (n:Nat),Vals xs us->Vals (xs.drop n) (us.drop n)
 | _,_,0,r=>r
 | _,_,_+1,.nil=>.nil
 | _,_,n+1,.cons _ t=>Vals.drop n t
def RelO:Option V->Option Value->Prop
 | some v,some u=>RelV v u
 | none,none=>True
 | _,_=>False
def KV {κ:Type}:List (κ×V)->List (κ×Value)->Prop:=Paired fun (p:κ×V) (q:κ×Value)=>p.1=q.1/\RelV p.2 q.2
def kV:Key->V
 | .inl i=>.int i
 | .inr x=>.str x
inductive HO where
 | lst (xs:List V)
 | tup (xs:List V)
 | dK (kvs:List (Key×V)) | dT (kvs:List (List Key×V))
 | set (S:Int->Bool) (n:Nat)
 | ins (C dx:Addr) (fs:List (Str×V))
 | own (x:Addr)
 | xd (fs:List (Str×V))
 | met (f x:Addr)
 | rng (lo hi:Int)
 | frz (o:Obj) (u:HO)
 | tbl (ps:Array Value)
 | ext (φ:Heap->Prop)
abbrev Hp:=Addr->Option HO
def upd (H:Hp) (a:Addr) (o:HO):Hp:=fun b=>if b=a then some o else H b
theorem upd_same {H:Hp} {a:Addr} {o:HO}:upd H a o a=some o:=by unfold upd;rw [if_pos rfl]
theorem upd_ne {H:Hp} {a b:Addr} {o:HO} (h:b≠a):upd H a o b=H b:=by unfold upd;rw [if_neg h]
theorem ne_of {H:Hp} {a b:Addr} {o u:HO} (h:H a=some o) (h':H b=some u) (d:o≠u):a≠b:=by
 intro e;subst e;rw [h] at h';exact d (Option.some.inj h')
theorem ne_of_none {H:Hp} {a b:Addr} {o:HO} (h:H a=some o) (h':H b=none):a≠b:=by
 intro e;subst e;rw [h] at h';cases h'
section
variable (P:Program) (w:World)
def ObjOk (H:Hp) (h:Heap) (a:Addr):HO->Prop
 | .lst xs=>xs.length<=sizeLine/\∃ (its:List Value) (n:Nat),Vals xs its/\h.get? a=some { cls:=.type "list",data:=.seq its.toArray n }
 | .tup xs=>xs.length<=sizeLine/\∃ its:List Value,Vals xs its/\IsTup h a its.toArray
 | .dK kvs=>kvs.length<=sizeLine/\(a==sysModules)=false/\∃ vs,KV kvs vs/\h.DictOf (mixKind P w) a vs
 | .dT kvs=>kvs.length<=sizeLine/\(a==sysModules)=false/\∃ xs:List (List Key×Addr×Value),
   Paired (fun (p:List Key×V) (q:List Key×Addr×Value)=>p.1=q.1/\H q.2.1=some (.tup (p.1.map kV))/\RelV p.2 q.2.2) kvs xs /\
   ∃ o es ep,h.get? a=some o/\o.ExactDict/\o.data=.dict es ep/\es.toList=xs.map (entryOfKey (tupleKind (mixKind P w)))/\(xs.map (·.1)).Nodup
 | .set S n=>h.SetOf (intKind P w) a S n
 | .ins C dx fs=>H dx=some (.own a)/\fs.length<=1000/\dx≠a/\h.get? a=some (PySem.W.instObj C dx) /\
   ∃ mA,h.Ns1 dx mA/\(∀ f,RelO (fs.lookup f) (mA f))/\PySem.Within mA (fs.map (·.1))
 | .own _=>∃ o,h.get? a=some o
 | .xd fs=>∃ mA,h.Ns1 a mA/\∀ f,RelO (fs.lookup f) (mA f)
 | .rng lo hi=>∃ t u v,h.get? a=some { cls:=.type "range",data:=.fields #[.int lo t,.int hi u,.int 1 v] }
 | .frz o u=>h.get? a=some o/\ObjOk H h a u
 | .tbl ps=>h.get? a=some { cls:=.none,data:=.fields ps }
 | .met f x=>h.get? a=some (PySem.W.methodObj (.ref f) (.ref x))
 | .ext φ=>φ h/\(∃ o,h.get? a=some o)/\∀ h1 h2:Heap,φ h1->(∀ o,h1.get? a=some o->h2.get? a=some o)->φ h2
def HOk (H:Hp) (h:Heap):Prop:=∀ a o,H a=some o->ObjOk P w H h a o
end
section
variable {P:Program} {w:World} {H H':Hp} {h h':Heap} {a:Addr} {o:HO}
theorem ObjOk.lt (x:ObjOk P w H h a o):a<h.objs.size:=by
 cases o with
 | lst xs=>obtain ⟨_,_,_,_,e⟩:=x;exact Heap.lt_size e
 | tup xs=>obtain ⟨_,_,_,p⟩:=x;exact p.lt
 | dK kvs=>obtain ⟨_,_,_,_,o,_,_,e,_⟩:=x;exact Heap.lt_size e
 | dT kvs=>obtain ⟨_,_,_,_,o,_,_,e,_⟩:=x;exact Heap.lt_size e
 | set S n=>obtain ⟨o,_,_,_,e,_⟩:=x;exact Heap.lt_size e
 | ins C dx fs=>obtain ⟨_,_,_,e,_⟩:=x;exact Heap.lt_size e
 | own y=>obtain ⟨_,e⟩:=x;exact Heap.lt_size e
 | xd fs=>obtain ⟨_,⟨_,_,_,e,_⟩,_⟩:=x;exact Heap.lt_size e
 | rng lo hi=>obtain ⟨_,_,_,e⟩:=x;exact Heap.lt_size e
 | frz ob u=>obtain ⟨e,_⟩:=x;exact Heap.lt_size e
 | tbl ps=>exact Heap.lt_size (show h.get? a=some _ from x)
 | met f y=>exact Heap.lt_size (show h.get? a=some _ from x)
 | ext φ=>obtain ⟨_,⟨_,e⟩,_⟩:=x;exact Heap.lt_size e
theorem Paired.mapP {α β:Type} {F G:α->β->Prop}:∀ {l₁:List α} {l₂:List β},Paired F l₁ l₂->(∀ a b,F a b->G a b)->Paired G l₁ l₂
 | _,_,.nil,_=>.nil
 | _,_,.cons r t,f=>.cons (f _ _ r) (Paired.mapP t f)
theorem ObjOk.stay (x:ObjOk P w H h a o) (k:∀ b u,(b=a\/H b=some (.own a))->h.get? b=some u->h'.get? b=some u)
  (ho:∀ b,H b=some (.own a)->H' b=some (.own a)) (ht:∀ b xs,H b=some (.tup xs)->H' b=some (.tup xs)):ObjOk P w H' h' a o:=by
 induction o with
 | lst xs=>obtain ⟨z,its,n,r,e⟩:=x;exact ⟨z,its,n,r,k _ _ (.inl rfl) e⟩
 | tup xs=>obtain ⟨z,its,r,ob,e,c⟩:=x;exact ⟨z,its,r,ob,k _ _ (.inl rfl) e,c⟩
 | dK kvs=>obtain ⟨z,y,vs,r,ob,es,ep,e,c⟩:=x;exact ⟨z,y,vs,r,ob,es,ep,k _ _ (.inl rfl) e,c⟩
 | dT kvs =>
  obtain ⟨z,y,xs,r,ob,es,ep,e,c⟩:=x
  exact ⟨z,y,xs,Paired.mapP r fun p q z=>⟨z.1,ht _ _ z.2.1,z.2.2⟩,ob,es,ep,k _ _ (.inl rfl) e,c⟩
 | set S n=>obtain ⟨ob,es,ep,t,e,c⟩:=x;exact ⟨ob,es,ep,t,k _ _ (.inl rfl) e,c⟩
 | ins C dx fs =>
  obtain ⟨d,z,ne,e,mA,⟨od,es,ep,e2,c⟩,r⟩:=x
  exact ⟨ho _ d,z,ne,k _ _ (.inl rfl) e,mA,⟨od,es,ep,k _ _ (.inr d) e2,c⟩,r⟩
 | own y=>obtain ⟨ob,e⟩:=x;exact ⟨ob,k _ _ (.inl rfl) e⟩
 | xd fs=>obtain ⟨mA,⟨od,es,ep,e,c⟩,r⟩:=x;exact ⟨mA,⟨od,es,ep,k _ _ (.inl rfl) e,c⟩,r⟩
 | rng lo hi=>obtain ⟨t,u,v,e⟩:=x;exact ⟨t,u,v,k _ _ (.inl rfl) e⟩
 | frz ob u ih=>obtain ⟨e,q⟩:=x;exact ⟨k _ _ (.inl rfl) e,ih q⟩
 | tbl ps =>
  have e:h.get? a=some { cls:=.none,data:=.fields ps }:=x
  show h'.get? a=some { cls:=.none,data:=.fields ps }
  exact k a _ (.inl rfl) e
 | met f y =>
  have e:h.get? a=some (PySem.W.methodObj (.ref f) (.ref y)):=x
  show h'.get? a=some (PySem.W.methodObj (.ref f) (.ref y))
  exact k a _ (.inl rfl) e
 | ext φ=>obtain ⟨p,⟨o,e⟩,st⟩:=x;exact ⟨st _ _ p fun o q=>k _ _ (.inl rfl) q,⟨o,k _ _ (.inl rfl) e⟩,st⟩
theorem HOk.lt (x:HOk P w H h) (e:H a=some o):a<h.objs.size:=(x a o e).lt
theorem HOk.fresh (x:HOk P w H h) (e:h.objs.size<=a):H a=none:=by
 cases q:H a with
 | none=>rfl
 | some u=>exact absurd (Nat.lt_of_lt_of_le (x.lt q) e) (Nat.lt_irrefl _)
theorem HOk.kept (x:HOk P w H h) (k:∀ b u,h.get? b=some u->h'.get? b=some u):HOk P w H h':=fun a o e =>
 (x a o e).stay (fun b u _ q=>k b u q) (fun _ q=>q) fun _ _ q=>q
theorem HOk.laid (x:HOk P w H h) (k:∀ b u,h.get? b=some u->h'.get? b=some u) (hp:h.objs.size<=a) (new:ObjOk P w (upd H a o) h' a o):HOk P w (upd H a o) h':=fun b u e=>by
 have hn:=x.fresh hp
 by_cases hb:b=a
 ·subst hb;rw [upd_same] at e;cases e;exact new
 ·rw [upd_ne hb] at e
  exact (x b u e).stay (fun c v _ q=>k c v q) (fun c q=>by rw [upd_ne (ne_of_none q hn)];exact q) fun c xs q=>by rw [upd_ne (ne_of_none q hn)];exact q
end
def Rd (H:Hp) (a:Addr) (u:HO):Prop:=H a=some u\/∃ o,H a=some (.frz o u)
theorem Rd.of {H:Hp} {a:Addr} {u:HO} (h:H a=some u):Rd H a u:=.inl h
theorem Rd.ok {P:Program} {w:World} {H:Hp} {h:Heap} {a:Addr} {u:HO} (r:Rd H a u) (x:HOk P w H h):ObjOk P w H h a u:=by
 rcases r with r | ⟨o,r⟩
 ·exact x a u r
 ·obtain ⟨_,q⟩:=x a _ r
  exact q
def Mut:Option HO->Prop
 | some (.lst _)=>True
 | some (.dK _)=>True
 | some (.dT _)=>True
 | some (.set _ _)=>True
 | some (.ins _ _ _)=>True
 | some (.ext _)=>True
 | _=>False
section
variable {P:Program} {w:World} {H:Hp} {h h':Heap} {x e:Addr} {o':HO}
theorem HOk.write (ok:HOk P w H h) (mu:Mut (H x)) (he:e=x\/H e=some (.own x)) (k:∀ b u,b≠e->h.get? b=some u->h'.get? b=some u) (heo:∃ u,h'.get? e=some u)
  (new:ObjOk P w (upd H x o') h' x o'):HOk P w (upd H x o') h':=fun b u q=>by
 have nown:∀ c y,H c=some (.own y)->c≠x:=fun c y r z=>by subst z;rw [r] at mu;exact mu
 have ntup:∀ c xs,H c=some (.tup xs)->c≠x:=fun c xs r z=>by subst z;rw [r] at mu;exact mu
 by_cases hb:b=x
 ·subst hb;rw [upd_same] at q;cases q;exact new
 ·rw [upd_ne hb] at q
  by_cases hbe:b=e
  ·have q':H b=some (.own x):=by
    rcases he with z | z
    ·exact absurd (hbe.trans z) hb
    ·rw [hbe];exact z
   rw [q] at q';cases q'
   obtain ⟨v,hv⟩:=heo
   exact ⟨v,by rw [hbe];exact hv⟩
  ·refine (ok b u q).stay (fun c v hc r=>k c v ?_ r) (fun c r=>by rw [upd_ne (nown c b r)];exact r) fun c xs r=>by rw [upd_ne (ntup c xs r)];exact r
   rcases hc with rfl | hc
   ·exact hbe
   ·rintro rfl
    rcases he with z | z
    ·exact nown c b hc z
    ·rw [hc] at z;cases z;exact hb rfl
end
structure Un (fs ex:List Addr) (H H':Hp) (h h':Heap):Prop where
 keep:∀ b o,h.get? b=some o->H b=none->b∉fs->b∉ex->h'.get? b=some o
 slot:∀ b o,h.get? b=some o->H b=none->b∈fs->b∉ex->∃ sl,h'.get? b=some { o with slots:=sl }
 free:∀ b o,h.get? b=some o->H b=none->b∉ex->H' b=none
 there:∀ b o,h.get? b=some o->b∉ex->∃ o',h'.get? b=some o'
 tups:∀ b xs,H b=some (.tup xs)->H' b=some (.tup xs)
 frzs:∀ b o u,H b=some (.frz o u)->H' b=some (.frz o u)
 tbls:∀ b ps,H b=some (.tbl ps)->∃ more,H' b=some (.tbl (ps++more))
section
variable {fs fs' ex ex':List Addr} {H H1 H2:Hp} {h h1 h2 h':Heap} {a x e:Addr} {o:HO}
theorem Un.any (u:Un fs ex H H1 h h1) {b:Addr} {ob:Obj} (q:h.get? b=some ob) (n:H b=none) (hx:b∉ex):∃ sl,h1.get? b=some { ob with slots:=sl }:=by
 by_cases hb:b∈fs
 ·exact u.slot b ob q n hb hx
 ·exact ⟨ob.slots,u.keep b ob q n hb hx⟩
theorem Un.trans (a:Un fs ex H H1 h h1) (b:Un fs ex H1 H2 h1 h2):Un fs ex H H2 h h2 where
 keep:=fun c ob q n hc hx=>b.keep c ob (a.keep c ob q n hc hx) (a.free c ob q n hx) hc hx
 slot:=fun c ob q n hc hx=>by
  obtain ⟨sl,e1⟩:=a.slot c ob q n hc hx
  obtain ⟨sl',e2⟩:=b.slot c _ e1 (a.free c ob q n hx) hc hx
  exact ⟨sl',e2⟩
 free:=fun c ob q n hx=>by
  obtain ⟨o',e1⟩:=a.there c ob q hx
  exact b.free c o' e1 (a.free c ob q n hx) hx
 there:=fun c ob q hx=>by
  obtain ⟨o',e1⟩:=a.there c ob q hx
  exact b.there c o' e1 hx
 tups:=fun c xs q=>b.tups c xs (a.tups c xs q)
 frzs:=fun c ob xs q=>b.frzs c ob xs (a.frzs c ob xs q)
 tbls:=fun c ps q=>by
  obtain ⟨m1,e1⟩:=a.tbls c ps q
  obtain ⟨m2,e2⟩:=b.tbls c _ e1
  exact ⟨m1++m2,by rw [e2,Array.append_assoc]⟩
theorem Un.kept (k:∀ b u,h.get? b=some u->h'.get? b=some u):Un fs ex H H h h' :=
 ⟨fun b ob q _ _ _=>k b ob q,fun b ob q _ _ _=>⟨ob.slots,k b ob q⟩,fun _ _ _ n _=>n,fun b ob q _=>⟨ob,k b ob q⟩,fun _ _ q=>q,fun _ _ _ q=>q,fun _ ps q=>⟨#[],by rw [q];simp⟩⟩
theorem Un.refl:Un fs ex H H h h:=Un.kept fun _ _ q=>q
theorem Un.laid (k:∀ b u,h.get? b=some u->h'.get? b=some u) (hp:h.objs.size<=a) (hn:H a=none):Un fs ex H (upd H a o) h h' where
 keep:=fun b u q _ _ _=>k b u q
 slot:=fun b u q _ _ _=>⟨u.slots,k b u q⟩
 free:=fun b u q n _=>by rw [upd_ne (Nat.ne_of_lt (Nat.lt_of_lt_of_le (Heap.lt_size q) hp))];exact n
 there:=fun b u q _=>⟨u,k b u q⟩
 tups:=fun b xs q=>by rw [upd_ne (ne_of_none q hn)];exact q
 frzs:=fun b u xs q=>by rw [upd_ne (ne_of_none q hn)];exact q
 tbls:=fun b ps q=>⟨#[],by rw [upd_ne (ne_of_none q hn),q];simp⟩
theorem Un.write (mu:Mut (H x)) (he:e=x\/H e=some (.own x)) (k:∀ b u,b≠e->h.get? b=some u->h'.get? b=some u) (heo:∃ u,h'.get? e=some u):Un fs ex H (upd H x o) h h':=by
 have hx:∀ b,H b=none->b≠x:=fun b n z=>by subst z;rw [n] at mu;exact mu
 have hb:∀ b,H b=none->b≠e:=fun b n z=>by
  subst z
  rcases he with r | r
  ·exact hx b n r
  ·rw [n] at r;cases r
 have hm:∀ b u,H b=some u->¬ Mut (some u)->b≠x:=fun b u q nm z=>by subst z;rw [q] at mu;exact nm mu
 refine ⟨fun b u q n _ _=>k b u (hb b n) q,fun b u q n _ _=>⟨u.slots,k b u (hb b n) q⟩,fun b u q n _=>by rw [upd_ne (hx b n)];exact n,fun b u q _=>?_,
  fun b xs q=>by rw [upd_ne (hm b _ q fun z=>z)];exact q,fun b u xs q=>by rw [upd_ne (hm b _ q fun z=>z)];exact q,fun b ps q=>⟨#[],by rw [upd_ne (hm b _ q fun z=>z),q];simp⟩⟩
 by_cases hbe:b=e
 ·subst hbe;exact heo
 ·exact ⟨u,k b u hbe q⟩
theorem Un.mono (u:Un fs ex H H1 h h1) (hs:∀ b∈fs,b∈fs') (hx:∀ b∈ex,b∈ex'):Un fs' ex' H H1 h h1 :=
 ⟨fun b ob q n hb he=>u.keep b ob q n (fun z=>hb (hs b z)) fun z=>he (hx b z),fun _ _ q n _ he=>u.any q n fun z=>he (hx _ z),fun b ob q n he=>u.free b ob q n fun z=>he (hx b z),fun b ob q he=>u.there b ob q fun z=>he (hx b z),u.tups,u.frzs,u.tbls⟩
end
def trk (h:Heap) (H:Hp):List Addr:=(List.range h.objs.size).filter fun a=>(H a).isSome
def hidT (h:Heap) (H:Hp):Heap:=PySem.W.hideAll h (trk h H)
theorem hidT_size (h:Heap) (H:Hp):(hidT h H).objs.size=h.objs.size:=PySem.W.hideAll_size _ _
theorem hidT_get {h:Heap} {H:Hp} {b:Addr} {o:Obj} (e:h.get? b=some o) (n:H b=none):(hidT h H).get? b=some o :=
 PySem.W.hideAll_get _ e fun hm=>by
  have q:(H b).isSome=true:=(List.mem_filter.mp hm).2
  rw [n] at q;simp at q
theorem of_hidT {h:Heap} {H:Hp} {b:Addr} {o:Obj} (e:(hidT h H).get? b=some o):h.get? b=some o/\H b=none:=by
 have e':h.get? b=some o:=PySem.W.of_hideAll (trk h H) e
 refine ⟨e',?_⟩
 cases q:H b with
 | none=>rfl
 | some x =>
  have hm:b∈trk h H:=List.mem_filter.mpr ⟨List.mem_range.mpr (Heap.lt_size e'),by simp [q]⟩
  have z:(hidT h H).get? b=none:=PySem.W.hideAll_none (trk h H) hm
  rw [z] at e;cases e
def allNews (g h:Heap) (L:Addr):List (Addr×Obj):=(List.range h.objs.size).filterMap fun a=>if a=L\/(g.get? a).isSome=true then none else (h.get? a).map fun o=>(a,o)
def rest (g h:Heap) (L d:Addr):List (Addr×Obj):=(allNews g h L).filter fun p=>decide (p.1≠d)
end L2
namespace L2
open PySem PySem.Spec PyProof.Rows
structure Mod (K:PySem.W.Frag) (mg:Str->Option Value) (base:Heap):Prop where
 kin:K.In base
 glob:base.Ns mainGlobals mg
 blt:∃ mb,base.Ns builtinsNs mb/\∀ x:Str,x≠"__name__"->mb x=bootBuiltins x
 nolimit:base.NoLimit
structure Cx where
 prog:Program
 w:World
 K:PySem.W.Frag
 mg:Str->Option Value
 base:Heap
 A:Around
 N:List Str
 s₀:Shared
 H₀:Hp
 env:Env
 outer:List Env
 stack:List Env
 ex:List Addr
 fn:Str->Bool
 calm:Bool
 pn:List (Addr×Obj)
 xe:Value->Shared->Prop
def frs (l:List Env):List Addr:=l.filterMap (·.frame)
abbrev Cx.fs (X:Cx):List Addr:=frs X.outer
def Vis (sc:Scope) (x:Str):Prop:=sc.names.lookup x=some .local\/sc.names.lookup x=some .cell\/sc.names.lookup x=some .free
def Loc (sc:Scope) (x:Str):Prop:=sc.names.lookup x=some .local\/sc.names.lookup x=some .cell
def Look (env:Env) (h:Heap) (m:Str->Option Value) (x:Str) (u:Value):Prop :=
 (env.kindOf x=some .local/\m x=some u)\/((env.kindOf x=some .cell\/env.kindOf x=some .free)/\∃ c,env.cells.lookup x=some c/\h.IsCell c (some u))
structure Cx.Ok (X:Cx):Prop where
 mod:Mod X.K X.mg X.base
 kind:X.env.scope.kind=.function
 glob:X.env.globals=mainGlobals
 blt:X.env.builtins=builtinsNs
 above:X.s₀.heap.objs.size<=X.env.locals
 inj:∀ x y c,X.env.cells.lookup x=some c->X.env.cells.lookup y=some c->x=y
 has:∀ x,(X.env.kindOf x=some .cell\/X.env.kindOf x=some .free)->∃ c,X.env.cells.lookup x=some c
 cab:∀ x c,X.fn x=true->X.env.cells.lookup x=some c->X.s₀.heap.objs.size<=c
 hd:X.calm=true->X.A.handled=none
 frames:X.A.frames=some X.stack
 stk:X.stack=X.outer\/(X.stack=X.env::X.outer/\X.env.frame=some X.env.locals)
 exf:∀ b∈X.ex,b≠X.env.locals/\∀ x c,X.env.cells.lookup x=some c->c≠b
 bs:∀ b o,X.base.get? b=some o->X.s₀.heap.get? b=some o/\X.H₀ b=none
 bsz:X.base.objs.size<=X.s₀.heap.objs.size
 noex:∀ b o,X.base.get? b=some o->b∉X.ex
 exfs:∀ b∈X.ex,b∉X.fs
 funs:X.s₀.heap.FunFrames X.base X.outer
 frf:∀ b∈X.fs,X.H₀ b=none
structure Inv (X:Cx) (pins:List (Addr×Obj)) (σ:List (Option V)) (H:Hp) (s:Shared):Prop where
 ok:X.Ok
 os:s.os=X.s₀.os
 bare:AllBare s.gens
 base:Un X.fs X.ex X.H₀ H X.s₀.heap s.heap
 loc:∃ m,s.heap.Ns X.env.locals m/\∀ (i:Nat) (x:Str) (v:V),X.N[i]?=some x->σ[i]?=some (some v)->Vis X.env.scope x->∃ u,RelV v u/\Look X.env s.heap m x u
 cell:∀ x c,X.env.cells.lookup x=some c->∃ v,s.heap.IsCell c v
 free:H X.env.locals=none
 freeC:∀ x c,X.env.cells.lookup x=some c->H c=none
 pin:∀ p∈X.pn++pins,s.heap.get? p.1=some p.2/\H p.1=none/\p.1≠X.env.locals/\p.1∉X.fs/\∀ v,p.2.data≠.cell v
 hok:HOk X.prog X.w H s.heap
 len:σ.length=X.N.length
section
variable {X:Cx} {pins:List (Addr×Obj)} {σ:List (Option V)} {H H':Hp} {s:Shared} {h':Heap}
theorem Cx.Ok.nofr (ok:X.Ok) {b:Addr} {o:Obj} (e:X.base.get? b=some o):b∉X.fs:=fun hb=>by
 have:=(ok.funs.mem hb).1
 rw [e] at this;cases this
theorem Inv.bs (I:Inv X pins σ H s):∀ b o,X.base.get? b=some o->s.heap.get? b=some o/\H b=none:=fun b o e =>
 ⟨I.base.keep b o (I.ok.bs b o e).1 (I.ok.bs b o e).2 (I.ok.nofr e) (I.ok.noex b o e),I.base.free b o (I.ok.bs b o e).1 (I.ok.bs b o e).2 (I.ok.noex b o e)⟩
theorem Inv.bk (I:Inv X pins σ H s):∀ b o,X.base.get? b=some o->s.heap.get? b=some o:=fun b o e=>(I.bs b o e).1
theorem Inv.mod (I:Inv X pins σ H s):Mod X.K X.mg X.base:=I.ok.mod
theorem Inv.kIn (I:Inv X pins σ H s):X.K.In s.heap:=I.ok.mod.kin.keeps I.bk
theorem Inv.nolimit (I:Inv X pins σ H s):s.heap.NoLimit:=I.ok.mod.nolimit.keeps I.bk
theorem Inv.fr (I:Inv X pins σ H s):∃ m,Fr X.base X.env.locals s.heap m :=
 let ⟨m,hn,_⟩:=I.loc
 ⟨m,hn,I.bk,Nat.le_trans I.ok.bsz I.ok.above⟩
theorem Inv.lt (I:Inv X pins σ H s):X.env.locals<s.heap.objs.size:=let ⟨_,hn,_⟩:=I.loc;hn.lt
theorem Inv.sz (I:Inv X pins σ H s):X.s₀.heap.objs.size<=s.heap.objs.size:=Nat.le_trans I.ok.above (Nat.le_of_lt I.lt)
theorem Inv.nofs (I:Inv X pins σ H s) {a:Addr} (h:s.heap.objs.size<=a):a∉X.fs:=fun hb=>by
 obtain ⟨_,o,ho,_⟩:=I.ok.funs.mem hb
 exact absurd (Nat.lt_of_lt_of_le (Heap.lt_size ho) (Nat.le_trans I.sz h)) (Nat.lt_irrefl _)
theorem Inv.cne (I:Inv X pins σ H s):∀ x c,X.env.cells.lookup x=some c->c≠X.env.locals:=fun x c e z=>by
 obtain ⟨v,o,ho,hd⟩:=I.cell x c e
 obtain ⟨m,⟨o',es,ep,ho',hd',_⟩,_⟩:=I.loc
 rw [z,ho'] at ho;cases ho;rw [hd'] at hd;cases hd
theorem Inv.funs (I:Inv X pins σ H s):s.heap.FunFrames X.base X.outer:=by
 have all:∀ (l:List Env),(∀ b∈frs l,b∈X.fs)->X.s₀.heap.FunFrames X.base l->s.heap.FunFrames X.base l:=by
  intro l
  induction l with
  | nil=>intro _ _;trivial
  | cons env r ih =>
   intro hs hl
   obtain ⟨hk,⟨L,o,hf,hn,ho,hd⟩,hr⟩:=hl
   have hL:L∈X.fs:=hs L (by unfold frs;rw [List.filterMap_cons,hf];exact List.mem_cons_self)
   obtain ⟨sl,e⟩:=I.base.slot L o ho (I.ok.frf L hL) hL fun z=>I.ok.exfs L z hL
   exact ⟨hk,⟨L,_,hf,hn,e,hd⟩,ih (fun b hb=>hs b (by unfold frs;rw [List.filterMap_cons,hf];exact List.mem_cons_of_mem _ hb)) hr⟩
 exact all X.outer (fun _ hb=>hb) I.ok.funs
theorem Inv.stack (I:Inv X pins σ H s):s.heap.FunFrames X.base X.stack:=by
 rcases I.ok.stk with e | ⟨e,hf⟩
 ·rw [e];exact I.funs
 ·rw [e]
  obtain ⟨m,hn,_⟩:=I.loc
  refine .cons (by rw [I.ok.kind];decide) hf hn ?_ I.funs
  exact Heap.get?_none_of_le (Nat.le_trans I.ok.bsz I.ok.above)
theorem Inv.stkSub (I:Inv X pins σ H s):∀ b∈frs X.stack,b∈X.env.locals::X.fs:=fun b hb=>by
 rcases I.ok.stk with e | ⟨e,hf⟩
 ·rw [e] at hb;exact List.mem_cons_of_mem _ hb
 ·rw [e] at hb
  unfold frs at hb
  rw [List.filterMap_cons,hf] at hb
  exact hb
theorem Inv.stkFree (I:Inv X pins σ H s):∀ b∈frs X.stack,H b=none:=fun b hb=>by
 rcases List.mem_cons.mp (I.stkSub b hb) with e | hb
 ·rw [e];exact I.free
 ·obtain ⟨_,o,ho,_⟩:=I.ok.funs.mem hb
  exact I.base.free b o ho (I.ok.frf b hb) fun z=>I.ok.exfs b z hb
theorem Inv.step {g':Array GenState} {t':Nat} {d':Drawn} {ch:List Addr} (I:Inv X pins σ H s)
  (hch:∀ b∈ch,(b∈X.ex\/X.s₀.heap.objs.size<=b)/\b≠X.env.locals/\(∀ x c,X.env.cells.lookup x=some c->c≠b)/\∀ p∈X.pn++pins,p.1≠b)
  (keep:∀ b o,b≠X.env.locals->b∉X.fs->b∉ch->s.heap.get? b=some o->H b=none->h'.get? b=some o)
  (slot:∀ b o,b≠X.env.locals->b∈X.fs->b∉ch->s.heap.get? b=some o->H b=none->∃ sl,h'.get? b=some { o with slots:=sl }) (free:∀ b o,b∉ch->s.heap.get? b=some o->H b=none->H' b=none)
  (there:∀ b o,b∉ch->s.heap.get? b=some o->∃ o',h'.get? b=some o')
  (tups:∀ b xs,H b=some (.tup xs)->H' b=some (.tup xs)) (frzs:∀ b o u,H b=some (.frz o u)->H' b=some (.frz o u)) (tbls:∀ b ps,H b=some (.tbl ps)->∃ more,H' b=some (.tbl (ps++more)))
  (ns:∀ m,s.heap.Ns X.env.locals m->h'.Ns X.env.locals m) (hok:HOk X.prog X.w H' h') (hg:AllBare g') :
  Inv X pins σ H' { s with heap:=h',gens:=g',drawn:=d',toks:=t' }:=by
 have neL:∀ b o,X.s₀.heap.get? b=some o->b≠X.env.locals:=fun b o e=>Nat.ne_of_lt (Nat.lt_of_lt_of_le (Heap.lt_size e) I.ok.above)
 have neC:∀ b o,X.s₀.heap.get? b=some o->b∉X.ex->b∉ch:=fun b o e hx hb=>by
  rcases (hch b hb).1 with z | z
  ·exact hx z
  ·exact absurd (Nat.lt_of_lt_of_le (Heap.lt_size e) z) (Nat.lt_irrefl _)
 have cellK:∀ x c,X.env.cells.lookup x=some c->∀ v,s.heap.IsCell c v->h'.IsCell c v:=fun x c e v ⟨o,ho,hd⟩=>by
  have nch:c∉ch:=fun z=>(hch c z).2.2.1 x c e rfl
  by_cases hc:c∈X.fs
  ·obtain ⟨sl,q⟩:=slot c o (I.cne x c e) hc nch ho (I.freeC x c e)
   exact ⟨_,q,hd⟩
  ·exact ⟨o,keep c o (I.cne x c e) hc nch ho (I.freeC x c e),hd⟩
 refine ⟨I.ok,I.os,hg,⟨fun b o e n hb hx=>?_,fun b o e n hb hx=>?_,fun b o e n hx=>?_,fun b o e hx=>?_,fun b xs e=>tups b xs (I.base.tups b xs e),fun b o xs e=>frzs b o xs (I.base.frzs b o xs e),fun b ps e=>?_⟩,?_,fun x c e=>?_,?_,fun x c e=>?_,fun p hp=>?_,hok,I.len⟩
 ·exact keep b o (neL b o e) hb (neC b o e hx) (I.base.keep b o e n hb hx) (I.base.free b o e n hx)
 ·obtain ⟨sl,e1⟩:=I.base.slot b o e n hb hx
  obtain ⟨sl',e2⟩:=slot b _ (neL b o e) hb (neC b o e hx) e1 (I.base.free b o e n hx)
  exact ⟨sl',e2⟩
 ·obtain ⟨o',e1⟩:=I.base.there b o e hx
  exact free b o' (neC b o e hx) e1 (I.base.free b o e n hx)
 ·obtain ⟨o',e1⟩:=I.base.there b o e hx
  exact there b o' (neC b o e hx) e1
 ·obtain ⟨m1,e1⟩:=I.base.tbls b ps e
  obtain ⟨m2,e2⟩:=tbls b _ e1
  exact ⟨m1++m2,by rw [e2,Array.append_assoc]⟩
 ·obtain ⟨m,hn,hl⟩:=I.loc
  refine ⟨m,ns m hn,fun i x v e1 e2 e3=>?_⟩
  obtain ⟨u,r,l⟩:=hl i x v e1 e2 e3
  refine ⟨u,r,?_⟩
  rcases l with l | ⟨k,c,e,z⟩
  ·exact .inl l
  ·exact .inr ⟨k,c,e,cellK x c e _ z⟩
 ·obtain ⟨v,z⟩:=I.cell x c e
  exact ⟨v,cellK x c e v z⟩
 ·obtain ⟨m,⟨o,_,_,ho,_⟩,_⟩:=I.loc
  exact free _ o (fun z=>(hch _ z).2.1 rfl) ho I.free
 ·obtain ⟨v,o,ho,hd⟩:=I.cell x c e
  exact free c o (fun z=>(hch c z).2.2.1 x c e rfl) ho (I.freeC x c e)
 ·obtain ⟨e,n,ne,nf,d⟩:=I.pin p hp
  have nch:p.1∉ch:=fun z=>(hch p.1 z).2.2.2 p hp rfl
  exact ⟨keep p.1 p.2 ne nf nch e n,free p.1 p.2 nch e n,ne,nf,d⟩
theorem Inv.un {t':Nat} (I:Inv X pins σ H s) (u:Un X.fs [] H H' s.heap h') (hok:HOk X.prog X.w H' h'):Inv X pins σ H' { s with heap:=h',toks:=t' }:=by
 obtain ⟨m,⟨o,es,ep,ho,r⟩,_⟩:=id I.loc
 obtain ⟨sl,hL⟩:=u.any ho I.free (by simp)
 exact I.step (g':=s.gens) (d':=s.drawn) (ch:=[]) (fun _ z=>nomatch z) (fun b o _ hb _ e n=>u.keep b o e n hb (by simp)) (fun b o _ hb _ e n=>u.slot b o e n hb (by simp)) (fun b o _ e n=>u.free b o e n (by simp)) (fun b o _ e=>u.there b o e (by simp)) u.tups u.frzs u.tbls (fun m' hm=>by
  obtain ⟨o',es',ep',ho',r'⟩:=hm
  rw [ho] at ho';cases ho'
  exact ⟨_,es',ep',hL,r'⟩) hok I.bare
theorem Inv.call {g':Array GenState} {t':Nat} {d':Drawn} {ch:List Addr} (I:Inv X pins σ H s) (u:Un (frs X.stack) ch H H' s.heap h') (hok:HOk X.prog X.w H' h') (hg:AllBare g')
  (hch:∀ b∈ch,(b∈X.ex\/X.s₀.heap.objs.size<=b)/\b≠X.env.locals/\(∀ x c,X.env.cells.lookup x=some c->c≠b)/\∀ p∈X.pn++pins,p.1≠b) :
  Inv X pins σ H' { s with heap:=h',gens:=g',drawn:=d',toks:=t' }:=by
 obtain ⟨m,⟨o,es,ep,ho,r⟩,_⟩:=id I.loc
 obtain ⟨sl,hL⟩:=u.any ho I.free fun z=>(hch _ z).2.1 rfl
 exact I.step (ch:=ch) hch (fun b o hL hb hc e n=>u.keep b o e n (fun z=>(List.mem_cons.mp (I.stkSub b z)).elim hL hb) hc) (fun b o _ _ hc e n=>u.any e n hc) (fun b o hc e n=>u.free b o e n hc) (fun b o hc e=>u.there b o e hc) u.tups u.frzs u.tbls (fun m' hm=>by
  obtain ⟨o',es',ep',ho',r'⟩:=hm
  rw [ho] at ho';cases ho'
  exact ⟨_,es',ep',hL,r'⟩) hok hg
theorem Inv.turned {t':Nat} {it:Addr} (I:Inv X pins σ H s) (k:∀ b o,b≠it->s.heap.get? b=some o->h'.get? b=some o) (hn:H it=none) (hL:it≠X.env.locals)
  (h1:it∈X.ex\/X.s₀.heap.objs.size<=it) (h2:∀ x c,X.env.cells.lookup x=some c->c≠it) (h3:∀ p∈X.pn++pins,p.1≠it):Inv X pins σ H { s with heap:=h',toks:=t' }:=by
 have nit:∀ b u,H b=some u->b≠it:=fun b u e z=>by rw [z,hn] at e;cases e
 refine I.step (g':=s.gens) (d':=s.drawn) (ch:=[it]) (fun b hb=>?_) (fun b o _ _ hc e _=>k b o (fun z=>hc (by simp [z])) e) (fun b o _ _ hc e _=>⟨o.slots,k b o (fun z=>hc (by simp [z])) e⟩) (fun _ _ _ _ n=>n)
  (fun b o hc e=>⟨o,k b o (fun z=>hc (by simp [z])) e⟩) (fun _ _ e=>e) (fun _ _ _ e=>e) (fun b ps e=>⟨#[],by rw [e];simp⟩) (fun m hm=>?_) (fun b u e=>?_) I.bare
 ·have e:b=it:=by simpa using hb
  subst e
  exact ⟨h1,hL,h2,h3⟩
 ·obtain ⟨o,es,ep,ho,r⟩:=hm
  exact ⟨o,es,ep,k _ o (Ne.symm hL) ho,r⟩
 ·refine (I.hok b u e).stay (fun c v hc q=>k c v ?_ q) (fun _ q=>q) fun _ _ q=>q
  rcases hc with z | z
  ·rw [z];exact nit b u e
  ·exact nit c _ z
theorem Inv.tok (I:Inv X pins σ H s) (t:Nat):Inv X pins σ H { s with toks:=t }:=I.un (h':=s.heap) (t':=t) Un.refl I.hok
theorem Inv.kept {t':Nat} (I:Inv X pins σ H s) (k:∀ b u,s.heap.get? b=some u->h'.get? b=some u):Inv X pins σ H { s with heap:=h',toks:=t' }:=I.un (Un.kept k) (I.hok.kept k)
theorem Inv.laid {a:Addr} {o:HO} {t':Nat} (I:Inv X pins σ H s) (k:∀ b u,s.heap.get? b=some u->h'.get? b=some u) (hp:s.heap.objs.size<=a) (new:ObjOk X.prog X.w (upd H a o) h' a o) :
  Inv X pins σ (upd H a o) { s with heap:=h',toks:=t' }:=I.un (Un.laid k hp (I.hok.fresh hp)) (I.hok.laid k hp new)
theorem Inv.write {x e:Addr} {o:HO} {t':Nat} (I:Inv X pins σ H s) (mu:Mut (H x)) (he:e=x\/H e=some (.own x)) (k:∀ b u,b≠e->s.heap.get? b=some u->h'.get? b=some u) (heo:∃ u,h'.get? e=some u)
  (new:ObjOk X.prog X.w (upd H x o) h' x o):Inv X pins σ (upd H x o) { s with heap:=h',toks:=t' }:=I.un (Un.write mu he k heo) (I.hok.write mu he k heo new)
theorem Inv.pins_of {pins':List (Addr×Obj)} (I:Inv X pins σ H s) (h:∀ p∈pins',s.heap.get? p.1=some p.2/\H p.1=none/\p.1≠X.env.locals/\p.1∉X.fs/\∀ v,p.2.data≠.cell v):Inv X pins' σ H s :=
 ⟨I.ok,I.os,I.bare,I.base,I.loc,I.cell,I.free,I.freeC,fun p hp=>(List.mem_append.mp hp).elim (fun z=>I.pin p (List.mem_append_left _ z)) (h p),I.hok,I.len⟩
theorem nodup_ix {N:List Str} (hN:N.Nodup) {i j:Nat} {x:Str} (a:N[i]?=some x) (b:N[j]?=some x):i=j:=by
 obtain ⟨h1,e1⟩:=List.getElem?_eq_some_iff.mp a
 obtain ⟨h2,e2⟩:=List.getElem?_eq_some_iff.mp b
 exact (List.getElem_inj hN).mp (e1.trans e2.symm)
theorem store_ok2 {M:Model} {A:Around} {E:Value->Shared->Prop} {i:Nat} {x:Str} {v:V} {u:Value} {Q:Unit->Shared->Prop} (I:Inv X pins σ H s) (hN:X.N.Nodup) (hi:X.N[i]?=some x) (hx:Loc X.env.scope x) (r:RelV v u)
  (h:∀ s',Inv X pins (σ.set i (some v)) H s'->(∃ a,Heap.SameBut a s.heap s'.heap/\(a=X.env.locals\/X.env.cells.lookup x=some a))->Q () s') (hf:X.fn x=true\/X.env.scope.names.lookup x=some .local:=by first | exact .inl rfl | exact .inr rfl | assumption):wpAny M A (storeName X.env x u) Q E s:=by
 obtain ⟨m,hn,hl⟩:=id I.loc
 have hcls:(X.env.scope.kind==.class||(X.env.scope.kind==.module&&X.env.locals != X.env.globals))=false:=by rw [I.ok.kind];rfl
 have hiσ:i < σ.length:=by rw [I.len];exact (List.getElem?_eq_some_iff.mp hi).1
 have cne:=I.cne
 have tracked:∀ {a:Addr} {h':Heap},(∃ o,s.heap.get? a=some o/\H a=none)->Heap.SameBut a s.heap h'->HOk X.prog X.w H h':=fun {a h'} ha hs b ob e=>by
  obtain ⟨_,_,hfree⟩:=ha
  refine (I.hok b ob e).stay (fun c w' hc q=>(hs.2 c ?_).trans q) (fun _ q=>q) fun _ _ q=>q
  rintro rfl
  rcases hc with rfl | hc
  ·rw [hfree] at e;cases e
  ·rw [hfree] at hc;cases hc
 rcases hx with hk | hk
 ·refine wpAny_storeName_local hk hn (fun h' hn' hs=>?_) hcls
  obtain ⟨oL,_,_,hoL,_⟩:=id hn
  refine h _ ⟨I.ok,I.os,I.bare,⟨fun b o e n hb hx=>?_,fun b o e n hb hx=>?_,I.base.free,fun b o e hx=>?_,I.base.tups,I.base.frzs,I.base.tbls⟩,⟨_,hn',fun j y v' e1 e2 e3=>?_⟩,fun y c e=>?_,I.free,I.freeC,fun p hp=>?_,tracked ⟨oL,hoL,I.free⟩ hs,by simpa using I.len⟩ ⟨_,hs,.inl rfl⟩
  ·exact (hs.2 b (Nat.ne_of_lt (Nat.lt_of_lt_of_le (Heap.lt_size e) I.ok.above))).trans (I.base.keep b o e n hb hx)
  ·obtain ⟨sl,e1⟩:=I.base.slot b o e n hb hx
   exact ⟨sl,(hs.2 b (Nat.ne_of_lt (Nat.lt_of_lt_of_le (Heap.lt_size e) I.ok.above))).trans e1⟩
  ·obtain ⟨o',e1⟩:=I.base.there b o e hx
   exact ⟨o',(hs.2 b (Nat.ne_of_lt (Nat.lt_of_lt_of_le (Heap.lt_size e) I.ok.above))).trans e1⟩
  ·by_cases hj:j=i
   ·subst hj
    rw [hi] at e1;cases e1
    rw [List.getElem?_set_self hiσ] at e2
    cases e2
    exact ⟨u,r,.inl ⟨hk,by simp⟩⟩
   ·rw [List.getElem?_set_ne (Ne.symm hj)] at e2
    obtain ⟨u',r',q⟩:=hl j y v' e1 e2 e3
    refine ⟨u',r',?_⟩
    rcases q with ⟨k,e⟩ | ⟨k,c,e,z⟩
    ·refine .inl ⟨k,?_⟩
     have:y≠x:=fun e=>hj (nodup_ix hN e1 (e▸hi))
     simp [this,e]
    ·exact .inr ⟨k,c,e,z.sameBut hs (cne y c e)⟩
  ·obtain ⟨w',z⟩:=I.cell y c e
   exact ⟨w',z.sameBut hs (cne y c e)⟩
  ·obtain ⟨e,n,ne,nf,d⟩:=I.pin p hp
   exact ⟨(hs.2 p.1 ne).trans e,n,ne,nf,d⟩
 ·have hfn:X.fn x=true:=by
   rcases hf with z | z
   ·exact z
   ·rw [z] at hk;cases hk
  obtain ⟨c,hc⟩:=I.ok.has x (.inl hk)
  obtain ⟨w',z⟩:=I.cell x c hc
  refine wpAny_storeName_cell I.ok.kind hk hc z (fun h' hc' hs=>?_)
  obtain ⟨oc,hoc,hocd⟩:=id z
  refine h { s with heap:=h' } ⟨I.ok,I.os,I.bare,⟨fun b o e n hb hx=>?_,fun b o e n hb hx=>?_,I.base.free,fun b o e hx=>?_,I.base.tups,I.base.frzs,I.base.tbls⟩,⟨m,hn.sameBut hs (Ne.symm (cne x c hc)),fun j y v' e1 e2 e3=>?_⟩,fun y c' e=>?_,I.free,I.freeC,fun p hp=>?_,tracked ⟨oc,hoc,I.freeC x c hc⟩ hs,by simpa using I.len⟩ ⟨c,hs,.inr hc⟩
  ·exact (hs.2 b (Nat.ne_of_lt (Nat.lt_of_lt_of_le (Heap.lt_size e) (I.ok.cab x c hfn hc)))).trans (I.base.keep b o e n hb hx)
  ·obtain ⟨sl,e1⟩:=I.base.slot b o e n hb hx
   exact ⟨sl,(hs.2 b (Nat.ne_of_lt (Nat.lt_of_lt_of_le (Heap.lt_size e) (I.ok.cab x c hfn hc)))).trans e1⟩
  ·obtain ⟨o',e1⟩:=I.base.there b o e hx
   exact ⟨o',(hs.2 b (Nat.ne_of_lt (Nat.lt_of_lt_of_le (Heap.lt_size e) (I.ok.cab x c hfn hc)))).trans e1⟩
  ·by_cases hj:j=i
   ·subst hj
    rw [hi] at e1;cases e1
    rw [List.getElem?_set_self hiσ] at e2
    cases e2
    exact ⟨u,r,.inr ⟨.inl hk,c,hc,hc'⟩⟩
   ·rw [List.getElem?_set_ne (Ne.symm hj)] at e2
    obtain ⟨u',r',q⟩:=hl j y v' e1 e2 e3
    refine ⟨u',r',?_⟩
    rcases q with q | ⟨k,c',e,z'⟩
    ·exact .inl q
    ·refine .inr ⟨k,c',e,z'.sameBut hs ?_⟩
     rintro rfl
     exact hj (nodup_ix hN e1 (I.ok.inj _ _ _ e hc▸hi))
  ·by_cases hcc:c'=c
   ·subst hcc;exact ⟨_,hc'⟩
   ·obtain ⟨w2,z2⟩:=I.cell y c' e
    exact ⟨w2,z2.sameBut hs hcc⟩
  ·obtain ⟨e,n,ne,nf,d⟩:=I.pin p hp
   refine ⟨(hs.2 p.1 ?_).trans e,n,ne,nf,d⟩
   intro q
   rw [q,hoc] at e
   have q':oc=p.2:=Option.some.inj e
   exact d w' (by rw [<- q'];exact hocd)
theorem store_ok {M:Model} {A:Around} {E:Value->Shared->Prop} {i:Nat} {x:Str} {v:V} {u:Value} {Q:Unit->Shared->Prop} (I:Inv X pins σ H s) (hN:X.N.Nodup) (hi:X.N[i]?=some x) (hx:Loc X.env.scope x) (r:RelV v u)
  (h:∀ s',Inv X pins (σ.set i (some v)) H s'->Q () s') (hf:X.fn x=true\/X.env.scope.names.lookup x=some .local:=by first | exact .inl rfl | exact .inr rfl | assumption):wpAny M A (storeName X.env x u) Q E s :=
 store_ok2 I hN hi hx r (fun s' I' _=>h s' I') hf
theorem Inv.call' {s':Shared} {ch:List Addr} (I:Inv X pins σ H s) (ho:s'.os=s.os) (u:Un (frs X.stack) ch H H' s.heap s'.heap) (hok:HOk X.prog X.w H' s'.heap) (hg:AllBare s'.gens)
  (hch:∀ b∈ch,(b∈X.ex\/X.s₀.heap.objs.size<=b)/\b≠X.env.locals/\(∀ x c,X.env.cells.lookup x=some c->c≠b)/\∀ p∈X.pn++pins,p.1≠b):Inv X pins σ H' s':=by
 obtain ⟨h',g',d',t',o'⟩:=s'
 have e:o'=s.os:=ho
 subst e
 exact I.call (g':=g') (t':=t') (d':=d') u hok hg hch
end
abbrev XK:=Value->Option Addr->Hp->Prop
abbrev St:=List (Option V)
abbrev VK:=V->Hp->Prop
abbrev TE:=St->Hp->VK->Prop
abbrev TT:=St->Hp->(Bool->Hp->Prop)->Prop
abbrev TA:=St->Hp->(List V->Hp->Prop)->Prop
structure Ends where
 nx:St->Hp->Prop
 rt:VK
 bk:St->Hp->Prop:=fun _ _=>False
 ct:St->Hp->Prop:=fun _ _=>False
abbrev TS:=Ends->St->Hp->Prop
def EP (X:Cx) (pins:List (Addr×Obj)) (σ:St) (Q:VK) (u:Value) (s':Shared):Prop:=∃ v H',Inv X pins σ H' s'/\RelV v u/\Q v H'
def TP (X:Cx) (pins:List (Addr×Obj)) (σ:St) (Q:Bool->Hp->Prop) (b:Bool) (s':Shared):Prop:=∃ H',Inv X pins σ H' s'/\Q b H'
def AP (X:Cx) (pins:List (Addr×Obj)) (σ:St) (Q:List V->Hp->Prop) (us:List Value) (s':Shared):Prop:=∃ vs H',Inv X pins σ H' s'/\Vals vs us/\Q vs H'
def SP (X:Cx) (pins:List (Addr×Obj)) (D:Ends) (f:Flow) (s':Shared):Prop :=
 match f with
 | .next=>∃ σ' H',Inv X pins σ' H' s'/\D.nx σ' H'
 | .brk=>∃ σ' H',Inv X pins σ' H' s'/\D.bk σ' H'
 | .cont=>∃ σ' H',Inv X pins σ' H' s'/\D.ct σ' H'
 | .ret u=>∃ v σ' H',Inv X pins σ' H' s'/\RelV v u/\D.rt v H'
def PE (X:Cx) (e:Expr) (t:TE):Prop :=
 ∀ (pins:List (Addr×Obj)) (s:Shared) (σ:St) (H:Hp) (Q:VK),Inv X pins σ H s->t σ H Q->wpAny (model X.prog X.w) X.A (eval e X.env) (EP X pins σ Q) X.xe s
def PT (X:Cx) (e:Expr) (t:TT):Prop :=
 ∀ (pins:List (Addr×Obj)) (s:Shared) (σ:St) (H:Hp) (Q:Bool->Hp->Prop),Inv X pins σ H s->t σ H Q->wpAny (model X.prog X.w) X.A (isTrue e X.env (eval e X.env)) (TP X pins σ Q) X.xe s
def PW (X:Cx) (e:Expr) (t:TT):Prop :=
 ∀ (whole:Sem Value) (pins:List (Addr×Obj)) (s:Shared) (σ:St) (H:Hp) (Q:Bool->Hp->Prop),Inv X pins σ H s->t σ H Q->wpAny (model X.prog X.w) X.A (isTrue e X.env whole) (TP X pins σ Q) X.xe s
theorem PW.pt {X:Cx} {e:Expr} {t:TT} (h:PW X e t):PT X e t:=h _
def PA (X:Cx) (es:List Expr) (t:TA):Prop :=
 ∀ (pos:Pos) (pins:List (Addr×Obj)) (s:Shared) (σ:St) (H:Hp) (Q:List V->Hp->Prop),Inv X pins σ H s->t σ H Q->wpAny (model X.prog X.w) X.A (spliced (backTo pos (starEach es X.env))) (AP X pins σ Q) X.xe s
def PS (X:Cx) (st:Stmt) (t:TS):Prop :=
 ∀ (pins:List (Addr×Obj)) (s:Shared) (σ:St) (H:Hp) (D:Ends),Inv X pins σ H s->t D σ H->wpAny (model X.prog X.w) X.A (exec st X.env) (SP X pins D) X.xe s
def PSs (X:Cx) (st:List Stmt) (t:TS):Prop :=
 ∀ (pins:List (Addr×Obj)) (s:Shared) (σ:St) (H:Hp) (D:Ends),Inv X pins σ H s->t D σ H->wpAny (model X.prog X.w) X.A (execs st X.env) (SP X pins D) X.xe s
theorem thn {α:Type} {t:Sem α} {Q Q':α->Shared->Prop} {M:Model} {A:Around} {E:Value->Shared->Prop} {s:Shared} (h:wpAny M A t Q E s) (hQ:∀ a s,Q a s->Q' a s):wpAny M A t Q' E s:=wpAny_mono h hQ fun _ _ x=>x
end L2
namespace L2
open PySem PySem.Spec PyProof.Rows
section
variable {X:Cx}
def tVar (i:Nat):TE:=fun σ H Q=>∃ v,σ[i]?=some (some v)/\Q v H
def tC (v:V):TE:=fun _ H Q=>Q v H
theorem pe_var {i:Nat} {x:Str} {pos:Pos} (hN:X.N[i]?=some x) (hv:Vis X.env.scope x) (hd:(x==("__debug__":Str))=false:=by decide) (hcd:(x==("__classdict__":Str))=false:=by decide):PE X (.Name x pos) (tVar i):=by
 intro pins s σ H Q I h
 obtain ⟨v,e,h⟩:=h
 obtain ⟨m,hn,hl⟩:=I.loc
 obtain ⟨u,r,l⟩:=hl i x v hN e hv
 have fin:EP X pins σ Q u s:=⟨v,H,I,r,h⟩
 rcases l with ⟨hk,hm⟩ | ⟨hk,c,hc,hcell⟩
 ·exact wpAny_Name (wpAny_loadName_local I.ok.kind hk hn hm fin) hd
 ·rcases hk with hk | hk
  ·exact wpAny_Name (wpAny_loadName_cell I.ok.kind hk hc hcell fin) hd
  ·exact wpAny_Name (wpAny_loadName_free I.ok.kind hk hc hcell fin hcd) hd
theorem pe_int {i j pos}:PE X (.Constant (.int i) j pos) (tC (.int i)):=fun _ _ _ H _ I h=>wpAny_Constant_int ⟨.int i,H,I.tok _,⟨_,rfl⟩,h⟩
theorem pe_bl {b j pos}:PE X (.Constant (.bool b) j pos) (tC (.bl b)):=fun _ _ _ H _ I h=>Constant_bool ⟨.bl b,H,I,rfl,h⟩
theorem pe_str {x j pos}:PE X (.Constant (.str x) j pos) (tC (.str x)):=fun _ _ _ H _ I h=>Calls.Constant_str ⟨.str x,H,I.tok _,⟨_,rfl⟩,h⟩
def Gl (X:Cx) (x:Str):Prop:=X.env.kindOf x=some .globalImplicit
theorem ld_glob {E:Value->Shared->Prop} {pins:List (Addr×Obj)} {s:Shared} {σ:St} {H:Hp} {x:Str} {u:Value} {pos:Pos} {Q:Value->Shared->Prop} (I:Inv X pins σ H s) (hg:Gl X x) (hm:X.mg x=some u) (h:Q u s)
  (hd:(x==("__debug__":Str))=false:=by decide):wpAny (model X.prog X.w) X.A (eval (.Name x pos) X.env) Q E s :=
 Calls.Name_function_global I.ok.kind hg (Calls.loadGlobal_global (by rw [I.ok.glob];exact I.mod.glob.keeps I.bk) hm h) hd
theorem ld_blt {E:Value->Shared->Prop} {pins:List (Addr×Obj)} {s:Shared} {σ:St} {H:Hp} {x:Str} {u:Value} {pos:Pos} {Q:Value->Shared->Prop} (I:Inv X pins σ H s) (hg:Gl X x) (hm:X.mg x=none) (hv:bootBuiltins x=some u) (h:Q u s)
  (hn:x≠"__name__":=by decide) (hd:(x==("__debug__":Str))=false:=by decide):wpAny (model X.prog X.w) X.A (eval (.Name x pos) X.env) Q E s:=by
 obtain ⟨mb,h1,h2⟩:=I.mod.blt
 exact Calls.Name_function_global I.ok.kind hg (Calls.loadGlobal_builtin (by rw [I.ok.glob];exact I.mod.glob.keeps I.bk) hm (by rw [I.ok.blt];exact h1.keeps I.bk) ((h2 x hn).trans hv) h) hd
theorem pe_glob {x:Str} {v:V} {u:Value} {pos:Pos} (hg:Gl X x) (hm:X.mg x=some u) (r:RelV v u) (hd:(x==("__debug__":Str))=false:=by decide):PE X (.Name x pos) (tC v) :=
 fun _ _ _ H _ I h=>ld_glob I hg hm ⟨v,H,I,r,h⟩ hd
theorem pe_bltn {x:Str} {v:V} {u:Value} {pos:Pos} (hg:Gl X x) (hm:X.mg x=none) (hv:bootBuiltins x=some u) (r:RelV v u) (hn:x≠"__name__":=by decide) (hd:(x==("__debug__":Str))=false:=by decide):PE X (.Name x pos) (tC v) :=
 fun _ _ _ H _ I h=>ld_blt I hg hm hv ⟨v,H,I,r,h⟩ hn hd
variable {a b:Expr} {ta tb:TE} {pos:Pos}
def PC (X:Cx) (op:CmpOp) (a b:Expr) (t:TE):Prop :=
 ∀ (pins:List (Addr×Obj)) (s:Shared) (σ:St) (H:Hp) (Q:VK),Inv X pins σ H s->t σ H Q ->
  wpAny (model X.prog X.w) X.A (eval a X.env) (fun v s₁=>wpAny (model X.prog X.w) X.A (eval b X.env) (fun u s₂=>wpAny (model X.prog X.w) X.A (compareOp op v u) (EP X pins σ Q) X.xe s₂) X.xe s₁) X.xe s
theorem nobehind (b:Expr) {op:CmpOp} (h:op≠.In) (h2:op≠.NotIn):behindInMarks op b=false:=by
 have e1:(op==CmpOp.In)=false:=by cases op<;>first | rfl | exact absurd rfl h
 have e2:(op==CmpOp.NotIn)=false:=by cases op<;>first | rfl | exact absurd rfl h2
 cases b<;>simp [behindInMarks,e1,e2]
def tB (t:TE):TT:=fun σ H Q=>t σ H fun x H1=>∃ c,x=.bl c/\Q c H1
theorem pt_cmp {op:CmpOp} {t:TE} (h:PC X op a b t) (h1:behindInMarks op b=false:=by first | exact nobehind _ (by decide) (by decide) | rfl):PT X (.Compare a [op] [b] pos) (tB t):=by
 intro pins s σ H Q I hw
 refine wpAny_isTrue_Compare1 (thn (h pins s σ H _ I hw) fun v s1 h1=>thn h1 fun u s2 h2=>thn h2 fun c s3 ⟨x,H1,I1,r1,q1⟩=>?_) h1
 obtain ⟨d,rfl,q⟩:=q1
 cases r1
 exact wpAny_truthy_bool ⟨H1,I1,q⟩
theorem pt_val {e:Expr} {t:TE} (h:PE X e t) (he:∀ whole,isTrue e X.env whole=(do let v <- whole;standAt e.pos;holding [v] (truthy v)):=by intro _;rfl):PT X e (tB t):=by
 intro pins s σ H Q I hw
 refine isTrue_plain (thn (h pins s σ H _ I hw) fun v s1 ⟨x,H1,I1,r1,q1⟩=>?_) (he _)
 obtain ⟨d,rfl,q⟩:=q1
 cases r1
 exact wpAny_truthy_bool ⟨H1,I1,q⟩
variable {tA tB':TT} {rest:List Expr}
def tAnd (t u:TT):TT:=fun σ H Q=>t σ H fun c H1=>if c=true then u σ H1 Q else Q false H1
def tOr (t u:TT):TT:=fun σ H Q=>t σ H fun c H1=>if c=true then Q true H1 else u σ H1 Q
def tNot (t:TT):TT:=fun σ H Q=>t σ H fun c H1=>Q (!c) H1
theorem pw_and1 (ha:PT X a tA):PW X (.BoolOp .And [a] pos) tA:=by
 intro wh pins s σ H Q I h
 refine isTrue_and (thn (ha pins s σ H Q I h) fun c s1 e=>?_)
 cases c with
 | true=>exact isTrue_and_nil e
 | false=>exact e
theorem pw_or1 (ha:PT X a tA):PW X (.BoolOp .Or [a] pos) tA:=by
 intro wh pins s σ H Q I h
 refine isTrue_or (thn (ha pins s σ H Q I h) fun c s1 e=>?_)
 cases c with
 | false=>exact isTrue_or_nil e
 | true=>exact e
theorem pw_and (ha:PT X a tA) (hb:PW X (.BoolOp .And (b::rest) pos) tB'):PW X (.BoolOp .And (a::b::rest) pos) (tAnd tA tB'):=by
 intro wh pins s σ H Q I h
 refine isTrue_and (thn (ha pins s σ H _ I h) fun c s1 ⟨H1,I1,q1⟩=>?_)
 cases c with
 | true=>exact hb wh pins s1 σ H1 Q I1 q1
 | false=>exact ⟨H1,I1,q1⟩
theorem pw_or (ha:PT X a tA) (hb:PW X (.BoolOp .Or (b::rest) pos) tB'):PW X (.BoolOp .Or (a::b::rest) pos) (tOr tA tB'):=by
 intro wh pins s σ H Q I h
 refine isTrue_or (thn (ha pins s σ H _ I h) fun c s1 ⟨H1,I1,q1⟩=>?_)
 cases c with
 | true=>exact ⟨H1,I1,q1⟩
 | false=>exact hb wh pins s1 σ H1 Q I1 q1
theorem pt_not (ha:PT X a tA):PT X (.UnaryOp .Not a pos) (tNot tA):=by
 intro pins s σ H Q I h
 exact isTrue_not (ha pins s σ H (fun c H1=>Q (!c) H1) I h)
def tAndV (ta tb:TE):TE:=fun σ H Q=>ta σ H fun x H1=>∃ c,x=.bl c/\if c=true then tb σ H1 Q else Q (.bl false) H1
def tOrV (ta tb:TE):TE:=fun σ H Q=>ta σ H fun x H1=>∃ c,x=.bl c/\if c=true then Q (.bl true) H1 else tb σ H1 Q
def tNotV (ta:TE):TE:=fun σ H Q=>ta σ H fun x H1=>∃ c,x=.bl c/\Q (.bl (!c)) H1
theorem pe_one {op} {t:TE} (h:PE X a t):PE X (.BoolOp op [a] pos) t:=fun pins s σ H Q I hw=>BoolOp_one (h pins s σ H Q I hw)
theorem pe_and (ha:PE X a ta) (hb:PE X (.BoolOp .And (b::rest) pos) tb):PE X (.BoolOp .And (a::b::rest) pos) (tAndV ta tb):=by
 intro pins s σ H Q I h
 refine BoolOp_and (thn (ha pins s σ H _ I h) fun v s1 ⟨x,H1,I1,r1,q1⟩=>?_)
 obtain ⟨c,rfl,q1⟩:=q1
 cases r1
 refine wpAny_truthy_bool ?_
 cases c with
 | true=>exact hb pins s1 σ H1 Q I1 q1
 | false=>exact ⟨.bl false,H1,I1,rfl,q1⟩
theorem pe_or (ha:PE X a ta) (hb:PE X (.BoolOp .Or (b::rest) pos) tb):PE X (.BoolOp .Or (a::b::rest) pos) (tOrV ta tb):=by
 intro pins s σ H Q I h
 refine BoolOp_or (thn (ha pins s σ H _ I h) fun v s1 ⟨x,H1,I1,r1,q1⟩=>?_)
 obtain ⟨c,rfl,q1⟩:=q1
 cases r1
 refine wpAny_truthy_bool ?_
 cases c with
 | false=>exact hb pins s1 σ H1 Q I1 q1
 | true=>exact ⟨.bl true,H1,I1,rfl,q1⟩
theorem pe_not (ha:PE X a ta):PE X (.UnaryOp .Not a pos) (tNotV ta):=by
 intro pins s σ H Q I h
 refine UnaryOp_ (thn (ha pins s σ H _ I h) fun v s1 ⟨x,H1,I1,r1,q1⟩=>?_)
 obtain ⟨c,rfl,q1⟩:=q1
 cases r1
 exact not_of (wpAny_truthy_bool ⟨.bl (!c),H1,I1,rfl,q1⟩)
def tIf (t:TT) (ta tb:TE):TE:=fun σ H Q=>t σ H fun c H1=>if c=true then ta σ H1 Q else tb σ H1 Q
theorem pe_ifExp {c:Expr} (hc:PT X c tA) (ha:PE X a ta) (hb:PE X b tb):PE X (.IfExp c a b pos) (tIf tA ta tb):=by
 intro pins s σ H Q I h
 refine wpAny_IfExp (thn (hc pins s σ H _ I h) fun d s1 ⟨H1,I1,q1⟩=>?_)
 cases d with
 | true=>exact ha pins s1 σ H1 Q I1 q1
 | false=>exact hb pins s1 σ H1 Q I1 q1
end
end L2
namespace L2
open PySem PySem.Spec PyProof.Rows
def SqL (K:PySem.W.Frag) (H:Hp) (a:Addr) (xs:List V):Prop :=
 Rd H a (.lst xs) \/
  ∃ (o:Obj) (its:Array Value) (n:Nat),K.lookup a=some o/\o.cls=.type "list"/\o.dict=none/\o.data=.seq its n/\its.size<=sizeLine/\Vals xs its.toList
def SqT (K:PySem.W.Frag) (H:Hp) (a:Addr) (xs:List V):Prop :=
 Rd H a (.tup xs) \/
  ∃ (o:Obj) (its:Array Value) (n:Nat),K.lookup a=some o/\o.cls=.type "tuple"/\o.data=.seq its n/\its.size<=sizeLine/\Vals xs its.toList
def absV:Value->Option V
 | .none=>some .non
 | .bool b=>some (.bl b)
 | .int i _=>some (.int i)
 | .str x _=>some (.str x)
 | .bytes b _=>some (.byt b)
 | .float b _=>some (.flt b)
 | .ref a=>some (.ref a)
 | .type n=>some (.ty n)
 | _=>none
theorem RelV.abs {x:V} {u:Value} (r:RelV x u):absV u=some x:=by
 cases x with
 | non=>cases r;rfl
 | bl _=>cases r;rfl
 | int _=>obtain ⟨t,rfl⟩:=r;rfl
 | str _=>obtain ⟨t,rfl⟩:=r;rfl
 | byt _=>obtain ⟨t,rfl⟩:=r;rfl
 | flt _=>obtain ⟨t,rfl⟩:=r;rfl
 | ref _=>cases r;rfl
 | ty _=>cases r;rfl
theorem RelV.inj {x y:V} {u:Value} (r:RelV x u) (q:RelV y u):x=y:=Option.some.inj (r.abs.symm.trans q.abs)
theorem Vals.inj:∀ {xs ys:List V} {us:List Value},Vals xs us->Vals ys us->xs=ys
 | _,_,_,.nil,.nil=>rfl
 | _,_,_,.cons r t,.cons r' t'=>by rw [r.inj r',Vals.inj t t']
section
variable {X:Cx} {pins:List (Addr×Obj)} {σ:St} {H:Hp} {s:Shared} {a:Addr} {xs ys:List V}
theorem SqL.of {K:PySem.W.Frag} (h:H a=some (.lst xs)):SqL K H a xs:=.inl (.inl h)
theorem SqT.of {K:PySem.W.Frag} (h:H a=some (.tup xs)):SqT K H a xs:=.inl (.inl h)
theorem Inv.list (I:Inv X pins σ H s) (h:SqL X.K H a xs):∃ its:List Value,Vals xs its/\PlainL s.heap a its.toArray/\xs.length<=sizeLine:=by
 rcases h with h | ⟨o,its,n,hk,hc,hd,hs,hz,r⟩
 ·obtain ⟨z,its,n,r,e⟩:=h.ok I.hok
  exact ⟨its,r,⟨_,n,e,rfl,rfl,rfl⟩,z⟩
 ·refine ⟨its.toList,r,⟨o,n,I.kIn a o hk,hc,hd,by simpa using hs⟩,?_⟩
  have e:=r.length
  simp only [Array.length_toList] at e
  omega
theorem Inv.tuple (I:Inv X pins σ H s) (h:SqT X.K H a xs):∃ its:List Value,Vals xs its/\IsTup s.heap a its.toArray/\xs.length<=sizeLine:=by
 rcases h with h | ⟨o,its,n,hk,hc,hs,hz,r⟩
 ·obtain ⟨z,its,r,p⟩:=h.ok I.hok
  exact ⟨its,r,p,z⟩
 ·refine ⟨its.toList,r,⟨o,I.kIn a o hk,hc,n,by simpa using hs⟩,?_⟩
  have e:=r.length
  simp only [Array.length_toList] at e
  omega
theorem Inv.list_inj (I:Inv X pins σ H s) (h:SqL X.K H a xs) (h':SqL X.K H a ys):xs=ys:=by
 obtain ⟨its,r,⟨o,n,e,_,_,d⟩,_⟩:=I.list h
 obtain ⟨its',r',⟨o',n',e',_,_,d'⟩,_⟩:=I.list h'
 rw [e] at e';cases e'
 rw [d] at d'
 injection d' with d1 _
 have:its=its':=by simpa using congrArg Array.toList d1
 subst this
 exact r.inj r'
end
abbrev Cx.wish (X:Cx) (E:Value->Shared->Prop):Cx:={ X with xe:=E }
abbrev Cx.nox (X:Cx):Cx:=X.wish fun _ _=>False
theorem Cx.Ok.wish {X:Cx} (ok:X.Ok) (E:Value->Shared->Prop):(X.wish E).Ok :=
 ⟨ok.mod,ok.kind,ok.glob,ok.blt,ok.above,ok.inj,ok.has,ok.cab,ok.hd,ok.frames,ok.stk,ok.exf,ok.bs,ok.bsz,ok.noex,ok.exfs,ok.funs,ok.frf⟩
theorem Cx.Ok.unwish {X:Cx} {E:Value->Shared->Prop} (ok:(X.wish E).Ok):X.Ok :=
 ⟨ok.mod,ok.kind,ok.glob,ok.blt,ok.above,ok.inj,ok.has,ok.cab,ok.hd,ok.frames,ok.stk,ok.exf,ok.bs,ok.bsz,ok.noex,ok.exfs,ok.funs,ok.frf⟩
section
variable {X:Cx} {pins:List (Addr×Obj)} {σ:St} {H:Hp} {s:Shared} {E:Value->Shared->Prop}
theorem Inv.wish (I:Inv X pins σ H s) (E:Value->Shared->Prop):Inv (X.wish E) pins σ H s:=⟨I.ok.wish E,I.os,I.bare,I.base,I.loc,I.cell,I.free,I.freeC,I.pin,I.hok,I.len⟩
theorem Inv.unwish (I:Inv (X.wish E) pins σ H s):Inv X pins σ H s:=⟨I.ok.unwish,I.os,I.bare,I.base,I.loc,I.cell,I.free,I.freeC,I.pin,I.hok,I.len⟩
theorem SP.unwish {D:Ends} {f:Flow} {s':Shared} (h:SP (X.wish E) pins D f s'):SP X pins D f s':=by
 cases f with
 | next=>obtain ⟨σ',H',I,q⟩:=h;exact ⟨σ',H',I.unwish,q⟩
 | brk=>obtain ⟨σ',H',I,q⟩:=h;exact ⟨σ',H',I.unwish,q⟩
 | cont=>obtain ⟨σ',H',I,q⟩:=h;exact ⟨σ',H',I.unwish,q⟩
 | ret u=>obtain ⟨v,σ',H',I,r,q⟩:=h;exact ⟨v,σ',H',I.unwish,r,q⟩
theorem PE.nox {e:Expr} {t:TE} (h:PE X.nox e t):PE X e t:=fun pins s σ H Q I hw =>
 wpAny_mono (h pins s σ H Q (I.wish _) hw) (fun _ _ ⟨v,H',I',r,q⟩=>⟨v,H',I'.unwish,r,q⟩) fun _ _ z=>False.elim z
theorem PT.nox {e:Expr} {t:TT} (h:PT X.nox e t):PT X e t:=fun pins s σ H Q I hw =>
 wpAny_mono (h pins s σ H Q (I.wish _) hw) (fun _ _ ⟨H',I',q⟩=>⟨H',I'.unwish,q⟩) fun _ _ z=>False.elim z
theorem PSs.nox {st:List Stmt} {t:TS} (h:PSs X.nox st t):PSs X st t:=fun pins s σ H D I hw =>
 wpAny_mono (h pins s σ H D (I.wish _) hw) (fun _ _ q=>q.unwish) fun _ _ z=>False.elim z
end
section
variable {X:Cx} {st:Stmt} {rest:List Stmt} {t u:TS} {e:Expr} {te:TE} {pos:Pos}
def tNext:TS:=fun D σ H=>D.nx σ H
def tSeq (t u:TS):TS:=fun D σ H=>t { D with nx:=u D } σ H
theorem pss_nil:PSs X [] tNext:=fun _ _ σ H _ I h=>wpAny_execs_nil ⟨σ,H,I,h⟩
theorem pss_cons (h1:PS X st t) (h2:PSs X rest u):PSs X (st::rest) (tSeq t u):=by
 intro pins s σ H D I h
 refine wpAny_execs_cons (thn (h1 pins s σ H { D with nx:=u D } I h) fun f s1 q=>?_)
 cases f with
 | next =>
  obtain ⟨σ',H',I',q⟩:=q
  exact h2 pins s1 σ' H' D I' q
 | ret v=>exact q
 | brk=>exact q
 | cont=>exact q
theorem pss_one (h1:PS X st t):PSs X [st] t:=by
 intro pins s σ H D I h
 refine wpAny_execs_cons (thn (h1 pins s σ H D I h) fun f s1 q=>?_)
 cases f with
 | next=>exact wpAny_execs_nil q
 | ret v=>exact q
 | brk=>exact q
 | cont=>exact q
def tCont:TS:=fun D σ H=>D.ct σ H
theorem ps_continue:PS X (.Continue pos) tCont:=fun _ _ σ H _ I h=>wpAny_Continue ⟨σ,H,I,h⟩
theorem Inv.quiet {pins:List (Addr×Obj)} {σ:St} {H:Hp} {s:Shared} (I:Inv X pins σ H s):interactive X.env=false:=by simp [interactive,I.ok.kind]
def tDrop (te:TE):TS:=fun D σ H=>te σ H fun _ H1=>D.nx σ H1
theorem ps_expr (he:PE X e te) (hs:swapsWith e none pos.line X.env=pure false:=by rfl):PS X (.Expr e pos) (tDrop te):=by
 intro pins s σ H D I h
 exact wpAny_Expr_any (thn (he pins s σ H _ I h) fun v s1 ⟨x,H1,I1,r1,q1⟩=>⟨σ,H1,I1,q1⟩) I.quiet hs
def tRet (te:TE):TS:=fun D σ H=>te σ H D.rt
theorem ps_ret (he:PE X e te):PS X (.Return (some e) pos) (tRet te):=by
 intro pins s σ H D I h
 exact wpAny_Return_some (thn (he pins s σ H _ I h) fun v s1 ⟨x,H1,I1,r1,q1⟩=>⟨x,σ,H1,I1,r1,q1⟩)
def tIfS (c:TT) (t u:TS):TS:=fun D σ H=>c σ H fun b H1=>if b=true then t D σ H1 else u D σ H1
theorem ps_if {c:Expr} {a b:List Stmt} {tc:TT} (hc:PT X c tc) (ha:PSs X a t) (hb:PSs X b u):PS X (.If c a b pos) (tIfS tc t u):=by
 intro pins s σ H D I h
 refine wpAny_If (thn (hc pins s σ H _ I h) fun d s1 ⟨H1,I1,q1⟩=>?_)
 cases d with
 | true=>exact ha pins s1 σ H1 D I1 q1
 | false=>exact hb pins s1 σ H1 D I1 q1
end
abbrev TG:=V->St->Hp->(St->Hp->Prop)->Prop
abbrev TGs:=List V->St->Hp->(St->Hp->Prop)->Prop
def PG (X:Cx) (target:Expr) (t:TG):Prop :=
 ∀ (pins:List (Addr×Obj)) (s:Shared) (σ:St) (H:Hp) (v:V) (u:Value) (Q:St->Hp->Prop),Inv X pins σ H s->RelV v u->t v σ H Q ->
  wpAny (model X.prog X.w) X.A (assign target X.env u) (fun _ s'=>∃ σ' H',Inv X pins σ' H' s'/\Q σ' H') X.xe s
def PGs (X:Cx) (ts:List Expr) (t:TGs):Prop :=
 ∀ (pins:List (Addr×Obj)) (s:Shared) (σ:St) (H:Hp) (vs:List V) (us:List Value) (Q:St->Hp->Prop),Inv X pins σ H s->Vals vs us->t vs σ H Q ->
  wpAny (model X.prog X.w) X.A (assignInOrder ((assignEach ts X.env).map (·.2)) us) (fun _ s'=>∃ σ' H',Inv X pins σ' H' s'/\Q σ' H') X.xe s
abbrev TIp:=V->V->Hp->VK->Prop
def PIp (X:Cx) (op:Operator) (t:TIp):Prop :=
 ∀ (pins:List (Addr×Obj)) (s:Shared) (σ:St) (H:Hp) (x y:V) (v u:Value) (Q:VK),Inv X pins σ H s->RelV x v->RelV y u->t x y H Q ->
  wpAny (model X.prog X.w) X.A (inplaceOp op v u) (EP X pins σ Q) X.xe s
section
variable {X:Cx} {pos:Pos}
def gName (i:Nat):TG:=fun v σ H Q=>Q (σ.set i (some v)) H
theorem pg_name {i:Nat} {x:Str} (hN:X.N.Nodup) (hi:X.N[i]?=some x) (hx:Loc X.env.scope x) (hf:X.fn x=true\/X.env.scope.names.lookup x=some .local:=by first | exact .inl rfl | exact .inr rfl | assumption):PG X (.Name x pos) (gName i):=by
 intro pins s σ H v u Q I r h
 exact wpAny_assign_Name (store_ok I hN hi hx r (fun s' I'=>⟨_,H,I',h⟩) hf)
def gNil:TGs:=fun vs σ H Q=>vs=[]/\Q σ H
def gCons (t:TG) (u:TGs):TGs:=fun vs σ H Q=>∃ v r,vs=v::r/\t v σ H fun σ' H'=>u r σ' H' Q
theorem pgs_nil:PGs X [] gNil:=by
 intro pins s σ H vs us Q I r h
 obtain ⟨e,h⟩:=h
 subst e
 cases r
 exact assignInOrder_nil ⟨σ,H,I,h⟩
theorem pgs_cons {e:Expr} {es:List Expr} {t:TG} {u:TGs} (h1:PG X e t) (h2:PGs X es u)
  (hs:(assignEach (e::es) X.env).map (·.2)=assign e X.env::(assignEach es X.env).map (·.2):=by rfl):PGs X (e::es) (gCons t u):=by
 intro pins s σ H vs us Q I r h
 obtain ⟨v,vr,e1,h⟩:=h
 subst e1
 cases r with
 | cons r rr =>
  rw [hs]
  refine assignInOrder_cons (thn (h1 pins s σ H _ _ _ I r h) fun _ s1 ⟨σ1,H1,I1,q1⟩=>?_)
  exact h2 pins s1 σ1 H1 _ _ Q I1 rr q1
def gTup (K:PySem.W.Frag) (n:Nat) (t:TGs):TG:=fun v σ H Q=>∃ a xs,v=.ref a/\SqT K H a xs/\xs.length=n/\t xs σ H Q
theorem pg_tup {es:List Expr} {k:Nat} {t:TGs} {n:Nat} (hc:X.calm=true) (h:PGs X es t)
  (hn:(assignEach es X.env).length=n:=by rfl) (hst:(assignEach es X.env).findIdx? (·.1)=none:=by rfl):PG X (.Tuple es k pos) (gTup X.K n t):=by
 intro pins s σ H v u Q I r hw
 obtain ⟨a,xs,e1,hq,hl,hw⟩:=hw
 subst e1
 cases r
 obtain ⟨its,rv,ht,hz⟩:=I.tuple hq
 refine assign_Tuple_tuple (I.ok.hd hc) ht (by simp [hn,<- hl,rv.length]) hst fun h' hx=>?_
 have I1:Inv X pins σ H { s with heap:=h' }:=I.kept (t':=s.toks) fun b o e=>hx b o (Nat.ne_of_lt (Heap.lt_size e)) e
 exact h pins _ σ H xs _ Q I1 (by simpa using rv) hw
def tAsg (te:TE) (g:TG):TS:=fun D σ H=>te σ H fun x H1=>g x σ H1 D.nx
theorem ps_asg {tg e:Expr} {te:TE} {g:TG} (he:PE X e te) (hg:PG X tg g) (hs:swapsWithSole [tg] e pos.line X.env=pure false:=by rfl) (hw:swappedStores [tg] e X.env=pure none:=by rfl)
  (h1:(assignEach [tg] X.env).map (·.2)=[assign tg X.env]:=by rfl):PS X (.Assign [tg] e pos) (tAsg te g):=by
 intro pins s σ H D I h
 refine wpAny_Assign_stores (thn (he pins s σ H _ I h) fun v s1 ⟨x,H1,I1,r1,q1⟩=>?_) hs hw
 rw [h1]
 exact thn (hg pins s1 σ H1 x v _ I1 r1 q1) fun _ s2 q=>q
theorem ps_set {i:Nat} {x:Str} {e:Expr} {te:TE} {pos':Pos} (hN:X.N.Nodup) (hi:X.N[i]?=some x) (hx:Loc X.env.scope x) (he:PE X e te) (hs:swapsWith e (some (.Name x pos')) pos.line X.env=pure false:=by rfl) (hf:X.fn x=true\/X.env.scope.names.lookup x=some .local:=by first | exact .inl rfl | exact .inr rfl | assumption) :
  PS X (.Assign [.Name x pos'] e pos) (tAsg te (gName i)):=by
 intro pins s σ H D I h
 refine wpAny_Assign_Name (thn (he pins s σ H _ I h) fun v s1 ⟨y,H1,I1,r1,q1⟩=>?_) hs
 exact store_ok I1 hN hi hx r1 (fun s2 I2=>⟨_,H1,I2,q1⟩) hf
def tAug (i:Nat) (te:TE) (ti:TIp):TS:=fun D σ H=>∃ x,σ[i]?=some (some x)/\te σ H fun y H1=>ti x y H1 fun z H2=>D.nx (σ.set i (some z)) H2
theorem ps_aug {i:Nat} {x:Str} {e:Expr} {te:TE} {op:Operator} {ti:TIp} {pos':Pos} (hN:X.N.Nodup) (hi:X.N[i]?=some x) (hx:Loc X.env.scope x) (he:PE X e te) (ho:PIp X op ti) (hf:X.fn x=true\/X.env.scope.names.lookup x=some .local:=by first | exact .inl rfl | exact .inr rfl | assumption) :
  PS X (.AugAssign (.Name x pos') op e pos) (tAug i te ti):=by
 intro pins s σ H D I h
 obtain ⟨v,e1,h⟩:=h
 obtain ⟨m,hn,hl⟩:=I.loc
 have vis:Vis X.env.scope x:=by rcases hx with k | k;exact .inl k;exact .inr (.inl k)
 obtain ⟨u,r,l⟩:=hl i x v hi e1 vis
 refine wpAny_AugAssign_Name ?_
 have go:wpAny (model X.prog X.w) X.A (eval e X.env) (fun w s₂=>wpAny (model X.prog X.w) X.A (inplaceOp op u w) (fun r s₃=>wpAny (model X.prog X.w) X.A (storeName X.env x r) (fun _=>SP X pins D .next) X.xe s₃) X.xe s₂) X.xe s:=by
  refine thn (he pins s σ H _ I h) fun w s1 ⟨y,H1,I1,r1,q1⟩=>?_
  refine thn (ho pins s1 σ H1 v y u w _ I1 r r1 q1) fun z s2 ⟨zv,H2,I2,r2,q2⟩=>?_
  exact store_ok I2 hN hi hx r2 (fun s3 I3=>⟨_,H2,I3,q2⟩) hf
 rcases l with ⟨hk,hm⟩ | ⟨hk,c,hc,hcell⟩
 ·exact wpAny_loadName_local I.ok.kind hk hn hm go
 ·rcases hk with hk | hk
  ·exact wpAny_loadName_cell I.ok.kind hk hc hcell go
  ·rcases hx with k | k
   ·have:X.env.scope.names.lookup x=some .free:=hk
    rw [k] at this;cases this
   ·have:X.env.scope.names.lookup x=some .free:=hk
    rw [k] at this;cases this
end
section
variable {X:Cx} {pos:Pos}
end
structure It where
 go:Nat->Hp->Prop
 yld:Nat->Hp->V->Hp->Prop
 stop:Nat->Hp->Prop
def FpOk (X:Cx) (pins:List (Addr×Obj)) (H:Hp) (b:Addr):Prop :=
 H b=none/\b≠X.env.locals/\b∉X.fs/\(b∈X.ex\/X.s₀.heap.objs.size<=b)/\(∀ x c,X.env.cells.lookup x=some c->c≠b)/\∀ p∈X.pn++pins,p.1≠b
theorem Inv.fpOk {X:Cx} {pins:List (Addr×Obj)} {σ:St} {H H':Hp} {s:Shared} {b:Addr} (I:Inv X pins σ H s) (hb:s.heap.objs.size<=b) (hn:H' b=none):FpOk X pins H' b:=by
 refine ⟨hn,Nat.ne_of_gt (Nat.lt_of_lt_of_le I.lt hb),I.nofs hb,.inr (Nat.le_trans I.sz hb),fun x c e z=>?_,fun p hp z=>?_⟩
 ·obtain ⟨v,q⟩:=I.cell x c e
  exact absurd (Nat.lt_of_lt_of_le q.lt (by rw [z];exact hb)) (Nat.lt_irrefl _)
 ·exact absurd (Nat.lt_of_lt_of_le (Heap.lt_size (I.pin p hp).1) (by rw [z];exact hb)) (Nat.lt_irrefl _)
structure Turn (P:Program) (w:World) (K:PySem.W.Frag) (tg:Expr) (J:It) (fp:List Addr) (it:Addr) (tn:Nat->Heap->Prop):Prop where
 mem:it∈fp
 obj:∀ i h,tn i h->∀ b∈fp,∃ o,h.get? b=some o/\∀ v,o.data≠.cell v
 keep:∀ i h h',tn i h->(∀ b∈fp,∀ o,h.get? b=some o->h'.get? b=some o)->tn i h'
 item:∀ (X:Cx),X.prog=P->X.w=w->X.K=K->X.calm=true->∀ (i:Nat) (pins:List (Addr×Obj)) (s:Shared) (σ:St) (H:Hp) (E:Value->Shared->Prop),Inv X pins σ H s->(∀ b∈fp,FpOk X pins H b)->tn i s.heap->J.go i H ->
  wpAny (model P w) X.A (pyNext (.ref it)) (fun r s1=>∃ u,r=some u /\
   wpAny (model P w) X.A (letOwnedTupleGo tg (.ref it) u) (fun _ s2=>∃ x H',Inv X pins σ H' s2/\RelV x u/\J.yld i H x H'/\tn (i+1) s2.heap/\∀ b∈fp,H' b=none) E s1) E s
 done:∀ (X:Cx),X.prog=P->X.w=w->X.K=K->X.calm=true->∀ (i:Nat) (pins:List (Addr×Obj)) (s:Shared) (σ:St) (H:Hp) (E:Value->Shared->Prop),Inv X pins σ H s->(∀ b∈fp,FpOk X pins H b)->tn i s.heap->J.stop i H ->
  wpAny (model P w) X.A (pyNext (.ref it)) (fun r s1=>r=none/\Inv X pins σ H s1) E s
 self:∀ (A:Around) (i:Nat) (s:Shared) (Q:Value->Shared->Prop) (E:Value->Shared->Prop),tn i s.heap->Q (.ref it) s->wpAny (model P w) A (pyIter (.ref it)) Q E s
abbrev TI:=St->Hp->(It->Hp->Prop)->Prop
def PIE (X:Cx) (pins:List (Addr×Obj)) (σ:St) (tg:Expr) (R:It->Hp->Prop) (itv:Value) (s2:Shared):Prop :=
 ∃ (it:Addr) (fp:List Addr) (tn:Nat->Heap->Prop) (J:It) (H':Hp),itv=.ref it/\Inv X pins σ H' s2/\Turn X.prog X.w X.K tg J fp it tn/\tn 0 s2.heap/\(∀ b∈fp,FpOk X pins H' b)/\R J H'
def PI (X:Cx) (tg iter:Expr) (wi:TI):Prop :=
 ∀ (pins:List (Addr×Obj)) (s:Shared) (σ:St) (H:Hp) (R:It->Hp->Prop),Inv X pins σ H s->wi σ H R ->
  wpAny (model X.prog X.w) X.A (eval iter X.env) (fun v s1=>wpAny (model X.prog X.w) X.A (pyIter v) (PIE X pins σ tg R) X.xe s1) X.xe s
theorem go_of {M:Model} {A:Around} {E:Value->Shared->Prop} {s:Shared} {tg:Expr} {it:Addr} {u:Value} {o:Obj} {n:String} {vs:Array Value} {Q:Unit->Shared->Prop} (ho:s.heap.get? it=some o) (hc:o.cls=.type n) (hd:o.data=.fields vs)
  (hn:["enumerate","zip","dict_itemiterator","dict_reverseitemiterator","odict_iterator","itertools.zip_longest","itertools.pairwise"].contains n=false) (hQ:Q () s):wpAny M A (letOwnedTupleGo tg (.ref it) u) Q E s:=by
 unfold letOwnedTupleGo
 cases tg<;>first
  | exact wpAny_pure hQ
  | (cases u<;>first
    | exact wpAny_pure hQ
    | (refine wpAny_bind (wpAny_load ho ?_)
       rw [hc,hd]
       show wpAny M A (if (["enumerate","zip","dict_itemiterator","dict_reverseitemiterator","odict_iterator","itertools.zip_longest","itertools.pairwise"].contains n&&vs[0]?==some (rawInt _))=true then _ else _) Q E s
       rw [if_neg (by intro h;rw [hn,Bool.false_and] at h;cases h)]
       exact wpAny_pure hQ))
def Itl (K:PySem.W.Frag) (a:Addr):It :=
 ⟨fun i H=>∃ xs x,SqL K H a xs/\xs[i]?=some x,fun i H x H'=>H'=H/\∀ xs,SqL K H a xs->xs[i]?=some x,fun i H=>∃ xs,SqL K H a xs/\xs.length<=i⟩
def Itr (lo:Int) (n:Nat):It:=⟨fun i _=>i<n,fun i H x H'=>H'=H/\x=.int (lo+i),fun i _=>n<=i⟩
theorem turn_list {P:Program} {w:World} {K:PySem.W.Frag} {tg:Expr} (a it:Addr):Turn P w K tg (Itl K a) [it] it (fun i h=>h.IsListIter it a i) where
 mem:=by simp
 obj:=fun i h st b hb=>by
  have e:b=it:=by simpa using hb
  subst e
  obtain ⟨o,e,c,d⟩:=st
  exact ⟨o,e,fun v z=>by rw [d] at z;cases z⟩
 keep:=fun i h h' st k=>st.at fun o e=>k it (by simp) o e
 item:=by
  intro X hP hw hK hc i pins s σ H E I hf st hg
  subst hP hw hK
  obtain ⟨xs,x,hq,hx⟩:=hg
  obtain ⟨its,rv,p,hz⟩:=I.list hq
  obtain ⟨u,hu,ru⟩:=rv.get hx
  obtain ⟨f0,f1,f2,f3,f4,f5⟩:=hf it (by simp)
  refine wpAny_pyNext_list_item st p.isList (x:=u) (by simpa using hu) fun h' st' sb=>?_
  have I1:Inv X pins σ H { s with heap:=h' }:=I.turned (t':=s.toks) (fun b o hb e=>(sb.2 b hb).trans e) f0 f1 f3 f4 f5
  obtain ⟨o,e,c,d⟩:=id st'
  exact ⟨u,rfl,go_of (s:={ s with heap:=h' }) e c d (by decide) ⟨x,H,I1,ru,⟨rfl,fun ys hy=>by rw [I.list_inj hy hq];exact hx⟩,st',fun b hb=>(hf b hb).1⟩⟩
 done:=by
  intro X hP hw hK hc i pins s σ H E I hf st hg
  subst hP hw hK
  obtain ⟨xs,hq,hx⟩:=hg
  obtain ⟨its,rv,p,hz⟩:=I.list hq
  obtain ⟨f0,f1,f2,f3,f4,f5⟩:=hf it (by simp)
  have hl:=rv.length
  exact wpAny_pyNext_list_end (I.ok.hd hc) st p.isList (by simp;omega) fun h' eb=>⟨rfl,I.turned (t':=s.toks) (fun b o hb e=>eb b o hb e) f0 f1 f3 f4 f5⟩
 self:=fun _ _ _ _ _ st h=>wpAny_pyIter_listiter st h
theorem turn_range {P:Program} {w:World} {K:PySem.W.Frag} {tg:Expr} (it:Addr) (lo:Int) (n:Nat):Turn P w K tg (Itr lo n) [it] it (fun i h=>IsRangeIter h it (lo+(i:Nat)*1) ((n:Int)-(i:Nat)) 1) where
 mem:=by simp
 obj:=fun i h st b hb=>by
  have e:b=it:=by simpa using hb
  subst e
  exact ⟨_,st,fun v z=>by
   have z':Data.fields _=Data.cell v:=z
   cases z'⟩
 keep:=fun i h h' st k=>k it (by simp) _ st
 item:=by
  intro X hP hw hK hc i pins s σ H E I hf st hg
  subst hP hw hK
  obtain ⟨f0,f1,f2,f3,f4,f5⟩:=hf it (by simp)
  have W:=Walks.range (prog:=X.prog) (w:=X.w) (I.ok.hd hc) it lo 1 n
  refine W.item i s _ _ hg st fun v h' tk hv st' kk=>?_
  obtain ⟨t,rfl⟩:=hv
  have I1:Inv X pins σ H { s with heap:=h',toks:=tk }:=I.turned (fun b o hb e=>kk b o (by simpa using hb) e) f0 f1 f3 f4 f5
  refine ⟨_,rfl,go_of (s:={ s with heap:=h',toks:=tk }) (n:="range_iterator") st' rfl rfl (by decide) ⟨.int (lo+i),H,I1,⟨t,?_⟩,⟨rfl,rfl⟩,st',fun b hb=>(hf b hb).1⟩⟩
  rw [Int.mul_one]
 done:=by
  intro X hP hw hK hc i pins s σ H E I hf st hg
  subst hP hw hK
  obtain ⟨f0,f1,f2,f3,f4,f5⟩:=hf it (by simp)
  exact wpAny_pyNext_range_end (I.ok.hd hc) st (by have:n<=i:=hg;omega) fun h' eb=>⟨rfl,I.turned (t':=s.toks) (fun b o hb e=>eb b o hb e) f0 f1 f3 f4 f5⟩
 self:=fun _ _ _ _ _ st h=>wpAny_pyIter_rangeiter st h
end L2
namespace L2
open PySem PySem.Spec PyProof.Rows
section
variable {X:Cx} {tg:Expr}
def iList (K:PySem.W.Frag) (tl:TE):TI:=fun σ H R=>tl σ H fun x H1=>∃ a,x=.ref a/\(∃ xs,SqL K H1 a xs)/\R (Itl K a) H1
theorem pi_list {l:Expr} {tl:TE} (hl:PE X l tl):PI X tg l (iList X.K tl):=by
 intro pins s σ H R I h
 refine thn (hl pins s σ H _ I h) fun v s1 ⟨x,H1,I1,r1,q1⟩=>?_
 obtain ⟨a,e,⟨xs,hq⟩,q⟩:=q1
 subst e
 cases r1
 obtain ⟨its,rv,p,hz⟩:=I1.list hq
 refine wpAny_pyIter_list p.isList ?_
 refine ⟨s1.heap.objs.size,[s1.heap.objs.size],_,_,H1,rfl,I1.kept (t':=s1.toks) fun b o e=>Heap.get?_push_of_some _ e,turn_list a _,⟨_,Heap.get?_push_size _ rfl,rfl,rfl⟩,fun b hb=>?_,q⟩
 have e:b=s1.heap.objs.size:=by simpa using hb
 subst e
 exact I1.fpOk (Nat.le_refl _) (I1.hok.fresh (Nat.le_refl _))
theorem range_it {pins:List (Addr×Obj)} {σ:St} {H:Hp} {s:Shared} {R:It->Hp->Prop} {E:Value->Shared->Prop} {lo hi:Int} {t u v:Tok} {tk:Nat} (I:Inv X pins σ H s) (h1:-(2^62)<=lo) (h2:lo<2^62) (h3:-(2^62)<=hi) (h4:hi<2^62)
  (q:R (Itr lo (hi-lo).toNat) H):wpAny (model X.prog X.w) X.A (pyIter (.ref s.heap.objs.size)) (PIE X pins σ tg R) E { s with heap:=s.heap.push { cls:=.type "range",data:=.fields #[.int lo t,.int hi u,.int 1 v] },toks:=tk }:=by
 refine wpAny_pyIter_range (IsRange.new ..) (small_one h1 h2 h3 h4) ?_
 have I1:Inv X pins σ H { s with heap:=s.heap.push { cls:=.type "range",data:=.fields #[.int lo t,.int hi u,.int 1 v] },toks:=tk }:=I.kept fun b o e=>Heap.get?_push_of_some _ e
 refine ⟨(s.heap.push { cls:=.type "range",data:=.fields #[.int lo t,.int hi u,.int 1 v] }).objs.size,[(s.heap.push { cls:=.type "range",data:=.fields #[.int lo t,.int hi u,.int 1 v] }).objs.size],_,_,H,rfl,
  I1.kept (t':=tk) fun b o e=>Heap.get?_push_of_some _ e,turn_range _ lo (hi-lo).toNat,?_,fun b hb=>?_,q⟩
 ·have e1:lo+((0:Nat):Int)*1=lo:=by simp
  have e2:(((hi-lo).toNat:Nat):Int)-((0:Nat):Int)=Builtin.Range.rangeSize lo hi 1:=by rw [rangeSize_one];split<;>omega
  show IsRangeIter _ _ (lo+((0:Nat):Int)*1) ((((hi-lo).toNat:Nat):Int)-((0:Nat):Int)) 1
  rw [e1,e2]
  exact Heap.get?_push_size _ rfl
 ·have e:b=(s.heap.push { cls:=.type "range",data:=.fields #[.int lo t,.int hi u,.int 1 v] }).objs.size:=by simpa using hb
  subst e
  exact I1.fpOk (Nat.le_refl _) (I1.hok.fresh (Nat.le_refl _))
def iRng1 (ta:TA):TI:=fun σ H R=>ta σ H fun vs H1=>∃ j:Int,vs=[.int j]/\-(2^62)<=j/\j<2^62/\R (Itr 0 j.toNat) H1
theorem pi_range1 {a:Expr} {ta:TA} {p pos:Pos} (hg:Gl X "range") (hm:X.mg "range"=none) (ha:PA X [a] ta) (hs:starEach [a] X.env=[(false,eval a X.env)]:=by rfl):PI X tg (.Call (.Name "range" p) [a] [] pos) (iRng1 ta):=by
 intro pins s σ H R I h
 refine Call_ (ld_blt I hg hm boot_range (PyProof.Rows.callWith_type1 (thn (ha pos pins s σ H _ I h) fun us s1 ⟨vs,H1,I1,r1,q1⟩=>?_) hs rfl))
 obtain ⟨j,e,q1,q2,q⟩:=q1
 subst e
 cases r1 with
 | cons r rr =>
  cases rr
  obtain ⟨t,rfl⟩:=r
  exact call_range_1 (range_it I1 (by omega) (by omega) q1 q2 (by simpa using q))
def tFor (wi:TI) (g:TG) (tb:TS):TS:=fun D σ H=>wi σ H fun J H1=>∃ W:Nat->Nat->St->Hp->Prop,(∃ m,W 0 m σ H1)/\∀ i m σ H,W i m σ H ->
 (J.stop i H/\D.nx σ H)\/(J.go i H/\∃ N:St->Hp->Prop,(∀ σ' H',N σ' H'->∃ m',m'<m/\W (i+1) m' σ' H')/\∀ x H',J.yld i H x H'->g x σ H' fun σ2 H2=>tb { D with nx:=N,ct:=N,bk:=D.nx } σ2 H2)
def pinsAt (fp:List Addr) (h:Heap):List (Addr×Obj):=fp.filterMap fun b=>(h.get? b).map fun o=>(b,o)
theorem mem_pinsAt {fp:List Addr} {h:Heap} {b:Addr} {o:Obj} (hb:b∈fp) (e:h.get? b=some o):(b,o)∈pinsAt fp h:=List.mem_filterMap.mpr ⟨b,hb,by rw [e];rfl⟩
theorem of_pinsAt {fp:List Addr} {h:Heap} {p:Addr×Obj} (hp:p∈pinsAt fp h):p.1∈fp/\h.get? p.1=some p.2:=by
 obtain ⟨b,hb,e⟩:=List.mem_filterMap.mp hp
 cases q:h.get? b with
 | none=>rw [q] at e;cases e
 | some o =>
  rw [q] at e
  have e':(b,o)=p:=Option.some.inj e
  subst e'
  exact ⟨hb,q⟩
theorem Inv.pinned {pins:List (Addr×Obj)} {σ:St} {H:Hp} {s:Shared} {fp:List Addr} (I:Inv X pins σ H s) (hf:∀ b∈fp,FpOk X pins H b) (ho:∀ b∈fp,∃ o,s.heap.get? b=some o/\∀ v,o.data≠.cell v):Inv X (pins++pinsAt fp s.heap) σ H s :=
 I.pins_of fun p hp=>(List.mem_append.mp hp).elim (fun z=>I.pin p (List.mem_append_right _ z)) fun z=>by
  obtain ⟨hb,e⟩:=of_pinsAt z
  obtain ⟨f0,f1,f2,_⟩:=hf p.1 hb
  obtain ⟨o,e',d⟩:=ho p.1 hb
  rw [e] at e';cases e'
  exact ⟨e,f0,f1,f2,d⟩
theorem Inv.unpinned {pins pl:List (Addr×Obj)} {σ:St} {H:Hp} {s:Shared} (I:Inv X (pins++pl) σ H s):Inv X pins σ H s:=I.pins_of fun p hp=>I.pin p (List.mem_append_right _ (List.mem_append_left _ hp))
theorem ps_for {iter:Expr} {body:List Stmt} {wi:TI} {g:TG} {tb:TS} {pos:Pos} (hp:PassesOwn (model X.prog X.w) X.A X.env X.xe) (hc:X.calm=true) (hi:PI X tg iter wi) (hg:PG X tg g) (hb:PSs X body tb)
  (hs:∀ x,foldedSetIterable iter X.env x=pure x:=by intro _;rfl):PS X (.For tg iter body [] pos) (tFor wi g tb):=by
 intro pins s σ H D I h
 refine wpAny_For (thn (hi pins s σ H _ I h) fun v s1 h1=>thn h1 fun itv s2 h2=>?_) hs
 obtain ⟨it,fp,tn,J,H2,e,I2,T,st2,f2,W,⟨m0,w0⟩,turn⟩:=h2
 subst e
 have stat:∀ {H':Hp},(∀ b∈fp,H' b=none)->∀ b∈fp,FpOk X pins H' b:=fun hn b hb=>⟨hn b hb,(f2 b hb).2⟩
 refine codeAny_forLoop_any (fun n s'=>∃ i σ' H',Inv X pins σ' H' s'/\tn i s'.heap/\(∀ b∈fp,H' b=none)/\W i n σ' H') ?_ m0 ⟨0,σ,H2,I2,st2,fun b hb=>(f2 b hb).1,w0⟩
 rintro n s3 ⟨i,σ3,H3,I3,st3,fr3,w3⟩
 rcases turn i n σ3 H3 w3 with ⟨stop,qn⟩ | ⟨go,N,hN,step⟩
 ·refine wpAny_passesOwn hp (thn (T.done X rfl rfl rfl hc i pins s3 σ3 H3 X.xe I3 (stat fr3) st3 stop) fun r s4 ⟨hr,I4⟩=>?_)
  subst hr
  exact wpAny_execs_nil ⟨σ3,H3,I4,qn⟩
 ·refine wpAny_passesOwn hp (thn (T.item X rfl rfl rfl hc i pins s3 σ3 H3 X.xe I3 (stat fr3) st3 go) fun r s4 ⟨u,hr,h4⟩=>?_)
  subst hr
  refine wpAny_passesOwn hp (thn h4 fun _ s5 ⟨x,H5,I5,r5,y5,st5,fr5⟩=>?_)
  have I5':=I5.pinned (stat fr5) (T.obj _ _ st5)
  refine wpAny_passesOwn hp (thn (hg _ s5 σ3 H5 x u _ I5' r5 (step x H5 y5)) fun _ s6 ⟨σ6,H6,I6,q6⟩=>?_)
  refine wpAny_passesOwn hp (thn (hb _ s6 σ6 H6 _ I6 q6) fun f s7 q7=>?_)
  have again:∀ {σ7:St} {H7:Hp},Inv X (pins++pinsAt fp s5.heap) σ7 H7 s7->N σ7 H7->∃ m,m<n/\∃ i σ' H',Inv X pins σ' H' s7/\tn i s7.heap/\(∀ b∈fp,H' b=none)/\W i m σ' H':=fun {σ7 H7} I7 n7=>by
   obtain ⟨m',hm,w7⟩:=hN σ7 H7 n7
   refine ⟨m',hm,i+1,σ7,H7,I7.unpinned,T.keep _ _ _ st5 fun b hb o e=>(I7.pin (b,o) (List.mem_append_right _ (List.mem_append_right _ (mem_pinsAt hb e)))).1,fun b hb=>?_,w7⟩
   obtain ⟨o,e,d⟩:=T.obj _ _ st5 b hb
   exact (I7.pin (b,o) (List.mem_append_right _ (List.mem_append_right _ (mem_pinsAt hb e)))).2.1
  cases f with
  | next=>obtain ⟨σ7,H7,I7,n7⟩:=q7;exact again I7 n7
  | cont=>obtain ⟨σ7,H7,I7,n7⟩:=q7;exact again I7 n7
  | brk=>obtain ⟨σ7,H7,I7,q7⟩:=q7;exact ⟨σ7,H7,I7.unpinned,q7⟩
  | ret v=>obtain ⟨x7,σ7,H7,I7,r7,q7⟩:=q7;exact ⟨x7,σ7,H7,I7.unpinned,r7,q7⟩
end
end L2
namespace L2
open PySem PySem.Spec PyProof.Rows
abbrev R2:=V->V->Hp->VK->Prop
def OpR (X:Cx) (f:Value->Value->Sem Value) (r:R2):Prop :=
 ∀ (pins:List (Addr×Obj)) (s:Shared) (σ:St) (H:Hp) (x y:V) (v u:Value) (Q:VK),Inv X pins σ H s->RelV x v->RelV y u->r x y H Q ->
  wpAny (model X.prog X.w) X.A (f v u) (EP X pins σ Q) X.xe s
def UnR (X:Cx) (f:Value->Sem Value) (r:V->Hp->VK->Prop):Prop :=
 ∀ (pins:List (Addr×Obj)) (s:Shared) (σ:St) (H:Hp) (x:V) (v:Value) (Q:VK),Inv X pins σ H s->RelV x v->r x H Q ->
  wpAny (model X.prog X.w) X.A (f v) (EP X pins σ Q) X.xe s
def CallR (X:Cx) (f:Value) (r:List V->Hp->VK->Prop):Prop :=
 ∀ (pins:List (Addr×Obj)) (s:Shared) (σ:St) (H:Hp) (xs:List V) (us:List Value) (Q:VK),Inv X pins σ H s->Vals xs us->r xs H Q ->
  wpAny (model X.prog X.w) X.A (call f us) (EP X pins σ Q) X.xe s
def tOp (r:R2) (ta tb:TE):TE:=fun σ H Q=>ta σ H fun x H1=>tb σ H1 fun y H2=>r x y H2 Q
def tUn (r:V->Hp->VK->Prop) (ta:TE):TE:=fun σ H Q=>ta σ H fun x H1=>r x H1 Q
def rI (C:Int->Int->Prop) (g:Int->Int->V):R2:=fun x y H Q=>∃ i j,x=.int i/\y=.int j/\C i j/\Q (g i j) H
def rI0 (g:Int->Int->V):R2:=fun x y H Q=>∃ i j,x=.int i/\y=.int j/\Q (g i j) H
def rU (g:Int->V):V->Hp->VK->Prop:=fun x H Q=>∃ i,x=.int i/\Q (g i) H
section
variable {X:Cx} {a b c:Expr} {ta tb tc:TE} {pos:Pos}
theorem binT (ha:PE X a ta) (hb:PE X b tb) {pins:List (Addr×Obj)} {s:Shared} {σ:St} {H:Hp} {R:V->V->Hp->Prop} (I:Inv X pins σ H s)
  (h:ta σ H fun x H1=>tb σ H1 fun y H2=>R x y H2) {Q:Value->Shared->Prop} {f:Value->Value->Sem Value}
  (hf:∀ v u s2 x y H2,Inv X pins σ H2 s2->RelV x v->RelV y u->R x y H2->wpAny (model X.prog X.w) X.A (f v u) Q X.xe s2) :
  wpAny (model X.prog X.w) X.A (eval a X.env) (fun v s₁=>wpAny (model X.prog X.w) X.A (eval b X.env) (fun u s₂=>wpAny (model X.prog X.w) X.A (f v u) Q X.xe s₂) X.xe s₁) X.xe s:=by
 refine thn (ha pins s σ H _ I h) fun v s1 ⟨x,H1,I1,r1,q1⟩=>?_
 refine thn (hb pins s1 σ H1 _ I1 q1) fun u s2 ⟨y,H2,I2,r2,q2⟩=>?_
 exact hf v u s2 x y H2 I2 r1 r2 q2
theorem pe_op {op:Operator} {r:R2} (ho:OpR X (binaryOp op) r) (ha:PE X a ta) (hb:PE X b tb):PE X (.BinOp a op b pos) (tOp r ta tb):=by
 intro pins s σ H Q I h
 exact wpAny_BinOp (binT ha hb I h fun v u s2 x y H2 I2 rx ry q=>ho pins s2 σ H2 x y v u Q I2 rx ry q)
theorem pe_un {op:UnaryOp} {r:V->Hp->VK->Prop} (ho:UnR X (unaryOp op) r) (ha:PE X a ta):PE X (.UnaryOp op a pos) (tUn r ta):=by
 intro pins s σ H Q I h
 exact UnaryOp_ (thn (ha pins s σ H _ I h) fun v s1 ⟨x,H1,I1,r1,q1⟩=>ho pins s1 σ H1 x v Q I1 r1 q1)
theorem opI {f:Value->Value->Sem Value} {C:Int->Int->Prop} {g:Int->Int->Int}
  (rule:∀ (i j:Int) (t u:Tok) (s:Shared) (Q:Value->Shared->Prop) (E:Value->Shared->Prop),C i j->Q (.int (g i j) s.toks) { s with toks:=s.toks+1 }->wpAny (model X.prog X.w) X.A (f (.int i t) (.int j u)) Q E s) :
  OpR X f (rI C fun i j=>.int (g i j)):=by
 intro pins s σ H x y v u Q I rx ry h
 obtain ⟨i,j,rfl,rfl,hc,q⟩:=h
 obtain ⟨t,rfl⟩:=rx
 obtain ⟨t',rfl⟩:=ry
 exact rule i j t t' s _ _ hc ⟨.int (g i j),H,I.tok _,⟨_,rfl⟩,q⟩
theorem opI0 {f:Value->Value->Sem Value} {g:Int->Int->Int}
  (rule:∀ (i j:Int) (t u:Tok) (s:Shared) (Q:Value->Shared->Prop) (E:Value->Shared->Prop),Q (.int (g i j) s.toks) { s with toks:=s.toks+1 }->wpAny (model X.prog X.w) X.A (f (.int i t) (.int j u)) Q E s) :
  OpR X f (rI0 fun i j=>.int (g i j)):=by
 intro pins s σ H x y v u Q I rx ry h
 obtain ⟨i,j,rfl,rfl,q⟩:=h
 obtain ⟨t,rfl⟩:=rx
 obtain ⟨t',rfl⟩:=ry
 exact rule i j t t' s _ _ ⟨.int (g i j),H,I.tok _,⟨_,rfl⟩,q⟩
theorem opB0 {f:Value->Value->Sem Value} {g:Int->Int->Bool}
  (rule:∀ (i j:Int) (t u:Tok) (s:Shared) (Q:Value->Shared->Prop) (E:Value->Shared->Prop),Q (.bool (g i j)) s->wpAny (model X.prog X.w) X.A (f (.int i t) (.int j u)) Q E s) :
  OpR X f (rI0 fun i j=>.bl (g i j)):=by
 intro pins s σ H x y v u Q I rx ry h
 obtain ⟨i,j,rfl,rfl,q⟩:=h
 obtain ⟨t,rfl⟩:=rx
 obtain ⟨t',rfl⟩:=ry
 exact rule i j t t' s _ _ ⟨.bl (g i j),H,I,rfl,q⟩
def CDiv (i j:Int):Prop:=0<j/\j<1073741824
def CPow (i j:Int):Prop:=0<=j/\j<=1000000/\i.natAbs<2^64
def CMul (i j:Int):Prop:=(-(2^64)<i/\i<2^64)\/(-(2^64)<j/\j<2^64)
theorem CMul.ok {i j:Int} (h:CMul i j):IntMulOk i j:=by
 rcases h with ⟨h1,h2⟩ | ⟨h1,h2⟩
 ·exact .of_left (intBits_le_64 h1 h2)
 ·exact .of_right (intBits_le_64 h1 h2)
theorem op_add:OpR X (binaryOp .Add) (rI0 fun i j=>.int (i+j)):=opI0 fun _ _ _ _ _ _ _ q=>add_int q
theorem op_sub:OpR X (binaryOp .Sub) (rI0 fun i j=>.int (i-j)):=opI0 fun _ _ _ _ _ _ _ q=>sub_int q
theorem op_mul:OpR X (binaryOp .Mult) (rI CMul fun i j=>.int (i*j)):=opI fun _ _ _ _ _ _ _ hc q=>mul_int q hc.ok
theorem op_fdiv:OpR X (binaryOp .FloorDiv) (rI CDiv fun i j=>.int (i/j)):=opI fun i j _ _ _ _ _ hc q=>by
 have h1:(0:Int)<j:=hc.1
 have h2:j<1073741824:=hc.2
 exact floordiv_int (by omega) (by rw [Int.fdiv_eq_ediv_of_nonneg i (by omega)];exact q) (.inl (PyProof.noPylong_small (by omega)))
theorem op_mod:OpR X (binaryOp .Mod) (rI (fun _ j=>0<j) fun i j=>.int (i%j)):=opI fun i j _ _ _ _ _ hc q=>by
 have h1:(0:Int)<j:=hc
 exact mod_int' (by omega) (by rw [Int.fmod_eq_emod_of_nonneg i (by omega)];exact q)
theorem op_pow:OpR X (binaryOp .Pow) (rI CPow fun i j=>.int (i^j.toNat)):=opI fun _ _ _ _ _ _ _ hc q=>pow_int_small hc.1 hc.2.1 hc.2.2 q
theorem iop_add:OpR X (inplaceOp .Add) (rI0 fun i j=>.int (i+j)):=opI0 fun _ _ _ _ _ _ _ q=>iadd_int q
theorem iop_sub:OpR X (inplaceOp .Sub) (rI0 fun i j=>.int (i-j)):=opI0 fun _ _ _ _ _ _ _ q=>isub_int q
theorem unI {f:Value->Sem Value} {g:Int->Int}
  (rule:∀ (i:Int) (t:Tok) (s:Shared) (Q:Value->Shared->Prop) (E:Value->Shared->Prop),Q (.int (g i) s.toks) { s with toks:=s.toks+1 }->wpAny (model X.prog X.w) X.A (f (.int i t)) Q E s) :
  UnR X f (rU fun i=>.int (g i)):=by
 intro pins s σ H x v Q I rx h
 obtain ⟨i,rfl,q⟩:=h
 obtain ⟨t,rfl⟩:=rx
 exact rule i t s _ _ ⟨.int (g i),H,I.tok _,⟨_,rfl⟩,q⟩
theorem un_neg:UnR X (unaryOp .USub) (rU fun i=>.int (-i)):=unI fun _ _ _ _ _ q=>neg_int q
end
section
variable {X:Cx} {a b c:Expr} {ta tb tc:TE} {pos:Pos}
theorem op_lt:OpR X (compareOp .Lt) (rI0 fun i j=>.bl (decide (i<j))):=opB0 fun _ _ _ _ _ _ _ q=>lt_int q
theorem op_le:OpR X (compareOp .LtE) (rI0 fun i j=>.bl (decide (i<=j))):=opB0 fun _ _ _ _ _ _ _ q=>le_int q
theorem op_gt:OpR X (compareOp .Gt) (rI0 fun i j=>.bl (decide (j<i))):=opB0 fun _ _ _ _ _ _ _ q=>gt_int q
theorem OpR.or {f:Value->Value->Sem Value} {r r':R2} (h:OpR X f r) (h':OpR X f r'):OpR X f (fun x y H Q=>r x y H Q\/r' x y H Q):=by
 intro pins s σ H x y v u Q I rx ry q
 rcases q with q | q
 ·exact h pins s σ H x y v u Q I rx ry q
 ·exact h' pins s σ H x y v u Q I rx ry q
theorem nomark (b:Expr) {op:CmpOp} (h:op≠.In:=by decide) (h2:op≠.NotIn:=by decide):behindInMarks op b=false:=by
 have e1:(op==CmpOp.In)=false:=by cases op<;>first | rfl | exact absurd rfl h
 have e2:(op==CmpOp.NotIn)=false:=by cases op<;>first | rfl | exact absurd rfl h2
 cases b<;>simp [behindInMarks,e1,e2]
theorem pe_cmpR {op:CmpOp} {r:R2} (ho:OpR X (compareOp op) r) (ha:PE X a ta) (hb:PE X b tb) (hm:behindInMarks op b=false):PE X (.Compare a [op] [b] pos) (tOp r ta tb):=by
 intro pins s σ H Q I h
 exact wpAny_Compare1 (binT ha hb I h fun v u s2 x y H2 I2 rx ry q=>ho pins s2 σ H2 x y v u Q I2 rx ry q) hm
def tTest (t:TE):TT:=fun σ H Q=>t σ H fun x H'=>∃ k,x=.bl k/\Q k H'
theorem pt_cmpR {op:CmpOp} {r:R2} (ho:OpR X (compareOp op) r) (ha:PE X a ta) (hb:PE X b tb) (hm:behindInMarks op b=false):PT X (.Compare a [op] [b] pos) (tTest (tOp r ta tb)):=by
 intro pins s σ H Q I h
 refine wpAny_isTrue_Compare1 (thn (ha pins s σ H _ I h) fun v s1 ⟨x,H1,I1,r1,q1⟩=>thn (hb pins s1 σ H1 _ I1 q1) fun u s2 ⟨y,H2,I2,r2,q2⟩ =>
  thn (ho pins s2 σ H2 x y v u _ I2 r1 r2 q2) fun c s3 ⟨z,H3,I3,r3,k,e,q3⟩=>?_) hm
 subst e
 cases r3
 exact wpAny_truthy_bool ⟨H3,I3,q3⟩
def tChain (r r':R2) (ta tb tc:TE):TE:=fun σ H Q=>ta σ H fun x H1=>tb σ H1 fun y H2=>r x y H2 fun z H3=>∃ k,z=.bl k /\
 (if k=true then tc σ H3 fun w' H4=>r' y w' H4 Q else Q (.bl false) H3)
theorem pe_chain {op op':CmpOp} {r r':R2} (ho:OpR X (compareOp op) r) (ho':OpR X (compareOp op') r') (ha:PE X a ta) (hb:PE X b tb) (hc:PE X c tc)
  (hm:lastMarks [op,op'] [b,c]=false:=by with_unfolding_all rfl):PE X (.Compare a [op,op'] [b,c] pos) (tChain r r' ta tb tc):=by
 intro pins s σ H Q I h
 refine Compare_chain (thn (ha pins s σ H _ I h) fun v s1 ⟨x,H1,I1,r1,q1⟩=>chain_link (thn (hb pins s1 σ H1 _ I1 q1) fun u s2 ⟨y,H2,I2,r2,q2⟩ =>
  thn (ho pins s2 σ H2 x y v u _ I2 r1 r2 q2) fun d s3 ⟨z,H3,I3,r3,k,e,q3⟩=>?_)) hm
 subst e
 cases r3
 refine wpAny_truthy_bool ?_
 cases k with
 | false=>exact ite_ff ⟨.bl false,H3,I3,rfl,q3⟩
 | true=>exact ite_tt (chain_last (thn (hc pins s3 σ H3 _ I3 q3) fun w' s4 ⟨z',H4,I4,r4,q4⟩=>ho' pins s4 σ H4 y z' u w' Q I4 r2 r4 q4))
theorem line63:(sizeLine:Nat)<2^63:=by rw [sizeLine_eq];decide
theorem op_add_str:OpR X (binaryOp .Add) (fun x y H Q=>∃ i j,x=.str i/\y=.str j/\i.length+j.length<=sizeLine/\Q (.str (i++j)) H):=by
 intro pins s σ H x y v u Q I rx ry h
 obtain ⟨i,j,rfl,rfl,hz,q⟩:=h
 obtain ⟨t,rfl⟩:=rx
 obtain ⟨t',rfl⟩:=ry
 exact add_str (fun t' tk=>⟨.str (i++j),H,I.tok _,⟨_,rfl⟩,q⟩) hz
theorem iop_add_str:OpR X (inplaceOp .Add) (fun x y H Q=>∃ i j,x=.str i/\y=.str j/\i.length+j.length<=sizeLine/\Q (.str (i++j)) H):=by
 intro pins s σ H x y v u Q I rx ry h
 obtain ⟨i,j,rfl,rfl,hz,q⟩:=h
 obtain ⟨t,rfl⟩:=rx
 obtain ⟨t',rfl⟩:=ry
 exact iadd_str (fun t' tk=>⟨.str (i++j),H,I.tok _,⟨_,rfl⟩,q⟩) hz
theorem vals1 {x:V} {us:List Value} (r:Vals [x] us):∃ u,us=[u]/\RelV x u:=by
 cases r with
 | cons r1 r2=>cases r2;exact ⟨_,rfl,r1⟩
theorem vals2 {x y:V} {us:List Value} (r:Vals [x,y] us):∃ u w',us=[u,w']/\RelV x u/\RelV y w':=by
 cases r with
 | cons r1 r2 =>
  cases r2 with
  | cons r3 r4=>cases r4;exact ⟨_,_,rfl,r1,r3⟩
theorem call_max2 (hc:X.calm=true):CallR X (.builtin "max") (fun xs H Q=>∃ i j,xs=[.int i,.int j]/\Q (.int (if j > i then j else i)) H):=by
 intro pins s σ H xs us Q I r h
 obtain ⟨i,j,rfl,q⟩:=h
 obtain ⟨u,w',rfl,⟨t,rfl⟩,⟨t',rfl⟩⟩:=vals2 r
 refine max_two_ints (I.ok.hd hc) fun h' tk k=>⟨_,H,I.kept k,?_,q⟩
 by_cases hj:j > i
 ·rw [if_pos hj,if_pos hj];exact ⟨_,rfl⟩
 ·rw [if_neg hj,if_neg hj];exact ⟨_,rfl⟩
theorem call_int1:CallR X (.type "int") (fun xs H Q=>(∃ i,xs=[.int i]/\Q (.int i) H)\/∃ k,xs=[.bl k]/\Q (.int (if k then 1 else 0)) H):=by
 intro pins s σ H xs us Q I r h
 rcases h with ⟨i,rfl,q⟩ | ⟨k,rfl,q⟩
 ·obtain ⟨u,rfl,t,rfl⟩:=vals1 r
  exact call_int_int ⟨.int i,H,I,⟨_,rfl⟩,q⟩
 ·obtain ⟨u,rfl,r1⟩:=vals1 r
  cases r1
  exact call_int_bool ⟨.int (if k then 1 else 0),H,I.tok _,⟨_,rfl⟩,q⟩
theorem call_str_int:CallR X (.type "str") (fun xs H Q=>∃ i,xs=[.int i]/\i.natAbs.log2<1920/\Q (.str (toString i)) H):=by
 intro pins s σ H xs us Q I r h
 obtain ⟨i,rfl,hz,q⟩:=h
 obtain ⟨u,rfl,t,rfl⟩:=vals1 r
 exact PySem.P.str_of_int hz ⟨.str _,H,I.tok _,⟨_,rfl⟩,q⟩
end
end L2
namespace L2
open PySem PySem.Spec PyProof.Rows
structure ObjM (h:Heap) (x dx C:Addr) (mA:Str->Option Value):Prop where
 obj:h.get? x=some (PySem.W.instObj C dx)
 ns:h.Ns1 dx mA
 ne:dx≠x
theorem lookIn_ns {h:Heap} {dx:Addr} {mA:Str->Option Value} (n:h.Ns1 dx mA):∃ od,h.get? dx=some od/\∀ name,PySem.W.lookIn name od=some (mA name):=by
 obtain ⟨o,es,ep,ho,hd,hk,_,hm⟩:=n
 refine ⟨o,ho,fun name=>?_⟩
 have e:=hm name
 unfold nsFind findBy at e
 rw [<- Array.find?_toList] at e
 unfold PySem.W.lookIn
 rw [hd]
 dsimp only
 split
 ·rename_i y q
  rw [q] at e
  exact congrArg some e
 ·rename_i q
  rw [q] at e
  have a:es.toList.any (·.refKey)=false:=by
   rw [List.any_eq_false]
   intro y hy
   obtain ⟨z,t,hkey⟩:=hk y (Array.mem_toList_iff.mp hy)
   simp [DictEntry.refKey,hkey]
  have a':¬ es.toList.any (·.refKey)=true:=by rw [a];exact Bool.false_ne_true
  rw [if_neg a']
  exact congrArg some e
theorem ObjM.look {h:Heap} {x dx C:Addr} {mA:Str->Option Value} (I:ObjM h x dx C mA):∃ od,PySem.W.InstAt h x (PySem.W.instObj C dx) C (some od)/\∀ name,PySem.W.lookIn name od=some (mA name) :=
 let ⟨od,ho,hl⟩:=lookIn_ns I.ns
 ⟨od,⟨I.obj,rfl,rfl,ho⟩,hl⟩
section
variable {prog:Program} {w:World} {A:Around} {E:Value->Shared->Prop} {s:Shared} {K:PySem.W.Frag} {x dx C f:Addr} {mA:Str->Option Value} {name:Str} {v:Value}
end
section
variable {P:Program} {w:World} {H H':Hp} {h h':Heap} {a C dx:Addr} {fs fs':List (Str×V)}
theorem ins_get (hok:HOk P w H h) (e:H a=some (.ins C dx fs)):∃ mA,ObjM h a dx C mA/\(∀ f,RelO (fs.lookup f) (mA f))/\PySem.Within mA (fs.map (·.1))/\fs.length<=1000/\H dx=some (.own a):=by
 obtain ⟨d,z,ne,ob,mA,n,r,q⟩:=(show ObjOk P w H h a (.ins C dx fs) from hok a _ e)
 exact ⟨mA,⟨ob,n,ne⟩,r,q,z,d⟩
end
structure Cls (K:PySem.W.Frag) (C:Addr):Prop where
 pg:PySem.W.plainGet K C Str.empty=true
 hd:PySem.W.hasDictIn K C=true
 po:PySem.W.plainOver K C=true
 sa:PySem.W.findIn K (.ref C) "__setattr__"=some (some (.builtin "object.__setattr__"))
theorem Cls.get {K:PySem.W.Frag} {C:Addr} (c:Cls K C) (f:Str):PySem.W.plainGet K C f=true:=c.pg
section
variable {X:Cx} {pins:List (Addr×Obj)} {σ:St} {H:Hp} {s:Shared} {a C dx:Addr} {fs:List (Str×V)} {f:Str} {v:V} {A:Around} {E:Value->Shared->Prop}
end
section
variable {X:Cx} {o e value:Expr} {f:Str} {pos pos' tpos:Pos} {ta tv:TE}
end
section
variable {X:Cx} {pins:List (Addr×Obj)} {σ:St} {H:Hp} {s:Shared} {A:Around} {E:Value->Shared->Prop} {Q:Value->Shared->Prop} {c:Value} {b:Bool}
inductive TyOf (K:PySem.W.Frag) (H:Hp):V->Value->Prop where
 | non:TyOf K H .non (.type "NoneType")
 | bl (x:Bool):TyOf K H (.bl x) (.type "bool")
 | int (i:Int):TyOf K H (.int i) (.type "int")
 | str (x:Str):TyOf K H (.str x) (.type "str")
 | flt (x:UInt64):TyOf K H (.flt x) (.type "float")
 | lst {a:Addr} {xs:List V} (e:H a=some (.lst xs)):TyOf K H (.ref a) (.type "list")
 | frz {a:Addr} {o:Obj} {xs:List V} (e:H a=some (.frz o (.lst xs))):TyOf K H (.ref a) (.type "list")
 | tup {a:Addr} {xs:List V} (e:H a=some (.tup xs)):TyOf K H (.ref a) (.type "tuple")
 | dK {a:Addr} {kvs:List (Key×V)} (e:H a=some (.dK kvs)):TyOf K H (.ref a) (.type "dict")
 | dT {a:Addr} {kvs:List (List Key×V)} (e:H a=some (.dT kvs)):TyOf K H (.ref a) (.type "dict")
 | frzD {a:Addr} {o:Obj} {kvs:List (Key×V)} (e:H a=some (.frz o (.dK kvs))):TyOf K H (.ref a) (.type "dict")
 | ins {a C dx:Addr} {fs:List (Str×V)} (e:H a=some (.ins C dx fs)) (cl:Cls K C) (ha:PySem.W.findIn K (.ref C) "__class__"=some (some (.builtin "object.__class__")))
   (hn:PySem.W.specialIn K (.builtin "object.__class__") "__get__"=some (some (.builtin "getset_descriptor.__get__"))) (htk:PySem.W.takesIn K (.builtin "object.__class__")=some true)
   (hm:PySem.W.mroIn K C (.type "object")=some true):TyOf K H (.ref a) (.ref C)
theorem isinst_ok {x:V} {u t:Value} (I:Inv X pins σ H s) (rx:RelV x u) (ty:TyOf X.K H x t) (e:PySem.W.kitOne X.K t c=some b) (h:∀ tk,Q (.bool b) { s with toks:=tk }) :
  wpAny (model X.prog X.w) A (call (.builtin "isinstance") [u,c]) Q E s:=by
 cases ty with
 | non=>cases (show u=Value.none from rx);exact PySem.W.kia_one PySem.W.kitx_none I.kIn True.intro e (fun z=>nomatch z) h
 | bl y=>cases (show u=Value.bool y from rx);exact PySem.W.kia_one PySem.W.kitx_bool I.kIn True.intro e (fun z=>nomatch z) h
 | int i=>obtain ⟨t,q⟩:=(show ∃ t,u=Value.int i t from rx);cases q;exact PySem.W.kia_one PySem.W.kitx_int I.kIn True.intro e (fun z=>nomatch z) h
 | str y=>obtain ⟨t,q⟩:=(show ∃ t,u=Value.str y t from rx);cases q;exact PySem.W.kia_one PySem.W.kitx_str I.kIn True.intro e (fun z=>nomatch z) h
 | flt y=>obtain ⟨t,q⟩:=(show ∃ t,u=Value.float y t from rx);cases q;exact PySem.W.kia_one PySem.W.kitx_float I.kIn True.intro e (fun z=>nomatch z) h
 | @lst a xs ea =>
  cases (show u=Value.ref a from rx)
  obtain ⟨_,_,n,_,h1⟩:=(show ObjOk X.prog X.w H s.heap a (.lst xs) from I.hok a _ ea)
  exact PySem.W.kia_one PySem.W.kitx_list I.kIn ⟨_,h1,rfl⟩ e (fun z=>nomatch z) h
 | @frz a ob xs ea =>
  cases (show u=Value.ref a from rx)
  obtain ⟨_,_,_,n,_,h1⟩:=(show ObjOk X.prog X.w H s.heap a (.frz ob (.lst xs)) from I.hok a _ ea)
  exact PySem.W.kia_one PySem.W.kitx_list I.kIn ⟨_,h1,rfl⟩ e (fun z=>nomatch z) h
 | @tup a xs ea =>
  cases (show u=Value.ref a from rx)
  obtain ⟨_,_,_,p⟩:=(show ObjOk X.prog X.w H s.heap a (.tup xs) from I.hok a _ ea)
  obtain ⟨o,h1,h2,_⟩:=p
  exact PySem.W.kia_one PySem.W.kitx_tuple I.kIn ⟨o,h1,h2⟩ e (fun z=>nomatch z) h
 | @dK a kvs ea =>
  cases (show u=Value.ref a from rx)
  obtain ⟨_,_,vs,_,p⟩:=(show ObjOk X.prog X.w H s.heap a (.dK kvs) from I.hok a _ ea)
  obtain ⟨o,es,ep,h1,h2,_⟩:=p
  exact PySem.W.kia_one PySem.W.kitx_dict I.kIn ⟨o,h1,h2.1⟩ e (fun z=>nomatch z) h
 | @frzD a ob kvs ea =>
  cases (show u=Value.ref a from rx)
  obtain ⟨_,_,vs,_,p⟩:=(show ObjOk X.prog X.w H s.heap a (.dK kvs) from (show ObjOk X.prog X.w H s.heap a (.frz ob (.dK kvs)) from I.hok a _ ea).2)
  obtain ⟨o,es,ep,h1,h2,_⟩:=p
  exact PySem.W.kia_one PySem.W.kitx_dict I.kIn ⟨o,h1,h2.1⟩ e (fun z=>nomatch z) h
 | @dT a kvs ea =>
  cases (show u=Value.ref a from rx)
  obtain ⟨_,_,xs,_,o,es,ep,h1,h2,_⟩:=(show ObjOk X.prog X.w H s.heap a (.dT kvs) from I.hok a _ ea)
  exact PySem.W.kia_one PySem.W.kitx_dict I.kIn ⟨o,h1,h2.1⟩ e (fun z=>nomatch z) h
 | @ins a C dx fs ea cl ha hn htk hm =>
  cases (show u=Value.ref a from rx)
  obtain ⟨mA,O,_⟩:=ins_get I.hok ea
  obtain ⟨od,J,_⟩:=O.look
  exact PySem.W.kia_one (PySem.W.kitx_own (cl.get _) cl.hd ha hn htk hm) I.kIn J e (fun z=>nomatch z) h
end
end L2
namespace L2
open PySem PySem.Spec PyProof.Rows
structure Room (k:Nat) (A:Around):Prop where
 hd:A.handled=none
 dp:A.depth+3*k+5<recursionLimit
 un:A.units+16*k+200<cLine
theorem Room.mono {j k:Nat} {A:Around} (r:Room k A) (h:j<=k):Room j A:=⟨r.hd,by have:=r.dp;omega,by have:=r.un;omega⟩
theorem Room.deeper {k:Nat} {A:Around} (r:Room (k+1) A) (env:Env):Room k (A.deeper env) :=
 ⟨r.hd,by have:=r.dp;show A.depth+1+3*k+5<_;omega,by have:=r.un;show A.units+3+16*k+200<_;omega⟩
theorem Room.in1 {k:Nat} {A:Around} (r:Room (k+1) A):Room k A.in1 :=
 ⟨r.hd,by have:=r.dp;show A.depth+3*k+5<_;omega,by have:=r.un;show A.units+1+16*k+200<_;omega⟩
theorem Room.depth {k:Nat} {A:Around} (r:Room k A):A.depth<recursionLimit:=by have:=r.dp;omega
theorem Room.units {k:Nat} {A:Around} (r:Room k A):A.units+64<cLine:=by have:=r.un;omega
theorem Room.units0 {k:Nat} {A:Around} (r:Room k A):A.units<cLine:=by have:=r.un;omega
def tNil:TA:=fun _ H Q=>Q [] H
def tCons (ta:TE) (tr:TA):TA:=fun σ H Q=>ta σ H fun x H1=>tr σ H1 fun xs H2=>Q (x::xs) H2
section
variable {X:Cx} {e:Expr} {es:List Expr} {te:TE} {t:TA} {pos:Pos}
theorem pa_nil:PA X [] tNil:=fun _ _ _ _ H Q I h=>Calls.spliced_nil ⟨[],H,I,.nil,h⟩
theorem pa_cons (ha:PE X e te) (hr:PA X es t) (hs:starEach (e::es) X.env=(false,eval e X.env)::starEach es X.env:=by rfl):PA X (e::es) (tCons te t):=by
 intro pos pins s σ H Q I h
 rw [hs]
 show wpAny _ _ (spliced ((false,eval e X.env)::backTo pos (starEach es X.env))) _ _ s
 refine Calls.spliced_cons (thn (ha pins s σ H _ I h) fun u s1 ⟨x,H1,I1,r1,q1⟩=>?_)
 exact thn (hr pos pins s1 σ H1 _ I1 q1) fun us s2 ⟨xs,H2,I2,r2,q2⟩=>⟨x::xs,H2,I2,.cons r1 r2,q2⟩
def tTup (t:TA):TE:=fun σ H Q=>t σ H fun xs H1=>xs.length<=sizeLine/\∀ p,H1 p=none->Q (.ref p) (upd H1 p (.tup xs))
def tLst (t:TA):TE:=fun σ H Q=>t σ H fun xs H1=>xs.length<=sizeLine/\∀ p,H1 p=none->Q (.ref p) (upd H1 p (.lst xs))
theorem pe_tup {x1} (h:PA X es t):PE X (.Tuple es x1 pos) (tTup t):=by
 intro pins s σ H Q I hq
 refine wpAny_Tuple_spliced (thn (h pos pins s σ H _ I hq) fun us s1 ⟨xs,H1,I1,r,z,q⟩=>⟨by rw [<- r.length];exact z,?_⟩)
 have hf:H1 s1.heap.objs.size=none:=I1.hok.fresh (Nat.le_refl _)
 refine ⟨.ref s1.heap.objs.size,upd H1 s1.heap.objs.size (.tup xs),I1.laid (t':=s1.toks) (fun b u e=>Heap.get?_push_of_some _ e) (Nat.le_refl _) ?_,rfl,q _ hf⟩
 exact ⟨z,us,r,⟨_,Heap.get?_push_size _ rfl,rfl,_,rfl⟩⟩
theorem pe_lst (h:PA X es t):PE X (.List es pos) (tLst t):=by
 intro pins s σ H Q I hq
 refine wpAny_List_spliced (thn (h pos pins s σ H _ I hq) fun us s1 ⟨xs,H1,I1,r,z,q⟩=>⟨by rw [<- r.length];exact z,?_⟩)
 have hf:H1 s1.heap.objs.size=none:=I1.hok.fresh (Nat.le_refl _)
 refine ⟨.ref s1.heap.objs.size,upd H1 s1.heap.objs.size (.lst xs),I1.laid (t':=s1.toks) (fun b u e=>Heap.get?_push_of_some _ e) (Nat.le_refl _) ?_,rfl,q _ hf⟩
 exact ⟨z,us,0,r,Heap.get?_push_size _ rfl⟩
end
abbrev Sp:=List V->Hp->VK->XK->Prop
abbrev CXT:=List Env->Hp->Shared->XK->Value->Shared->Prop
structure Env0 (P:Program) (w:World) (K:PySem.W.Frag) (mg:Str->Option Value) (base:Heap) (A:Around) (outer:List Env) (s:Shared) (H:Hp):Prop where
 frames:A.frames=some outer
 mod:Mod K mg base
 bs:∀ b o,base.get? b=some o->s.heap.get? b=some o/\H b=none
 bsz:base.objs.size<=s.heap.objs.size
 funs:s.heap.FunFrames base outer
 frf:∀ b∈frs outer,H b=none
 hok:HOk P w H s.heap
 bare:AllBare s.gens
def CE (outer:List Env) (P:Program) (w:World) (H:Hp) (s:Shared) (Q:VK) (u:Value) (s':Shared):Prop :=
 ∃ v H',s'.os=s.os/\AllBare s'.gens/\Un (frs outer) [] H H' s.heap s'.heap/\HOk P w H' s'.heap/\RelV v u/\Q v H'
def CR (CX:CXT) (outer:List Env) (P:Program) (w:World) (H:Hp) (s:Shared) (Q:VK) (E:XK) (r:Result) (s':Shared):Prop :=
 match r with
 | .ok (.ret u)=>CE outer P w H s Q u s'
 | .ok _=>False
 | .error e=>CX outer H s E e s'
structure FnOk (P:Program) (w:World) (K:PySem.W.Frag) (mg:Str->Option Value) (base:Heap) (CX:CXT) (k:Nat) (f:Addr) (fd:FuncData) (ps:List Str) (sp:Sp):Prop where
 len:∀ vs H Q E,sp vs H Q E->vs.length=ps.length
 run:∀ (A:Around) (outer:List Env) (s:Shared) (H:Hp) (args:Args) (us:List Value) (vs:List V) (Q:VK) (E:XK),Room k A->Env0 P w K mg base A outer s H->BindsTo s fd args (ps.zip us)->Vals vs us->sp vs H Q E ->
  codeAny (model P w) A (.call (.ref f) args) (CR CX outer P w H s Q E) s
theorem FnOk.mono {P:Program} {w:World} {K:PySem.W.Frag} {mg:Str->Option Value} {base:Heap} {CX:CXT} {j k:Nat} {f:Addr} {fd:FuncData} {ps:List Str} {sp:Sp} (F:FnOk P w K mg base CX j f fd ps sp) (h:j<=k) :
  FnOk P w K mg base CX k f fd ps sp:=⟨F.len,fun A outer s H args us vs Q E hr=>F.run A outer s H args us vs Q E (hr.mono h)⟩
theorem FnOk.imp {P:Program} {w:World} {K:PySem.W.Frag} {mg:Str->Option Value} {base:Heap} {CX:CXT} {k:Nat} {f:Addr} {fd:FuncData} {ps:List Str} {sp sp':Sp} (F:FnOk P w K mg base CX k f fd ps sp)
  (h:∀ vs H Q E,sp' vs H Q E->sp vs H Q E):FnOk P w K mg base CX k f fd ps sp' :=
 ⟨fun vs H Q E q=>F.len vs H Q E (h _ _ _ _ q),fun A outer s H args us vs Q E hr he hb hv hs=>F.run A outer s H args us vs Q E hr he hb hv (h _ _ _ _ hs)⟩
theorem Env0.in1 {P:Program} {w:World} {K:PySem.W.Frag} {mg:Str->Option Value} {base:Heap} {A:Around} {outer:List Env} {s:Shared} {H:Hp} (e:Env0 P w K mg base A outer s H) :
  Env0 P w K mg base A.in1 outer s H:=⟨e.frames,e.mod,e.bs,e.bsz,e.funs,e.frf,e.hok,e.bare⟩
section
variable {X:Cx} {pins:List (Addr×Obj)} {σ:St} {H:Hp} {s s':Shared}
theorem Inv.env0 (I:Inv X pins σ H s):Env0 X.prog X.w X.K X.mg X.base X.A X.stack s H :=
 ⟨I.ok.frames,I.ok.mod,I.bs,Nat.le_trans I.ok.bsz I.sz,I.stack,I.stkFree,I.hok,I.bare⟩
theorem Inv.after {Q:VK} {u:Value} (I:Inv X pins σ H s) (h:CE X.stack X.prog X.w H s Q u s'):EP X pins σ Q u s':=by
 obtain ⟨v,H',os,bare,un,hok,r,q⟩:=h
 obtain ⟨hh,g,d,t,os'⟩:=s'
 obtain rfl:os'=s.os:=os
 exact ⟨v,H',I.call (h':=hh) (g':=g) (d':=d) (t':=t) (ch:=[]) un hok bare (fun b z=>absurd z (by simp)),r,q⟩
end
def tCall (sp:Sp) (dvs:List V) (E:XK) (t:TA):TE:=fun σ H Q=>t σ H fun vs H1=>sp (vs++dvs) H1 Q E
def Binds (K:PySem.W.Frag) (fd:FuncData) (ps:List Str) (ds:List Value):Prop :=
 ∀ (s:Shared) (us:List Value),K.In s.heap->(us++ds).length=ps.length->BindsTo s fd ⟨us,[]⟩ (ps.zip (us++ds))
theorem Binds.all {K:PySem.W.Frag} {fd:FuncData} {ps:List Str} (h:∀ us:List Value,us.length=ps.length->bindArgs fd ⟨us,[]⟩=pure (ps.zip us)):Binds K fd ps []:=fun s us _ hl=>by
 rw [List.append_nil] at hl ⊢
 exact .of_eq (h us hl)
def Passes (CX:CXT) (X:Cx) (E:XK):Prop:=∀ (pins:List (Addr×Obj)) (σ:St) (H:Hp) (s:Shared) (e:Value) (s':Shared),Inv X pins σ H s->CX X.stack H s E e s'->X.xe e s'
section
variable {X:Cx} {CX:CXT} {k:Nat} {f C:Addr} {fd:FuncData} {ps:List Str} {sp:Sp} {dvs:List V} {ds:List Value} {E:XK} {x m:Str} {p pos apos:Pos} {e o:Expr} {es:List Expr} {ta:TE} {t:TA}
theorem run_fn {pins:List (Addr×Obj)} {σ:St} {H:Hp} {s:Shared} {Q:VK} {us:List Value} {vs:List V} (F:FnOk X.prog X.w X.K X.mg X.base CX k f fd ps sp) (hr:Room k X.A) (hb:Binds X.K fd ps ds) (hd:Vals dvs ds) (hx:Passes CX X E)
  (I:Inv X pins σ H s) (r:Vals vs us) (h:sp (vs++dvs) H Q E):wpAny (model X.prog X.w) X.A (call (.ref f) us) (EP X pins σ Q) X.xe s:=by
 have r2:Vals (vs++dvs) (us++ds):=r.append hd
 have hl:(us++ds).length=ps.length:=by rw [<- r2.length];exact F.len _ _ _ _ h
 refine wpAny_call (codeAny_mono (F.run X.A X.stack s H ⟨us,[]⟩ (us++ds) (vs++dvs) Q E hr I.env0 (hb s us I.kIn hl) r2 h) fun r s' hq=>?_)
 cases r with
 | error e=>exact hx pins σ H s e s' I hq
 | ok fl =>
  cases fl with
  | ret u=>exact I.after hq
  | next=>exact False.elim hq
  | brk=>exact False.elim hq
  | cont=>exact False.elim hq
theorem pe_call (F:FnOk X.prog X.w X.K X.mg X.base CX k f fd ps sp) (hr:Room k X.A) (hg:Gl X x) (hm:X.mg x=some (.ref f)) (hk:PySem.W.keepIn X.K (.ref f)=true) (hb:Binds X.K fd ps ds) (hd:Vals dvs ds) (hx:Passes CX X E)
  (ha:PA X (e::es) t) (hdb:(x==("__debug__":Str))=false:=by decide) (he:starEach (e::es) X.env=(false,eval e X.env)::starEach es X.env:=by rfl) (hpl:(backTo pos (starEach es X.env)).any (·.1)=false:=by rfl) :
  PE X (.Call (.Name x p) (e::es) [] pos) (tCall sp dvs E t):=by
 intro pins s σ H Q I h
 refine wpAny_Call_Name_kw (ld_glob I hg hm ?_ hdb)
 refine PySem.W.callWith_K (h₀:=X.base) I.ok.mod.kin hk (thn (ha pos pins s σ H _ I h) fun us s1 ⟨vs,H1,I1,r,q⟩=>⟨I1.kIn,?_⟩) he hpl
 exact run_fn F hr hb hd hx I1 r q
end
section
variable {X:Cx} {CX:CXT} {k:Nat} {f C:Addr} {fd:FuncData} {ps ks:List Str} {sp:Sp} {E:XK} {x m:Str} {p pos apos kpos:Pos} {e o:Expr} {es:List Expr} {kws:List Keyword} {te ta:TE} {t tk:TA} {nm:Option Str}
variable {g:List Value->List Value->List Value} {gV:List V->List V->List V}
end
structure FnScope (N P:List Str) (sc:Scope):Prop where
 kind:sc.kind=.function
 co:sc.isCoroutine=false
 gen:sc.isGenerator=false
 nd:N.Nodup
 pre:N.take P.length=P
 par:∀ x∈P,sc.names.lookup x=some .local\/sc.names.lookup x=some .cell
 nofree:∀ y∈sc.names,y.2≠.free
theorem bindL_out {kindOf:Str->Option NameKind} {x:Str}:∀ {binds:List (Str×Value)} {m:Str->Option Value},(∀ v,(x,v)∉binds)->bindL kindOf binds m x=m x
 | [],_,_=>rfl
 | (n,v)::r,m,h=>by
  unfold bindL
  rw [bindL_out fun w hw=>h w (List.mem_cons_of_mem _ hw)]
  split
  ·have:x≠n:=by rintro rfl;exact h v List.mem_cons_self
   simp [this]
  ·rfl
theorem bindC_out {kindOf:Str->Option NameKind} {x:Str}:∀ {binds:List (Str×Value)} {m:Str->Option Value},(∀ v,(x,v)∉binds)->bindC kindOf binds m x=m x
 | [],_,_=>rfl
 | (n,v)::r,m,h=>by
  unfold bindC
  rw [bindC_out fun w hw=>h w (List.mem_cons_of_mem _ hw)]
  split
  ·rfl
  ·have:x≠n:=by rintro rfl;exact h v List.mem_cons_self
   simp [this]
theorem bindL_get {kindOf:Str->Option NameKind} {x:Str} {v:Value}:∀ {P:List Str} {vs:List Value} {i:Nat} {m:Str->Option Value},P.Nodup->P[i]?=some x->vs[i]?=some v->kindOf x=some .local ->
  bindL kindOf (P.zip vs) m x=some v
 | [],_,_,_,_,h,_,_=>by simp at h
 | _::_,[],_,_,_,_,h,_=>by simp at h
 | p::P,w::vs,0,m,nd,h1,h2,hk=>by
  simp at h1 h2;subst h1;subst h2
  show bindL kindOf ((p,w)::P.zip vs) m p=_
  unfold bindL
  rw [bindL_out fun v hv=>(List.nodup_cons.mp nd).1 (List.of_mem_zip hv).1,if_pos hk]
  simp
 | p::P,w::vs,i+1,m,nd,h1,h2,hk=>by
  show bindL kindOf ((p,w)::P.zip vs) m x=_
  unfold bindL
  exact bindL_get (i:=i) (List.nodup_cons.mp nd).2 (by simpa using h1) (by simpa using h2) hk
theorem bindC_get {kindOf:Str->Option NameKind} {x:Str} {v:Value}:∀ {P:List Str} {vs:List Value} {i:Nat} {m:Str->Option Value},P.Nodup->P[i]?=some x->vs[i]?=some v->kindOf x≠some .local ->
  bindC kindOf (P.zip vs) m x=some v
 | [],_,_,_,_,h,_,_=>by simp at h
 | _::_,[],_,_,_,_,h,_=>by simp at h
 | p::P,w::vs,0,m,nd,h1,h2,hk=>by
  simp at h1 h2;subst h1;subst h2
  show bindC kindOf ((p,w)::P.zip vs) m p=_
  unfold bindC
  rw [bindC_out fun v hv=>(List.nodup_cons.mp nd).1 (List.of_mem_zip hv).1,if_neg hk]
  simp
 | p::P,w::vs,i+1,m,nd,h1,h2,hk=>by
  show bindC kindOf ((p,w)::P.zip vs) m x=_
  unfold bindC
  exact bindC_get (i:=i) (List.nodup_cons.mp nd).2 (by simpa using h1) (by simpa using h2) hk
def start (N:List Str) (vs:List V):St:=vs.map some++List.replicate (N.length-vs.length) none
def cxOf (CX:CXT) (P:Program) (w:World) (K:PySem.W.Frag) (mg:Str->Option Value) (base:Heap) (N:List Str) (qual:Str) (scope:Scope) (f:Addr) (cd:Value) (A:Around) (outer:List Env) (s:Shared) (H:Hp) (E:XK):Cx where
 prog:=P
 w:=w
 K:=K
 mg:=mg
 base:=base
 A:=A.deeper (envOfC qual scope s.heap.objs.size f cd)
 N:=N
 s₀:=s
 H₀:=H
 env:=envOfC qual scope s.heap.objs.size f cd
 outer:=outer
 stack:=envOfC qual scope s.heap.objs.size f cd::outer
 ex:=[]
 calm:=true
 fn:=fun _=>true
 pn:=[]
 xe:=fun e s'=>wpAny (model P w) (A.deeper (envOfC qual scope s.heap.objs.size f cd)) (leaving (envOfC qual scope s.heap.objs.size f cd) e) (fun _ s''=>CX outer H s E e s'') (fun e' s''=>CX outer H s E e' s'') s'
theorem cell_has {sc:Scope} {n:Nat} {x:Str} (h:sc.names.lookup x=some .cell):∃ c,(cellsFrom n sc.names []).lookup x=some c:=by
 have q:=PySem.W.cellsFrom_some sc.names n [] (.inl h)
 exact Option.isSome_iff_exists.mp q
theorem inv_start {CX:CXT} {P:Program} {w:World} {K:PySem.W.Frag} {mg:Str->Option Value} {base:Heap} {N ps:List Str} {qual:Str} {scope:Scope} {f:Addr} {cd:Value} {A:Around} {outer:List Env} {s s1:Shared} {H:Hp} {E:XK} {us:List Value} {vs:List V}
  (S:FnScope N ps scope) (hd:A.handled=none) (e0:Env0 P w K mg base A outer s H) (hl:vs.length=ps.length) (r:Vals vs us)
  (x:InCallC s s.heap.objs.size (bindL (envOfC qual scope s.heap.objs.size f cd).kindOf (ps.zip us) fun _=>none) (cellsFrom (s.heap.objs.size+1) scope.names []) (bindC (envOfC qual scope s.heap.objs.size f cd).kindOf (ps.zip us) fun _=>none) s1) :
  Inv (cxOf CX P w K mg base N qual scope f cd A outer s H E) [] (start N vs) H s1:=by
 have hpl:ps.length<=N.length:=by have:=congrArg List.length S.pre;rw [List.length_take] at this;omega
 obtain ⟨h1,tk,rfl,hk⟩:=x.done
 have noA:∀ b:Addr,b∉(cxOf CX P w K mg base N qual scope f cd A outer s H E).ex:=fun b z=>absurd (show b∈([]:List Addr) from z) (by simp)
 refine ⟨⟨e0.mod,S.kind,rfl,rfl,Nat.le_refl _,fun y z c h1 h2=>?_,fun y hy=>?_,fun y c _ h=>?_,fun _=>hd,Around.frames_deeper e0.frames,.inr ⟨rfl,rfl⟩,fun b z=>absurd z (noA b),e0.bs,e0.bsz,fun b _ _=>noA b,fun b z=>absurd z (noA b),e0.funs,e0.frf⟩,
  rfl,e0.bare,Un.kept hk,⟨_,x.toInCall.ns,fun i y v h1 h2 h3=>?_⟩,fun y c h=>⟨_,x.cell y c h⟩,e0.hok.fresh (Nat.le_refl _),fun y c h=>?_,fun p hp=>absurd (show p∈([]:List (Addr×Obj)) from hp) (by simp),e0.hok.kept hk,?_⟩
 ·exact name_of_addr x.apart (PySem.mem_of_lookup h1) (PySem.mem_of_lookup h2)
 ·have hy:scope.names.lookup y=some .cell\/scope.names.lookup y=some .free:=hy
  rcases hy with hy | hy
  ·exact cell_has hy
  ·exact absurd rfl (S.nofree _ (PySem.mem_of_lookup hy))
 ·exact Nat.le_of_lt (x.above y c (PySem.mem_of_lookup h))
 ·have hi:i<vs.length:=by
   unfold start at h2
   by_cases hi:i<vs.length
   ·exact hi
   ·rw [List.getElem?_append_right (by simpa using hi)] at h2
    rw [List.getElem?_replicate] at h2
    split at h2<;>cases h2
  have ha:vs[i]?=some v:=by
   unfold start at h2
   rw [List.getElem?_append_left (by simpa using hi),List.getElem?_map] at h2
   cases e:vs[i]? with
   | none=>rw [e] at h2;cases h2
   | some a=>rw [e] at h2;cases h2;rfl
  obtain ⟨u,hu,rv⟩:=r.get ha
  have hp:ps[i]?=some y:=by
   rw [<- S.pre,List.getElem?_take_of_lt (by omega)];exact h1
  have ndP:ps.Nodup:=by rw [<- S.pre];exact S.nd.sublist (List.take_sublist _ _)
  refine ⟨u,rv,?_⟩
  rcases S.par y (List.mem_of_getElem? hp) with k | k
  ·exact .inl ⟨k,bindL_get ndP hp hu k⟩
  ·obtain ⟨c,e⟩:=cell_has (n:=s.heap.objs.size+1) k
   refine .inr ⟨.inl k,c,e,?_⟩
   have q:=x.cell y c e
   rw [bindC_get ndP hp hu (by show scope.names.lookup y≠_;rw [k];decide)] at q
   exact q
 ·exact e0.hok.fresh (Nat.le_of_lt (x.above y c (PySem.mem_of_lookup h)))
 ·unfold start
  show _=N.length
  rw [List.length_append,List.length_map,List.length_replicate]
  omega
theorem fn_of {CX:CXT} {P:Program} {w:World} {K:PySem.W.Frag} {mg:Str->Option Value} {base:Heap} {k:Nat} {f:Addr} {name qual:Str} {params:Arguments} {body:List Stmt} {scope:Scope} {dV kV doc pm cdv ct oc:Value} {an od:Option Addr}
  {osl:Array (Option Value)} {N ps:List Str} {sp:Sp} (lk:K.lookup f=some ⟨oc,od,.func (PySem.W.fnOf name qual params body scope dV kV doc pm an cdv ct),osl⟩) (hcd:PySem.W.codeIn K cdv qual=true) (S:FnScope N ps scope)
  (len:∀ vs H Q E,sp vs H Q E->vs.length=ps.length)
  (hbody:∀ (A:Around) (outer:List Env) (s:Shared) (H:Hp) (vs:List V) (Q:VK) (E:XK),Room k (A.deeper (envOfC qual scope s.heap.objs.size f cdv))->sp vs H Q E ->
   ∃ t,PSs (cxOf CX P w K mg base N qual scope f cdv A outer s H E) body t/\t { nx:=fun _ H'=>Q .non H',rt:=Q } (start N vs) H) :
  FnOk P w K mg base CX (k+1) f (PySem.W.fnOf name qual params body scope dV kV doc pm an cdv ct) ps sp:=by
 refine ⟨len,fun A outer s H args us vs Q E hr e0 hb r hsp=>?_⟩
 have hl:=len _ _ _ _ hsp
 have KX:K.In s.heap:=e0.mod.kin.keeps fun b o e=>(e0.bs b o e).1
 have lim:s.heap.NoLimit:=e0.mod.nolimit.keeps fun b o e=>(e0.bs b o e).1
 have hkind:∀ y∈ps.zip us,scope.names.lookup y.1=some .local\/(scope.names.lookup y.1=some .cell/\((cellsFrom (s.heap.objs.size+1) scope.names []).lookup y.1).isSome=true):=fun ⟨n,v⟩ hy=>by
  rcases S.par n (List.of_mem_zip hy).1 with q | q
  ·exact .inl q
  ·exact .inr ⟨q,PySem.W.cellsFrom_some _ _ _ (.inl q)⟩
 refine codeAny_call_function hr.depth (KX _ _ lk) rfl S.co S.gen rfl (PySem.W.codeRec_of KX hcd) (hb _ _ _ _ ?_)
 refine wpAny_newFunctionEnv_cells S.kind hkind fun env he s1 x=>?_
 subst he
 refine ⟨lim.keeps x.toInCall.keep,codeAny_func ?_⟩
 obtain ⟨t,ht,hq⟩:=hbody A outer s H vs Q E (hr.deeper _) hsp
 have I:Inv (cxOf CX P w K mg base N qual scope f cdv A outer s H E) [] (start N vs) H s1:=inv_start S hr.hd e0 hl r x
 refine wpAny_mono (ht [] s1 (start N vs) H _ I hq) (fun fl s' hs=>?_) fun e s' hs=>hs
 have fin:∀ {σ':St} {H':Hp} {v:V} {u:Value},Inv (cxOf CX P w K mg base N qual scope f cdv A outer s H E) [] σ' H' s'->RelV v u->Q v H'->CE outer P w H s Q u s' :=
  fun {σ' H' v u} J rv q=>⟨v,H',J.os,J.bare,J.base,J.hok,rv,q⟩
 cases fl with
 | ret u =>
  obtain ⟨v,σ',H',J,rv,q⟩:=hs
  exact fin J rv q
 | next =>
  obtain ⟨σ',H',J,q⟩:=hs
  exact fin (v:=V.non) (u:=Value.none) J rfl q
 | brk =>
  obtain ⟨_,_,_,q⟩:=hs
  exact False.elim q
 | cont =>
  obtain ⟨_,_,_,q⟩:=hs
  exact False.elim q
end L2
namespace L2
open PySem PySem.Spec PyProof.Rows
section
variable {X:Cx} {x:Str} {p pos:Pos} {e:Expr} {es:List Expr} {t:TA} {id T:String} {r:List V->Hp->VK->Prop}
def tCB (r:List V->Hp->VK->Prop) (t:TA):TE:=fun σ H Q=>t σ H fun vs H1=>r vs H1 Q
theorem pe_callB (hc:CallR X (.builtin id) r) (hg:Gl X x) (hm:X.mg x=none) (hv:bootBuiltins x=some (.builtin id)) (ha:PA X (e::es) t) (hn:x≠"__name__":=by decide) (hdb:(x==("__debug__":Str))=false:=by decide)
  (he:starEach (e::es) X.env=(false,eval e X.env)::starEach es X.env:=by rfl) (hpl:(backTo pos (starEach es X.env)).any (·.1)=false:=by rfl):PE X (.Call (.Name x p) (e::es) [] pos) (tCB r t):=by
 intro pins s σ H Q I h
 refine wpAny_Call_Name_kw (ld_blt I hg hm hv ?_ hn hdb)
 exact PyProof.Rows.callWith_builtin1 (thn (ha pos pins s σ H _ I h) fun us s1 ⟨vs,H1,I1,r1,q1⟩=>hc pins s1 σ H1 vs us Q I1 r1 q1) he hpl
theorem pe_callTy (hc:CallR X (.type T) r) (hg:Gl X x) (hm:X.mg x=none) (hv:bootBuiltins x=some (.type T)) (ha:PA X (e::es) t) (hn:x≠"__name__":=by decide) (hdb:(x==("__debug__":Str))=false:=by decide)
  (he:starEach (e::es) X.env=(false,eval e X.env)::starEach es X.env:=by rfl) (hpl:(backTo pos (starEach es X.env)).any (·.1)=false:=by rfl):PE X (.Call (.Name x p) (e::es) [] pos) (tCB r t):=by
 intro pins s σ H Q I h
 refine wpAny_Call_Name_kw (ld_blt I hg hm hv ?_ hn hdb)
 exact PyProof.Rows.callWith_type1 (thn (ha pos pins s σ H _ I h) fun us s1 ⟨vs,H1,I1,r1,q1⟩=>hc pins s1 σ H1 vs us Q I1 r1 q1) he hpl
end
end L2
namespace HT
open PySem PyProof.Rows
theorem eqAt_int (A:Around) (s:Shared) (a:Int) (t:Tok) (c:Int) (u:Tok):∃ e,SeqAt.EqAt A s (.int a t) (.int c u) e/\(e=true↔a=c) :=
 ⟨(a==c),SeqAt.EqAt.int_int a t c u,by simp⟩
section
open PySem.SeqAt
open PySem.AutoSeq1 (wpAny_loadPart')
open PySem.MeetsSeq PySem.MeetsSeq2 PySem.MeetsSeq3
end
section
variable {prog:Program} {w:World} {A:Around} {E:Value->Shared->Prop} {s:Shared}
theorem cat_tup {t b:Addr} {vs ws:List Value} {Q:Value->Shared->Prop} (ht:IsTup s.heap t vs.toArray) (hb:IsTup s.heap b ws.toArray) (hv:vs≠[])
  (h1:ws=[]->Q (.ref t) s) (h2:ws≠[]->Q (.ref s.heap.objs.size) { s with heap:=s.heap.push { cls:=.type "tuple",data:=.seq (vs++ws).toArray } })
  (hsz:vs.length+ws.length<=sizeLine):wpAny (model prog w) A (binaryOp .Add (.ref t) (.ref b)) Q E s:=by
 obtain ⟨⟨cls,dd,data,sl⟩,ho,hc,n,hd⟩:=id ht
 obtain ⟨⟨cls2,dd2,data2,sl2⟩,ho2,hc2,n2,hd2⟩:=id hb
 simp only at hc hd hc2 hd2
 subst hc hd hc2 hd2
 have e:vs.toArray++ws.toArray=(vs++ws).toArray:=by simp
 by_cases hw:ws=[]
 ·exact concat_meets ⟨_,ho,rfl⟩ ⟨_,ho2,rfl⟩ noFill_tuple_add seq_tuple_add PySem.F.slot_tuple_add PySem.F.entry_tuple_add (PySem.F.args_tuple_add_2 _ _)
   (tuple_addW1 t b vs.toArray ws.toArray n n2 dd dd2 sl sl2 (by simpa using hv) (by simp [hw])) ⟨ho,ho2,h1 hw⟩
 ·refine concat_meets ⟨_,ho,rfl⟩ ⟨_,ho2,rfl⟩ noFill_tuple_add seq_tuple_add PySem.F.slot_tuple_add PySem.F.entry_tuple_add (PySem.F.args_tuple_add_2 _ _)
   (tuple_addW2 t b vs.toArray ws.toArray n n2 dd dd2 sl sl2 (by simpa using hv) (by simpa using hw) (by rw [List.size_toArray,List.size_toArray];exact hsz)) ⟨ho,ho2,?_⟩
  rw [e]
  exact h2 hw
def sIx (n d:Nat):Option Int->Nat
 | none=>d
 | some v=>if v<0 then (v+(n:Int)).toNat else min v.toNat n
theorem sIx_le (n d:Nat) (hd:d<=n) (o:Option Int):sIx n d o<=n:=by
 cases o with
 | none=>exact hd
 | some v =>
  show (if v<0 then (v+(n:Int)).toNat else min v.toNat n)<=n
  by_cases hv:v<0
  ·rw [if_pos hv];omega
  ·rw [if_neg hv];exact Nat.min_le_right _ _
theorem clip_eq (v:Int) (n d:Nat):(if v<0 then max (v+(n:Int)) 0 else min v (n:Int))=((sIx n d (some v):Nat):Int):=by
 show (if v<0 then max (v+(n:Int)) 0 else min v (n:Int))=(((if v<0 then (v+(n:Int)).toNat else min v.toNat n):Nat):Int)
 by_cases hv:v<0
 ·simp only [if_pos hv];omega
 ·simp only [if_neg hv];omega
theorem adjust_gen (lo hi:Option Int) (n:Nat):Builtin.Slice.sliceAdjust lo hi 1 (n:Int)=(((sIx n 0 lo:Nat):Int),((sIx n n hi:Nat):Int)):=by
 have h1:¬ ((1:Int)<0):=by omega
 unfold Builtin.Slice.sliceAdjust
 simp only [h1,if_false]
 refine Prod.ext ?_ ?_
 ·cases lo with
  | none=>rfl
  | some v=>exact clip_eq v n 0
 ·cases hi with
  | none=>rfl
  | some v=>exact clip_eq v n n
theorem places_gen (i j:Nat):Builtin.Slice.slicePlaces (i:Int) (j:Int) 1=j-i:=by
 unfold Builtin.Slice.slicePlaces
 have h1:(1:Int) > 0:=by omega
 simp only [h1,if_true,Int.ediv_one]
 split<;>omega
theorem slicePart_ {v:Value} {o:Option Int} {Q:Option Int->Shared->Prop} (p:IsPart v o) (h:Q o s):wpAny (model prog w) A (Builtin.Slice.slicePartIndex v) Q E s:=by
 cases p with
 | none=>exact slicePart_none h
 | int i t=>exact slicePart_int h
theorem sliceApplied_gen {sl:Addr} {vl vu:Value} {lo hi:Option Int} {n:Nat} {Q:Int×Int×Nat->Shared->Prop} (hs:s.heap.IsSliceOf sl vl vu .none) (pl:IsPart vl lo) (pu:IsPart vu hi)
  (h:Q (((sIx n 0 lo:Nat):Int),1,sIx n n hi-sIx n 0 lo) s):wpAny (model prog w) A (Builtin.Slice.sliceApplied (.ref sl) (pure (n:Int))) Q E s:=by
 obtain ⟨os,hos,hcs,hds⟩:=id hs
 unfold Builtin.Slice.sliceApplied Builtin.Slice.sliceFields
 refine wpAny_bind (wpAny_bind (wpAny_field hos hds (x:=vl) rfl (wpAny_bind (wpAny_field hos hds (x:=vu) rfl (wpAny_bind (wpAny_field hos hds (x:=.none) rfl (wpAny_pure ?_)))))))
 refine wpAny_bind (slicePart_none ?_)
 show wpAny _ _ (if ((1:Int)==0)=true then _ else _) _ _ s
 rw [if_neg (by decide)]
 refine wpAny_bind (slicePart_ pl (wpAny_bind (slicePart_ pu (wpAny_bind (wpAny_pure ?_)))))
 show wpAny _ _ (match Builtin.Slice.sliceAdjust lo hi 1 (n:Int) with | (lo,hi)=>pure (lo,(1:Int),Builtin.Slice.slicePlaces lo hi 1)) _ _ s
 rw [adjust_gen lo hi n]
 show wpAny _ _ (pure (((sIx n 0 lo:Nat):Int),(1:Int),Builtin.Slice.slicePlaces ((sIx n 0 lo:Nat):Int) ((sIx n n hi:Nat):Int) 1)) _ _ s
 rw [places_gen]
 exact wpAny_pure h
theorem pick_gen (xs:Array Value) (i k:Nat):((List.range k).filterMap fun (m:Nat)=>xs[((i:Int)+(m:Int)*1).toNat]?).toArray=((xs.toList.drop i).take k).toArray:=by
 have e:(fun (m:Nat)=>xs[((i:Int)+(m:Int)*1).toNat]?)=fun m=>xs[i+m]?:=by
  funext m
  have:((i:Int)+(m:Int)*1).toNat=i+m:=by omega
  rw [this]
 rw [e]
 have:=pick_run xs i k
 rw [List.filterMap_map] at this
 have e2:((fun x=>xs[x]?)∘fun x=>i+x)=fun m=>xs[i+m]?:=rfl
 rw [e2] at this
 rw [this]
theorem getItem_tuple_cut {t sl:Addr} {items:Array Value} {vl vu:Value} {lo hi:Option Int} {Q:Value->Shared->Prop} (ht:IsTup s.heap t items) (hs:s.heap.IsSliceOf sl vl vu .none) (pl:IsPart vl lo) (pu:IsPart vu hi)
  (hw:¬ (sIx items.size 0 lo=0/\sIx items.size items.size hi=items.size))
  (h:Q (.ref s.heap.objs.size) { s with heap:=s.heap.push { cls:=.type "tuple",data:=.seq ((items.toList.drop (sIx items.size 0 lo)).take (sIx items.size items.size hi-sIx items.size 0 lo)).toArray } })
  (hsz:items.size<=sizeLine):wpAny (model prog w) A (getItem (.ref t) (.ref sl)) Q E s:=by
 have htake:sizeOk (.seq ((items.toList.drop (sIx items.size 0 lo)).take (sIx items.size items.size hi-sIx items.size 0 lo)).toArray):=by
  show ((items.toList.drop (sIx items.size 0 lo)).take (sIx items.size items.size hi-sIx items.size 0 lo)).toArray.size<=sizeLine
  rw [List.size_toArray,List.length_take,List.length_drop,Array.length_toList]
  omega
 have hj:sIx items.size items.size hi<=items.size:=sIx_le _ _ (Nat.le_refl _) hi
 obtain ⟨os,hos,hcs,hds⟩:=id hs
 have hTs:s.TypeIs (.ref sl) "slice":=⟨os,hos,hcs⟩
 unfold getItem
 try with_reducible refine wpAny_holding ?_
 first | refine wpAny_bind (wpAny_pure ?_) | skip
 refine wpAny_bind (wpAny_sequenceKey ht.typeIs (by decide) ?_)
 refine wpAny_bind (wpAny_callSpecial?_slot (name:=Str.ofString "__getitem__") ht.typeIs PyProof.Rows.slot_tuple_getitem
  (wpAny_call_entry PyProof.Rows.slot_tuple_getitem ht.typeIs entry_tuple_getitem ?_ (args_tuple_getitem _ _)))
 show wpAny _ _ (Builtin.Tuple.tupleItemsOf (.ref t) >>= _) _ _ s
 refine wpAny_bind (tupleItemsOf_ ht ?_)
 refine wpAny_bind (wpAny_typeOf hTs ?_)
 rw [if_pos (by decide)]
 refine wpAny_bind (sliceApplied_gen hs pl pu ?_)
 have hno:¬ ((((sIx items.size 0 lo:Nat):Int)==0&&(1:Int)==1&&(sIx items.size items.size hi-sIx items.size 0 lo)==items.size)=true):=by
  intro q
  rw [Bool.and_eq_true,Bool.and_eq_true] at q
  have q1:((sIx items.size 0 lo:Nat):Int)=0:=eq_of_beq q.1.1
  have q2:sIx items.size items.size hi-sIx items.size 0 lo=items.size:=eq_of_beq q.2
  exact hw ⟨by omega,by omega⟩
 show wpAny _ _ (if (((sIx items.size 0 lo:Nat):Int)==0&&(1:Int)==1&&(sIx items.size items.size hi-sIx items.size 0 lo)==items.size)=true then _ else _) _ _ s
 rw [if_neg hno,pick_gen]
 first
  | exact wpAny_bind (m:=Builtin.Tuple.tupleExact _) (wpAny_newObj_type (wpAny_pure ⟨_,rfl,wpAny_pure h⟩) htake)
  | exact wpAny_bind (m:=Builtin.Tuple.tupleExact _) (wpAny_newObj_type (wpAny_bind (wpAny_pure (wpAny_pure ⟨_,rfl,wpAny_pure h⟩))) htake)
  | exact wpAny_bind (wpAny_bind (m:=Builtin.Tuple.tupleExact _) (wpAny_newObj_type (wpAny_pure (wpAny_pure ⟨_,rfl,wpAny_pure h⟩)) htake))
  | exact wpAny_bind (wpAny_bind (m:=Builtin.Tuple.tupleExact _) (wpAny_newObj_type (wpAny_pure ⟨_,rfl,wpAny_pure h⟩) htake))
end
end HT
namespace L2
open PySem PySem.Spec PyProof.Rows
abbrev TO:=St->Hp->(Option Int->Hp->Prop)->Prop
def PO (X:Cx) (e:Option Expr) (t:TO):Prop :=
 ∀ (pins:List (Addr×Obj)) (s:Shared) (σ:St) (H:Hp) (Q:Option Int->Hp->Prop),Inv X pins σ H s->t σ H Q ->
  wpAny (model X.prog X.w) X.A (evalPart e X.env) (fun u s'=>∃ o H',Inv X pins σ H' s'/\IsPart u o/\Q o H') X.xe s
def tNoPart:TO:=fun _ H Q=>Q none H
def tPart (t:TE):TO:=fun σ H Q=>t σ H fun x H1=>∃ i,x=.int i/\Q (some i) H1
theorem intsAre_of {ns:List Int}:∀ {us:List Value},Vals (ns.map V.int) us->IntsAre us ns:=by
 induction ns with
 | nil=>intro us r;rw [List.map_nil] at r;cases r;exact .nil
 | cons n ns ih =>
  intro us r
  rw [List.map_cons] at r
  cases r with
  | cons r1 r2 =>
   obtain ⟨t,e⟩:=r1
   subst e
   exact .cons n t (ih r2)
section
variable {X:Cx} {e:Expr} {te:TE} {lo hi:Option Expr} {tl th:TO} {pos p2:Pos}
theorem po_none:PO X none tNoPart:=by
 intro pins s σ H Q I h
 rw [evalPart_none]
 exact wpAny_pure ⟨none,H,I,.none,h⟩
theorem po_some (h:PE X e te):PO X (some e) (tPart te):=by
 intro pins s σ H Q I hw
 rw [evalPart_some]
 refine thn (h pins s σ H _ I hw) fun u s1 ⟨x,H1,I1,r1,q1⟩=>?_
 obtain ⟨i,rfl,q⟩:=q1
 obtain ⟨t,rfl⟩:=r1
 exact ⟨some i,H1,I1,.int i t,q⟩
def SlR (X:Cx) (r:V->Option Int->Option Int->Hp->VK->Prop):Prop :=
 ∀ (pins:List (Addr×Obj)) (s:Shared) (σ:St) (H:Hp) (x:V) (v vl vu:Value) (lo hi:Option Int) (sl:Addr) (Q:VK),Inv X pins σ H s->RelV x v->s.heap.IsSliceOf sl vl vu .none->IsPart vl lo->IsPart vu hi->r x lo hi H Q ->
  ∃ T id,typeLookup (.type T) "__getitem__"=pure (some (.builtin id))/\s.TypeIs v T/\wpAny (model X.prog X.w) X.A (getItem v (.ref sl)) (EP X pins σ Q) X.xe s
theorem SlR.or {r r':V->Option Int->Option Int->Hp->VK->Prop} (h:SlR X r) (h':SlR X r'):SlR X (fun x lo hi H Q=>r x lo hi H Q\/r' x lo hi H Q):=by
 intro pins s σ H x v vl vu lo hi sl Q I rx hs pl pu q
 rcases q with q | q
 ·exact h pins s σ H x v vl vu lo hi sl Q I rx hs pl pu q
 ·exact h' pins s σ H x v vl vu lo hi sl Q I rx hs pl pu q
def tSl (r:V->Option Int->Option Int->Hp->VK->Prop) (te:TE) (tl th:TO):TE:=fun σ H Q=>te σ H fun x H1=>tl σ H1 fun l H2=>th σ H2 fun u H3=>r x l u H3 Q
theorem pe_slice {r:V->Option Int->Option Int->Hp->VK->Prop} (hr:SlR X r) (he:PE X e te) (hl:PO X lo tl) (hu:PO X hi th):PE X (.Subscript e (.Slice lo hi none p2) pos) (tSl r te tl th):=by
 intro pins s σ H Q I h
 refine Subscript_ (thn (he pins s σ H _ I h) fun v s1 ⟨x,H1,I1,r1,q1⟩=>?_)
 refine wpAny_Slice (thn (hl pins s1 σ H1 _ I1 q1) fun vl s2 ⟨l,H2,I2,pl,q2⟩=>thn (hu pins s2 σ H2 _ I2 q2) fun vu s3 ⟨u,H3,I3,pu,q3⟩=>?_)
 rw [evalPart_none]
 refine wpAny_pure ?_
 have I4:Inv X pins σ H3 { s3 with heap:=s3.heap.push { cls:=.type "slice",data:=.fields #[vl,vu,.none] } }:=I3.kept (t':=s3.toks) fun b ob q=>Heap.get?_push_of_some _ q
 obtain ⟨T,id,hT,ht,hg⟩:=hr pins { s3 with heap:=s3.heap.push { cls:=.type "slice",data:=.fields #[vl,vu,.none] } } σ H3 x v vl vu l u s3.heap.objs.size Q I4 r1 (Heap.IsSliceOf.new ..) pl pu q3
 show wpAny (model X.prog X.w) X.A (subscriptTail e (.Slice lo hi none p2) v (.ref s3.heap.objs.size)) (EP X pins σ Q) X.xe { s3 with heap:=s3.heap.push { cls:=.type "slice",data:=.fields #[vl,vu,.none] } }
 exact tail_any (ops:=[.ref s3.heap.objs.size,v]) ht hT hg (by with_unfolding_all rfl)
def cutV (xs:List V) (lo hi:Option Int):List V:=(xs.drop (HT.sIx xs.length 0 lo)).take (HT.sIx xs.length xs.length hi-HT.sIx xs.length 0 lo)
theorem cutV_length (xs:List V) (lo hi:Option Int):(cutV xs lo hi).length<=xs.length:=by
 unfold cutV
 rw [List.length_take,List.length_drop]
 omega
def rSlT (K:PySem.W.Frag):V->Option Int->Option Int->Hp->VK->Prop:=fun x lo hi H Q=>∃ a xs,x=.ref a/\SqT K H a xs /\
 ¬ (HT.sIx xs.length 0 lo=0/\HT.sIx xs.length xs.length hi=xs.length)/\∀ p,H p=none->Q (.ref p) (upd H p (.tup (cutV xs lo hi)))
theorem sl_tup:SlR X (rSlT X.K):=by
 intro pins s σ H x v vl vu lo hi sl Q I rx hs pl pu h
 obtain ⟨a,xs,rfl,hx,hw,q⟩:=h
 cases rx
 obtain ⟨its,r,ht,hz⟩:=I.tuple hx
 have hlen:its.toArray.size=xs.length:=by rw [List.size_toArray];exact r.length.symm
 refine ⟨"tuple",_,PyProof.Rows.slot_tuple_getitem.lookup,ht.typeIs,?_⟩
 refine HT.getItem_tuple_cut ht hs pl pu (by rw [hlen];exact hw) ?_ (by rw [hlen];exact hz)
 rw [hlen]
 refine ⟨.ref s.heap.objs.size,_,I.laid (t':=s.toks) (o:=.tup (cutV xs lo hi)) (fun b ob q=>Heap.get?_push_of_some _ q) (Nat.le_refl _) ?_,rfl,q _ (I.hok.fresh (Nat.le_refl _))⟩
 exact ⟨Nat.le_trans (cutV_length xs lo hi) hz,_,(r.drop (HT.sIx xs.length 0 lo)).take (HT.sIx xs.length xs.length hi-HT.sIx xs.length 0 lo),IsTup.new _ _⟩
def rCatT (K:PySem.W.Frag):R2:=fun x y H Q=>∃ a b xs ys,x=.ref a/\y=.ref b/\SqT K H a xs/\SqT K H b ys/\xs≠[]/\xs.length+ys.length<=sizeLine /\
 (ys=[]->Q (.ref a) H)/\(ys≠[]->∀ p,H p=none->Q (.ref p) (upd H p (.tup (xs++ys))))
theorem Vals.nil_iff {xs:List V} {us:List Value} (r:Vals xs us):us=[]↔xs=[]:=by
 cases r with
 | nil=>simp
 | cons _ _=>simp
theorem op_catT:OpR X (binaryOp .Add) (rCatT X.K):=by
 intro pins s σ H x y v u Q I rx ry h
 obtain ⟨a,b,xs,ys,rfl,rfl,ha,hb,hx,hz,q1,q2⟩:=h
 cases rx
 cases ry
 obtain ⟨its,r1,p1,_⟩:=I.tuple ha
 obtain ⟨its2,r2,p2,_⟩:=I.tuple hb
 refine HT.cat_tup p1 p2 (fun z=>hx (r1.nil_iff.mp z)) (fun z=>⟨.ref a,H,I,rfl,q1 (r2.nil_iff.mp z)⟩) (fun z=>?_) (by rw [<- r1.length,<- r2.length];exact hz)
 refine ⟨.ref s.heap.objs.size,_,I.laid (t':=s.toks) (o:=.tup (xs++ys)) (fun b ob q=>Heap.get?_push_of_some _ q) (Nat.le_refl _) ?_,rfl,q2 (fun w=>z (r2.nil_iff.mpr w)) _ (I.hok.fresh (Nat.le_refl _))⟩
 exact ⟨by rw [List.length_append];exact hz,_,r1.append r2,IsTup.new _ _⟩
end
end L2
namespace L2
open PySem PySem.Spec PyProof.Rows
def ixN (n:Nat) (i:Int):Option Nat:=if 0<=i then (if i<n then some i.toNat else none) else if -(n:Int)<=i then some (i+n).toNat else none
def atI {α:Type} (xs:List α) (i:Int):Option α:=(ixN xs.length i).bind fun j=>xs[j]?
theorem ixN_seq {n:Nat} {i:Int} {j:Nat} (h:ixN n i=some j):seqIndex? i n=some j/\j<n/\-(n:Int)<=i/\i<n:=by
 unfold ixN at h
 by_cases h0:0<=i
 ·rw [if_pos h0] at h
  by_cases h1:i<n
  ·rw [if_pos h1] at h
   have e:i.toNat=j:=Option.some.inj h
   exact ⟨by rw [seqIndex_of h0 h1,e],by omega,by omega,h1⟩
  ·rw [if_neg h1] at h;cases h
 ·rw [if_neg h0] at h
  by_cases h1:-(n:Int)<=i
  ·rw [if_pos h1] at h
   have e:(i+n).toNat=j:=Option.some.inj h
   exact ⟨by rw [seqIndex_neg (by omega) h1,e],by omega,h1,by omega⟩
  ·rw [if_neg h1] at h;cases h
theorem atI_get {α:Type} {xs:List α} {i:Int} {v:α} (h:atI xs i=some v):∃ j,seqIndex? i xs.length=some j/\xs[j]?=some v/\j<xs.length/\-(xs.length:Int)<=i/\i<xs.length:=by
 unfold atI at h
 cases e:ixN xs.length i with
 | none=>rw [e] at h;cases h
 | some j =>
  rw [e] at h
  obtain ⟨h1,h2,h3,h4⟩:=ixN_seq e
  exact ⟨j,h1,h,h2,h3,h4⟩
def PlainIx (b:Expr):Prop:=∀ o i,subscripted b false o i=operate [o,i] (getItem o i)
def IxR (X:Cx) (r:R2):Prop :=
 ∀ (value slice:Expr) (pins:List (Addr×Obj)) (s:Shared) (σ:St) (H:Hp) (x y:V) (v u:Value) (Q:VK),Inv X pins σ H s->RelV x v->RelV y u->r x y H Q ->
  subscripted slice false v u=operate [v,u] (getItem v u)->wpAny (model X.prog X.w) X.A (subscriptTail value slice v u) (EP X pins σ Q) X.xe s
def MtR (X:Cx) (id:String) (r:V->List V->Hp->VK->Prop):Prop :=
 ∀ (pins:List (Addr×Obj)) (s:Shared) (σ:St) (H:Hp) (x:V) (xs:List V) (v:Value) (us:List Value) (Q:VK),Inv X pins σ H s->RelV x v->Vals xs us->r x xs H Q ->
  wpAny (model X.prog X.w) X.A (call (.builtin id) (v::us)) (EP X pins σ Q) X.xe s
section
variable {X:Cx} {a b:Expr} {ta tb:TE} {pos:Pos}
theorem IxR.or {r r':R2} (h:IxR X r) (h':IxR X r'):IxR X (fun x y H Q=>r x y H Q\/r' x y H Q):=by
 intro value slice pins s σ H x y v u Q I rx ry q hs
 rcases q with q | q
 ·exact h value slice pins s σ H x y v u Q I rx ry q hs
 ·exact h' value slice pins s σ H x y v u Q I rx ry q hs
theorem MtR.or {id:String} {r r':V->List V->Hp->VK->Prop} (h:MtR X id r) (h':MtR X id r'):MtR X id (fun x xs H Q=>r x xs H Q\/r' x xs H Q):=by
 intro pins s σ H x xs v us Q I rx rs q
 rcases q with q | q
 ·exact h pins s σ H x xs v us Q I rx rs q
 ·exact h' pins s σ H x xs v us Q I rx rs q
theorem pe_ix {r:R2} (hr:IxR X r) (ha:PE X a ta) (hb:PE X b tb) (hs:PlainIx b):PE X (.Subscript a b pos) (tOp r ta tb):=by
 intro pins s σ H Q I h
 exact Subscript_ (binT ha hb I h fun v u s2 x y H2 I2 rx ry q=>hr a b pins s2 σ H2 x y v u Q I2 rx ry q (hs _ _))
def rIxL (K:PySem.W.Frag):R2:=fun x y H Q=>∃ p xs i v,x=.ref p/\y=.int i/\SqL K H p xs/\atI xs i=some v/\Q v H
def rIxT (K:PySem.W.Frag):R2:=fun x y H Q=>∃ p xs i v,x=.ref p/\y=.int i/\SqT K H p xs/\atI xs i=some v/\Q v H
def rIxS:R2:=fun x y H Q=>∃ z i c,x=.str z/\y=.int i/\z.length<=sizeLine/\atI z.cps.toList i=some c/\Q (.str ⟨#[c]⟩) H
theorem ix_list:IxR X (rIxL X.K):=by
 intro value slice pins s σ H x y v u Q I rx ry h hs
 obtain ⟨p,xs,i,z,rfl,rfl,hq,he,q⟩:=h
 cases rx
 obtain ⟨t,rfl⟩:=ry
 obtain ⟨its,r,pl,hz⟩:=I.list hq
 obtain ⟨j,h1,h2,h3,h4,h5⟩:=atI_get he
 obtain ⟨w,ew,rw'⟩:=r.get h2
 have hl:=r.length
 have hn:=line63
 have fin:EP X pins σ Q w s:=⟨z,H,I,rw',q⟩
 by_cases h0:0<=i
 ·have hj:i.toNat=j:=by
   rw [seqIndex_of h0 h5] at h1
   exact Option.some.inj h1
  exact item_listR pl.isList h0 (by omega) (by rw [hj];simpa using ew) fin hs
 ·have hj:(i+(its.toArray.size:Int)).toNat=j:=by
   rw [seqIndex_neg (by omega) h4] at h1
   rw [List.size_toArray,<- hl]
   exact Option.some.inj h1
  exact subscriptTail_builtinR (x:=w) pl.isList.typeIs slot_list_getitem.lookup
   (wpAny_getItem_list_neg (Q:=fun r s'=>r=w/\EP X pins σ Q r s') pl.isList (by omega) (by rw [List.size_toArray]<;>omega) (by omega) (by rw [hj];simpa using ew) ⟨rfl,fin⟩) hs
theorem ix_tup:IxR X (rIxT X.K):=by
 intro value slice pins s σ H x y v u Q I rx ry h hs
 obtain ⟨p,xs,i,z,rfl,rfl,hq,he,q⟩:=h
 cases rx
 obtain ⟨t,rfl⟩:=ry
 obtain ⟨its,r,pl,hz⟩:=I.tuple hq
 obtain ⟨j,h1,h2,h3,h4,h5⟩:=atI_get he
 obtain ⟨w,ew,rw'⟩:=r.get h2
 have hl:=r.length
 have hn:=line63
 have fin:EP X pins σ Q w s:=⟨z,H,I,rw',q⟩
 exact subscriptTail_builtinR (x:=w) pl.typeIs slot_tuple_getitem.lookup
  (getItem_tuple (j:=j) (Q:=fun r s'=>r=w/\EP X pins σ Q r s') pl (by omega) (by omega) (by rw [List.size_toArray,<- hl];exact h1) (by simpa using ew) ⟨rfl,fin⟩) hs
theorem ix_str:IxR X rIxS:=by
 intro value slice pins s σ H x y v u Q I rx ry h hs
 obtain ⟨z,i,c,rfl,rfl,hz,he,q⟩:=h
 obtain ⟨t,rfl⟩:=rx
 obtain ⟨t',rfl⟩:=ry
 obtain ⟨j,h1,h2,h3,h4,h5⟩:=atI_get he
 have hl:z.cps.toList.length=z.length:=by simp [Str.length]
 rw [hl] at h1 h4 h5
 have hn:=line63
 exact tail_any (typeIs_str s z t) slot_str_getitem.lookup (getItem_str (c:=c) (by
  have e1:decide (i < -(2^63:Int))=false:=decide_eq_false (by omega)
  have e2:decide (i ≥ 2^63)=false:=decide_eq_false (by omega)
  rw [e1,e2,Bool.or_false]) (by rw [h1];simpa using h2) ⟨.str ⟨#[c]⟩,H,I.tok _,⟨_,rfl⟩,q⟩) hs
def rIx (K:PySem.W.Frag):R2:=fun x y H Q=>rIxL K x y H Q\/rIxT K x y H Q\/rIxS x y H Q
theorem ix_seq:IxR X (rIx X.K):=ix_list.or (ix_tup.or ix_str)
theorem Inv.lst {pins:List (Addr×Obj)} {σ:St} {H:Hp} {s:Shared} {p:Addr} {xs:List V} (I:Inv X pins σ H s) (h:H p=some (.lst xs)) :
  ∃ (its:List Value) (n:Nat),Vals xs its/\s.heap.get? p=some { cls:=.type "list",data:=.seq its.toArray n }/\xs.length<=sizeLine:=by
 obtain ⟨z,its,n,r,e⟩:=I.hok p _ h
 exact ⟨its,n,r,e,z⟩
theorem slice_bounds (lo hi:Option Int) (n:Nat):(sliceBounds lo hi none n).1=((HT.sIx n 0 lo:Nat):Int)/\(sliceBounds lo hi none n).2.1=((HT.sIx n n hi:Nat):Int)/\(sliceBounds lo hi none n).2.2=1:=by
 refine ⟨?_,?_,rfl⟩
 ·cases lo with
  | none=>simp [sliceBounds,HT.sIx]
  | some i =>
   simp only [sliceBounds,HT.sIx,Option.getD_none,show (1:Int) > 0 by decide,if_true]
   by_cases h:i<0
   ·simp only [h,if_true]<;>omega
   ·simp only [h,if_false]<;>omega
 ·cases hi with
  | none=>simp [sliceBounds,HT.sIx]
  | some i =>
   simp only [sliceBounds,HT.sIx,Option.getD_none,show (1:Int) > 0 by decide,if_true]
   by_cases h:i<0
   ·simp only [h,if_true]<;>omega
   ·simp only [h,if_false]<;>omega
theorem slicePick_cut (its:List Value) (lo hi:Option Int):slicePick its.toArray lo hi none=((its.drop (HT.sIx its.length 0 lo)).take (HT.sIx its.length its.length hi-HT.sIx its.length 0 lo)).toArray:=by
 obtain ⟨h1,h2,h3⟩:=slice_bounds lo hi its.toArray.size
 unfold slicePick
 rw [h1,h2,h3]
 simp only [sliceRange_one,pick_run,List.size_toArray]<;>rfl
def rSlL (K:PySem.W.Frag):V->Option Int->Option Int->Hp->VK->Prop:=fun x lo hi H Q=>∃ a xs,x=.ref a/\SqL K H a xs/\∀ p,H p=none->Q (.ref p) (upd H p (.lst (cutV xs lo hi)))
theorem sl_list:SlR X (rSlL X.K):=by
 intro pins s σ H x v vl vu lo hi sl Q I rx hs pl pu h
 obtain ⟨a,xs,rfl,hx,q⟩:=h
 cases rx
 obtain ⟨its,r,ht,hz⟩:=I.list hx
 have hlen:=r.length
 refine ⟨"list",_,slot_list_getitem.lookup,ht.isList.typeIs,?_⟩
 refine wpAny_getItem_list_slice ht.isList hs pl pu .none (by simp) ?_ (by rw [List.size_toArray]<;>omega)
 rw [slicePick_cut,<- hlen]
 refine ⟨.ref s.heap.objs.size,_,I.laid (t':=s.toks) (o:=.lst (cutV xs lo hi)) (fun b ob q=>Heap.get?_push_of_some _ q) (Nat.le_refl _) ?_,rfl,q _ (I.hok.fresh (Nat.le_refl _))⟩
 exact ⟨Nat.le_trans (cutV_length xs lo hi) hz,_,0,(r.drop (HT.sIx xs.length 0 lo)).take (HT.sIx xs.length xs.length hi-HT.sIx xs.length 0 lo),Heap.get?_push_size _ rfl⟩
def flatV:V->Bool
 | .non=>true
 | .bl _=>true
 | .int _=>true
 | .str _=>true
 | _=>false
def eqV:V->V->Bool
 | .non,.non=>true
 | .bl a,.bl b=>a==b
 | .bl a,.int b=>(if a then 1 else 0)==b
 | .int a,.bl b=>a==(if b then 1 else 0)
 | .int a,.int b=>a==b
 | .str a,.str b=>a==b
 | _,_=>false
theorem eqAt_V {A:Around} {s:Shared} {y x:V} {u v:Value} (ry:RelV y u) (rx:RelV x v) (fy:flatV y=true) (fx:flatV x=true):SeqAt.EqAt A s u v (eqV y x):=by
 cases y with
 | non =>
  cases ry
  cases x with
  | non=>cases rx;exact SeqAt.EqAt.same _
  | bl b=>cases rx;exact SeqAt.EqAt.none_bool b
  | int b=>obtain ⟨t,rfl⟩:=rx;exact SeqAt.EqAt.none_int b t
  | str b=>obtain ⟨t,rfl⟩:=rx;exact SeqAt.EqAt.none_str b t
  | _=>exact absurd (show false=true from fx) Bool.false_ne_true
 | bl a =>
  cases ry
  cases x with
  | non=>cases rx;exact SeqAt.EqAt.bool_none a
  | bl b=>cases rx;exact SeqAt.EqAt.bool_bool a b
  | int b=>obtain ⟨t,rfl⟩:=rx;exact SeqAt.EqAt.bool_int a b t
  | str b=>obtain ⟨t,rfl⟩:=rx;exact SeqAt.EqAt.bool_str a b t
  | _=>exact absurd (show false=true from fx) Bool.false_ne_true
 | int a =>
  obtain ⟨t',rfl⟩:=ry
  cases x with
  | non=>cases rx;exact SeqAt.EqAt.int_none a t'
  | bl b=>cases rx;exact SeqAt.EqAt.int_bool a t' b
  | int b=>obtain ⟨t,rfl⟩:=rx;exact SeqAt.EqAt.int_int a t' b t
  | str b=>obtain ⟨t,rfl⟩:=rx;exact SeqAt.EqAt.int_str a t' b t
  | _=>exact absurd (show false=true from fx) Bool.false_ne_true
 | str a =>
  obtain ⟨t',rfl⟩:=ry
  cases x with
  | non=>cases rx;exact SeqAt.EqAt.str_none a t'
  | bl b=>cases rx;exact SeqAt.EqAt.str_bool a t' b
  | int b=>obtain ⟨t,rfl⟩:=rx;exact SeqAt.EqAt.str_int a t' b t
  | str b=>obtain ⟨t,rfl⟩:=rx;exact SeqAt.EqAt.str_str a t' b t
  | _=>exact absurd (show false=true from fx) Bool.false_ne_true
 | _=>exact absurd (show false=true from fy) Bool.false_ne_true
def eqU (x:V) (u:Value):Bool:=match u with
 | .none=>eqV .non x
 | .bool b=>eqV (.bl b) x
 | .int i _=>eqV (.int i) x
 | .str z _=>eqV (.str z) x
 | _=>false
theorem eqU_of {x y:V} {u:Value} (r:RelV y u) (f:flatV y=true):eqU x u=eqV y x:=by
 cases y with
 | non=>cases r;rfl
 | bl b=>cases r;rfl
 | int i=>obtain ⟨t,rfl⟩:=r;rfl
 | str z=>obtain ⟨t,rfl⟩:=r;rfl
 | _=>exact absurd (show false=true from f) Bool.false_ne_true
theorem any_eqU {x:V}:∀ {xs:List V} {us:List Value},Vals xs us->xs.all flatV=true->us.any (eqU x)=xs.any fun y=>eqV y x
 | _,_,.nil,_=>rfl
 | y::xs,u::us,.cons r t,f=>by
  rw [List.all_cons,Bool.and_eq_true] at f
  rw [List.any_cons,List.any_cons,eqU_of r f.1,any_eqU t f.2]
theorem mem_eqAt {A:Around} {s:Shared} {x:V} {v:Value} (rx:RelV x v) (fx:flatV x=true):∀ {xs:List V} {us:List Value},Vals xs us->xs.all flatV=true->∀ u∈us,SeqAt.EqAt A s u v (eqU x u)
 | _,_,.nil,_=>fun u hu=>by cases hu
 | y::xs,u::us,.cons r t,f=>fun u' hu=>by
  rw [List.all_cons,Bool.and_eq_true] at f
  rcases List.mem_cons.mp hu with rfl | hu
  ·rw [eqU_of r f.1];exact eqAt_V r rx f.1 fx
  ·exact mem_eqAt rx fx t f.2 u' hu
def inV (x:V) (xs:List V):Bool:=xs.any fun y=>eqV y x
def rIn (K:PySem.W.Frag) (neg:Bool):R2:=fun x y H Q=>∃ p xs,y=.ref p/\(SqL K H p xs\/SqT K H p xs)/\flatV x=true/\xs.all flatV=true/\Q (.bl (if neg then !inV x xs else inV x xs)) H
theorem op_in_seq:OpR X (compareOp .In) (rIn X.K false):=by
 intro pins s σ H x y v u Q I rx ry h
 obtain ⟨p,xs,rfl,hq,fx,fs,q⟩:=h
 cases ry
 rcases hq with hq | hq
 ·obtain ⟨its,r,pl,hz⟩:=I.list hq
  refine SeqAt.in_listAt (eqU x) pl.isList (fun w hw=>mem_eqAt rx fx r fs w (by simpa using hw)) ⟨.bl _,H,I,rfl,?_⟩
  rw [show its.toArray.any (eqU x)=its.any (eqU x) by simp,any_eqU r fs]
  exact q
 ·obtain ⟨its,r,pl,hz⟩:=I.tuple hq
  refine SeqAt.in_tupleAt (eqU x) pl (fun w hw=>mem_eqAt rx fx r fs w (by simpa using hw)) ⟨.bl _,H,I,rfl,?_⟩
  rw [show its.toArray.any (eqU x)=its.any (eqU x) by simp,any_eqU r fs]
  exact q
theorem op_notIn_seq:OpR X (compareOp .NotIn) (rIn X.K true):=by
 intro pins s σ H x y v u Q I rx ry h
 obtain ⟨p,xs,rfl,hq,fx,fs,q⟩:=h
 cases ry
 rcases hq with hq | hq
 ·obtain ⟨its,r,pl,hz⟩:=I.list hq
  refine SeqAt.notIn_listAt (eqU x) pl.isList (fun w hw=>mem_eqAt rx fx r fs w (by simpa using hw)) ⟨.bl _,H,I,rfl,?_⟩
  rw [show its.toArray.any (eqU x)=its.any (eqU x) by simp,any_eqU r fs]
  exact q
 ·obtain ⟨its,r,pl,hz⟩:=I.tuple hq
  refine SeqAt.notIn_tupleAt (eqU x) pl (fun w hw=>mem_eqAt rx fx r fs w (by simpa using hw)) ⟨.bl _,H,I,rfl,?_⟩
  rw [show its.toArray.any (eqU x)=its.any (eqU x) by simp,any_eqU r fs]
  exact q
theorem call_len_seq:CallR X (.builtin "len") (fun xs H Q=>∃ p ys,xs=[.ref p]/\(SqL X.K H p ys\/SqT X.K H p ys)/\Q (.int ys.length) H):=by
 intro pins s σ H xs us Q I r h
 obtain ⟨p,ys,rfl,hq,q⟩:=h
 obtain ⟨u,rfl,rx⟩:=vals1 r
 cases rx
 have hn:=line63
 rcases hq with hq | hq
 ·obtain ⟨its,r',pl,hz⟩:=I.list hq
  have hlen:=r'.length
  exact Calls.call_len_list pl.isList (by simp only [List.size_toArray]<;>omega) ⟨.int ys.length,H,I.tok _,⟨s.toks+1,by rw [List.size_toArray,hlen]⟩,q⟩
 ·obtain ⟨its,r',pl,hz⟩:=I.tuple hq
  have hlen:=r'.length
  exact len_tuple pl (by simp only [List.size_toArray]<;>omega) ⟨.int ys.length,H,I.tok _,⟨s.toks+1,by rw [List.size_toArray,hlen]⟩,q⟩
theorem call_len_str:CallR X (.builtin "len") (fun xs H Q=>∃ z,xs=[.str z]/\z.length<=sizeLine/\Q (.int z.length) H):=by
 intro pins s σ H xs us Q I r h
 obtain ⟨z,rfl,hz,q⟩:=h
 obtain ⟨u,rfl,t,rfl⟩:=vals1 r
 have hn:=line63
 exact len_str (by omega) ⟨.int z.length,H,I.tok _,⟨_,rfl⟩,q⟩
theorem CallR.or {f:Value} {r r':List V->Hp->VK->Prop} (h:CallR X f r) (h':CallR X f r'):CallR X f (fun xs H Q=>r xs H Q\/r' xs H Q):=by
 intro pins s σ H xs us Q I rs q
 rcases q with q | q
 ·exact h pins s σ H xs us Q I rs q
 ·exact h' pins s σ H xs us Q I rs q
theorem call_list_of:CallR X (.type "list") (fun xs H Q=>∃ p ys,xs=[.ref p]/\(SqL X.K H p ys\/SqT X.K H p ys)/\∀ l,H l=none->Q (.ref l) (upd H l (.lst ys))):=by
 intro pins s σ H xs us Q I r h
 obtain ⟨p,ys,rfl,hq,q⟩:=h
 obtain ⟨u,rfl,rx⟩:=vals1 r
 cases rx
 have fin:∀ (its:List Value),Vals ys its->ys.length<=sizeLine->∀ (h':Heap) (c':Nat),(∀ b o',s.heap.get? b=some o'->h'.get? b=some o') ->
   h'.get? s.heap.objs.size=some { cls:=.type "list",dict:=none,data:=.seq its.toArray c',slots:=#[] }->EP X pins σ Q (.ref s.heap.objs.size) { s with heap:=h' }:=fun its r' hz h' c' kp e =>
  ⟨.ref s.heap.objs.size,_,I.laid (t':=s.toks) kp (Nat.le_refl _) (show ObjOk X.prog X.w _ h' _ (.lst ys) from ⟨hz,its,c',r',e⟩),rfl,q _ (I.hok.fresh (Nat.le_refl _))⟩
 rcases hq with hq | hq
 ·obtain ⟨its,r',pl,hz⟩:=I.list hq
  have hlen:=r'.length
  obtain ⟨o,ho,hc,n,hd⟩:=pl.isList
  exact call_list_seq p (.inl rfl) ho hc hd (fun h' c' kp e=>fin its r' hz h' c' kp e) (by simp only [List.size_toArray]<;>omega)
 ·obtain ⟨its,r',pl,hz⟩:=I.tuple hq
  have hlen:=r'.length
  obtain ⟨o,ho,hc,n,hd⟩:=pl
  exact call_list_seq p (.inr rfl) ho hc hd (fun h' c' kp e=>fin its r' hz h' c' kp e) (by simp only [List.size_toArray]<;>omega)
def tyV (K:PySem.W.Frag) (T:String) (x:V) (H:Hp):Prop:=match x with
 | .str _=>T="str"
 | .int _=>T="int"
 | .ref p=>(T="list"/\∃ xs,SqL K H p xs)\/(T="tuple"/\∃ o,K.lookup p=some o/\o.cls=.type "tuple"/\o.dict=none) \/
   (T="dict"/\((∃ kvs,H p=some (.dK kvs))\/∃ kvs,H p=some (.dT kvs)))\/(T="set"/\∃ S n,H p=some (.set S n))
 | _=>False
theorem tyV_is {pins:List (Addr×Obj)} {σ:St} {H:Hp} {s:Shared} {T:String} {x:V} {v:Value} (I:Inv X pins σ H s) (r:RelV x v) (ty:tyV X.K T x H) :
  s.TypeIs v T/\∀ a,v=.ref a->∃ ob,s.heap.get? a=some ob/\ob.dict=none:=by
 cases x with
 | str z =>
  obtain ⟨t,rfl⟩:=r
  cases (show T="str" from ty)
  exact ⟨typeIs_str s z t,fun _ e=>nomatch e⟩
 | int i =>
  obtain ⟨t,rfl⟩:=r
  cases (show T="int" from ty)
  exact ⟨typeIs_int s i t,fun _ e=>nomatch e⟩
 | ref p =>
  cases r
  rcases ty with ⟨rfl,xs,hq⟩ | ⟨rfl,o,hk,hc,hd⟩ | ⟨rfl,hk⟩ | ⟨rfl,S,n,hk⟩
  ·obtain ⟨its,_,pl,_⟩:=I.list hq
   refine ⟨pl.isList.typeIs,fun a e=>?_⟩
   cases e
   obtain ⟨o,n,e,c,hd,_⟩:=pl
   exact ⟨o,e,hd⟩
  ·refine ⟨⟨o,I.kIn p o hk,hc⟩,fun a e=>?_⟩
   cases e
   exact ⟨o,I.kIn _ o hk,hd⟩
  ·have z:∃ o,s.heap.get? p=some o/\o.ExactDict:=by
    rcases hk with ⟨kvs,hk⟩ | ⟨kvs,hk⟩
    ·obtain ⟨_,_,_,_,o,_,_,e,ex,_⟩:=I.hok p _ hk
     exact ⟨o,e,ex⟩
    ·obtain ⟨_,_,_,_,o,_,_,e,ex,_⟩:=I.hok p _ hk
     exact ⟨o,e,ex⟩
   obtain ⟨o,e,ex⟩:=z
   refine ⟨⟨o,e,ex.1⟩,fun a e2=>?_⟩
   cases e2
   exact ⟨o,e,ex.2.1⟩
  ·obtain ⟨o,_,_,_,e,ex,_⟩:=I.hok p _ hk
   refine ⟨⟨o,e,ex.1⟩,fun a e2=>?_⟩
   cases e2
   exact ⟨o,e,ex.2.1⟩
 | _=>exact False.elim ty
def tBM0 (K:PySem.W.Frag) (T:String) (r:V->List V->Hp->VK->Prop) (to:TE):TE:=fun σ H Q=>to σ H fun x H1=>tyV K T x H1/\r x [] H1 Q
def tBM (K:PySem.W.Frag) (T:String) (r:V->List V->Hp->VK->Prop) (to:TE) (t:TA):TE:=fun σ H Q=>to σ H fun x H1=>tyV K T x H1/\t σ H1 fun xs H2=>r x xs H2 Q
variable {o e:Expr} {es:List Expr} {to:TE} {t:TA} {name:Str} {apos cpos:Pos} {T id:String} {r:V->List V->Hp->VK->Prop}
theorem pe_bm0 (pa:PlainAttrs T) (slot:Slot T name id) (hty:typeOf (.builtin id)=pure (.type "method_descriptor")) (hm:MtR X id r) (ho:PE X o to)
  (hbase:attributeBase o name X.env (eval o X.env)=eval o X.env:=by rfl) (hline:(apos.endLine==cpos.line)=true:=by rfl):PE X (.Call (.Attribute o name apos) [] [] cpos) (tBM0 X.K T r to):=by
 intro pins s σ H Q I h
 refine wpAny_Call_method0_late hbase hline (thn (ho pins s σ H _ I h) fun v s1 ⟨x,H1,I1,r1,ty,q1⟩=>?_)
 obtain ⟨h1,h2⟩:=tyV_is I1 r1 ty
 exact ⟨T,id,pa,slot,hty,h1,h2,Calls.callWith_builtin rfl (PySem.evalArgs_none (hm pins s1 σ H1 x [] v [] Q I1 r1 .nil q1))⟩
theorem pe_bm (pa:PlainAttrs T) (slot:Slot T name id) (hty:typeOf (.builtin id)=pure (.type "method_descriptor")) (hm:MtR X id r) (ho:PE X o to) (ha:PA X (e::es) t)
  (hbase:attributeBase o name X.env (eval o X.env)=eval o X.env:=by rfl)
  (hfew:((backTo cpos (starEach (e::es) X.env)).all (fun x=>!x.1)&&(backToKw cpos (keywordEach [] X.env)).all (fun x=>x.1.isSome)
   && decide ((e::es).length+([]:List Keyword).length+(if ([]:List Keyword).isEmpty then 0 else 1)<30))=true:=by rfl)
  (hline:(apos.endLine==cpos.line)=true:=by rfl) (hs:starEach (e::es) X.env=(false,eval e X.env)::starEach es X.env:=by rfl) (hplain:(backTo cpos (starEach es X.env)).any (·.1)=false:=by rfl) :
  PE X (.Call (.Attribute o name apos) (e::es) [] cpos) (tBM X.K T r to t):=by
 intro pins s σ H Q I h
 refine wpAny_Call_method_late hbase hfew hline rfl (thn (ho pins s σ H _ I h) fun v s1 ⟨x,H1,I1,r1,ty,q1⟩=>?_)
 obtain ⟨h1,h2⟩:=tyV_is I1 r1 ty
 refine ⟨T,id,pa,slot,hty,h1,h2,?_⟩
 have hA:=ha cpos pins s1 σ H1 _ I1 q1
 rw [hs] at hA ⊢
 refine Calls.callWith_builtin (by show (false||(backTo cpos (starEach es X.env)).any (·.1))=false;rw [hplain]<;>rfl) (Calls.evalArgs_plain ?_)
 exact thn hA fun us s2 ⟨vs,H2,I2,r2,q2⟩=>hm pins s2 σ H2 x vs v us Q I2 r1 r2 q2
end
end L2
namespace L2
open PySem PySem.Spec PyProof.Rows
def MtM (X:Cx) (id:String) (r:V->List V->Hp->VK->Prop):Prop :=
 ∀ (pins:List (Addr×Obj)) (s:Shared) (σ:St) (H:Hp) (x:V) (xs:List V) (v:Value) (us:List Value) (Q:VK),Inv X pins σ H s->RelV x v->Vals xs us->r x xs H Q ->
  wpAny (model X.prog X.w) X.A (call (.builtin id) (v::us)) (EP X pins σ Q) X.xe s
theorem Vals.one:∀ {x:V} {us:List Value},Vals [x] us->∃ u,us=[u]/\RelV x u
 | _,_,.cons r .nil=>⟨_,rfl,r⟩
theorem Vals.zero:∀ {us:List Value},Vals [] us->us=[]
 | _,.nil=>rfl
theorem Vals.rep {xs:List V} {us:List Value} (h:Vals xs us):∀ k:Nat,Vals (List.replicate k xs).flatten (List.replicate k us).flatten
 | 0=>.nil
 | k+1=>by
  rw [List.replicate_succ,List.replicate_succ,List.flatten_cons,List.flatten_cons]
  exact Vals.append h (Vals.rep h k)
theorem foldl_rep (its:List Value):∀ (k:Nat) (acc:List Value),
  List.foldl (fun x1 x2=>x1++x2) acc.toArray (List.replicate k its.toArray)=(acc++(List.replicate k its).flatten).toArray
 | 0,acc=>by simp
 | k+1,acc=>by
  have e:acc.toArray++its.toArray=(acc++its).toArray:=by simp
  have e2:(acc++its)++(List.replicate k its).flatten=acc++(List.replicate (k+1) its).flatten:=by
   rw [List.replicate_succ,List.flatten_cons,List.append_assoc]
  rw [<- e2,<- foldl_rep its k (acc++its),<- e,List.replicate_succ,List.foldl_cons]
section
variable {X:Cx} {pins:List (Addr×Obj)} {σ:St} {H:Hp} {s:Shared} {l b:Addr} {xs ys zs:List V}
theorem Inv.lset {its its':List Value} {n:Nat} {f:Array Value->Array Value} {t':Nat} (I:Inv X pins σ H s) (hH:H l=some (.lst xs))
  (e:s.heap.get? l=some { cls:=.type "list",data:=.seq its.toArray n }) (hf:f its.toArray=its'.toArray) (hv:Vals ys its') (hz:ys.length<=sizeLine) :
  Inv X pins σ (upd H l (.lst ys)) { s with heap:=s.heap.update l (Obj.mapSeq f),toks:=t' }:=by
 have q:=PySem.IsL.update e f
 rw [hf] at q
 refine I.write (x:=l) (e:=l) (by rw [hH];exact trivial) (.inl rfl) (fun b' u hb hu=>(Heap.get?_update_other s.heap (Obj.mapSeq f) (Ne.symm hb)).trans hu) ⟨_,q⟩ ?_
 exact ⟨hz,its',_,hv,q⟩
theorem Inv.lnew {its:List Value} {t':Nat} (I:Inv X pins σ H s) (hv:Vals ys its) (hz:ys.length<=sizeLine) :
  Inv X pins σ (upd H s.heap.objs.size (.lst ys)) { s with heap:=s.heap.push { cls:=.type "list",data:=.seq its.toArray },toks:=t' } :=
 I.laid (fun _ _ q=>Heap.get?_push_of_some _ q) (Nat.le_refl _) ⟨hz,its,0,hv,Heap.get?_push_size _ rfl⟩
theorem Inv.fresh (I:Inv X pins σ H s):H s.heap.objs.size=none:=I.hok.fresh (Nat.le_refl _)
theorem Inv.lstM (I:Inv X pins σ H s) (hH:H l=some (.lst xs)):xs.length<=sizeLine/\∃ (its:List Value) (n:Nat),Vals xs its/\xs.length=its.length/\s.heap.get? l=some { cls:=.type "list",data:=.seq its.toArray n }:=by
 obtain ⟨z,its,n,r,e⟩:=I.hok l _ hH
 exact ⟨z,its,n,r,r.length,e⟩
theorem notLongL {n:Nat} (h:n<=sizeLine):Builtin.List.listTooLong n=false:=by
 unfold Builtin.List.listTooLong
 exact decide_eq_false (by omega)
end
section
variable {X:Cx}
def rAppend:V->List V->Hp->VK->Prop:=fun x vs H Q=>∃ l xs y,x=.ref l/\vs=[y]/\H l=some (.lst xs)/\xs.length<sizeLine/\Q .non (upd H l (.lst (xs++[y])))
theorem mt_append:MtM X "list.append" rAppend:=by
 intro pins s σ H x vs v us Q I rx rv h
 obtain ⟨l,xs,y,rfl,rfl,hH,hz,q⟩:=h
 cases rx
 obtain ⟨u,rfl,ru⟩:=rv.one
 obtain ⟨z,its,n,r,hl,e⟩:=I.lstM hH
 refine call_meets F.slot_list_append ⟨_,e,rfl⟩ F.entry_list_append (F.args_list_append_2 _ _) (PySem.list_append l its.toArray n u (by rw [List.size_toArray];omega)) ⟨e,?_⟩
 refine ⟨.non,_,I.lset (its':=its++[u]) hH e (by simp) (r.append (.cons ru .nil)) ?_,rfl,q⟩
 rw [List.length_append,List.length_singleton]
 omega
def rExtend:V->List V->Hp->VK->Prop:=fun x vs H Q=>∃ l b xs zs,x=.ref l/\vs=[.ref b]/\H l=some (.lst xs)/\H b=some (.lst zs)/\xs.length+zs.length<=sizeLine/\Q .non (upd H l (.lst (xs++zs)))
theorem mt_extend:MtM X "list.extend" rExtend:=by
 intro pins s σ H x vs v us Q I rx rv h
 obtain ⟨l,b,xs,zs,rfl,rfl,hH,hB,hz,q⟩:=h
 cases rx
 obtain ⟨u,rfl,ru⟩:=rv.one
 cases ru
 obtain ⟨z,its,n,r,hl,e⟩:=I.lstM hH
 obtain ⟨z2,its2,n2,r2,hl2,e2⟩:=I.lstM hB
 have hsz:its.toArray.size+its2.toArray.size<=sizeLine:=by rw [List.size_toArray,List.size_toArray];omega
 have hlong:¬ (!its.toArray.isEmpty&&Builtin.List.listTooLong (its.toArray.size+its2.toArray.size))=true:=by
  rw [notLongL hsz,Bool.and_false]
  exact Bool.false_ne_true
 refine call_meets F.slot_list_extend ⟨_,e,rfl⟩ F.entry_list_extend (F.args_list_extend_2 _ _)
  (AutoSeq1.list_extend_list_list_0 l its.toArray n b its2.toArray n2 hlong (by rw [List.size_toArray];omega) (by omega)) ⟨e,e2,?_⟩
 refine ⟨.non,_,I.lset (its':=its++its2) hH e (by simp) (r.append r2) ?_,rfl,q⟩
 rw [List.length_append]
 omega
def rCat:R2:=fun x y H Q=>∃ l b xs zs,x=.ref l/\y=.ref b/\H l=some (.lst xs)/\H b=some (.lst zs)/\xs.length+zs.length<=sizeLine/\∀ p,H p=none->Q (.ref p) (upd H p (.lst (xs++zs)))
theorem op_cat:OpR X (binaryOp .Add) rCat:=by
 intro pins s σ H x y v u Q I rx ry h
 obtain ⟨l,b,xs,zs,rfl,rfl,hH,hB,hz,q⟩:=h
 cases rx
 cases ry
 obtain ⟨z,its,n,r,hl,e⟩:=I.lstM hH
 obtain ⟨z2,its2,n2,r2,hl2,e2⟩:=I.lstM hB
 refine PySem.P.add_list e e2 ?_ (by rw [List.size_toArray,List.size_toArray];omega)
 have ea:its.toArray++its2.toArray=(its++its2).toArray:=by simp
 rw [ea]
 exact ⟨.ref _,_,I.lnew (t':=s.toks) (r.append r2) (by rw [List.length_append];omega),rfl,q _ I.fresh⟩
def rRep:R2:=fun x y H Q=>∃ l k xs,x=.ref l/\y=.int k/\H l=some (.lst xs)/\-(2^63)<=k/\k<2^63/\xs.length*k.toNat<=sizeLine /\
 ∀ p,H p=none->Q (.ref p) (upd H p (.lst (List.replicate k.toNat xs).flatten))
theorem len_rep {α:Type} (xs:List α) (k:Nat):(List.replicate k xs).flatten.length=k*xs.length:=by
 induction k with
 | zero=>simp
 | succ k ih=>rw [List.replicate_succ,List.flatten_cons,List.length_append,ih,Nat.succ_mul,Nat.add_comm]
theorem op_rep:OpR X (binaryOp .Mult) rRep:=by
 intro pins s σ H x y v u Q I rx ry h
 obtain ⟨l,k,xs,rfl,rfl,hH,h1,h2,hz,q⟩:=h
 cases rx
 obtain ⟨t,rfl⟩:=ry
 obtain ⟨z,its,n,r,hl,e⟩:=I.lstM hH
 have hlen:its.toArray.size*k.toNat<=sizeLine:=by rw [List.size_toArray,<- hl];exact hz
 have hcap:¬ its.toArray.size*k.toNat > (2^63-1)/8:=by
  have:(sizeLine:Nat)<=(2^63-1)/8:=by decide
  omega
 have hfit:¬ (!Builtin.List.listFitsIndex k)=true:=by
  rw [fitsIndex_both h1 h2]
  exact Bool.false_ne_true
 have hlong:¬ Builtin.List.listTooLong (its.toArray.size*k.toNat)=true:=by
  rw [notLongL hlen]
  exact Bool.false_ne_true
 have hnew:List.foldl (fun x1 x2=>x1++x2) #[] (List.replicate (if its.toArray.isEmpty=true then 0 else k.toNat) its.toArray)=(List.replicate k.toNat its).flatten.toArray:=by
  have f0:∀ m:Nat,List.foldl (fun x1 x2=>x1++x2) #[] (List.replicate m its.toArray)=(List.replicate m its).flatten.toArray:=fun m=>by
   have:=foldl_rep its m []
   rw [List.nil_append] at this
   exact this
  rw [f0]
  cases its with
  | nil=>simp
  | cons a r'=>rw [if_neg (by simp)]
 refine wpAny_binaryOp_repeat_ref (T:="list") (U:="int") (by decide) ⟨_,e,rfl⟩ (fun s'=>typeIs_int s' k t) noFill_list_mul F.fills_int_mul F.slot_int_rmul repeat_list F.slot_int_index.lookup
  (call_meets F.slot_int_rmul (typeIs_int s k t) F.entry_int_rmul (F.args_int_rmul_2 _ _) (int___rmul___int_list k t l its.toArray n)
   ⟨e,rfl,⟨_,e,rfl⟩,call_meets F.slot_list_mul ⟨_,e,rfl⟩ F.entry_list_mul (F.args_list_mul_2 _ _) (AutoListH.list___mul___list_int_3 l its.toArray n k t hfit hcap hlong) ⟨e,?_⟩⟩)
 rw [hnew]
 exact ⟨.ref _,_,I.lnew (t':=s.toks) (r.rep k.toNat) (by rw [len_rep,Nat.mul_comm];exact hz),rfl,q _ I.fresh⟩
end
section
variable {prog:Program} {w:World} {A:Around} {E:Value->Shared->Prop} {s:Shared}
end
section
variable {X:Cx}
end
end L2
namespace Att
open PySem PySem.W PySem.Calls PyProof.Rows
theorem ints_of_wellAll {P:Params} {h:Heap}:∀ (ns:List Int) (vs:List Value),WellAll P h vs (ns.map WData.int)->IntsAre vs ns:=by
 intro ns
 induction ns with
 | nil =>
  intro vs w
  rw [List.map_nil] at w
  cases w
  exact .nil
 | cons n ns ih =>
  intro vs w
  rw [List.map_cons] at w
  cases w with
  | cons a b =>
   cases a
   exact .cons _ _ (ih _ b)
theorem script_of {l:OpenLaw} {n:Nat} (hn:l.most=some n) {P:Params} {h:Heap} {args:List WData} {vals:List Value}
  (hpre:l.row.toRowW.claim.pre args=true) (hwl:WellAll P h vals args) :
  ∃ a vs ns,vals=[Value.ref a]/\args=[WData.list (ns.map WData.int)]/\h.get? a=some { cls:=.type "list",data:=.seq vs.toArray }/\IntsAre vs ns/\ns.length<=n:=by
 have hsh:WShape.hasAll [] args [.list .int]=true:=(pre_splitW hpre).1
 have hc:l.pre.holds [] { args:=args }=true:=(pre_splitW hpre).2
 obtain ⟨d,r,rfl,h1,h2⟩:=hasAllW_cons hsh
 obtain rfl:=hasAllW_nil h2
 obtain ⟨xs,rfl,h3⟩:=hasW_list h1
 obtain ⟨ns,rfl⟩:=items_int h3
 have hlen:ns.length<=n:=by
  unfold OpenLaw.pre at hc
  have h4:(WTm.not (.lt (.lit (.int (n:Int))) (.len (.arg 0)))).holds [] { args:=[.list (ns.map .int)] }=true:=by
   have h4:=(holds_andW hc).1
   rw [hn] at h4
   exact h4
  have h5:=condW_of h4 (w_not (w_lt w_lit (w_len_list (w_arg rfl))))
  rw [List.length_map] at h5
  refine Nat.le_of_not_lt fun q=>?_
  have q':(n:Int)<((ns.length:Nat):Int):=by omega
  first
   | (rw [decide_eq_true q'] at h5;exact absurd h5 (by decide))
   | (simp at h5;omega)
 cases hwl with
 | cons w1 w2 =>
  cases w2
  cases w1 with
  | list ho hall=>exact ⟨_,_,ns,rfl,rfl,ho,ints_of_wellAll ns _ hall,hlen⟩
theorem post_true (l:OpenLaw) (args:List WData):l.row.toRowW.claim.post args (.bool true) args=true :=
 postW_of (r:=l.row.toRowW) (X:=(true==true))
  (show WShape.has [] (.bool true) .bool=true by first | rfl | decide | simp [WShape.has,WShape.arms,WShape.armsAll])
  (show (WTm.eq .res (.lit (.bool true))).value [] { args:=args,res:=some (.bool true),after:=args }=some (.bool (true==true)) from w_eq_bool (w_res rfl) w_lit) rfl
theorem attach_call {l:OpenLaw} {n:Nat} {q:Program} {loose:List Str} {XP:(Str->Option Value)->Heap->Prop} {YP:World->Heap->Prop} {d:DefRec}
  (hn:l.most=some n) (hdf:d.params.defaults=[])
  (call:∀ (w:World) (s₀ s₁:Shared) (mg mb:Str->Option Value) (fa:Addr) (o:Obj) (pm cd doc:Value) (a:Addr) (vs:List Value) (ns:List Int),
   Ground q loose [] XP w s₀ mg mb s₁.heap->YP w s₁.heap ->
   s₁.heap.get? fa=some o->o.data=.func (docDef d.name d.params d.body d.scope pm cd doc)->s₁.heap.CodeRec cd d.name->mg d.name=some (.ref fa) ->
   s₁.heap.get? a=some { cls:=.type "list",data:=.seq vs.toArray }->IntsAre vs ns->ns.length<=n->s₁.gens=#[] ->
   codeAny (model l.prog w) callerA (.call (.ref fa) ⟨[.ref a],[]⟩) (fun r s'=>r=.ok (.ret (.bool true))/\OldK s₁.heap s'.heap/\s'.os=s₁.os/\AllBare s'.gens) s₁) :
  WalkO q loose XP YP l.row.toRowW d [] (fun f vs=>PySem.call f vs):=by
 intro w s₀ s₁ mg mb G Y fa o pm cd doc dV kV ho hd hcd hD hmg hg args vals as hpre hlay hrd hwl hlo
 obtain rfl:dV=.none:=Dflts.none hD hdf
 obtain rfl:kV=.none:=Dflts.noKw hD
 obtain ⟨a,vs,ns,rfl,rfl,hobj,hints,hlen⟩:=script_of hn hpre hwl
 refine enter_call (codeAny_mono (call w s₀ s₁ mg mb fa o pm cd doc a vs ns G Y ho (fd_plain hd) hcd hmg hobj hints hlen hg) fun r s' hq=>?_)
 obtain ⟨rfl,h2,h3,h4⟩:=hq
 exact ⟨.inl ⟨.bool true,.bool true,[],rfl,fun _=>rfl,.bool true,post_true l _,fun _=>⟨List.Pairwise.nil,fun _ hm=>(nomatch hm)⟩⟩,h2,h3,h4⟩
section
variable {prog:Program} {w:World} {A:Around} {E:Value->Shared->Prop} {s:Shared} {K:Frag}
end
end Att
namespace L2
open PySem PySem.Spec PyProof.Rows
theorem vals_ints:∀ {vs:List Value} {ns:List Int},IntsAre vs ns->Vals (ns.map V.int) vs
 | _,_,.nil=>.nil
 | _,_,.cons n t h=>.cons ⟨t,rfl⟩ (vals_ints h)
def Only (H:Hp):Prop:=∀ b,H b=none\/∃ o xs,H b=some (.frz o (.lst xs))
theorem law_call {P:Program} {w:World} {K:PySem.W.Frag} {mg mb:Str->Option Value} {CX:CXT} {k:Nat} {fa a:Addr} {fd:FuncData} {x:Str} {sp:Sp} {s₁:Shared} {vs:List Value} {ns:List Int}
  (KX:K.In s₁.heap) (hns:s₁.heap.Ns mainGlobals mg) (hb:s₁.heap.Ns builtinsNs mb) (hbb:∀ x:Str,x≠"__name__"->mb x=bootBuiltins x) (hlim:s₁.heap.NoLimit) (hg:s₁.gens=#[])
  (ha:s₁.heap.get? a=some { cls:=.type "list",data:=.seq vs.toArray }) (hi:IntsAre vs ns) (hl:ns.length<=sizeLine) (hr:Room k callerA)
  (F:∀ base:Heap,K.In base->base.Ns mainGlobals mg->FnOk P w K mg base CX k fa fd [x] sp) (hbind:∀ (s:Shared) (u:Value),BindsTo s fd ⟨[u],[]⟩ [(x,u)])
  (hsp:∀ H:Hp,Only H->SqL K H a (ns.map V.int)->sp [.ref a] H (fun v _=>v=.bl true) fun _ _ _=>False)
  (hCX:∀ H e s',CX [] H s₁ (fun _ _ _=>False) e s'->False) :
  codeAny (model P w) callerA (.call (.ref fa) ⟨[.ref a],[]⟩) (fun r s'=>r=.ok (.ret (.bool true))/\OldK s₁.heap s'.heap/\s'.os=s₁.os/\AllBare s'.gens) s₁:=by
 have rv:=vals_ints hi
 have lenV:=hi.length
 have core:∀ H:Hp,Only H->SqL K H a (ns.map V.int)->HOk P w H s₁.heap->(∀ b,H b≠none->b=a)->(H a≠none->K.lookup a=none) ->
   codeAny (model P w) callerA (.call (.ref fa) ⟨[.ref a],[]⟩) (fun r s'=>r=.ok (.ret (.bool true))/\OldK s₁.heap s'.heap/\s'.os=s₁.os/\AllBare s'.gens) s₁:=by
  intro H hO hS hok hA hK
  have base_of:∀ {b:Addr} {o:Obj},s₁.heap.get? b=some o->H b=none->(hidT s₁.heap H).get? b=some o:=fun e n=>hidT_get e n
  have noA:∀ {b:Addr} {o:Obj} {es:Array DictEntry} {ep:Nat},s₁.heap.get? b=some o->o.data=.dict es ep->H b=none:=fun {b o es ep} e d=>by
   cases q:H b with
   | none=>rfl
   | some u =>
    have e':b=a:=hA b (by rw [q];simp)
    subst e'
    rw [ha] at e;cases e
    have d':Data.seq vs.toArray _=Data.dict es ep:=d
    cases d'
  have nsK:∀ {b:Addr} {m:Str->Option Value},s₁.heap.Ns b m->(hidT s₁.heap H).Ns b m:=fun {b m} ⟨o,es,ep,e,d,r⟩=>⟨o,es,ep,base_of e (noA e d),d,r⟩
  have hKb:K.In (hidT s₁.heap H):=fun b o e=>base_of (KX b o e) (by
   cases q:H b with
   | none=>rfl
   | some u =>
    have e':b=a:=hA b (by rw [q];simp)
    subst e'
    rw [hK (by rw [q];simp)] at e;cases e)
  have hM:Mod K mg (hidT s₁.heap H):=⟨hKb,nsK hns,⟨mb,nsK hb,hbb⟩,let ⟨mc,h1,h2⟩:=hlim;⟨mc,nsK h1,h2⟩⟩
  have e0:Env0 P w K mg (hidT s₁.heap H) callerA [] s₁ H:=⟨rfl,hM,fun b o e=>of_hidT e,Nat.le_of_eq (hidT_size _ _),trivial,fun b hb=>absurd (show b∈([]:List Addr) from hb) (by simp),hok,.of_eq hg⟩
  refine codeAny_mono ((F _ hKb (nsK hns)).run callerA [] s₁ H ⟨[.ref a],[]⟩ [.ref a] [.ref a] _ _ hr e0 (hbind s₁ (.ref a)) (.cons rfl .nil) (hsp H hO hS)) fun r s' h=>?_
  cases r with
  | error e=>exact (hCX H e s' h).elim
  | ok fl =>
   cases fl with
   | next=>exact False.elim h
   | brk=>exact False.elim h
   | cont=>exact False.elim h
   | ret u =>
    obtain ⟨v,H',os,bare,un,hok',r',q⟩:=h
    have q':v=.bl true:=q
    subst q'
    obtain rfl:u=Value.bool true:=r'
    refine ⟨rfl,OldK.of_keep fun b o e=>?_,os,bare⟩
    cases q:H b with
    | none=>exact un.keep b o e q (by intro z;exact absurd (show b∈([]:List Addr) from z) (by simp)) (by simp)
    | some u =>
     rcases hO b with z | ⟨ob,xs,z⟩
     ·rw [q] at z;cases z
     ·have z2:=un.frzs b ob _ z
      obtain ⟨e1,_⟩:=hok b _ z
      obtain ⟨e2,_⟩:=hok' b _ z2
      rw [e] at e1;cases e1
      exact e2
 cases hk:K.lookup a with
 | some o =>
  have e:=KX a o hk
  rw [ha] at e
  cases e
  refine core (fun _=>none) (fun _=>.inl rfl) (.inr ⟨_,vs.toArray,_,hk,rfl,rfl,rfl,by rw [List.size_toArray,lenV];exact hl,by simpa using rv⟩) (fun b u z=>by have z':(none:Option HO)=some u:=z;cases z') (fun b z=>absurd rfl z) fun z=>absurd rfl z
 | none =>
  refine core (fun b=>if b=a then some (.frz { cls:=.type "list",data:=.seq vs.toArray } (.lst (ns.map V.int))) else none) (fun b=>?_) (.inl (.inr ⟨{ cls:=.type "list",data:=.seq vs.toArray },if_pos rfl⟩)) (fun b u z=>?_) (fun b z=>?_) fun _=>hk
  ·by_cases hb:b=a
   ·exact .inr ⟨_,_,if_pos hb⟩
   ·exact .inl (if_neg hb)
  ·by_cases hb:b=a
   ·have z':=(if_pos hb).symm.trans z
    cases z'
    subst hb
    exact ⟨ha,by rw [List.length_map];exact hl,vs,_,rv,ha⟩
   ·have z':=(if_neg hb).symm.trans z
    cases z'
  ·by_cases hb:b=a
   ·exact hb
   ·exact absurd (if_neg hb) z
end L2
namespace L2
open PySem PySem.Spec PyProof.Rows
theorem walk_of {l:PySem.W.OpenLaw} {n k:Nat} {q:Program} {loose:List Str} {XP:(Str->Option Value)->Heap->Prop} {YP:World->Heap->Prop} {d:DefRec} {K:Params->PySem.W.Frag} {CX:World->CXT} {sp:World->Sp} {x:Str}
  (hn:l.most=some n) (hn2:n<=sizeLine) (hdf:d.params.defaults=[]) (hr:Room k callerA)
  (hY:∀ (w:World) (h:Heap),YP w h->(K w.params).In h)
  (F:∀ (w:World) (mg:Str->Option Value) (fa:Addr) (h:Heap),(K w.params).In h->h.Ns mainGlobals mg->mg d.name=some (.ref fa) ->
   ∃ fd:FuncData,(∀ (s:Shared) (u:Value),BindsTo s fd ⟨[u],[]⟩ [(x,u)]) /\
    ∀ base:Heap,(K w.params).In base->base.Ns mainGlobals mg->FnOk l.prog w (K w.params) mg base (CX w) k fa fd [x] (sp w))
  (hsp:∀ (w:World) (H:Hp) (a:Addr) (ns:List Int),ns.length<=n->Only H->SqL (K w.params) H a (ns.map V.int)->sp w [.ref a] H (fun v _=>v=.bl true) fun _ _ _=>False)
  (hCX:∀ (w:World) (H:Hp) (s:Shared) (e:Value) (s':Shared),CX w [] H s (fun _ _ _=>False) e s'->False) :
  PySem.W.WalkO q loose XP YP l.row.toRowW d [] (fun f vs=>PySem.call f vs):=by
 refine Att.attach_call hn hdf fun w s₀ s₁ mg mb fa o pm cd doc a vs ns G Y ho hd hcd hmg hobj hints hlen hg=>?_
 have KX:=hY w _ Y
 obtain ⟨fd,hb,hF⟩:=F w mg fa _ KX G.T.g hmg
 exact law_call KX G.T.g G.T.b G.T.builtins G.T.nolimit hg hobj hints (Nat.le_trans hlen hn2) hr hF hb (fun H hO hS=>hsp w H a ns hlen hO hS) fun H e s'=>hCX w H s₁ e s'
end L2
namespace L2
open PySem PySem.Spec PyProof.Rows
def defArgs (s:Stmt):Arguments:=match s with
 | .FunctionDef _ a _ _ _ _ _ _ _ _=>a
 | _=>{ posonlyargs:=[],args:=[],vararg:=none,kwonlyargs:=[],kw_defaults:=[],kwarg:=none,defaults:=[] }
def defBody (s:Stmt):List Stmt:=match s with
 | .FunctionDef _ _ b _ _ _ _ _ _ _=>b
 | _=>[]
def defScope (s:Stmt):Scope:=match s with
 | .FunctionDef _ _ _ _ _ _ sc _ _ _=>sc
 | _=>{ kind:=.function,names:=[],isGenerator:=false,isCoroutine:=false }
abbrev CX0:CXT:=fun _ _ _ _ _ _=>False
abbrev E0:XK:=fun _ _ _=>False
theorem pass0 {X:Cx}:Passes CX0 X E0:=fun _ _ _ _ _ _ _ h=>h.elim
structure Fun (K:PySem.W.Frag) (x qual:Str) (st:Stmt) (f:Addr) (fd:FuncData):Prop where
 ex:∃ (oc:Value) (od:Option Addr) (kV doc pm:Value) (an:Option Addr) (cdv ct:Value) (osl:Array (Option Value)),
  fd=PySem.W.fnOf x qual (defArgs st) (defBody st) (defScope st) .none kV doc pm an cdv ct/\K.lookup f=some ⟨oc,od,.func fd,osl⟩/\PySem.W.codeIn K cdv qual=true
 kp:PySem.W.keepIn K (.ref f)=true
section
variable {P:Program} {w:World} {K:PySem.W.Frag} {mg:Str->Option Value} {base:Heap}
theorem Fun.ok {x qual:Str} {st:Stmt} {f:Addr} {fd:FuncData} {N ps:List Str} {k:Nat} {sp:Sp} (F:Fun K x qual st f fd) (S:FnScope N ps (defScope st)) (len:∀ vs H Q E,sp vs H Q E->vs.length=ps.length)
  (hbody:∀ (cdv:Value) (A:Around) (outer:List Env) (s:Shared) (H:Hp) (vs:List V) (Q:VK) (E:XK),Room k (A.deeper (envOfC qual (defScope st) s.heap.objs.size f cdv))->sp vs H Q E ->
   ∃ t,PSs (cxOf CX0 P w K mg base N qual (defScope st) f cdv A outer s H E).nox (defBody st) t/\t { nx:=fun _ H'=>Q .non H',rt:=Q } (start N vs) H):FnOk P w K mg base CX0 (k+1) f fd ps sp:=by
 obtain ⟨oc,od,kV,doc,pm,an,cdv,ct,osl,rfl,lk,hcd⟩:=F.ex
 refine fn_of lk hcd S len fun A outer s H vs Q E hr hsp=>?_
 obtain ⟨t,h,q⟩:=hbody cdv A outer s H vs Q E hr hsp
 exact ⟨t,h.nox,q⟩
theorem Fun.binds {x qual:Str} {st:Stmt} {f:Addr} {fd:FuncData} {ps:List Str} (F:Fun K x qual st f fd)
  (h:∀ (kV doc pm:Value) (an:Option Addr) (cdv ct:Value) (us:List Value),us.length=ps.length->bindArgs (PySem.W.fnOf x qual (defArgs st) (defBody st) (defScope st) .none kV doc pm an cdv ct) ⟨us,[]⟩=pure (ps.zip us)):Binds K fd ps []:=by
 obtain ⟨oc,od,kV,doc,pm,an,cdv,ct,osl,rfl,lk,hcd⟩:=F.ex
 exact .all (h kV doc pm an cdv ct)
theorem fun_mk {x qual:Str} {st:Stmt} {f:Addr} {oc:Value} {od an:Option Addr} {osl:Array (Option Value)} {kV doc pm cdv ct:Value} (l:K.lookup f=some ⟨oc,od,.func (PySem.W.fnOf x qual (defArgs st) (defBody st) (defScope st) .none kV doc pm an cdv ct),osl⟩)
  (c:PySem.W.codeIn K cdv qual=true) (k:PySem.W.keepIn K (.ref f)=true):Fun K x qual st f (PySem.W.fnOf x qual (defArgs st) (defBody st) (defScope st) .none kV doc pm an cdv ct):=⟨⟨oc,od,kV,doc,pm,an,cdv,ct,osl,rfl,l,c⟩,k⟩
end
section
variable {X:Cx}
end
theorem iteF {A B:Prop} (h:B):if false=true then A else B:=by
 rw [if_neg Bool.false_ne_true]
 exact h
theorem iteT {A B:Prop} (h:A):if true=true then A else B:=by
 rw [if_pos rfl]
 exact h
def Same (H H':Hp):Prop:=∀ b o,H b=some o->H' b=some o
theorem Same.refl (H:Hp):Same H H:=fun _ _ h=>h
theorem Same.trans {H H1 H2:Hp} (a:Same H H1) (b:Same H1 H2):Same H H2:=fun c o h=>b c o (a c o h)
theorem Same.free {H H':Hp} (e:Same H H') {l:Addr} (h:H' l=Option.none):H l=Option.none:=by
 cases q:H l with
 | none=>rfl
 | some o =>
  rw [e l o q] at h
  cases h
theorem Same.seq {K:PySem.W.Frag} {H H':Hp} {a:Addr} {xs:List V} (e:Same H H') (h:SqL K H a xs):SqL K H' a xs:=by
 rcases h with (h | ⟨o,h⟩) | h
 ·exact .inl (.inl (e _ _ h))
 ·exact .inl (.inr ⟨o,e _ _ h⟩)
 ·exact .inr h
end L2
namespace L2
open PySem PySem.Spec PyProof.Rows
section
variable {κ:Type} [DecidableEq κ]
def valV (kvs:List (κ×V)) (k:κ):Option V:=(kvs.find? fun kv=>decide (kv.1=k)).map (·.2)
def putK (kvs:List (κ×V)) (k:κ) (v:V):List (κ×V) :=
 if (kvs.any fun kv=>decide (kv.1=k))=true then kvs.map (fun kv=>if kv.1=k then (kv.1,v) else kv) else kvs++[(k,v)]
def dropK (kvs:List (κ×V)) (k:κ):List (κ×V):=kvs.filter fun kv=>decide (kv.1≠k)
theorem valV_pos {p:κ×V} {r:List (κ×V)} {k:κ} (e:p.1=k):valV (p::r) k=some p.2:=by simp [valV,List.find?_cons,e]
theorem valV_neg {p:κ×V} {r:List (κ×V)} {k:κ} (e:¬ p.1=k):valV (p::r) k=valV r k:=by simp [valV,List.find?_cons,e]
theorem valV_any (k:κ):∀ kvs:List (κ×V),(kvs.any fun kv=>decide (kv.1=k))=(valV kvs k).isSome
 | []=>rfl
 | p::r=>by
  rw [List.any_cons]
  by_cases e:p.1=k
  ·simp only [valV_pos e,decide_eq_true e,Bool.true_or,Option.isSome_some]
  ·rw [valV_neg e,decide_eq_false e,Bool.false_or];exact valV_any k r
theorem length_putK (kvs:List (κ×V)) (k:κ) (v:V):(putK kvs k v).length<=kvs.length+1:=by
 unfold putK
 split
 ·rw [List.length_map];omega
 ·rw [List.length_append,List.length_cons,List.length_nil];omega
theorem RelO.isSome_eq {o:Option V} {u:Option Value} (r:RelO o u):o.isSome=u.isSome:=by
 cases o with
 | none=>cases u with
  | none=>rfl
  | some _=>exact (show False from r).elim
 | some _=>cases u with
  | none=>exact (show False from r).elim
  | some _=>rfl
theorem RelO.getD {o:Option V} {u:Option Value} {d:V} {d':Value} (r:RelO o u) (rd:RelV d d'):RelV (o.getD d) (u.getD d'):=by
 cases o with
 | none=>cases u with
  | none=>exact rd
  | some _=>exact (show False from r).elim
 | some _=>cases u with
  | none=>exact (show False from r).elim
  | some _=>exact r
theorem KV.val {kvs:List (κ×V)} {vs:List (κ×Value)} (r:KV kvs vs) (k:κ):RelO (valV kvs k) (valueAt vs k):=by
 unfold KV at r
 induction r with
 | nil=>exact True.intro
 | @cons p q ps qs h t ih =>
  obtain ⟨h1,h2⟩:=h
  by_cases e:p.1=k
  ·have e':q.1=k:=h1.symm.trans e
   have b:valueAt (q::qs) k=some q.2:=by simp [valueAt,List.find?_cons,e']
   rw [valV_pos e,b];exact h2
  ·have e':¬ q.1=k:=fun z=>e (h1.trans z)
   have b:valueAt (q::qs) k=valueAt qs k:=by simp [valueAt,List.find?_cons,e']
   rw [valV_neg e,b];exact ih
theorem KV.any {kvs:List (κ×V)} {vs:List (κ×Value)} (r:KV kvs vs) (k:κ):(kvs.any fun kv=>decide (kv.1=k))=vs.any fun kv=>decide (kv.1=k):=by
 unfold KV at r
 induction r with
 | nil=>rfl
 | cons h t ih=>rw [List.any_cons,List.any_cons,ih,h.1]
theorem KV.repl {kvs:List (κ×V)} {vs:List (κ×Value)} (r:KV kvs vs) (k:κ) {y:V} {u:Value} (ry:RelV y u) :
  KV (kvs.map fun kv=>if kv.1=k then (kv.1,y) else kv) (vs.map fun kv=>if kv.1=k then (kv.1,u) else kv):=by
 unfold KV at r ⊢
 induction r with
 | nil=>exact .nil
 | @cons p q ps qs h t ih =>
  rw [List.map_cons,List.map_cons]
  refine .cons ?_ ih
  obtain ⟨h1,h2⟩:=h
  by_cases e:p.1=k
  ·rw [if_pos e,if_pos (h1.symm.trans e)];exact ⟨h1,ry⟩
  ·rw [if_neg e,if_neg (fun z=>e (h1.trans z))];exact ⟨h1,h2⟩
theorem KV.put {kvs:List (κ×V)} {vs:List (κ×Value)} (r:KV kvs vs) (k:κ) {y:V} {u:Value} (ry:RelV y u):KV (putK kvs k y) (stored vs k u):=by
 unfold putK stored
 rw [r.any k]
 by_cases e:(vs.any fun kv=>decide (kv.1=k))=true
 ·rw [if_pos e,if_pos e];exact r.repl k ry
 ·rw [if_neg e,if_neg e];exact Paired.snoc r ⟨rfl,ry⟩
theorem KV.drop {kvs:List (κ×V)} {vs:List (κ×Value)} (r:KV kvs vs) (k:κ):KV (dropK kvs k) (without vs k):=by
 unfold KV at r ⊢
 unfold dropK without
 induction r with
 | nil=>exact .nil
 | @cons p q ps qs h t ih =>
  obtain ⟨h1,h2⟩:=h
  rw [List.filter_cons,List.filter_cons]
  by_cases e:p.1=k
  ·have a:¬ decide (p.1≠k)=true:=by simp [e]
   have b:¬ decide (q.1≠k)=true:=by simp [h1.symm.trans e]
   rw [if_neg a,if_neg b];exact ih
  ·have e':¬ q.1=k:=fun z=>e (h1.trans z)
   have a:decide (p.1≠k)=true:=by simp [e]
   have b:decide (q.1≠k)=true:=by simp [e']
   rw [if_pos a,if_pos b];exact .cons ⟨h1,h2⟩ ih
theorem KV.keys {kvs:List (κ×V)} {vs:List (κ×Value)} (r:KV kvs vs):kvs.map (·.1)=vs.map (·.1):=by
 unfold KV at r
 induction r with
 | nil=>rfl
 | cons h t ih=>rw [List.map_cons,List.map_cons,ih,h.1]
theorem KV.length {kvs:List (κ×V)} {vs:List (κ×Value)} (r:KV kvs vs):kvs.length=vs.length:=Paired.length r
end
theorem kV_is {P:Program} {w:World} {k:Key} {u:Value} (r:RelV (kV k) u):(mixKind P w).is k u=true:=by
 cases k with
 | inl i=>obtain ⟨t,e⟩:=(show ∃ t,u=Value.int i t from r);subst e;exact mixKind_int P w i t
 | inr x=>obtain ⟨t,e⟩:=(show ∃ t,u=Value.str x t from r);subst e;exact mixKind_str P w x t
theorem items_are {P:Program} {w:World}:∀ {ks:List Key} {us:List Value},Vals (ks.map kV) us->ItemsAre (mixKind P w) ks us
 | [],_,r=>by rw [List.map_nil] at r;cases r;exact .nil
 | k::ks,_,r=>by
  rw [List.map_cons] at r
  cases r with
  | cons h t=>exact .cons (kV_is h) (items_are t)
abbrev KT (H:Hp):List (List Key×V)->List (List Key×Addr×Value)->Prop:=Paired fun p q=>p.1=q.1/\H q.2.1=some (.tup (p.1.map kV))/\RelV p.2 q.2.2
theorem KT.val {H:Hp} {kvs:List (List Key×V)} {xs:List (List Key×Addr×Value)} (r:KT H kvs xs) (k:List Key):RelO (valV kvs k) ((atKey xs k).map (·.2)):=by
 induction r with
 | nil=>exact True.intro
 | @cons p q ps qs h t ih =>
  obtain ⟨h1,_,h2⟩:=h
  by_cases e:p.1=k
  ·have e':q.1=k:=h1.symm.trans e
   have b:atKey (q::qs) k=some q.2:=by simp [atKey,List.find?_cons,e']
   rw [valV_pos e,b];exact h2
  ·have e':¬ q.1=k:=fun z=>e (h1.trans z)
   have b:atKey (q::qs) k=atKey qs k:=by simp [atKey,List.find?_cons,e']
   rw [valV_neg e,b];exact ih
theorem KT.repl {H:Hp} {kvs:List (List Key×V)} {xs:List (List Key×Addr×Value)} (r:KT H kvs xs) (k:List Key) {y:V} {u:Value} (ry:RelV y u) :
  KT H (kvs.map fun kv=>if kv.1=k then (kv.1,y) else kv) (xs.map (putAt k u)):=by
 induction r with
 | nil=>exact .nil
 | @cons p q ps qs h t ih =>
  rw [List.map_cons,List.map_cons]
  refine .cons ?_ ih
  obtain ⟨h1,h2,h3⟩:=h
  unfold putAt
  by_cases e:p.1=k
  ·rw [if_pos e,if_pos (h1.symm.trans e)];exact ⟨h1,h2,ry⟩
  ·rw [if_neg e,if_neg (fun z=>e (h1.trans z))];exact ⟨h1,h2,h3⟩
theorem KT.put {H:Hp} {kvs:List (List Key×V)} {xs:List (List Key×Addr×Value)} (r:KT H kvs xs) (k:List Key) {b:Addr} {y:V} {u:Value} (hb:H b=some (.tup (k.map kV))) (ry:RelV y u) :
  KT H (putK kvs k y) (storedH xs k b u):=by
 have e:(kvs.any fun kv=>decide (kv.1=k))=(atKey xs k).isSome:=by
  rw [valV_any,(r.val k).isSome_eq,Option.isSome_map]
 unfold putK storedH
 rw [e]
 by_cases q:(atKey xs k).isSome=true
 ·rw [if_pos q,if_pos q];exact r.repl k ry
 ·rw [if_neg q,if_neg q];exact Paired.snoc r ⟨rfl,hb,ry⟩
theorem KT.keeps {H H':Hp} {kvs:List (List Key×V)} {xs:List (List Key×Addr×Value)} (r:KT H kvs xs) (ht:∀ b ys,H b=some (.tup ys)->H' b=some (.tup ys)):KT H' kvs xs :=
 Paired.mapP r fun _ _ z=>⟨z.1,ht _ _ z.2.1,z.2.2⟩
section
variable {P:Program} {w:World} {H:Hp} {h:Heap} {a:Addr}
theorem rd_of {u:HO} (ok:HOk P w H h) (e:Rd H a u):ObjOk P w H h a u:=e.ok ok
theorem dk_rd {kvs:List (Key×V)} (ok:HOk P w H h) (e:Rd H a (.dK kvs)):kvs.length<=sizeLine/\(a==sysModules)=false/\∃ vs,KV kvs vs/\h.DictOf (mixKind P w) a vs :=
 show ObjOk P w H h a (.dK kvs) from rd_of ok e
theorem dk_of {kvs:List (Key×V)} (ok:HOk P w H h) (e:H a=some (.dK kvs)):kvs.length<=sizeLine/\(a==sysModules)=false/\∃ vs,KV kvs vs/\h.DictOf (mixKind P w) a vs:=dk_rd ok (.inl e)
theorem key_of {ks:List Key} (ok:HOk P w H h) (e:H a=some (.tup (ks.map kV))):(tupleKind (mixKind P w)).is h ks a:=by
 obtain ⟨_,its,r,o,h1,h2,n,h3⟩:=(show ObjOk P w H h a (.tup (ks.map kV)) from ok a _ e)
 exact ⟨o,its.toArray,n,h1,h2,h3,by simpa using items_are r⟩
theorem dt_rd {kvs:List (List Key×V)} (ok:HOk P w H h) (e:Rd H a (.dT kvs)):kvs.length<=sizeLine/\(a==sysModules)=false /\
  ∃ xs,KT H kvs xs/\h.DictOfH (tupleKind (mixKind P w)) a xs:=by
 obtain ⟨z,y,xs,r,o,es,ep,h1,h2,h3,h4,h5⟩:=(show ObjOk P w H h a (.dT kvs) from rd_of ok e)
 refine ⟨z,y,xs,r,o,es,ep,h1,h2,h3,h4,fun x hx=>?_,h5⟩
 have all:∀ {l:List (List Key×V)} {m:List (List Key×Addr×Value)},KT H l m->∀ x∈m,(tupleKind (mixKind P w)).is h x.1 x.2.1:=by
  intro l m q
  induction q with
  | nil=>intro x hx;exact nomatch hx
  | @cons p q ps qs hq t ih =>
   intro x hx
   rcases List.mem_cons.mp hx with e | hx
   ·subst e
    exact key_of ok (by rw [<- hq.1];exact hq.2.1)
   ·exact ih x hx
 exact all r x hx
theorem dt_of {kvs:List (List Key×V)} (ok:HOk P w H h) (e:H a=some (.dT kvs)):kvs.length<=sizeLine/\(a==sysModules)=false /\
  ∃ xs,KT H kvs xs/\h.DictOfH (tupleKind (mixKind P w)) a xs:=dt_rd ok (.inl e)
end
def DGet (H:Hp) (a:Addr) (y:V) (r:Option V):Prop :=
 (∃ kvs k,Rd H a (.dK kvs)/\y=kV k/\r=valV kvs k)\/∃ kvs k b,Rd H a (.dT kvs)/\y=.ref b/\H b=some (.tup (k.map kV))/\r=valV kvs k
def DPut (H:Hp) (a:Addr) (y v:V) (H':Hp):Prop :=
 (∃ kvs k,H a=some (.dK kvs)/\y=kV k/\kvs.length<sizeLine/\H'=upd H a (.dK (putK kvs k v))) \/
 ∃ kvs k b,H a=some (.dT kvs)/\y=.ref b/\H b=some (.tup (k.map kV))/\kvs.length<sizeLine/\H'=upd H a (.dT (putK kvs k v))
theorem DGet.k {H:Hp} {a:Addr} {kvs:List (Key×V)} {k:Key} (e:H a=some (.dK kvs)):DGet H a (kV k) (valV kvs k):=.inl ⟨kvs,k,.inl e,rfl,rfl⟩
theorem DGet.t {H:Hp} {a b:Addr} {kvs:List (List Key×V)} {k:List Key} (e:H a=some (.dT kvs)) (eb:H b=some (.tup (k.map kV))):DGet H a (.ref b) (valV kvs k):=.inr ⟨kvs,k,b,.inl e,rfl,eb,rfl⟩
theorem DPut.k {H:Hp} {a:Addr} {kvs:List (Key×V)} {k:Key} {v:V} (e:H a=some (.dK kvs)) (hl:kvs.length<sizeLine):DPut H a (kV k) v (upd H a (.dK (putK kvs k v))):=.inl ⟨kvs,k,e,rfl,hl,rfl⟩
theorem DPut.t {H:Hp} {a b:Addr} {kvs:List (List Key×V)} {k:List Key} {v:V} (e:H a=some (.dT kvs)) (eb:H b=some (.tup (k.map kV))) (hl:kvs.length<sizeLine) :
  DPut H a (.ref b) v (upd H a (.dT (putK kvs k v))):=.inr ⟨kvs,k,b,e,rfl,eb,hl,rfl⟩
section
variable {X:Cx} {pins:List (Addr×Obj)} {σ:St} {H:Hp} {s:Shared} {a:Addr} {y v:V} {u r:Value} {o:Option V} {A:Around} {E:Value->Shared->Prop}
theorem Inv.big (I:Inv X pins σ H s):sysModules<s.heap.objs.size:=by
 have h:mainGlobals<s.heap.objs.size:=(I.mod.glob.keeps I.bk).lt
 exact Nat.lt_trans (by decide) h
theorem d_in {Q:Value->Shared->Prop} (hu:A.units+1<cLine) (I:Inv X pins σ H s) (g:DGet H a y o) (ry:RelV y u) (h:∀ s',Inv X pins σ H s'->Q (.bool o.isSome) s') :
  wpAny (model X.prog X.w) A (compareOp .In u (.ref a)) Q E s:=by
 rcases g with ⟨kvs,k,e,ey,l⟩ | ⟨kvs,k,b,e,ey,eb,l⟩
 ·subst ey
  obtain ⟨z,hd,vs,rel,dd⟩:=dk_rd I.hok e
  refine wpAny_in_of (kV_is ry) hd dd.mapOf ?_
  rw [<- (rel.val k).isSome_eq,<- l]
  exact h _ (I.tok _)
 ·subst ey
  cases (show u=Value.ref b from ry)
  obtain ⟨z,hd,xs,rel,dd⟩:=dt_rd I.hok e
  refine wpAny_in_heap (tupleKind_room_in1 hu) (key_of I.hok eb) hd dd ?_
  have q:=(rel.val k).isSome_eq
  rw [Option.isSome_map] at q
  rw [<- q,<- l]
  exact h _ (I.tok _)
theorem d_notIn {Q:Value->Shared->Prop} (hu:A.units+1<cLine) (I:Inv X pins σ H s) (g:DGet H a y o) (ry:RelV y u) (h:∀ s',Inv X pins σ H s'->Q (.bool (!o.isSome)) s') :
  wpAny (model X.prog X.w) A (compareOp .NotIn u (.ref a)) Q E s:=by
 rcases g with ⟨kvs,k,e,ey,l⟩ | ⟨kvs,k,b,e,ey,eb,l⟩
 ·subst ey
  obtain ⟨z,hd,vs,rel,dd⟩:=dk_rd I.hok e
  refine wpAny_notIn_of (kV_is ry) hd dd.mapOf ?_
  rw [<- (rel.val k).isSome_eq,<- l]
  exact h _ (I.tok _)
 ·subst ey
  cases (show u=Value.ref b from ry)
  obtain ⟨z,hd,xs,rel,dd⟩:=dt_rd I.hok e
  refine wpAny_notIn_heap (tupleKind_room_in1 hu) (key_of I.hok eb) hd dd ?_
  have q:=(rel.val k).isSome_eq
  rw [Option.isSome_map] at q
  rw [<- q,<- l]
  exact h _ (I.tok _)
theorem d_write {h':Heap} {t':Nat} {ob:HO} (I:Inv X pins σ H s) (mu:Mut (H a)) (hs:Heap.SameBut a s.heap h') (he:∃ q,h'.get? a=some q) (new:ObjOk X.prog X.w (upd H a ob) h' a ob) :
  Inv X pins σ (upd H a ob) { s with heap:=h',toks:=t' } :=
 I.write (x:=a) (e:=a) mu (.inl rfl) (fun b q hb z=>(hs.2 b hb).trans z) he new
theorem dk_new {P:Program} {w:World} {H':Hp} {h':Heap} {kvs:List (Key×V)} {vs:List (Key×Value)} (z:kvs.length<=sizeLine) (hd:(a==sysModules)=false) (rel:KV kvs vs) (dd:h'.DictOf (mixKind P w) a vs) :
  ObjOk P w H' h' a (.dK kvs):=⟨z,hd,vs,rel,dd⟩
theorem d_setItem {H':Hp} {Q:Unit->Shared->Prop} (hu:A.units+1<cLine) (I:Inv X pins σ H s) (g:DPut H a y v H') (ry:RelV y u) (rv:RelV v r) (h:∀ s',Inv X pins σ H' s'->Q () s') :
  wpAny (model X.prog X.w) A (setItem (.ref a) u r) Q E s:=by
 rcases g with ⟨kvs,k,e,ey,l,eH⟩ | ⟨kvs,k,b,e,ey,eb,l,eH⟩
 ·subst ey eH
  obtain ⟨z,hd,vs,rel,dd⟩:=dk_of I.hok e
  have hz:vs.length<=sizeLine:=by rw [<- rel.length];exact z
  have hl:(putK kvs k v).length<=sizeLine:=by have:=length_putK kvs k v;omega
  refine wpAny_setItem_pairs (hsz:=hz) (kV_is ry) dd fun h' dd' hs=>h _ ?_
  have he:∃ q,h'.get? a=some q:=let ⟨q,_,_,hq,_⟩:=dd';⟨q,hq⟩
  exact d_write I (by rw [e];exact True.intro) hs he (dk_new hl hd (rel.put k rv) dd')
 ·subst ey eH
  cases (show u=Value.ref b from ry)
  obtain ⟨z,hd,xs,rel,dd⟩:=dt_of I.hok e
  have hz:xs.length<=sizeLine:=by rw [<- Paired.length rel];exact z
  have hl:(putK kvs k v).length<=sizeLine:=by have:=length_putK kvs k v;omega
  refine wpAny_setItem_heap (hsz:=hz) (tupleKind_room_in1 hu) (key_of I.hok eb) dd fun h' dd' hs=>h _ ?_
  obtain ⟨q,es,ep,hq,h2,h3,h4,_,h5⟩:=dd'
  refine d_write I (by rw [e];exact True.intro) hs ⟨q,hq⟩ ⟨hl,hd,_,(rel.put k eb rv).keeps fun c ys ec=>?_,q,es,ep,hq,h2,h3,h4,h5⟩
  rw [upd_ne (ne_of ec e (fun z=>nomatch z))]
  exact ec
end
section
variable {X:Cx} {pins:List (Addr×Obj)} {σ:St} {H:Hp} {s:Shared} {a:Addr} {kvs:List (Key×V)} {k:Key} {u:Value} {A:Around} {E:Value->Shared->Prop}
end
def tDIn (ty td:TE):TE:=fun σ H Q=>ty σ H fun y H1=>td σ H1 fun x H2=>∃ a o,x=.ref a/\DGet H2 a y o/\Q (.bl o.isSome) H2
def tDNotIn (ty td:TE):TE:=fun σ H Q=>ty σ H fun y H1=>td σ H1 fun x H2=>∃ a o,x=.ref a/\DGet H2 a y o/\Q (.bl (!o.isSome)) H2
def sDPut (td ty tv:TE):TS:=fun D σ H=>tv σ H fun v H1=>td σ H1 fun x H2=>ty σ H2 fun y H3=>∃ a H4,x=.ref a/\DPut H3 a y v H4/\D.nx σ H4
section
variable {X:Cx} {o i e value:Expr} {pos pos' tpos:Pos} {td ty tv:TE}
theorem pc_din (hu:X.A.units+1<cLine) (hi:PE X i ty) (ho:PE X o td):PC X .In i o (tDIn ty td):=by
 intro pins s σ H Q I h
 refine thn (hi pins s σ H _ I h) fun iv s1 ⟨y,H1,I1,ry,q1⟩=>thn (ho pins s1 σ H1 _ I1 q1) fun u s2 ⟨x,H2,I2,rx,a,ov,ex,g,q2⟩=>?_
 subst ex
 obtain rfl:u=Value.ref a:=rx
 exact d_in hu I2 g ry fun s3 I3=>⟨.bl ov.isSome,H2,I3,rfl,q2⟩
theorem pc_dnotin (hu:X.A.units+1<cLine) (hi:PE X i ty) (ho:PE X o td):PC X .NotIn i o (tDNotIn ty td):=by
 intro pins s σ H Q I h
 refine thn (hi pins s σ H _ I h) fun iv s1 ⟨y,H1,I1,ry,q1⟩=>thn (ho pins s1 σ H1 _ I1 q1) fun u s2 ⟨x,H2,I2,rx,a,ov,ex,g,q2⟩=>?_
 subst ex
 obtain rfl:u=Value.ref a:=rx
 exact d_notIn hu I2 g ry fun s3 I3=>⟨.bl (!ov.isSome),H2,I3,rfl,q2⟩
theorem ps_dput (hu:X.A.units+1<cLine) (ho:PE X o td) (hi:PE X i ty) (hv:PE X value tv) (hs:swapsWith value (some (.Subscript o i pos')) pos.line X.env=pure false) :
  PS X (.Assign [.Subscript o i pos'] value pos) (sDPut td ty tv):=by
 intro pins s σ H D I h
 refine wpAny_Assign_Subscript (thn (hv pins s σ H _ I h) fun r s1 ⟨v,H1,I1,rv,q1⟩=>thn (ho pins s1 σ H1 _ I1 q1) fun u s2 ⟨x,H2,I2,rx,q2⟩=>thn (hi pins s2 σ H2 _ I2 q2) fun iv s3 ⟨y,H3,I3,ry,a,H4,ex,g,q3⟩=>?_) hs
 subst ex
 obtain rfl:u=Value.ref a:=rx
 exact d_setItem hu I3 g ry rv fun s4 I4=>⟨σ,H4,I4,q3⟩
end
theorem dk_empty {P:Program} {w:World} {H:Hp} (h:Heap) (hb:sysModules<h.objs.size):ObjOk P w H (h.push { cls:=.type "dict",data:=.dict #[] }) h.objs.size (.dK []) :=
 ⟨Nat.zero_le _,beq_eq_false_iff_ne.mpr (Ne.symm (Nat.ne_of_lt hb)),[],.nil,Heap.DictOf.new h⟩
def tDNewK:TE:=fun _ H Q=>∀ p,H p=none->Q (.ref p) (upd H p (.dK []))
section
variable {X:Cx} {pos:Pos}
theorem pe_dnewK:PE X (.Dict [] [] pos) tDNewK:=fun pins s σ H Q I h =>
 wpAny_Dict_empty ⟨.ref s.heap.objs.size,_,I.laid (a:=s.heap.objs.size) (o:=.dK []) (t':=s.toks) (fun _ _ q=>Heap.get?_push_of_some _ q) (Nat.le_refl _) (dk_empty s.heap I.big),rfl,h _ (I.hok.fresh (Nat.le_refl _))⟩
end
end L2
namespace Wd
open PySem
abbrev Kd:=Sum Int Str
inductive D where
 | non | bl (b:Bool) | int (i:Int) | str (x:Str) | tup (xs:List D) | lst (xs:List D) | scr (ns:List Int) | dic (ks:List Kd) (xs:List D)
abbrev EnvD:=List (Option D)
abbrev EvE:=EnvD->Option D
abbrev EvL:=EnvD->Option (List D)
abbrev EvO:=EnvD->Option (Option Int)
abbrev EvG:=D->EnvD->Option EnvD
inductive Fl where
 | nx (e:EnvD) | rt (d:D) | bk (e:EnvD) | ct (e:EnvD)
abbrev EvS:=EnvD->Option Fl
def lI:Nat:=16777216
def ifO {α:Type}:Option D->Option α->Option α->Option α
 | some (.bl c),x,y=>if c=true then x else y
 | _,_,_=>none
def notO:Option D->Option D
 | some (.bl c)=>some (.bl (!c))
 | _=>none
theorem ifO_bl {α:Type} (c:Bool) (x y:Option α):ifO (some (.bl c)) x y=if c=true then x else y:=rfl
theorem notO_bl (c:Bool):notO (some (.bl c))=some (.bl (!c)):=rfl
theorem ifO_ite {α:Type} {p:Prop} [Decidable p] (a b:Option D) (x y:Option α):ifO (if p then a else b) x y=if p then ifO a x y else ifO b x y:=by split<;>rfl
theorem notO_ite {p:Prop} [Decidable p] (a b:Option D):notO (if p then a else b)=if p then notO a else notO b:=by split<;>rfl
mutual
def D.dep:D->Nat
 | .tup xs=>D.depL xs+1
 | .lst xs=>D.depL xs+1
 | .scr _=>1
 | .dic _ xs=>D.depL xs+1
 | _=>0
def D.depL:List D->Nat
 | []=>0
 | x::xs=>max (D.dep x) (D.depL xs)
end
theorem dep_non:D.dep .non=0:=by rw [D.dep];all_goals simp
theorem dep_bl (b:Bool):D.dep (.bl b)=0:=by rw [D.dep];all_goals simp
theorem dep_int (i:Int):D.dep (.int i)=0:=by rw [D.dep];all_goals simp
theorem dep_str (x:Str):D.dep (.str x)=0:=by rw [D.dep];all_goals simp
theorem dep_tup (xs:List D):D.dep (.tup xs)=D.depL xs+1:=by rw [D.dep]
theorem dep_lst (xs:List D):D.dep (.lst xs)=D.depL xs+1:=by rw [D.dep]
theorem depL_nil:D.depL []=0:=by rw [D.depL]
theorem depL_cons (x:D) (xs:List D):D.depL (x::xs)=max (D.dep x) (D.depL xs):=by rw [D.depL]
def b2i (b:Bool):Int:=if b then 1 else 0
def andO:Option Bool->Option Bool->Option Bool
 | some a,some b=>some (a&&b)
 | _,_=>none
theorem andO_some (a b:Bool):andO (some a) (some b)=some (a&&b):=rfl
mutual
def D.eq:D->D->Option Bool
 | .non,.non=>some true
 | .bl a,.bl b=>some (a==b)
 | .bl a,.int j=>some (decide (b2i a=j))
 | .int i,.bl b=>some (decide (i=b2i b))
 | .int i,.int j=>some (decide (i=j))
 | .str x,.str y=>some (decide (x=y))
 | .tup xs,.tup ys=>D.eqL xs ys
 | .lst xs,.lst ys=>D.eqL xs ys
 | .scr _,_=>none
 | _,.scr _=>none
 | .dic _ _,_=>none
 | _,.dic _ _=>none
 | _,_=>some false
def D.eqL:List D->List D->Option Bool
 | [],[]=>some true
 | x::xs,y::ys=>andO (D.eq x y) (D.eqL xs ys)
 | _,_=>some false
end
theorem eq_int (i j:Int):D.eq (.int i) (.int j)=some (decide (i=j)):=by rw [D.eq]
theorem eq_bl (i j:Bool):D.eq (.bl i) (.bl j)=some (i==j):=by rw [D.eq]
theorem eq_str (i j:Str):D.eq (.str i) (.str j)=some (decide (i=j)):=by rw [D.eq]
theorem eq_tup (xs ys:List D):D.eq (.tup xs) (.tup ys)=D.eqL xs ys:=by rw [D.eq]
theorem eq_lst (xs ys:List D):D.eq (.lst xs) (.lst ys)=D.eqL xs ys:=by rw [D.eq]
theorem eqL_nil:D.eqL [] []=some true:=by rw [D.eqL]
theorem eqL_cons (x y:D) (xs ys:List D):D.eqL (x::xs) (y::ys)=andO (D.eq x y) (D.eqL xs ys):=by rw [D.eqL]
def D.cmp (o:Option Bool):Option D:=o.map .bl
def D.cmpN (o:Option Bool):Option D:=o.map fun b=>.bl (!b)
def D.eqO (x y:D):Option D:=if x.dep<=40 then D.cmp (D.eq x y) else none
def D.neO (x y:D):Option D:=if x.dep<=40 then D.cmpN (D.eq x y) else none
def intsOf:List D->Option (List Int)
 | []=>some []
 | .int i::r=>(intsOf r).map (i::·)
 | _=>none
def lexLe:List Int->List Int->Bool
 | [],_=>true
 | _::_,[]=>false
 | x::xs,y::ys=>if x=y then lexLe xs ys else decide (x<y)
def D.lt:D->D->Option D
 | .int i,.int j=>some (.bl (decide (i<j)))
 | _,_=>none
def D.le:D->D->Option D
 | .int i,.int j=>some (.bl (decide (i<=j)))
 | .tup xs,.tup ys=>match intsOf xs,intsOf ys with
  | some a,some b=>some (.bl (lexLe a b))
  | _,_=>none
 | _,_=>none
def D.gt:D->D->Option D
 | .int i,.int j=>some (.bl (decide (j<i)))
 | _,_=>none
def D.ge:D->D->Option D
 | .int i,.int j=>some (.bl (decide (j<=i)))
 | _,_=>none
def D.len:D->Option D
 | .str x=>if x.length<=lI then some (.int x.length) else none
 | .tup xs=>some (.int xs.length)
 | .lst xs=>some (.int xs.length)
 | .scr ns=>some (.int ns.length)
 | _=>none
def D.add:D->D->Option D
 | .int i,.int j=>some (.int (i+j))
 | .str x,.str y=>if x.length+y.length<=lI then some (.str (x++y)) else none
 | .lst xs,.lst ys=>if xs.length+ys.length<=lI then some (.lst (xs++ys)) else none
 | .tup (x::xs),.tup ys=>if xs.length+1+ys.length<=lI then some (.tup (x::xs++ys)) else none
 | _,_=>none
def D.addI:D->D->Option D
 | .int i,.int j=>some (.int (i+j))
 | .str x,.str y=>if x.length+y.length<=lI then some (.str (x++y)) else none
 | _,_=>none
def D.sub:D->D->Option D
 | .int i,.int j=>some (.int (i-j))
 | _,_=>none
def D.mul:D->D->Option D
 | .int i,.int j=>if (-(2^64)<i/\i<2^64)\/(-(2^64)<j/\j<2^64) then some (.int (i*j)) else none
 | _,_=>none
def D.mod:D->D->Option D
 | .int i,.int j=>if 0<j then some (.int (i%j)) else none
 | _,_=>none
def D.fdiv:D->D->Option D
 | .int i,.int j=>if 0<j/\j<1073741824 then some (.int (i/j)) else none
 | _,_=>none
def D.pow:D->D->Option D
 | .int i,.int j=>if 0<=j/\j<=1000000/\i.natAbs<2^64 then some (.int (i^j.toNat)) else none
 | _,_=>none
def D.neg:D->Option D
 | .int i=>some (.int (-i))
 | _=>none
theorem mul_l {i j:Int} (h:-(2^64)<i/\i<2^64):D.mul (.int i) (.int j)=some (.int (i*j)):=if_pos (.inl h)
theorem mul_r {i j:Int} (h:-(2^64)<j/\j<2^64):D.mul (.int i) (.int j)=some (.int (i*j)):=if_pos (.inr h)
theorem mod_p {i j:Int} (h:0<j):D.mod (.int i) (.int j)=some (.int (i%j)):=if_pos h
theorem fdiv_p {i j:Int} (h:0<j/\j<1073741824):D.fdiv (.int i) (.int j)=some (.int (i/j)):=if_pos h
theorem pow_p {i j:Int} (h:0<=j/\j<=1000000/\i.natAbs<2^64):D.pow (.int i) (.int j)=some (.int (i^j.toNat)):=if_pos h
def D.strI:D->Option D
 | .int i=>if i.natAbs<2^1900 then some (.str (Str.ofString (toString i))) else none
 | _=>none
def D.intB:D->Option D
 | .int i=>some (.int i)
 | .bl b=>some (.int (if b then 1 else 0))
 | _=>none
def D.min2:D->D->Option D
 | .int i,.int j=>some (.int (if j<i then j else i))
 | _,_=>none
def D.max2:D->D->Option D
 | .int i,.int j=>some (.int (if j > i then j else i))
 | _,_=>none
def D.isT:D->Option D
 | .bl b=>some (.bl b)
 | .int _=>some (.bl false)
 | _=>none
def tyD:D->String
 | .non=>"NoneType"
 | .bl _=>"bool"
 | .int _=>"int"
 | .str _=>"str"
 | .tup _=>"tuple"
 | .lst _=>"list"
 | .scr _=>"list"
 | .dic _ _=>"dict"
def D.inst (t:String) (d:D):Option D:=match d with
 | .scr _=>none
 | d=>some (.bl (decide (tyD d=t)||(decide (t="int")&&decide (tyD d="bool"))))
def ixD (n:Nat) (i:Int):Option Nat:=if 0<=i then (if i<n then some i.toNat else none) else if -(n:Int)<=i then some (i+n).toNat else none
def D.ix:D->D->Option D
 | .tup xs,.int i=>(ixD xs.length i).bind fun k=>xs[k]?
 | .lst xs,.int i=>(ixD xs.length i).bind fun k=>xs[k]?
 | .scr ns,.int i=>(ixD ns.length i).bind fun k=>(ns[k]?).map .int
 | .str x,.int i=>if x.length<=lI then (ixD x.length i).bind fun k=>(x.cps[k]?).map fun c=>.str ⟨#[c]⟩ else none
 | _,_=>none
def sIxD (n d:Nat):Option Int->Nat
 | none=>d
 | some v=>if v<0 then (v+(n:Int)).toNat else min v.toNat n
def cutD {α:Type} (xs:List α) (lo hi:Option Int):List α:=(xs.drop (sIxD xs.length 0 lo)).take (sIxD xs.length xs.length hi-sIxD xs.length 0 lo)
def D.cut:D->Option Int->Option Int->Option D
 | .lst xs,lo,hi=>some (.lst (cutD xs lo hi))
 | .tup xs,lo,hi=>if sIxD xs.length 0 lo=0/\sIxD xs.length xs.length hi=xs.length then none else some (.tup (cutD xs lo hi))
 | .scr ns,lo,hi=>some (.lst ((cutD ns lo hi).map .int))
 | _,_,_=>none
def cutL (x:D) (lo hi:Option Int):Option D:=D.cut x lo hi
def eV (i:Nat):EvE:=fun e=>(e[i]?).join
def eC (d:D):EvE:=fun _=>some d
def eOp (g:D->D->Option D) (a b:EvE):EvE:=fun e=>(a e).bind fun x=>(b e).bind fun y=>g x y
def eUn (g:D->Option D) (a:EvE):EvE:=fun e=>(a e).bind fun x=>g x
def eNot (a:EvE):EvE:=fun e=>notO (a e)
def eAnd (a b:EvE):EvE:=fun e=>ifO (a e) (b e) (some (.bl false))
def eOr (a b:EvE):EvE:=fun e=>ifO (a e) (some (.bl true)) (b e)
def eIf (c a b:EvE):EvE:=fun e=>ifO (c e) (a e) (b e)
def eChain (g g':D->D->Option D) (a b c:EvE):EvE:=fun e=>(a e).bind fun x=>(b e).bind fun y=>ifO (g x y) ((c e).bind fun z=>g' y z) (some (.bl false))
def lN:EvL:=fun _=>some []
def lC (a:EvE) (l:EvL):EvL:=fun e=>(a e).bind fun x=>(l e).map fun xs=>x::xs
def eTup (l:EvL):EvE:=fun e=>(l e).map .tup
def eLst (l:EvL):EvE:=fun e=>(l e).map .lst
def eK (f:List D->Option D) (l:EvL):EvE:=fun e=>(l e).bind f
def eInst (t:String) (a:EvE):EvE:=fun e=>(a e).bind fun x=>D.inst t x
def oNo:EvO:=fun _=>some none
def oAt (a:EvE):EvO:=fun e=>(a e).bind fun d=>match d with
 | .int i=>some (some i)
 | _=>none
def eCutL (a:EvE) (lo hi:EvO):EvE:=fun e=>(a e).bind fun x=>(lo e).bind fun l=>(hi e).bind fun h=>cutL x l h
def gS (i:Nat):EvG:=fun d e=>some (e.set i (some d))
def gAll:List EvG->List D->EnvD->Option EnvD
 | [],[],e=>some e
 | g::gs,d::ds,e=>(g d e).bind fun e'=>gAll gs ds e'
 | _,_,_=>none
def gUnp (gs:List EvG):EvG:=fun d e=>match d with
 | .tup ds=>gAll gs ds e
 | _=>none
def seqO:Option Fl->EvS->Option Fl
 | some (.nx e),k=>k e
 | some (.rt d),_=>some (.rt d)
 | some (.bk e),_=>some (.bk e)
 | some (.ct e),_=>some (.ct e)
 | none,_=>none
theorem seqO_nx (e:EnvD) (k:EvS):seqO (some (.nx e)) k=k e:=rfl
theorem seqO_rt (d:D) (k:EvS):seqO (some (.rt d)) k=some (.rt d):=rfl
theorem seqO_bk (e:EnvD) (k:EvS):seqO (some (.bk e)) k=some (.bk e):=rfl
theorem seqO_ct (e:EnvD) (k:EvS):seqO (some (.ct e)) k=some (.ct e):=rfl
theorem seqO_none (k:EvS):seqO none k=none:=rfl
theorem seqO_ite {c:Prop} [Decidable c] (a b:Option Fl) (k:EvS):seqO (if c then a else b) k=if c then seqO a k else seqO b k:=by split<;>rfl
def sQ (a b:EvS):EvS:=fun e=>seqO (a e) b
def sIf (c:EvE) (a b:EvS):EvS:=fun e=>ifO (c e) (a e) (b e)
def sRet (a:EvE):EvS:=fun e=>(a e).map .rt
def sRetN:EvS:=fun _=>some (.rt .non)
def sAsg (a:EvE) (g:EvG):EvS:=fun e=>(a e).bind fun d=>(g d e).map .nx
def sAug (i:Nat) (g:D->D->Option D) (a:EvE):EvS:=fun e=>(eV i e).bind fun x=>(a e).bind fun y=>(g x y).map fun z=>.nx (e.set i (some z))
def sDrop (a:EvE):EvS:=fun e=>(a e).map fun _=>.nx e
def sNx:EvS:=fun e=>some (.nx e)
def sBrk:EvS:=fun e=>some (.bk e)
def sCnt:EvS:=fun e=>some (.ct e)
def D.app:D->D->Option D
 | .lst xs,d=>if xs.length<lI then some (.lst (xs++[d])) else none
 | _,_=>none
def D.ext:D->D->Option D
 | .lst xs,.lst ys=>if xs.length+ys.length<=lI then some (.lst (xs++ys)) else none
 | _,_=>none
def sP (i:Nat) (a:EvE):EvS:=fun e=>(eV i e).bind fun x=>(a e).bind fun d=>(D.app x d).map fun z=>.nx (e.set i (some z))
def sExt (i:Nat) (a:EvE):EvS:=fun e=>(eV i e).bind fun x=>(a e).bind fun d=>(D.ext x d).map fun z=>.nx (e.set i (some z))
def turnO:Option Fl->EvS->Option Fl
 | some (.nx e),k=>k e
 | some (.ct e),k=>k e
 | some (.bk e),_=>some (.nx e)
 | some (.rt d),_=>some (.rt d)
 | none,_=>none
theorem turnO_nx (e:EnvD) (k:EvS):turnO (some (.nx e)) k=k e:=rfl
def loopD (g:EvG) (b:EvS):List D->EvS
 | [],e=>some (.nx e)
 | d::ds,e=>turnO ((g d e).bind b) (loopD g b ds)
abbrev EvI:=EnvD->Option (List D)
def sFor (it:EvI) (g:EvG) (b:EvS):EvS:=fun e=>(it e).bind fun ds=>loopD g b ds e
def rD (lo:Int) (n:Nat):List D:=(List.range n).map fun i:Nat=>.int (lo+(i:Int))
def enumD:Nat->List D->List D
 | _,[]=>[]
 | n,d::ds=>.tup [.int n,d]::enumD (n+1) ds
def D.rng:D->Option (List D)
 | .int n=>if n.natAbs<4611686018427387904 then some (rD 0 n.toNat) else none
 | _=>none
def D.its:D->Option (List D)
 | .lst xs=>some xs
 | .scr ns=>some (ns.map .int)
 | _=>none
def D.itsT:D->Option (List D)
 | .tup xs=>some xs
 | _=>none
def iRng (a:EvE):EvI:=fun e=>(a e).bind fun d=>D.rng d
def iLst (a:EvE):EvI:=fun e=>(a e).bind fun d=>D.its d
def iEnum (a:EvE):EvI:=fun e=>(a e).bind fun d=>(D.its d).map fun ds=>enumD 0 ds
def endD:Option Fl->Option D
 | some (.rt d)=>some d
 | some (.nx _)=>some .non
 | _=>none
theorem endD_rt (d:D):endD (some (.rt d))=some d:=rfl
theorem endD_nx (e:EnvD):endD (some (.nx e))=some .non:=rfl
theorem endD_ite {c:Prop} [Decidable c] (a b:Option Fl):endD (if c then a else b)=if c then endD a else endD b:=by split<;>rfl
theorem bind_ite {α β:Type} {c:Prop} [Decidable c] (a b:Option α) (f:α->Option β):(if c then a else b).bind f=if c then a.bind f else b.bind f:=by split<;>rfl
theorem map_ite {α β:Type} {c:Prop} [Decidable c] (a b:Option α) (f:α->β):(if c then a else b).map f=if c then a.map f else b.map f:=by split<;>rfl
def sD (n:Nat) (ds:List D):EnvD:=ds.map some++List.replicate (n-ds.length) none
def defD (n k:Nat) (b:EvS) (ds:List D):Option D:=if ds.length=k then endD (b (sD n ds)) else none
end Wd
namespace Wd
open PySem
def compD (g:EvG) (c el:EvE):List D->EnvD->Option (List D)
 | [],_=>some []
 | d::ds,e=>(g d e).bind fun e1=>ifO (c e1) ((el e1).bind fun x=>(compD g c el ds e1).map fun r=>x::r) (compD g c el ds e1)
def capE (n:Nat) (caps:List Nat) (e:EnvD):EnvD:=List.replicate n none++caps.map fun i=>(e[i]?).join
def eComp (n:Nat) (caps:List Nat) (it:EvI) (g:EvG) (c el:EvE):EvE:=fun e=>(it e).bind fun ds=>if ds.length<=lI then (compD g c el ds (capE n caps e)).map .lst else none
end Wd
namespace Wd
open PySem
def cutS (x:Str) (lo hi:Option Int):Str:=⟨(cutD x.cps.toList lo hi).toArray⟩
def mulS (x:Str) (n:Int):Str:=⟨(List.replicate n.toNat x.cps.toList).flatten.toArray⟩
def cutA (x:D) (lo hi:Option Int):Option D:=match x with
 | .str z=>if z.length<=lI then some (.str (cutS z lo hi)) else none
 | d=>D.cut d lo hi
def eCut (a:EvE) (lo hi:EvO):EvE:=fun e=>(a e).bind fun x=>(lo e).bind fun l=>(hi e).bind fun h=>cutA x l h
def D.strip:D->Option D
 | .str x=>if x.length<=lI then some (.str (Txt.strip x)) else none
 | _=>none
def D.mulA:D->D->Option D
 | .int i,.int j=>D.mul (.int i) (.int j)
 | .str x,.int n=>if -1073741824<n/\n<1073741824/\x.length*n.toNat<=lI then some (.str (mulS x n)) else none
 | .lst xs,.int n=>if -1073741824<n/\n<1073741824/\xs.length*n.toNat<=lI then some (.lst (List.replicate n.toNat xs).flatten) else none
 | _,_=>none
def flatD:D->Bool
 | .non | .bl _ | .int _ | .str _=>true
 | _=>false
def inD (x:D):List D->Bool
 | []=>false
 | y::ys=>(D.eq y x==some true)||inD x ys
def D.inO (x y:D):Option D:=match y with
 | .tup ys=>if flatD x=true/\ys.all flatD=true then some (.bl (inD x ys)) else none
 | .lst ys=>if flatD x=true/\ys.all flatD=true then some (.bl (inD x ys)) else none
 | _=>none
def D.notInO (x y:D):Option D:=match y with
 | .tup ys=>if flatD x=true/\ys.all flatD=true then some (.bl (!inD x ys)) else none
 | .lst ys=>if flatD x=true/\ys.all flatD=true then some (.bl (!inD x ys)) else none
 | _=>none
def D.listOf:D->Option D
 | .lst xs=>some (.lst xs)
 | .tup xs=>some (.lst xs)
 | .scr ns=>some (.lst (ns.map .int))
 | _=>none
end Wd
namespace Wd
open PySem
def maxI:Int->List Int->Int
 | m,[]=>m
 | m,n::ns=>maxI (if n > m then n else m) ns
theorem maxI_spec:∀ (ns:List Int) (m:Int),(maxI m ns=m\/maxI m ns∈ns)/\m<=maxI m ns/\∀ a∈ns,a<=maxI m ns
 | [],m=>⟨.inl rfl,Int.le_refl _,fun _ h=>by cases h⟩
 | n::ns,m=>by
  obtain ⟨h1,h2,h3⟩:=maxI_spec ns (if n > m then n else m)
  show (maxI (if n > m then n else m) ns=m\/_)/\_
  refine ⟨?_,?_,fun a ha=>?_⟩
  ·rcases h1 with h | h
   ·by_cases z:n > m
    ·right;show maxI (if n > m then n else m) ns∈n::ns;rw [h,if_pos z];exact List.mem_cons_self
    ·left;rw [h,if_neg z]
   ·right;exact List.mem_cons_of_mem _ h
  ·show m<=maxI (if n > m then n else m) ns
   refine Int.le_trans ?_ h2
   split<;>omega
  ·show a<=maxI (if n > m then n else m) ns
   rcases List.mem_cons.mp ha with z | z
   ·subst z
    refine Int.le_trans ?_ h2
    split<;>omega
   ·exact h3 a z
def D.maxL:D->Option D
 | .lst xs=>match intsOf xs with
  | some (m::ns)=>some (.int (maxI m ns))
  | _=>none
 | _=>none
def D.sumL:D->Option D
 | .lst xs=>(intsOf xs).map fun ns=>.int ns.sum
 | _=>none
def boolsOf:List D->Option (List Bool)
 | []=>some []
 | .bl b::r=>(boolsOf r).map (b::·)
 | _=>none
def D.anyL:D->Option D
 | .lst xs=>(boolsOf xs).map fun bs=>.bl (bs.any id)
 | _=>none
end Wd
namespace Wd
open PySem
def sNever:EvS:=fun _=>none
theorem mulA_int (i j:Int):D.mulA (.int i) (.int j)=D.mul (.int i) (.int j):=rfl
end Wd
namespace Wd
open PySem
def kOf:D->Option Kd
 | .str x=>some (.inr x)
 | .int i=>some (.inl i)
 | _=>none
def hasK (k:Kd) (ks:List Kd):Bool:=ks.any fun c=>decide (c=k)
def dVal:List Kd->List D->Kd->Option D
 | c::ks,d::ds,k=>if c=k then some d else dVal ks ds k
 | _,_,_=>none
def dRep:List Kd->List D->Kd->D->List D
 | c::ks,d::ds,k,v=>(if c=k then v else d)::dRep ks ds k v
 | _,_,_,_=>[]
def D.dget:D->D->Option D
 | .dic ks ds,y=>(kOf y).bind fun k=>dVal ks ds k
 | _,_=>none
def D.dIn (y d:D):Option D:=match d with
 | .dic ks _=>(kOf y).map fun k=>.bl (hasK k ks)
 | _=>none
def D.dNotIn (y d:D):Option D:=match d with
 | .dic ks _=>(kOf y).map fun k=>.bl (!hasK k ks)
 | _=>none
def dPut (ks:List Kd) (ds:List D) (k:Kd) (v:D):D:=if hasK k ks=true then .dic ks (dRep ks ds k v) else .dic (ks++[k]) (ds++[v])
def D.put (x y v:D):Option D:=match x with
 | .dic ks ds=>(kOf y).bind fun k=>if ks.length<lI then some (dPut ks ds k v) else none
 | _=>none
def sDput (i:Nat) (key val:EvE):EvS:=fun e=>(val e).bind fun v=>(eV i e).bind fun x=>(key e).bind fun y=>(D.put x y v).map fun z=>.nx (e.set i (some z))
def defM (n k:Nat) (b:EvS) (ds:List D):Option D:=if ds.length=k then match b (sD n ds) with
 | some (.nx e)=>(e[k-1]?).join
 | _=>none else none
def sCallM (i:Nat) (f:List D->Option D) (l:EvL):EvS:=fun e=>(l e).bind fun ds=>(eV i e).bind fun d=>(f (ds++[d])).map fun z=>.nx (e.set i (some z))
def zipD:List D->List D->List D
 | a::as,b::bs=>.tup [a,b]::zipD as bs
 | _,_=>[]
def iZip (a b:EvE):EvI:=fun e=>(a e).bind fun x=>(b e).bind fun y=>(D.its x).bind fun xs=>(D.its y).map fun ys=>zipD xs ys
end Wd
namespace Wd
open PySem
end Wd
namespace Wd
open PySem
end Wd
namespace Wd
open PySem
def kD:Sum Int Str->D
 | .inl i=>.int i
 | .inr x=>.str x
def pairD:List (Sum Int Str)->List D->List D
 | k::ks,d::ds=>.tup [kD k,d]::pairD ks ds
 | _,_=>[]
def D.itemsL:D->Option D
 | .dic ks ds=>if ks.length<=lI then some (.lst (pairD ks ds)) else none
 | _=>none
def iVals (ev:EvE):EvI:=fun e=>(ev e).bind fun d=>match d with | .dic _ ds=>some ds | _=>none
end Wd
namespace Wd
open PySem PySem.Spec PyProof.Rows L2
abbrev Fg:=PySem.W.Frag
def Sm (F H:Hp):Prop:=∀ a o,F a=some o->H a=some o
theorem Sm.refl (F:Hp):Sm F F:=fun _ _ h=>h
theorem Sm.trans {F G H:Hp} (a:Sm F G) (b:Sm G H):Sm F H:=fun x o h=>b x o (a x o h)
theorem Sm.none {F H:Hp} (s:Sm F H) {a:Addr} (h:H a=none):F a=none:=by
 cases e:F a with
 | none=>rfl
 | some o=>rw [s a o e] at h;cases h
theorem Sm.upd {F H:Hp} (s:Sm F H) {p:Addr} (o:HO) (h:F p=Option.none):Sm F (L2.upd H p o):=fun a x e=>by
 have:a≠p:=fun z=>by rw [z,h] at e;cases e
 rw [upd_ne this];exact s a x e
theorem Sm.upd2 {F H:Hp} (s:Sm F H) (p:Addr) (o:HO):Sm (L2.upd F p o) (L2.upd H p o):=fun a x e=>by
 by_cases z:a=p
 ·subst z;rw [upd_same] at e ⊢;exact e
 ·rw [upd_ne z] at e ⊢;exact s a x e
theorem Sm.sqL {K:Fg} {F H:Hp} (s:Sm F H) {a:Addr} {xs:List V} (h:SqL K F a xs):SqL K H a xs:=by
 rcases h with (h | ⟨o,h⟩) | h
 ·exact .inl (.inl (s _ _ h))
 ·exact .inl (.inr ⟨o,s _ _ h⟩)
 ·exact .inr h
mutual
inductive Rep (K:Fg) (F:Hp):V->D->Prop where
 | non:Rep K F .non .non
 | bl (b:Bool):Rep K F (.bl b) (.bl b)
 | int (i:Int):Rep K F (.int i) (.int i)
 | str (x:Str):Rep K F (.str x) (.str x)
 | tup {a:Addr} {xs:List V} {ds:List D} (h:F a=some (.tup xs)) (r:Reps K F xs ds):Rep K F (.ref a) (.tup ds)
 | lst {a:Addr} {xs:List V} {ds:List D} (h:F a=some (.lst xs)) (r:Reps K F xs ds):Rep K F (.ref a) (.lst ds)
 | scr {a:Addr} {ns:List Int} (h:SqL K F a (ns.map V.int)):Rep K F (.ref a) (.scr ns)
 | dic {a:Addr} {o:Obj} {ks:List Kd} {xs:List V} {ds:List D} (h:F a=some (.frz o (.dK (ks.zip xs)))) (hl:ks.length=xs.length) (r:Reps K F xs ds):Rep K F (.ref a) (.dic ks ds)
inductive Reps (K:Fg) (F:Hp):List V->List D->Prop where
 | nil:Reps K F [] []
 | cons {x:V} {d:D} {xs:List V} {ds:List D} (h:Rep K F x d) (r:Reps K F xs ds):Reps K F (x::xs) (d::ds)
end
mutual
theorem Rep.mono {K:Fg} {F F':Hp} (s:Sm F F'):∀ {v:V} {d:D},Rep K F v d->Rep K F' v d
 | _,_,.non=>.non
 | _,_,.bl b=>.bl b
 | _,_,.int i=>.int i
 | _,_,.str x=>.str x
 | _,_,.tup h r=>.tup (s _ _ h) (Reps.mono s r)
 | _,_,.lst h r=>.lst (s _ _ h) (Reps.mono s r)
 | _,_,.scr h=>.scr (s.sqL h)
 | _,_,.dic h hl r=>.dic (s _ _ h) hl (Reps.mono s r)
theorem Reps.mono {K:Fg} {F F':Hp} (s:Sm F F'):∀ {vs:List V} {ds:List D},Reps K F vs ds->Reps K F' vs ds
 | _,_,.nil=>.nil
 | _,_,.cons h r=>.cons (Rep.mono s h) (Reps.mono s r)
end
section
variable {K:Fg} {F H:Hp}
theorem Reps.length:∀ {vs:List V} {ds:List D},Reps K F vs ds->vs.length=ds.length
 | _,_,.nil=>rfl
 | _,_,.cons _ r=>by rw [List.length_cons,List.length_cons,r.length]
theorem Reps.get:∀ {vs:List V} {ds:List D} {i:Nat} {d:D},Reps K F vs ds->ds[i]?=some d->∃ v,vs[i]?=some v/\Rep K F v d
 | _,_,_,_,.nil,e=>by simp at e
 | _,_,0,_,.cons h _,e=>by simp at e;subst e;exact ⟨_,rfl,h⟩
 | _,_,i+1,d,.cons _ r,e=>by
  obtain ⟨v,h1,h2⟩:=Reps.get (i:=i) (d:=d) r (by simpa using e)
  exact ⟨v,by simpa using h1,h2⟩
theorem Reps.getV:∀ {vs:List V} {ds:List D} {i:Nat} {v:V},Reps K F vs ds->vs[i]?=some v->∃ d,ds[i]?=some d/\Rep K F v d
 | _,_,_,_,.nil,e=>by simp at e
 | _,_,0,_,.cons h _,e=>by simp at e;subst e;exact ⟨_,rfl,h⟩
 | _,_,i+1,v,.cons _ r,e=>by
  obtain ⟨d,h1,h2⟩:=Reps.getV (i:=i) (v:=v) r (by simpa using e)
  exact ⟨d,by simpa using h1,h2⟩
theorem Reps.append:∀ {vs ws:List V} {ds es:List D},Reps K F vs ds->Reps K F ws es->Reps K F (vs++ws) (ds++es)
 | _,_,_,_,.nil,s=>s
 | _,_,_,_,.cons h r,s=>.cons h (Reps.append r s)
theorem Reps.drop:∀ {vs:List V} {ds:List D} (n:Nat),Reps K F vs ds->Reps K F (vs.drop n) (ds.drop n)
 | _,_,0,r=>r
 | _,_,_+1,.nil=>.nil
 | _,_,n+1,.cons _ r=>Reps.drop n r
theorem Reps.take:∀ {vs:List V} {ds:List D} (n:Nat),Reps K F vs ds->Reps K F (vs.take n) (ds.take n)
 | _,_,0,_=>.nil
 | _,_,_+1,.nil=>.nil
 | _,_,n+1,.cons h r=>.cons h (Reps.take n r)
theorem Reps.ints:∀ (ns:List Int),Reps K F (ns.map V.int) (ns.map D.int)
 | []=>.nil
 | n::ns=>.cons (.int n) (Reps.ints ns)
theorem Reps.intsOf:∀ {vs:List V} {ds:List D} {ns:List Int},Reps K F vs ds->Wd.intsOf ds=some ns->vs=ns.map V.int
 | _,_,ns,.nil,e=>by cases e;rfl
 | _,_,ns,.cons (d:=d) h r,e=>by
  cases h with
  | int i =>
   simp only [Wd.intsOf] at e
   cases q:Wd.intsOf _ with
   | none=>rw [q] at e;cases e
   | some ms =>
    rw [q] at e
    cases e
    rw [Reps.intsOf r q];rfl
  | _=>simp [Wd.intsOf] at e
end
def ho:Option (List Kd)->List V->HO
 | none,xs=>.lst xs
 | some ks,xs=>.dK (ks.zip xs)
def dOf:Option (List Kd)->List D->D
 | none,ds=>.lst ds
 | some ks,ds=>.dic ks ds
def HoOk:Option (List Kd)->List V->Prop
 | none,_=>True
 | some ks,xs=>ks.length=xs.length
def hz (o:Obj):Option (List Kd)->List V->HO
 | none,xs=>.lst xs
 | some ks,xs=>.frz o (.dK (ks.zip xs))
theorem Rep.hz {K:Fg} {F:Hp} {p:Addr} {o:Obj}:∀ {k:Option (List Kd)} {xs:List V} {ds:List D},F p=some (hz o k xs)->HoOk k xs->Reps K F xs ds->Rep K F (.ref p) (dOf k ds)
 | none,_,_,h,_,r=>.lst h r
 | some _,_,_,h,hl,r=>.dic h hl r
def RdD (K:Fg) (F H:Hp) (v:V) (d:D):Prop:=Rep K F v d\/∃ p k xs ds,v=.ref p/\H p=some (ho k xs)/\Reps K F xs ds/\d=dOf k ds/\HoOk k xs
structure Gr (F H F' H':Hp):Prop where
 ff:Sm F F'
 hh:Sm H H'
 fh:Sm F' H'
 fr:∀ a o,F' a=some o->F a=some o\/H a=none
theorem Gr.refl {F H:Hp} (s:Sm F H):Gr F H F H:=⟨.refl _,.refl _,s,fun _ _ h=>.inl h⟩
theorem Gr.trans {F H F1 H1 F2 H2:Hp} (a:Gr F H F1 H1) (b:Gr F1 H1 F2 H2):Gr F H F2 H2 :=
 ⟨a.ff.trans b.ff,a.hh.trans b.hh,b.fh,fun x o h=>by
  rcases b.fr x o h with h | h
  ·exact a.fr x o h
  ·exact .inr (a.hh.none h)⟩
theorem Gr.new {F H:Hp} (s:Sm F H) {p:Addr} (h:H p=none) (o:HO):Gr F H (upd F p o) (upd H p o) :=
 ⟨(Sm.refl F).upd o (s.none h),(Sm.refl H).upd o h,s.upd2 p o,fun a x e=>by
  by_cases z:a=p
  ·subst z;exact .inr h
  ·rw [upd_ne z] at e;exact .inl e⟩
theorem Gr.newO {F H:Hp} (s:Sm F H) {p:Addr} (h:H p=none) (o:HO):Gr F H F (upd H p o) :=
 ⟨.refl F,(Sm.refl H).upd o h,s.upd o (s.none h),fun _ _ e=>.inl e⟩
theorem RdD.gr {K:Fg} {F H F' H':Hp} {v:V} {d:D} (g:Gr F H F' H') (r:RdD K F H v d):RdD K F' H' v d:=by
 rcases r with r | ⟨p,k,xs,ds,rfl,h,r,rfl,hk⟩
 ·exact .inl (r.mono g.ff)
 ·exact .inr ⟨p,k,xs,ds,rfl,g.hh _ _ h,r.mono g.ff,rfl,hk⟩
structure Fz where
 f:Hp
 h:Hp
 p:Option Addr
def pinN (i:Nat):Nat:=1000+i
structure RS (K:Fg) (H₀:Hp) (F0:Fz) (F H:Hp) (σ:L2.St) (e:EnvD) (O:List Nat):Prop where
 fh:Sm F H
 hh:Sm F0.h H
 ff:Sm F0.f F
 fr:∀ a o,F a=some o->F0.f a=some o\/F0.h a=none
 slot:∀ i d,e[i]?=some (some d)->i∉O->∃ v,σ[i]?=some (some v)/\Rep K F v d
 own:∀ i d,e[i]?=some (some d)->i∈O->∃ p k xs ds,σ[i]?=some (some (.ref p))/\F0.h p=none/\F p=none/\H p=some (ho k xs)/\Reps K F xs ds/\d=dOf k ds/\HoOk k xs
 dis:∀ i j p d d',i∈O->j∈O->e[i]?=some (some d)->e[j]?=some (some d')->σ[i]?=some (some (.ref p))->σ[j]?=some (some (.ref p))->i=j
 pin:∀ i,pinN i∈O->∃ p,F0.p=some p/\σ[i]?=some (some (.ref p))
 len:σ.length=e.length
theorem RS.grow {K:Fg} {H₀:Hp} {F0:Fz} {F H F' H':Hp} {σ:L2.St} {e:EnvD} {O:List Nat} (r:RS K H₀ F0 F H σ e O) (g:Gr F H F' H'):RS K H₀ F0 F' H' σ e O where
 fh:=g.fh
 hh:=r.hh.trans g.hh
 ff:=r.ff.trans g.ff
 fr:=fun a o h=>by
  rcases g.fr a o h with h | h
  ·exact r.fr a o h
  ·exact .inr (r.hh.none h)
 slot:=fun i d h hi=>by
  obtain ⟨v,h1,h2⟩:=r.slot i d h hi
  exact ⟨v,h1,h2.mono g.ff⟩
 own:=fun i d h hi=>by
  obtain ⟨p,k,xs,ds,h1,h2,h3,h4,h5,h6⟩:=r.own i d h hi
  refine ⟨p,k,xs,ds,h1,h2,?_,g.hh _ _ h4,h5.mono g.ff,h6⟩
  cases q:F' p with
  | none=>rfl
  | some o =>
   rcases g.fr p o q with z | z
   ·rw [h3] at z;cases z
   ·rw [h4] at z;cases z
 dis:=r.dis
 pin:=r.pin
 len:=r.len
section
variable (X:Cx) (O:List Nat)
def tD (ev:EvE):TE:=fun σ H Q=>∃ F0 F e d,RS X.K X.H₀ F0 F H σ e O/\ev e=some d/\∀ v F' H',Gr F H F' H'->Rep X.K F' v d->Q v H'
def tR (ev:EvE):TE:=fun σ H Q=>∃ F0 F e d,RS X.K X.H₀ F0 F H σ e O/\ev e=some d/\∀ v F' H',Gr F H F' H'->RdD X.K F' H' v d->Q v H'
def tO (ev:EvE):TE:=fun σ H Q=>∃ F0 F e d,RS X.K X.H₀ F0 F H σ e O/\ev e=some d/\∀ p k xs ds F' H',Gr F H F' H'->H p=none->F' p=none->H' p=some (ho k xs)->Reps X.K F' xs ds->d=dOf k ds->HoOk k xs->Q (.ref p) H'
def tDT (ev:EvE):TT:=fun σ H Q=>∃ F0 F e b,RS X.K X.H₀ F0 F H σ e O/\ev e=some (.bl b)/\∀ F' H',Gr F H F' H'->Q b H'
def tL (l:EvL):TA:=fun σ H Q=>∃ F0 F e ds,RS X.K X.H₀ F0 F H σ e O/\l e=some ds/\∀ vs F' H',Gr F H F' H'->Reps X.K F' vs ds->Q vs H'
def tOI (l:EvO):TO:=fun σ H Q=>∃ F0 F e o,RS X.K X.H₀ F0 F H σ e O/\l e=some o/\∀ F' H',Gr F H F' H'->Q o H'
end
section
variable {X:Cx} {O:List Nat} {e a b c:Expr} {pos:Pos}
theorem PE.imp {t t':TE} (h:PE X e t) (q:∀ σ H Q,t' σ H Q->t σ H Q):PE X e t':=fun pins s σ H Q I z=>h pins s σ H Q I (q σ H Q z)
theorem PT.imp {t t':TT} (h:PT X e t) (q:∀ σ H Q,t' σ H Q->t σ H Q):PT X e t':=fun pins s σ H Q I z=>h pins s σ H Q I (q σ H Q z)
theorem PW.imp {t t':TT} (h:PW X e t) (q:∀ σ H Q,t' σ H Q->t σ H Q):PW X e t':=fun w pins s σ H Q I z=>h w pins s σ H Q I (q σ H Q z)
theorem PA.imp {es:List Expr} {t t':TA} (h:PA X es t) (q:∀ σ H Q,t' σ H Q->t σ H Q):PA X es t':=fun p pins s σ H Q I z=>h p pins s σ H Q I (q σ H Q z)
theorem PS.imp {st:Stmt} {t t':TS} (h:PS X st t) (q:∀ D σ H,t' D σ H->t D σ H):PS X st t':=fun pins s σ H D I z=>h pins s σ H D I (q D σ H z)
theorem PSs.imp {st:List Stmt} {t t':TS} (h:PSs X st t) (q:∀ D σ H,t' D σ H->t D σ H):PSs X st t':=fun pins s σ H D I z=>h pins s σ H D I (q D σ H z)
theorem dr {ev:EvE} (h:PE X e (tD X O ev)):PE X e (tR X O ev):=PE.imp h fun σ H Q ⟨F0,F,en,d,r,w,k⟩=>⟨F0,F,en,d,r,w,fun v F' H' g q=>k v F' H' g (.inl q)⟩
theorem dC {v:V} {d:D} (hr:∀ K F,Rep K F v d) (h:PE X e (tC v)):PE X e (tD X O (eC d)) :=
 PE.imp h fun σ H Q ⟨F0,F,en,d',r,w,k⟩=>by
  cases w
  exact k v F H (.refl r.fh) (hr _ _)
theorem de_bl {b:Bool} {j}:PE X (.Constant (.bool b) j pos) (tD X O (eC (.bl b))):=dC (fun _ _=>.bl b) pe_bl
theorem de_int {i:Int} {j}:PE X (.Constant (.int i) j pos) (tD X O (eC (.int i))):=dC (fun _ _=>.int i) pe_int
theorem de_str {x:Str} {j}:PE X (.Constant (.str x) j pos) (tD X O (eC (.str x))):=dC (fun _ _=>.str x) pe_str
theorem de_gint {x:Str} {i:Int} (hm:∃ t,X.mg x=some (.int i t)) (hg:Gl X x) (hd:(x==("__debug__":Str))=false:=by decide):PE X (.Name x pos) (tD X O (eC (.int i))):=by
 obtain ⟨t,hm⟩:=hm
 exact dC (fun _ _=>.int i) (pe_glob hg hm (show RelV (.int i) _ from ⟨t,rfl⟩) hd)
theorem eVar_at {i:Nat} {en:EnvD} {d:D} (h:eV i en=some d):en[i]?=some (some d):=by
 unfold eV at h
 cases q:en[i]? with
 | none=>rw [q] at h;cases h
 | some o=>rw [q] at h;cases o with
  | none=>cases h
  | some x=>cases h;rfl
theorem de_var (i:Nat) {x:Str} (hN:X.N[i]?=some x:=by rfl) (hv:Vis X.env.scope x:=by first | exact Or.inl rfl | exact Or.inr (Or.inl rfl) | exact Or.inr (Or.inr rfl)) (hO:i∉O:=by decide) (hd:(x==("__debug__":Str))=false:=by decide) (hcd:(x==("__classdict__":Str))=false:=by decide) :
  PE X (.Name x pos) (tD X O (eV i)) :=
 PE.imp (pe_var hN hv hd hcd) fun σ H Q ⟨F0,F,en,d,r,w,k⟩=>by
  obtain ⟨v,h1,h2⟩:=r.slot i d (eVar_at w) hO
  exact ⟨v,h1,k v F H (.refl r.fh) h2⟩
theorem dr_var (i:Nat) {x:Str} (hN:X.N[i]?=some x:=by rfl) (hv:Vis X.env.scope x:=by first | exact Or.inl rfl | exact Or.inr (Or.inl rfl) | exact Or.inr (Or.inr rfl)) (hd:(x==("__debug__":Str))=false:=by decide) (hcd:(x==("__classdict__":Str))=false:=by decide) :
  PE X (.Name x pos) (tR X O (eV i)) :=
 PE.imp (pe_var hN hv hd hcd) fun σ H Q ⟨F0,F,en,d,r,w,k⟩=>by
  by_cases hO:i∈O
  ·obtain ⟨p,kk,xs,ds,h1,_,_,h4,h5,h6,h7⟩:=r.own i d (eVar_at w) hO
   exact ⟨_,h1,k _ F H (.refl r.fh) (.inr ⟨p,kk,xs,ds,rfl,h4,h5,h6,h7⟩)⟩
  ·obtain ⟨v,h1,h2⟩:=r.slot i d (eVar_at w) hO
   exact ⟨v,h1,k v F H (.refl r.fh) (.inl h2)⟩
def Op2 (X:Cx) (r:R2) (g:D->D->Option D):Prop:=∀ (F H:Hp) (x y:V) (dx dy d:D) (Q:VK),Sm F H->RdD X.K F H x dx->RdD X.K F H y dy->g dx dy=some d->(∀ v F' H',Gr F H F' H'->Rep X.K F' v d->Q v H')->r x y H Q
theorem bind2 {α β γ:Type} {a:Option α} {b:Option β} {g:α->β->Option γ} {d:γ} (h:(a.bind fun x=>b.bind fun y=>g x y)=some d):∃ x y,a=some x/\b=some y/\g x y=some d:=by
 cases a with
 | none=>cases h
 | some x=>cases b with
  | none=>cases h
  | some y=>exact ⟨x,y,rfl,rfl,h⟩
theorem bind1 {α β:Type} {a:Option α} {g:α->Option β} {d:β} (h:(a.bind fun x=>g x)=some d):∃ x,a=some x/\g x=some d:=by
 cases a with
 | none=>cases h
 | some x=>exact ⟨x,rfl,h⟩
theorem map1 {α β:Type} {a:Option α} {g:α->β} {d:β} (h:a.map g=some d):∃ x,a=some x/\g x=d:=by
 cases a with
 | none=>cases h
 | some x=>cases h;exact ⟨x,rfl,rfl⟩
theorem op2_t {r:R2} {g:D->D->Option D} {ea eb:EvE} (ho:Op2 X r g) {σ:L2.St} {H:Hp} {Q:VK} (h:tD X O (eOp g ea eb) σ H Q):tOp r (tR X O ea) (tR X O eb) σ H Q:=by
 obtain ⟨F0,F,en,d,rs,w,k⟩:=h
 obtain ⟨dx,dy,e1,e2,e3⟩:=bind2 w
 refine ⟨F0,F,en,dx,rs,e1,fun x F1 H1 g1 r1=>?_⟩
 refine ⟨F0,F1,en,dy,rs.grow g1,e2,fun y F2 H2 g2 r2=>?_⟩
 exact ho F2 H2 x y dx dy d Q g2.fh (r1.gr g2) r2 e3 fun v F' H' g3 r3=>k v F' H' ((g1.trans g2).trans g3) r3
theorem de_op {op:Operator} {r:R2} {g:D->D->Option D} {ea eb:EvE} (ho:OpR X (binaryOp op) r/\Op2 X r g) (ha:PE X a (tR X O ea)) (hb:PE X b (tR X O eb)):PE X (.BinOp a op b pos) (tD X O (eOp g ea eb)) :=
 PE.imp (pe_op ho.1 ha hb) fun σ H Q=>op2_t ho.2
theorem de_cmp {op:CmpOp} {r:R2} {g:D->D->Option D} {ea eb:EvE} (ho:OpR X (compareOp op) r/\Op2 X r g) (ha:PE X a (tR X O ea)) (hb:PE X b (tR X O eb)) (hm:behindInMarks op b=false):PE X (.Compare a [op] [b] pos) (tD X O (eOp g ea eb)) :=
 PE.imp (pe_cmpR ho.1 ha hb hm) fun σ H Q=>op2_t ho.2
theorem de_ixG {ea eb:EvE} {r:R2} (ho:IxR X r/\Op2 X r D.ix) (ha:PE X a (tR X O ea)) (hb:PE X b (tR X O eb)) (hs:PlainIx b:=by intro _ _;rfl):PE X (.Subscript a b pos) (tD X O (eOp D.ix ea eb)) :=
 PE.imp (pe_ix ho.1 ha hb hs) fun σ H Q=>op2_t ho.2
end
end Wd
namespace Wd
open PySem PySem.Spec PyProof.Rows L2
section
variable {K:Fg} {F H:Hp} {v:V}
theorem RdD.int {i:Int} (r:RdD K F H v (.int i)):v=.int i:=by
 rcases r with r | ⟨_,k,_,_,_,_,_,z,_⟩
 ·cases r;rfl
 ·cases k<;>cases z
theorem RdD.bl {b:Bool} (r:RdD K F H v (.bl b)):v=.bl b:=by
 rcases r with r | ⟨_,k,_,_,_,_,_,z,_⟩
 ·cases r;rfl
 ·cases k<;>cases z
theorem RdD.str {x:Str} (r:RdD K F H v (.str x)):v=.str x:=by
 rcases r with r | ⟨_,k,_,_,_,_,_,z,_⟩
 ·cases r;rfl
 ·cases k<;>cases z
theorem RdD.non (r:RdD K F H v .non):v=.non:=by
 rcases r with r | ⟨_,k,_,_,_,_,_,z,_⟩
 ·cases r;rfl
 ·cases k<;>cases z
theorem RdD.tup {ds:List D} (r:RdD K F H v (.tup ds)):∃ p xs,v=.ref p/\F p=some (.tup xs)/\Reps K F xs ds:=by
 rcases r with r | ⟨_,k,_,_,_,_,_,z,_⟩
 ·cases r with
  | tup h r=>exact ⟨_,_,rfl,h,r⟩
 ·cases k<;>cases z
theorem RdD.lst {ds:List D} (s:Sm F H) (r:RdD K F H v (.lst ds)):∃ p xs,v=.ref p/\H p=some (.lst xs)/\Reps K F xs ds:=by
 rcases r with r | ⟨p,k,xs,ds',h1,h2,h3,z,_⟩
 ·cases r with
  | lst h r=>exact ⟨_,_,rfl,s _ _ h,r⟩
 ·cases k with
  | none=>cases z;exact ⟨p,xs,h1,h2,h3⟩
  | some ks=>cases z
theorem RdD.dic {ks:List Kd} {ds:List D} (s:Sm F H) (r:RdD K F H v (.dic ks ds)):∃ p xs,v=.ref p/\Rd H p (.dK (ks.zip xs))/\ks.length=xs.length/\Reps K F xs ds:=by
 rcases r with r | ⟨p,k,xs,ds',h1,h2,h3,z,h4⟩
 ·cases r with
  | dic h hl r=>exact ⟨_,_,rfl,.inr ⟨_,s _ _ h⟩,hl,r⟩
 ·cases k with
  | none=>cases z
  | some ks'=>cases z;exact ⟨p,xs,h1,.inl h2,h4,h3⟩
theorem RdD.scr {ns:List Int} (r:RdD K F H v (.scr ns)):∃ p,v=.ref p/\SqL K F p (ns.map V.int):=by
 rcases r with r | ⟨_,k,_,_,_,_,_,z,_⟩
 ·cases r with
  | scr h=>exact ⟨_,rfl,h⟩
 ·cases k<;>cases z
theorem RdD.rep {d:D} (s:Sm F H) (hd:∀ ks ds,d≠.dic ks ds) (r:RdD K F H v d):Rep K H v d:=by
 rcases r with r | ⟨p,k,xs,ds',rfl,h2,h3,rfl,h4⟩
 ·exact r.mono s
 ·cases k with
  | none=>exact .lst h2 (h3.mono s)
  | some ks=>exact absurd rfl (hd ks ds')
end
section
variable {X:Cx}
theorem sizeN:sizeLine=lI:=by decide
theorem op_addD:OpR X (binaryOp .Add) (fun x y H Q=>((∃ i j,x=.int i/\y=.int j/\Q (.int (i+j)) H)\/(∃ i j,x=.str i/\y=.str j/\i.length+j.length<=sizeLine/\Q (.str (i++j)) H))\/(rCat x y H Q\/rCatT X.K x y H Q)) /\
  Op2 X (fun x y H Q=>((∃ i j,x=.int i/\y=.int j/\Q (.int (i+j)) H)\/(∃ i j,x=.str i/\y=.str j/\i.length+j.length<=sizeLine/\Q (.str (i++j)) H))\/(rCat x y H Q\/rCatT X.K x y H Q)) D.add:=by
 refine ⟨(OpR.or (OpR.or op_add op_add_str) (OpR.or op_cat op_catT)),fun F H x y dx dy d Q s rx ry e k=>?_⟩
 cases dx<;>cases dy<;>try (simp [D.add] at e;done)
 case int.int i j =>
  cases e
  exact .inl (.inl ⟨i,j,rx.int,ry.int,k _ F H (.refl s) (.int _)⟩)
 case str.str i j =>
  simp only [D.add] at e
  split at e
  ·rename_i hz
   cases e
   exact .inl (.inr ⟨i,j,rx.str,ry.str,by rw [sizeN];exact hz,k _ F H (.refl s) (.str _)⟩)
  ·cases e
 case lst.lst xs ys =>
  simp only [D.add] at e
  split at e
  ·rename_i hz
   cases e
   obtain ⟨p,us,rfl,h1,r1⟩:=rx.lst s
   obtain ⟨q,ws,rfl,h2,r2⟩:=ry.lst s
   refine .inr (.inl ⟨p,q,us,ws,rfl,rfl,h1,h2,by rw [sizeN,r1.length,r2.length];exact hz,fun l hl=>?_⟩)
   have g:=Gr.new s hl (.lst (us++ws))
   exact k _ _ _ g (.lst upd_same ((r1.append r2).mono g.ff))
  ·cases e
 case tup.tup xs ys =>
  cases xs with
  | nil=>simp [D.add] at e
  | cons z xs =>
   simp only [D.add] at e
   split at e
   ·rename_i hz
    cases e
    obtain ⟨p,us,rfl,h1,r1⟩:=rx.tup
    obtain ⟨q,ws,rfl,h2,r2⟩:=ry.tup
    have hu:us≠[]:=fun z=>by subst z;cases r1
    refine .inr (.inr ⟨p,q,us,ws,rfl,rfl,SqT.of (s _ _ h1),SqT.of (s _ _ h2),hu,?_,fun z=>?_,fun _ l hl=>?_⟩)
    ·rw [sizeN,r1.length,r2.length];exact hz
    ·subst z
     cases r2
     refine k _ F H (.refl s) ?_
     rw [List.append_nil]
     exact .tup h1 r1
    ·have g:=Gr.new s hl (.tup (us++ws))
     exact k _ _ _ g (.tup upd_same ((r1.append r2).mono g.ff))
   ·cases e
theorem ints2 {g:D->D->Option D} (h:∀ dx dy d,g dx dy=some d->∃ i j,dx=.int i/\dy=.int j) {C:Int->Int->Prop} {f:Int->Int->V} {fd:Int->Int->D} (hg:∀ i j d,g (.int i) (.int j)=some d->C i j/\d=fd i j) (hf:∀ K F i j,Rep K F (f i j) (fd i j)):Op2 X (rI C f) g:=fun F H x y dx dy d Q s rx ry e k=>by
 obtain ⟨i,j,rfl,rfl⟩:=h dx dy d e
 obtain ⟨c,rfl⟩:=hg i j d e
 exact ⟨i,j,rx.int,ry.int,c,k _ F H (.refl s) (hf _ _ i j)⟩
theorem ints20 {g:D->D->Option D} (h:∀ dx dy d,g dx dy=some d->∃ i j,dx=.int i/\dy=.int j) {f:Int->Int->V} {fd:Int->Int->D} (hg:∀ i j d,g (.int i) (.int j)=some d->d=fd i j) (hf:∀ K F i j,Rep K F (f i j) (fd i j)):Op2 X (rI0 f) g:=fun F H x y dx dy d Q s rx ry e k=>by
 obtain ⟨i,j,rfl,rfl⟩:=h dx dy d e
 cases hg i j d e
 exact ⟨i,j,rx.int,ry.int,k _ F H (.refl s) (hf _ _ i j)⟩
theorem op_subD:OpR X (binaryOp .Sub) (rI0 fun i j=>.int (i-j))/\Op2 X (rI0 fun i j=>.int (i-j)) D.sub :=
 ⟨op_sub,ints20 (fd:=fun i j=>.int (i-j)) (fun dx dy d e=>by cases dx<;>cases dy<;>simp [D.sub] at e ⊢) (fun i j d e=>by cases e;rfl) fun _ _ _ _=>.int _⟩
theorem op_mulD:OpR X (binaryOp .Mult) (rI CMul fun i j=>.int (i*j))/\Op2 X (rI CMul fun i j=>.int (i*j)) D.mul :=
 ⟨op_mul,ints2 (fd:=fun i j=>.int (i*j)) (fun dx dy d e=>by cases dx<;>cases dy<;>simp [D.mul] at e ⊢) (fun i j d e=>by
  simp only [D.mul] at e
  split at e
  ·rename_i h;cases e;exact ⟨h,rfl⟩
  ·cases e) fun _ _ _ _=>.int _⟩
theorem op_modD:OpR X (binaryOp .Mod) (rI (fun _ j=>0<j) fun i j=>.int (i%j))/\Op2 X (rI (fun _ j=>0<j) fun i j=>.int (i%j)) D.mod :=
 ⟨op_mod,ints2 (fd:=fun i j=>.int (i%j)) (fun dx dy d e=>by cases dx<;>cases dy<;>simp [D.mod] at e ⊢) (fun i j d e=>by
  simp only [D.mod] at e
  split at e
  ·rename_i h;cases e;exact ⟨h,rfl⟩
  ·cases e) fun _ _ _ _=>.int _⟩
theorem op_fdivD:OpR X (binaryOp .FloorDiv) (rI CDiv fun i j=>.int (i/j))/\Op2 X (rI CDiv fun i j=>.int (i/j)) D.fdiv :=
 ⟨op_fdiv,ints2 (fd:=fun i j=>.int (i/j)) (fun dx dy d e=>by cases dx<;>cases dy<;>simp [D.fdiv] at e ⊢) (fun i j d e=>by
  simp only [D.fdiv] at e
  split at e
  ·rename_i h;cases e;exact ⟨h,rfl⟩
  ·cases e) fun _ _ _ _=>.int _⟩
theorem op_powD:OpR X (binaryOp .Pow) (rI CPow fun i j=>.int (i^j.toNat))/\Op2 X (rI CPow fun i j=>.int (i^j.toNat)) D.pow :=
 ⟨op_pow,ints2 (fd:=fun i j=>.int (i^j.toNat)) (fun dx dy d e=>by cases dx<;>cases dy<;>simp [D.pow] at e ⊢) (fun i j d e=>by
  simp only [D.pow] at e
  split at e
  ·rename_i h;cases e;exact ⟨h,rfl⟩
  ·cases e) fun _ _ _ _=>.int _⟩
theorem op_ltD:OpR X (compareOp .Lt) (rI0 fun i j=>.bl (decide (i<j)))/\Op2 X (rI0 fun i j=>.bl (decide (i<j))) D.lt :=
 ⟨op_lt,ints20 (fd:=fun i j=>.bl (decide (i<j))) (fun dx dy d e=>by cases dx<;>cases dy<;>simp [D.lt] at e ⊢) (fun i j d e=>by cases e;rfl) fun _ _ _ _=>.bl _⟩
theorem op_gtD:OpR X (compareOp .Gt) (rI0 fun i j=>.bl (decide (j<i)))/\Op2 X (rI0 fun i j=>.bl (decide (j<i))) D.gt :=
 ⟨op_gt,ints20 (fd:=fun i j=>.bl (decide (j<i))) (fun dx dy d e=>by cases dx<;>cases dy<;>simp [D.gt] at e ⊢) (fun i j d e=>by cases e;rfl) fun _ _ _ _=>.bl _⟩
theorem atI_ix {xs:List V} {ds:List D} {F:Hp} {i:Int} {d:D} (r:Reps X.K F xs ds) (e:((ixD ds.length i).bind fun k=>ds[k]?)=some d):∃ v,atI xs i=some v/\Rep X.K F v d:=by
 obtain ⟨k,e1,e2⟩:=bind1 e
 obtain ⟨v,h1,h2⟩:=r.get e2
 refine ⟨v,?_,h2⟩
 unfold atI
 rw [r.length,show ixN ds.length i=some k from e1]
 exact h1
theorem op2_ix:Op2 X (rIx X.K) D.ix:=fun F H x y dx dy d Q s rx ry e k=>by
 cases dx<;>cases dy<;>try (simp [D.ix] at e;done)
 case str.int z i =>
  simp only [D.ix] at e
  split at e
  ·rename_i hz
   obtain ⟨j,e1,e2⟩:=bind1 e
   obtain ⟨c,e3,rfl⟩:=map1 e2
   refine .inr (.inr ⟨z,i,c,rx.str,ry.int,by rw [sizeN];exact hz,?_,k _ F H (.refl s) (.str _)⟩)
   unfold atI
   have hl:z.cps.toList.length=z.length:=by simp [Str.length]
   rw [hl,show ixN z.length i=some j from e1]
   simpa using e3
  ·cases e
 case tup.int ds i =>
  obtain ⟨p,xs,rfl,h,r⟩:=rx.tup
  obtain ⟨v,h1,h2⟩:=atI_ix r e
  exact .inr (.inl ⟨p,xs,i,v,rfl,ry.int,SqT.of (s _ _ h),h1,k _ F H (.refl s) h2⟩)
 case lst.int ds i =>
  obtain ⟨p,xs,rfl,h,r⟩:=rx.lst s
  obtain ⟨v,h1,h2⟩:=atI_ix r e
  exact .inl ⟨p,xs,i,v,rfl,ry.int,SqL.of h,h1,k _ F H (.refl s) h2⟩
 case scr.int ns i =>
  obtain ⟨p,rfl,h⟩:=rx.scr
  have r:Reps X.K F (ns.map V.int) (ns.map D.int):=Reps.ints ns
  have e':((ixD (ns.map D.int).length i).bind fun k=>(ns.map D.int)[k]?)=some d:=by
   rw [List.length_map]
   simp only [D.ix] at e
   simpa using e
  obtain ⟨v,h1,h2⟩:=atI_ix r e'
  exact .inl ⟨p,_,i,v,rfl,ry.int,s.sqL h,h1,k _ F H (.refl s) h2⟩
theorem op_ixD:IxR X (rIx X.K)/\Op2 X (rIx X.K) D.ix:=⟨ix_seq,op2_ix⟩
theorem de_ix {O:List Nat} {a b:Expr} {pos:Pos} {ea eb:EvE} (ha:PE X a (tR X O ea)) (hb:PE X b (tR X O eb)) (hs:PlainIx b:=by intro _ _;rfl):PE X (.Subscript a b pos) (tD X O (eOp D.ix ea eb)):=de_ixG op_ixD ha hb hs
end
end Wd
namespace Wd
open PySem PySem.Spec PyProof.Rows L2
def eAt (ds es:List D) (j:Nat):Bool:=match ds[j]?,es[j]? with
 | some d,some e=>(D.eq d e).getD false
 | _,_=>false
theorem eAt_succ (d e:D) (ds es:List D) (j:Nat):eAt (d::ds) (e::es) (j+1)=eAt ds es j:=by simp [eAt]
theorem eqL_spec:∀ (ds es:List D) (b:Bool),D.eqL ds es=some b ->
  (∀ (j:Nat) (d e:D),ds[j]?=some d->es[j]?=some e->∃ c,D.eq d e=some c)/\b=((List.range (min ds.length es.length)).all (eAt ds es)&&ds.length==es.length)
 | [],[],b,h=>by
  rw [D.eqL] at h;cases h
  exact ⟨fun j d e h=>by simp at h,by simp⟩
 | [],e::es,b,h=>by
  rw [D.eqL] at h
  ·cases h;exact ⟨fun j d e h=>by simp at h,by simp⟩
  all_goals simp
 | d::ds,[],b,h=>by
  rw [D.eqL] at h
  ·cases h;exact ⟨fun j d e _ h=>by simp at h,by simp⟩
  all_goals simp
 | d::ds,e::es,b,h=>by
  rw [D.eqL] at h
  cases q1:D.eq d e with
  | none=>rw [q1] at h;cases h
  | some b1 =>
   cases q2:D.eqL ds es with
   | none=>rw [q1,q2] at h;cases h
   | some b2 =>
    rw [q1,q2,andO_some] at h
    cases h
    obtain ⟨i1,i2⟩:=eqL_spec ds es b2 q2
    refine ⟨fun j d' e' h1 h2=>?_,?_⟩
    ·cases j with
     | zero=>simp at h1 h2;subst h1 h2;exact ⟨b1,q1⟩
     | succ j=>exact i1 j d' e' (by simpa using h1) (by simpa using h2)
    ·have hm:min (d::ds).length (e::es).length=min ds.length es.length+1:=by simp only [List.length_cons];omega
     rw [hm,List.range_succ_eq_map,List.all_cons,List.all_map]
     have h0:eAt (d::ds) (e::es) 0=b1:=by simp [eAt,q1]
     have hf:(eAt (d::ds) (e::es)∘Nat.succ)=eAt ds es:=funext fun j=>eAt_succ d e ds es j
     rw [h0,hf,i2]
     simp [Bool.and_assoc]
mutual
theorem eq_same {K:Fg} {H:Hp}:∀ {x:V} {d e:D} {b:Bool},Rep K H x d->Rep K H x e->D.eq d e=some b->b=true
 | _,_,_,b,.non,r,h=>by cases r;simp [D.eq] at h;exact h
 | _,_,_,b,.bl c,r,h=>by cases r;simp [D.eq] at h;exact h
 | _,_,_,b,.int c,r,h=>by cases r;simp [D.eq] at h;exact h
 | _,_,_,b,.str c,r,h=>by cases r;simp [D.eq] at h;exact h
 | _,_,_,b,.tup h1 r1,r,h=>by
  cases r with
  | tup h2 r2 =>
   rw [h1] at h2;cases h2
   rw [D.eq] at h
   exact eqs_same r1 r2 h
  | lst h2 r2=>rw [h1] at h2;cases h2
  | scr h2=>simp [D.eq] at h
  | dic h2 hl2 r2=>simp [D.eq] at h
 | _,_,_,b,.lst h1 r1,r,h=>by
  cases r with
  | lst h2 r2 =>
   rw [h1] at h2;cases h2
   rw [D.eq] at h
   exact eqs_same r1 r2 h
  | tup h2 r2=>rw [h1] at h2;cases h2
  | scr h2=>simp [D.eq] at h
  | dic h2 hl2 r2=>simp [D.eq] at h
 | _,_,_,b,.scr h1,r,h=>by
  rw [D.eq] at h
  ·cases h
  all_goals simp
 | _,_,_,b,.dic h1 _ _,r,h=>by
  cases r<;>simp [D.eq] at h
theorem eqs_same {K:Fg} {H:Hp}:∀ {xs:List V} {ds es:List D} {b:Bool},Reps K H xs ds->Reps K H xs es->D.eqL ds es=some b->b=true
 | _,_,_,b,.nil,r,h=>by cases r;rw [D.eqL] at h;cases h;rfl
 | _,_,_,b,.cons (d:=d) (ds:=ds) h1 r1,.cons (d:=e) (ds:=es) h2 r2,h=>by
  rw [D.eqL] at h
  cases q1:D.eq d e with
  | none=>rw [q1] at h;cases h
  | some b1 =>
   cases q2:D.eqL ds es with
   | none=>rw [q1,q2] at h;cases h
   | some b2 =>
    rw [q1,q2,andO_some] at h
    cases h
    rw [eq_same h1 h2 q1,eqs_same r1 r2 q2]
    rfl
end
theorem beq_dec (i j:Int):(i==j)=decide (i=j):=by by_cases h:i=j<;>simp [h]
theorem depL_get:∀ {ds:List D} {j:Nat} {d:D},ds[j]?=some d->d.dep<=D.depL ds
 | [],_,_,h=>by simp at h
 | d::ds,0,_,h=>by simp at h;subst h;rw [depL_cons];exact Nat.le_max_left _ _
 | d::ds,j+1,x,h=>by
  rw [depL_cons]
  exact Nat.le_trans (depL_get (ds:=ds) (j:=j) (by simpa using h)) (Nat.le_max_right _ _)
section
variable {X:Cx} {pins:List (Addr×Obj)} {σ:L2.St} {H:Hp} {s:Shared}
def Both (A:Around) (s:Shared) (v u:Value) (b:Bool):Prop:=SeqAt.RcAt A s v u b/\SeqAt.EqAt A s v u b/\SeqAt.RcNeAt A s v u (!b)
theorem items_eq (I:Inv X pins σ H s) {n:Nat} {ds es:List D} {xs ys:List V} {us ws:List Value} {A:Around} {b:Bool} (hn:D.depL ds<=n) (hA:A.units+n<cLine)
  (ih:∀ (d e:D) (x y:V) (v u:Value) (b:Bool),d.dep<=n->Rep X.K H x d->Rep X.K H y e->RelV x v->RelV y u->D.eq d e=some b->Both A s v u b)
  (r1:Reps X.K H xs ds) (r2:Reps X.K H ys es) (v1:Vals xs us) (v2:Vals ys ws) (h:D.eqL ds es=some b) :
  ∀ j (h1:j<us.toArray.size) (h2:j<ws.toArray.size),SeqAt.EqAt A s us.toArray[j] ws.toArray[j] (eAt ds es j):=fun j h1 h2=>by
 obtain ⟨q1,q2⟩:=eqL_spec ds es b h
 have l1:=r1.length
 have l2:=r2.length
 have l3:=v1.length
 have l4:=v2.length
 simp only [List.size_toArray] at h1 h2
 have hd:j<ds.length:=by omega
 have he:j<es.length:=by omega
 obtain ⟨x,hx,rx⟩:=r1.get (List.getElem?_eq_getElem hd)
 obtain ⟨y,hy,ry⟩:=r2.get (List.getElem?_eq_getElem he)
 obtain ⟨u,hu,ru⟩:=v1.get hx
 obtain ⟨w,hw,rw'⟩:=v2.get hy
 obtain ⟨c,hc⟩:=q1 j _ _ (List.getElem?_eq_getElem hd) (List.getElem?_eq_getElem he)
 have e1:us.toArray[j]=u:=by
  rw [List.getElem?_eq_getElem h1] at hu
  simpa using Option.some.inj hu
 have e2:ws.toArray[j]=w:=by
  rw [List.getElem?_eq_getElem h2] at hw
  simpa using Option.some.inj hw
 have e3:eAt ds es j=c:=by simp [eAt,List.getElem?_eq_getElem hd,List.getElem?_eq_getElem he,hc]
 rw [e1,e2,e3]
 exact (ih _ _ x y u w c (Nat.le_trans (depL_get (List.getElem?_eq_getElem hd)) hn) rx ry ru rw' hc).2.1
theorem ref_both {A:Around} {p q:Addr} {b:Bool} (h:SeqAt.RcAt A s (.ref p) (.ref q) b) (hn:SeqAt.RcNeAt A s (.ref p) (.ref q) (!b)) (hs:p=q->b=true):Both A s (.ref p) (.ref q) b:=by
 refine ⟨h,?_,hn⟩
 by_cases e:p=q
 ·rw [hs e,e];exact SeqAt.EqAt.same _
 ·exact SeqAt.EqAt.of_refs e h
theorem eq_scal (I:Inv X pins σ H s) {d e:D} {x y:V} {v u:Value} {A:Around} {b:Bool} (hd:d.dep=0) (hu:A.units<cLine) (rx:Rep X.K H x d) (ry:Rep X.K H y e) (rv:RelV x v) (ru:RelV y u) (h:D.eq d e=some b):Both A s v u b:=by
 have L:∀ {a:Addr} {xs:List V},H a=some (.lst xs)->∃ its,s.heap.IsList a its:=fun h=>let ⟨its,_,pl,_⟩:=I.list (SqL.of h);⟨_,pl.isList⟩
 have T:∀ {a:Addr} {xs:List V},H a=some (.tup xs)->∃ its,s.heap.IsTuple a its:=fun h=>let ⟨its,_,pl,_⟩:=I.tuple (SqT.of h);⟨_,pl⟩
 cases rx with
 | tup h1 r1=>rw [dep_tup] at hd;omega
 | lst h1 r1=>rw [dep_lst] at hd;omega
 | scr h1 =>
  rw [D.eq] at h
  ·cases h
  all_goals simp
 | dic h1 hl1 r1=>cases ry<;>simp [D.eq] at h
 | non =>
  cases (show v=Value.none from rv)
  cases ry with
  | non =>
   cases (show u=Value.none from ru)
   simp [D.eq] at h;subst h
   exact ⟨SeqAt.RcAt.none_none,SeqAt.EqAt.same _,SeqAt.RcNeAt.none_none⟩
  | bl c2 =>
   cases (show u=Value.bool c2 from ru)
   simp [D.eq] at h;subst h
   exact ⟨SeqAt.RcAt.none_bool _,SeqAt.EqAt.none_bool _,SeqAt.RcNeAt.none_bool _⟩
  | int i2 =>
   obtain ⟨tu,qu⟩:=(show ∃ t,u=Value.int i2 t from ru);cases qu
   simp [D.eq] at h;subst h
   exact ⟨SeqAt.RcAt.none_int _ _,SeqAt.EqAt.none_int _ _,SeqAt.RcNeAt.none_int _ _⟩
  | str z2 =>
   obtain ⟨tu,qu⟩:=(show ∃ t,u=Value.str z2 t from ru);cases qu
   simp [D.eq] at h;subst h
   exact ⟨SeqAt.RcAt.none_str _ _,SeqAt.EqAt.none_str _ _,SeqAt.RcNeAt.none_str _ _⟩
  | tup h2 r2 =>
   cases (show u=Value.ref _ from ru)
   simp [D.eq] at h;subst h
   obtain ⟨its,hi⟩:=T h2
   exact ⟨SeqAt.RcAt.none_tuple hi hu,SeqAt.EqAt.none_tuple hi hu,SeqAt.RcNeAt.none_tuple hi hu⟩
  | lst h2 r2 =>
   cases (show u=Value.ref _ from ru)
   simp [D.eq] at h;subst h
   obtain ⟨its,hi⟩:=L h2
   exact ⟨SeqAt.RcAt.none_list hi hu,SeqAt.EqAt.none_list hi hu,SeqAt.RcNeAt.none_list hi hu⟩
  | scr h2=>simp [D.eq] at h
  | dic h2 hl2 r2=>simp [D.eq] at h
 | bl c =>
  cases (show v=Value.bool c from rv)
  cases ry with
  | non =>
   cases (show u=Value.none from ru)
   simp [D.eq] at h;subst h
   exact ⟨SeqAt.RcAt.bool_none _,SeqAt.EqAt.bool_none _,SeqAt.RcNeAt.bool_none _⟩
  | bl c2 =>
   cases (show u=Value.bool c2 from ru)
   simp only [D.eq] at h
   have hb:b=(c==c2):=(Option.some.inj h).symm
   subst hb
   exact ⟨SeqAt.RcAt.bool_bool _ _,SeqAt.EqAt.bool_bool _ _,SeqAt.RcNeAt.bool_bool _ _⟩
  | int i2 =>
   obtain ⟨tu,qu⟩:=(show ∃ t,u=Value.int i2 t from ru);cases qu
   simp only [D.eq] at h
   have hb:b=((if c then 1 else 0)==i2):=by rw [<- Option.some.inj h,beq_dec];rfl
   subst hb
   exact ⟨SeqAt.RcAt.bool_int _ _ _,SeqAt.EqAt.bool_int _ _ _,SeqAt.RcNeAt.bool_int _ _ _⟩
  | str z2 =>
   obtain ⟨tu,qu⟩:=(show ∃ t,u=Value.str z2 t from ru);cases qu
   simp [D.eq] at h;subst h
   exact ⟨SeqAt.RcAt.bool_str _ _ _,SeqAt.EqAt.bool_str _ _ _,SeqAt.RcNeAt.bool_str _ _ _⟩
  | tup h2 r2 =>
   cases (show u=Value.ref _ from ru)
   simp [D.eq] at h;subst h
   obtain ⟨its,hi⟩:=T h2
   exact ⟨SeqAt.RcAt.bool_tuple _ hi hu,SeqAt.EqAt.bool_tuple _ hi hu,SeqAt.RcNeAt.bool_tuple _ hi hu⟩
  | lst h2 r2 =>
   cases (show u=Value.ref _ from ru)
   simp [D.eq] at h;subst h
   obtain ⟨its,hi⟩:=L h2
   exact ⟨SeqAt.RcAt.bool_list _ hi hu,SeqAt.EqAt.bool_list _ hi hu,SeqAt.RcNeAt.bool_list _ hi hu⟩
  | scr h2=>simp [D.eq] at h
  | dic h2 hl2 r2=>simp [D.eq] at h
 | int i =>
  obtain ⟨tv,qv⟩:=(show ∃ t,v=Value.int i t from rv);cases qv
  cases ry with
  | non =>
   cases (show u=Value.none from ru)
   simp [D.eq] at h;subst h
   exact ⟨SeqAt.RcAt.int_none _ _,SeqAt.EqAt.int_none _ _,SeqAt.RcNeAt.int_none _ _⟩
  | bl c2 =>
   cases (show u=Value.bool c2 from ru)
   simp only [D.eq] at h
   have hb:b=(i==(if c2 then 1 else 0)):=by rw [<- Option.some.inj h,beq_dec];rfl
   subst hb
   exact ⟨SeqAt.RcAt.int_bool _ _ _,SeqAt.EqAt.int_bool _ _ _,SeqAt.RcNeAt.int_bool _ _ _⟩
  | int i2 =>
   obtain ⟨tu,qu⟩:=(show ∃ t,u=Value.int i2 t from ru);cases qu
   simp only [D.eq] at h
   have hb:b=(i==i2):=by rw [<- Option.some.inj h,beq_dec]
   subst hb
   exact ⟨SeqAt.RcAt.int_int _ _ _ _,SeqAt.EqAt.int_int _ _ _ _,SeqAt.RcNeAt.int_int _ _ _ _⟩
  | str z2 =>
   obtain ⟨tu,qu⟩:=(show ∃ t,u=Value.str z2 t from ru);cases qu
   simp [D.eq] at h;subst h
   exact ⟨SeqAt.RcAt.int_str _ _ _ _,SeqAt.EqAt.int_str _ _ _ _,SeqAt.RcNeAt.int_str _ _ _ _⟩
  | tup h2 r2 =>
   cases (show u=Value.ref _ from ru)
   simp [D.eq] at h;subst h
   obtain ⟨its,hi⟩:=T h2
   exact ⟨SeqAt.RcAt.int_tuple _ _ hi hu,SeqAt.EqAt.int_tuple _ _ hi hu,SeqAt.RcNeAt.int_tuple _ _ hi hu⟩
  | lst h2 r2 =>
   cases (show u=Value.ref _ from ru)
   simp [D.eq] at h;subst h
   obtain ⟨its,hi⟩:=L h2
   exact ⟨SeqAt.RcAt.int_list _ _ hi hu,SeqAt.EqAt.int_list _ _ hi hu,SeqAt.RcNeAt.int_list _ _ hi hu⟩
  | scr h2=>simp [D.eq] at h
  | dic h2 hl2 r2=>simp [D.eq] at h
 | str z =>
  obtain ⟨tv,qv⟩:=(show ∃ t,v=Value.str z t from rv);cases qv
  cases ry with
  | non =>
   cases (show u=Value.none from ru)
   simp [D.eq] at h;subst h
   exact ⟨SeqAt.RcAt.str_none _ _,SeqAt.EqAt.str_none _ _,SeqAt.RcNeAt.str_none _ _⟩
  | bl c2 =>
   cases (show u=Value.bool c2 from ru)
   simp [D.eq] at h;subst h
   exact ⟨SeqAt.RcAt.str_bool _ _ _,SeqAt.EqAt.str_bool _ _ _,SeqAt.RcNeAt.str_bool _ _ _⟩
  | int i2 =>
   obtain ⟨tu,qu⟩:=(show ∃ t,u=Value.int i2 t from ru);cases qu
   simp [D.eq] at h;subst h
   exact ⟨SeqAt.RcAt.str_int _ _ _ _,SeqAt.EqAt.str_int _ _ _ _,SeqAt.RcNeAt.str_int _ _ _ _⟩
  | str z2 =>
   obtain ⟨tu,qu⟩:=(show ∃ t,u=Value.str z2 t from ru);cases qu
   simp only [D.eq] at h
   have hb:b=(z==z2):=by
    rw [<- Option.some.inj h]
    by_cases q:z=z2<;>simp [q]
   subst hb
   exact ⟨SeqAt.RcAt.str_str _ _ _ _,SeqAt.EqAt.str_str _ _ _ _,SeqAt.RcNeAt.str_str _ _ _ _⟩
  | tup h2 r2 =>
   cases (show u=Value.ref _ from ru)
   simp [D.eq] at h;subst h
   obtain ⟨its,hi⟩:=T h2
   exact ⟨SeqAt.RcAt.str_tuple _ _ hi hu,SeqAt.EqAt.str_tuple _ _ hi hu,SeqAt.RcNeAt.str_tuple _ _ hi hu⟩
  | lst h2 r2 =>
   cases (show u=Value.ref _ from ru)
   simp [D.eq] at h;subst h
   obtain ⟨its,hi⟩:=L h2
   exact ⟨SeqAt.RcAt.str_list _ _ hi hu,SeqAt.EqAt.str_list _ _ hi hu,SeqAt.RcNeAt.str_list _ _ hi hu⟩
  | scr h2=>simp [D.eq] at h
  | dic h2 hl2 r2=>simp [D.eq] at h
theorem eq_main (I:Inv X pins σ H s):∀ (n:Nat) (d e:D) (x y:V) (v u:Value) (A:Around) (b:Bool),d.dep<=n->A.units+n<cLine->Rep X.K H x d->Rep X.K H y e->RelV x v->RelV y u->D.eq d e=some b->Both A s v u b:=by
 have L:∀ {a:Addr} {xs:List V},H a=some (.lst xs)->∃ its:List Value,Vals xs its/\s.heap.IsList a its.toArray:=fun h=>let ⟨its,r,pl,_⟩:=I.list (SqL.of h);⟨its,r,pl.isList⟩
 have T:∀ {a:Addr} {xs:List V},H a=some (.tup xs)->∃ its:List Value,Vals xs its/\s.heap.IsTuple a its.toArray:=fun h=>let ⟨its,r,pl,_⟩:=I.tuple (SqT.of h);⟨its,r,pl⟩
 intro n
 induction n with
 | zero =>
  intro d e x y v u A b hd hA rx ry rv ru h
  exact eq_scal I (by omega) (by omega) rx ry rv ru h
 | succ n ih =>
  intro d e x y v u A b hd hA rx ry rv ru h
  have hu:A.units<cLine:=by omega
  have hA1:A.in1.units+n<cLine:=by show A.units+1+n<cLine;omega
  by_cases h0:d.dep=0
  ·exact eq_scal I h0 hu rx ry rv ru h
  cases rx with
  | non=>exact absurd dep_non h0
  | bl c=>exact absurd (dep_bl c) h0
  | int c=>exact absurd (dep_int c) h0
  | str c=>exact absurd (dep_str c) h0
  | scr h1 =>
   rw [D.eq] at h
   ·cases h
   all_goals simp
  | dic h1 hl1 r1=>cases ry<;>simp [D.eq] at h
  | @tup p xs ds h1 r1 =>
   cases (show v=Value.ref p from rv)
   rw [dep_tup] at hd
   obtain ⟨us,v1,t1⟩:=T h1
   cases ry with
   | scr h2=>simp [D.eq] at h
   | dic h2 hl2 r2=>simp [D.eq] at h
   | non =>
    cases (show u=Value.none from ru)
    simp [D.eq] at h;subst h
    exact ⟨SeqAt.RcAt.tuple_none t1 hu,SeqAt.EqAt.tuple_none t1 hu,SeqAt.RcNeAt.tuple_none t1 hu⟩
   | bl c2 =>
    cases (show u=Value.bool c2 from ru)
    simp [D.eq] at h;subst h
    exact ⟨SeqAt.RcAt.tuple_bool _ t1 hu,SeqAt.EqAt.tuple_bool _ t1 hu,SeqAt.RcNeAt.tuple_bool _ t1 hu⟩
   | int i2 =>
    obtain ⟨tu,qu⟩:=(show ∃ t,u=Value.int i2 t from ru);cases qu
    simp [D.eq] at h;subst h
    exact ⟨SeqAt.RcAt.tuple_int _ _ t1 hu,SeqAt.EqAt.tuple_int _ _ t1 hu,SeqAt.RcNeAt.tuple_int _ _ t1 hu⟩
   | str z2 =>
    obtain ⟨tu,qu⟩:=(show ∃ t,u=Value.str z2 t from ru);cases qu
    simp [D.eq] at h;subst h
    exact ⟨SeqAt.RcAt.tuple_str _ _ t1 hu,SeqAt.EqAt.tuple_str _ _ t1 hu,SeqAt.RcNeAt.tuple_str _ _ t1 hu⟩
   | @lst q ys es h2 r2 =>
    cases (show u=Value.ref q from ru)
    obtain ⟨ws,v2,t2⟩:=L h2
    simp [D.eq] at h;subst h
    exact ⟨SeqAt.RcAt.tuple_list t1 t2 hu,SeqAt.EqAt.tuple_list t1 t2 hu,SeqAt.RcNeAt.tuple_list t1 t2 hu⟩
   | @tup q ys es h2 r2 =>
    cases (show u=Value.ref q from ru)
    obtain ⟨ws,v2,t2⟩:=T h2
    rw [D.eq] at h
    have hi:=items_eq (A:=A.in1) I (by omega) hA1 (fun d e x y v u b hd rx ry rv ru h=>ih d e x y v u A.in1 b hd hA1 rx ry rv ru h) r1 r2 v1 v2 h
    have hr:=SeqAt.RcAt.tuples t1 t2 hu hi
    have hn:=SeqAt.RcNeAt.tuples t1 t2 hu hi
    have hb:b=((List.range (min us.toArray.size ws.toArray.size)).all (eAt ds es)&&us.toArray.size==ws.toArray.size):=by
     rw [(eqL_spec ds es b h).2]
     simp only [List.size_toArray]
     rw [<- v1.length,<- v2.length,r1.length,r2.length]
    rw [<- hb] at hr hn
    refine ref_both hr hn fun z=>?_
    subst z
    rw [h1] at h2;cases h2
    exact eqs_same r1 r2 h
  | @lst p xs ds h1 r1 =>
   cases (show v=Value.ref p from rv)
   rw [dep_lst] at hd
   obtain ⟨us,v1,t1⟩:=L h1
   cases ry with
   | scr h2=>simp [D.eq] at h
   | dic h2 hl2 r2=>simp [D.eq] at h
   | non =>
    cases (show u=Value.none from ru)
    simp [D.eq] at h;subst h
    exact ⟨SeqAt.RcAt.list_none t1 hu,SeqAt.EqAt.list_none t1 hu,SeqAt.RcNeAt.list_none t1 hu⟩
   | bl c2 =>
    cases (show u=Value.bool c2 from ru)
    simp [D.eq] at h;subst h
    exact ⟨SeqAt.RcAt.list_bool _ t1 hu,SeqAt.EqAt.list_bool _ t1 hu,SeqAt.RcNeAt.list_bool _ t1 hu⟩
   | int i2 =>
    obtain ⟨tu,qu⟩:=(show ∃ t,u=Value.int i2 t from ru);cases qu
    simp [D.eq] at h;subst h
    exact ⟨SeqAt.RcAt.list_int _ _ t1 hu,SeqAt.EqAt.list_int _ _ t1 hu,SeqAt.RcNeAt.list_int _ _ t1 hu⟩
   | str z2 =>
    obtain ⟨tu,qu⟩:=(show ∃ t,u=Value.str z2 t from ru);cases qu
    simp [D.eq] at h;subst h
    exact ⟨SeqAt.RcAt.list_str _ _ t1 hu,SeqAt.EqAt.list_str _ _ t1 hu,SeqAt.RcNeAt.list_str _ _ t1 hu⟩
   | @tup q ys es h2 r2 =>
    cases (show u=Value.ref q from ru)
    obtain ⟨ws,v2,t2⟩:=T h2
    simp [D.eq] at h;subst h
    exact ⟨SeqAt.RcAt.list_tuple t1 t2 hu,SeqAt.EqAt.list_tuple t1 t2 hu,SeqAt.RcNeAt.list_tuple t1 t2 hu⟩
   | @lst q ys es h2 r2 =>
    cases (show u=Value.ref q from ru)
    obtain ⟨ws,v2,t2⟩:=L h2
    rw [D.eq] at h
    have hb:=(eqL_spec ds es b h).2
    have l1:=r1.length
    have l2:=r2.length
    have l3:=v1.length
    have l4:=v2.length
    by_cases hz:ds.length=es.length
    ·have hi:=items_eq (A:=A.in1) I (by omega) hA1 (fun d e x y v u b hd rx ry rv ru h=>ih d e x y v u A.in1 b hd hA1 rx ry rv ru h) r1 r2 v1 v2 h
     have hr:=SeqAt.RcAt.lists t1 t2 (by simp only [List.size_toArray];omega) hu hi
     have hn:=SeqAt.RcNeAt.lists t1 t2 (by simp only [List.size_toArray];omega) hu hi
     have hb':b=((List.range us.toArray.size).all (eAt ds es)):=by
      rw [hb]
      simp only [List.size_toArray]
      rw [<- l3,l1,hz,Nat.min_self]
      simp
     rw [<- hb'] at hr hn
     refine ref_both hr hn fun z=>?_
     subst z
     rw [h1] at h2;cases h2
     exact eqs_same r1 r2 h
    ·have hr:=SeqAt.RcAt.lists_lengths (A:=A) t1 t2 (by simp only [List.size_toArray,bne_iff_ne];omega) hu
     have hn:=SeqAt.RcNeAt.lists_lengths (A:=A) t1 t2 (by simp only [List.size_toArray,bne_iff_ne];omega) hu
     have hb':b=false:=by rw [hb];simp [hz]
     rw [hb']
     refine ref_both hr hn fun z=>?_
     subst z
     rw [h1] at h2;cases h2
     omega
theorem eq_ndicL {dx dy:D} {b:Bool} (h:D.eq dx dy=some b) (ks:List Kd) (ds:List D):dx≠.dic ks ds:=by
 rintro rfl
 cases dy<;>simp [D.eq] at h
theorem eq_ndicR {dx dy:D} {b:Bool} (h:D.eq dx dy=some b) (ks:List Kd) (ds:List D):dy≠.dic ks ds:=by
 rintro rfl
 cases dx<;>simp [D.eq] at h
def rEqD (X:Cx) (g:Bool->Bool):R2:=fun x y H Q=>∃ F dx dy b,Sm F H/\RdD X.K F H x dx/\RdD X.K F H y dy/\dx.dep<=40/\D.eq dx dy=some b/\Q (.bl (g b)) H
theorem op_eqD (hu:X.A.units+64<cLine):OpR X (compareOp .Eq) (rEqD X id)/\Op2 X (rEqD X id) D.eqO:=by
 refine ⟨fun pins s σ H x y v u Q I rx ry ⟨F,dx,dy,b,sm,r1,r2,hd,h,q⟩=>?_,fun F H x y dx dy d Q sm rx ry e k=>?_⟩
 ·have:=(eq_main I 40 dx dy x y v u X.A b hd (by omega) (r1.rep sm (eq_ndicL h)) (r2.rep sm (eq_ndicR h)) rx ry h).1
  exact this X.prog X.w X.xe _ ⟨.bl b,H,I,rfl,q⟩
 ·simp only [D.eqO] at e
  split at e
  ·rename_i hd
   obtain ⟨b,e1,rfl⟩:=map1 e
   exact ⟨F,dx,dy,b,sm,rx,ry,hd,e1,k _ F H (.refl sm) (.bl b)⟩
  ·cases e
theorem op_neD (hu:X.A.units+64<cLine):OpR X (compareOp .NotEq) (rEqD X (!·))/\Op2 X (rEqD X (!·)) D.neO:=by
 refine ⟨fun pins s σ H x y v u Q I rx ry ⟨F,dx,dy,b,sm,r1,r2,hd,h,q⟩=>?_,fun F H x y dx dy d Q sm rx ry e k=>?_⟩
 ·have:=(eq_main I 40 dx dy x y v u X.A b hd (by omega) (r1.rep sm (eq_ndicL h)) (r2.rep sm (eq_ndicR h)) rx ry h).2.2
  exact this X.prog X.w X.xe _ ⟨.bl (!b),H,I,rfl,q⟩
 ·simp only [D.neO] at e
  split at e
  ·rename_i hd
   obtain ⟨b,e1,rfl⟩:=map1 e
   exact ⟨F,dx,dy,b,sm,rx,ry,hd,e1,k _ F H (.refl sm) (.bl (!b))⟩
  ·cases e
end
end Wd
namespace Wd
open PySem PySem.Spec PyProof.Rows L2
theorem rcLe_int (A:Around) (s:Shared) (a:Int) (t:Tok) (c:Int) (u:Tok) (prog:Program) (w:World) (E:Value->Shared->Prop) (Q:Value->Shared->Prop) (h:Q (.bool (decide (a<=c))) s) :
  wpAny (model prog w) A (richCompare .LtE (.int a t) (.int c u)) Q E s :=
 (PyProof.Rows.le_int h:wpAny (model prog w) A (compareOp .LtE (.int a t) (.int c u)) Q E s)
section
open PySem.SeqAt
open PySem.AutoSeq1 (wpAny_loadPart')
open PySem.MeetsSeq PySem.MeetsSeq2 PySem.MeetsSeq3
theorem lexLe_cons (x y:Int) (xs ys:List Int):lexLe (x::xs) (y::ys)=if x=y then lexLe xs ys else decide (x<y):=rfl
theorem tuple_le_ints (l b:Addr) (items items2:Array Value) (n n2:Nat) (dd dd2:Option Addr) (sl sl2:Array (Option Value)) (ns ms:List Int) (hi:IntsAre items.toList ns) (hj:IntsAre items2.toList ms) :
  Meets (Builtin.«tuple.__le__» ⟨[.ref l,.ref b],[]⟩)
   (fun _ R s=>s.heap.get? l=some { cls:=.type "tuple",dict:=dd,data:=.seq items n,slots:=sl }/\s.heap.get? b=some { cls:=.type "tuple",dict:=dd2,data:=.seq items2 n2,slots:=sl2 } /\
    R (.ok (.ret (.bool (lexLe ns ms)))) s) :=
 .of_wp fun prog w A R s h=>by
  obtain ⟨hp,g,d,tk,os⟩:=s;obtain ⟨hl,hb,h⟩:=h
  have f2:=AutoSeq1.sub_tuple_tuple
  have z1:items.size=ns.length:=by rw [<- hi.length];simp
  have z2:items2.size=ms.length:=by rw [<- hj.length];simp
  wp_walk using wpAny_loadPart' hl,wpAny_loadPart' hb,wpAny_forIn_list _ (fun rest b s'=>b.1=none/\s'=⟨hp,g,d,tk,os⟩/\∃ (vs ws:List Value) (ns' ms':List Int),rest=vs.zip ws /\
   IntsAre vs ns'/\IntsAre ws ms'/\ns'.length+items2.size=ms'.length+items.size/\R (.ok (.ret (.bool (lexLe ns' ms')))) ⟨hp,g,d,tk,os⟩) _
  case turn =>
   rintro ⟨y,x⟩ rest b s' ⟨hb',rfl,vs,ws,ns',ms',hz,hvi,hwi,hlen,hR⟩
   cases hvi with
   | nil=>rw [List.zip_nil_left] at hz;cases hz
   | cons a t hvi' =>
    cases hwi with
    | nil=>rw [List.zip_nil_right] at hz;cases hz
    | cons c u hwi' =>
     rw [List.zip_cons_cons] at hz
     injection hz with hyx hrest
     injection hyx with hy hx
     subst hy hx
     rw [lexLe_cons] at hR
     simp only [List.length_cons] at hlen
     obtain ⟨e,he,hiff⟩:=HT.eqAt_int A.in1 ⟨hp,g,d,tk,os⟩ a t c u
     refine wpAny_bind (he prog w _ _ ?_)
     cases e with
     | true =>
      rw [if_pos (hiff.mp rfl)] at hR
      wp_walk
      exact ⟨rfl,rfl,_,_,_,_,hrest,hvi',hwi',by omega,hR⟩
     | false =>
      have hac:a≠c:=fun q=>absurd (hiff.mpr q) Bool.false_ne_true
      rw [if_neg hac] at hR
      have hd:decide (a<c)=decide (a<=c):=by
       by_cases z:a<c
       ·rw [decide_eq_true z,decide_eq_true (by omega)]
       ·rw [decide_eq_false z,decide_eq_false (by omega)]
      rw [hd] at hR
      have hri:=rcLe_int A.in1 ⟨hp,g,d,tk,os⟩ a t c u prog w
      wp_walk using hri
      exact ⟨_,rfl,by simpa using hR⟩
  case fin =>
   rintro ⟨b1,b2⟩ s' ⟨hb',rfl,vs,ws,ns',ms',hz,hvi,hwi,hlen,hR⟩
   simp only at hb'
   subst hb'
   have hv:lexLe ns' ms'=decide (items.size<=items2.size):=by
    cases hvi with
    | nil =>
     simp only [List.length_nil] at hlen
     show true=_
     exact (decide_eq_true (by omega)).symm
    | cons a t hv =>
     cases hwi with
     | nil =>
      simp only [List.length_nil,List.length_cons] at hlen
      show false=_
      exact (decide_eq_false (by omega)).symm
     | cons c u hw =>
      rw [List.zip_cons_cons] at hz
      cases hz
   rw [hv] at hR
   wp_walk
   exact ⟨_,rfl,by simpa [Builtin.Tuple.tupleCompareSizes] using hR⟩
  case h =>
   exact ⟨rfl,rfl,items.toList,items2.toList,ns,ms,rfl,hi,hj,by omega,h⟩
end
theorem le_tupInts {prog:Program} {w:World} {A:Around} {E:Value->Shared->Prop} {s:Shared} {l b:Addr} {items items2:Array Value} {ns ms:List Int} {Q:Value->Shared->Prop} (hl:IsTup s.heap l items) (hb:IsTup s.heap b items2) (hi:IntsAre items.toList ns) (hj:IntsAre items2.toList ms)
  (hu:A.units<cLine) (h:Q (.bool (lexLe ns ms)) s):wpAny (model prog w) A (compareOp .LtE (.ref l) (.ref b)) Q E s:=by
 obtain ⟨⟨cls,dd,data,sl⟩,ho,hc,n,hd⟩:=id hl
 obtain ⟨⟨cls2,dd2,data2,sl2⟩,ho2,hc2,n2,hd2⟩:=id hb
 simp only at hc hd hc2 hd2
 subst hc hd hc2 hd2
 exact richCompare_meets_room (op:=.LtE) ⟨_,ho,rfl⟩ ⟨_,ho2,rfl⟩ PySem.F.slot_tuple_le PySem.F.entry_tuple_le (PySem.F.args_tuple_le_2 _ _) (tuple_le_ints l b items items2 n n2 dd dd2 sl sl2 ns ms hi hj)
  ⟨ho,ho2,show Value.bool (lexLe ns ms)≠Value.notImplemented/\Q (.bool (lexLe ns ms)) s from ⟨(fun x=>nomatch x),h⟩⟩ hu
section
variable {X:Cx} {O:List Nat} {e a b c:Expr} {pos:Pos}
def rLeT (K:Fg):R2:=fun x y H Q=>∃ a b ns ms,x=.ref a/\y=.ref b/\SqT K H a (ns.map V.int)/\SqT K H b (ms.map V.int)/\Q (.bl (lexLe ns ms)) H
theorem op_leT (hu:X.A.units<cLine):OpR X (compareOp .LtE) (rLeT X.K):=by
 intro pins s σ H x y v u Q I rx ry h
 obtain ⟨a,b,ns,ms,rfl,rfl,ha,hb,q⟩:=h
 cases rx
 cases ry
 obtain ⟨its,r1,p1,_⟩:=I.tuple ha
 obtain ⟨its2,r2,p2,_⟩:=I.tuple hb
 have i1:IntsAre its.toArray.toList ns:=intsAre_of r1
 have i2:IntsAre its2.toArray.toList ms:=intsAre_of r2
 exact le_tupInts p1 p2 i1 i2 hu ⟨.bl (lexLe ns ms),H,I,rfl,q⟩
theorem op_leD (hu:X.A.units<cLine):OpR X (compareOp .LtE) (fun x y H Q=>(rI0 fun i j=>.bl (decide (i<=j))) x y H Q\/rLeT X.K x y H Q)/\Op2 X (fun x y H Q=>(rI0 fun i j=>.bl (decide (i<=j))) x y H Q\/rLeT X.K x y H Q) D.le:=by
 refine ⟨OpR.or op_le (op_leT hu),fun F H x y dx dy d Q s rx ry e k=>?_⟩
 cases dx<;>cases dy<;>try (simp [D.le] at e;done)
 case int.int i j =>
  cases e
  exact .inl ⟨i,j,rx.int,ry.int,k _ F H (.refl s) (.bl _)⟩
 case tup.tup xs ys =>
  simp only [D.le] at e
  split at e
  ·rename_i na nb e1 e2
   cases e
   obtain ⟨p,us,rfl,h1,r1⟩:=rx.tup
   obtain ⟨q,ws,rfl,h2,r2⟩:=ry.tup
   have z1:=r1.intsOf e1
   have z2:=r2.intsOf e2
   subst z1 z2
   exact .inr ⟨p,q,na,nb,rfl,rfl,SqT.of (s _ _ h1),SqT.of (s _ _ h2),k _ F H (.refl s) (.bl _)⟩
  ·cases e
theorem tD_B {ev:EvE} {σ:L2.St} {H:Hp} {Q:Bool->Hp->Prop} (h:tDT X O ev σ H Q):tD X O ev σ H fun x H'=>∃ k,x=.bl k/\Q k H':=by
 obtain ⟨F0,F,en,b,rs,w,k⟩:=h
 refine ⟨F0,F,en,.bl b,rs,w,fun v F' H' g r=>?_⟩
 cases r
 exact ⟨b,rfl,k F' H' g⟩
theorem tR_B {ev:EvE} {σ:L2.St} {H:Hp} {Q:Bool->Hp->Prop} (h:tDT X O ev σ H Q):tR X O ev σ H fun x H'=>∃ k,x=.bl k/\Q k H':=by
 obtain ⟨F0,F,en,b,rs,w,k⟩:=h
 refine ⟨F0,F,en,.bl b,rs,w,fun v F' H' g r=>?_⟩
 exact ⟨b,r.bl,k F' H' g⟩
theorem dt_cmp {op:CmpOp} {r:R2} {g:D->D->Option D} {ea eb:EvE} (ho:OpR X (compareOp op) r/\Op2 X r g) (ha:PE X a (tR X O ea)) (hb:PE X b (tR X O eb)) (hm:behindInMarks op b=false):PT X (.Compare a [op] [b] pos) (tDT X O (eOp g ea eb)) :=
 PT.imp (pt_cmpR ho.1 ha hb hm) fun σ H Q h=>op2_t ho.2 (tD_B h)
theorem dt_val {ev:EvE} (h:PE X e (tR X O ev)) (he:∀ whole,isTrue e X.env whole=(do let v <- whole;standAt e.pos;holding [v] (truthy v)):=by intro _;rfl):PT X e (tDT X O ev) :=
 PT.imp (pt_val h he) fun σ H Q h=>tR_B h
theorem ifO_some {α:Type} {o:Option D} {x y:Option α} {r:α} (h:ifO o x y=some r):∃ c,o=some (.bl c)/\(if c=true then x else y)=some r:=by
 cases o with
 | none=>cases h
 | some d=>cases d with
  | bl c=>exact ⟨c,rfl,h⟩
  | _=>cases h
theorem tDT.of {ev:EvE} {F0:Fz} {F:Hp} {en:EnvD} {σ:L2.St} {H:Hp} {Q:Bool->Hp->Prop} {b:Bool} (rs:RS X.K X.H₀ F0 F H σ en O) (w:ev en=some (.bl b)) (k:∀ F' H',Gr F H F' H'->Q b H'):tDT X O ev σ H Q:=⟨F0,F,en,b,rs,w,k⟩
theorem and_t {ea eb:EvE} {σ:L2.St} {H:Hp} {Q:Bool->Hp->Prop} (h:tDT X O (eAnd ea eb) σ H Q):tAnd (tDT X O ea) (tDT X O eb) σ H Q:=by
 obtain ⟨F0,F,en,b,rs,w,k⟩:=h
 obtain ⟨c,e1,e2⟩:=ifO_some w
 refine ⟨F0,F,en,c,rs,e1,fun F1 H1 g1=>?_⟩
 cases c with
 | true=>exact iteT (.of (rs.grow g1) e2 fun F' H' g=>k F' H' (g1.trans g))
 | false=>cases e2;exact iteF (k F1 H1 g1)
theorem or_t {ea eb:EvE} {σ:L2.St} {H:Hp} {Q:Bool->Hp->Prop} (h:tDT X O (eOr ea eb) σ H Q):tOr (tDT X O ea) (tDT X O eb) σ H Q:=by
 obtain ⟨F0,F,en,b,rs,w,k⟩:=h
 obtain ⟨c,e1,e2⟩:=ifO_some w
 refine ⟨F0,F,en,c,rs,e1,fun F1 H1 g1=>?_⟩
 cases c with
 | true=>cases e2;exact iteT (k F1 H1 g1)
 | false=>exact iteF (.of (rs.grow g1) e2 fun F' H' g=>k F' H' (g1.trans g))
theorem dw_one {ev:EvE} {op} (h:PT X a (tDT X O ev)):PW X (.BoolOp op [a] pos) (tDT X O ev):=by
 cases op
 ·exact pw_and1 h
 ·exact pw_or1 h
theorem dw_and {rest:List Expr} {ea eb:EvE} (ha:PT X a (tDT X O ea)) (hb:PW X (.BoolOp .And (b::rest) pos) (tDT X O eb)):PW X (.BoolOp .And (a::b::rest) pos) (tDT X O (eAnd ea eb)) :=
 PW.imp (pw_and ha hb) fun σ H Q h=>and_t h
theorem dw_or {rest:List Expr} {ea eb:EvE} (ha:PT X a (tDT X O ea)) (hb:PW X (.BoolOp .Or (b::rest) pos) (tDT X O eb)):PW X (.BoolOp .Or (a::b::rest) pos) (tDT X O (eOr ea eb)) :=
 PW.imp (pw_or ha hb) fun σ H Q h=>or_t h
theorem dt_not {ev:EvE} (ha:PT X a (tDT X O ev)):PT X (.UnaryOp .Not a pos) (tDT X O (eNot ev)) :=
 PT.imp (pt_not ha) fun σ H Q ⟨F0,F,en,b,rs,w,k⟩=>by
  have w':notO (ev en)=some (.bl b):=w
  cases q:ev en with
  | none=>rw [q] at w';cases w'
  | some d =>
   rw [q] at w'
   cases d with
   | bl c=>cases w';exact ⟨F0,F,en,c,rs,q,k⟩
   | _=>cases w'
theorem de_one {ev:EvE} {op} (h:PE X a (tD X O ev)):PE X (.BoolOp op [a] pos) (tD X O ev):=pe_one h
theorem de_and {rest:List Expr} {ea eb:EvE} (ha:PE X a (tR X O ea)) (hb:PE X (.BoolOp .And (b::rest) pos) (tD X O eb)):PE X (.BoolOp .And (a::b::rest) pos) (tD X O (eAnd ea eb)) :=
 PE.imp (pe_and ha hb) fun σ H Q ⟨F0,F,en,d,rs,w,k⟩=>by
  obtain ⟨c,e1,e2⟩:=ifO_some w
  refine ⟨F0,F,en,.bl c,rs,e1,fun v F1 H1 g1 r1=>⟨c,r1.bl,?_⟩⟩
  cases c with
  | true=>exact iteT ⟨F0,F1,en,d,rs.grow g1,e2,fun v F' H' g r=>k v F' H' (g1.trans g) r⟩
  | false=>cases e2;exact iteF (k _ F1 H1 g1 (.bl _))
theorem de_or {rest:List Expr} {ea eb:EvE} (ha:PE X a (tR X O ea)) (hb:PE X (.BoolOp .Or (b::rest) pos) (tD X O eb)):PE X (.BoolOp .Or (a::b::rest) pos) (tD X O (eOr ea eb)) :=
 PE.imp (pe_or ha hb) fun σ H Q ⟨F0,F,en,d,rs,w,k⟩=>by
  obtain ⟨c,e1,e2⟩:=ifO_some w
  refine ⟨F0,F,en,.bl c,rs,e1,fun v F1 H1 g1 r1=>⟨c,r1.bl,?_⟩⟩
  cases c with
  | true=>cases e2;exact iteT (k _ F1 H1 g1 (.bl _))
  | false=>exact iteF ⟨F0,F1,en,d,rs.grow g1,e2,fun v F' H' g r=>k v F' H' (g1.trans g) r⟩
theorem de_not {ev:EvE} (ha:PE X a (tR X O ev)):PE X (.UnaryOp .Not a pos) (tD X O (eNot ev)) :=
 PE.imp (pe_not ha) fun σ H Q ⟨F0,F,en,d,rs,w,k⟩=>by
  have w':notO (ev en)=some d:=w
  cases q:ev en with
  | none=>rw [q] at w';cases w'
  | some x =>
   rw [q] at w'
   cases x with
   | bl c=>cases w';exact ⟨F0,F,en,.bl c,rs,q,fun v F' H' g r=>⟨c,r.bl,k _ F' H' g (.bl _)⟩⟩
   | _=>cases w'
theorem de_if {ec ea eb:EvE} (hc:PT X c (tDT X O ec)) (ha:PE X a (tD X O ea)) (hb:PE X b (tD X O eb)):PE X (.IfExp c a b pos) (tD X O (eIf ec ea eb)) :=
 PE.imp (pe_ifExp hc ha hb) fun σ H Q ⟨F0,F,en,d,rs,w,k⟩=>by
  obtain ⟨c,e1,e2⟩:=ifO_some w
  refine ⟨F0,F,en,c,rs,e1,fun F1 H1 g1=>?_⟩
  cases c with
  | true=>exact iteT ⟨F0,F1,en,d,rs.grow g1,e2,fun v F' H' g r=>k v F' H' (g1.trans g) r⟩
  | false=>exact iteF ⟨F0,F1,en,d,rs.grow g1,e2,fun v F' H' g r=>k v F' H' (g1.trans g) r⟩
theorem de_neg {ev:EvE} (ha:PE X a (tR X O ev)):PE X (.UnaryOp .USub a pos) (tD X O (eUn D.neg ev)) :=
 PE.imp (pe_un un_neg ha) fun σ H Q ⟨F0,F,en,d,rs,w,k⟩=>by
  obtain ⟨x,e1,e2⟩:=bind1 w
  cases x with
  | int i=>cases e2;exact ⟨F0,F,en,.int i,rs,e1,fun v F' H' g r=>⟨i,r.int,k _ F' H' g (.int _)⟩⟩
  | _=>cases e2
theorem chain_t {g g':D->D->Option D} {r r':R2} {ea eb ec:EvE} (ho:Op2 X r g) (ho':Op2 X r' g') {σ:L2.St} {H:Hp} {Q:VK} (h:tD X O (eChain g g' ea eb ec) σ H Q):tChain r r' (tR X O ea) (tR X O eb) (tR X O ec) σ H Q:=by
 obtain ⟨F0,F,en,d,rs,w,k⟩:=h
 obtain ⟨dx,dy,e1,e2,e3⟩:=bind2 w
 obtain ⟨c,e4,e5⟩:=ifO_some e3
 refine ⟨F0,F,en,dx,rs,e1,fun x F1 H1 g1 r1=>?_⟩
 refine ⟨F0,F1,en,dy,rs.grow g1,e2,fun y F2 H2 g2 r2=>?_⟩
 refine ho F2 H2 x y dx dy (.bl c) _ g2.fh (r1.gr g2) r2 e4 fun v F3 H3 g3 r3=>?_
 cases r3
 refine ⟨c,rfl,?_⟩
 have g13:=(g1.trans g2).trans g3
 cases c with
 | true =>
  obtain ⟨dz,e6,e7⟩:=bind1 e5
  refine iteT ⟨F0,F3,en,dz,rs.grow g13,e6,fun z F4 H4 g4 r4=>?_⟩
  exact ho' F4 H4 y z dy dz d _ g4.fh ((r2.gr g3).gr g4) r4 e7 fun v F' H' g5 r5=>k v F' H' ((g13.trans g4).trans g5) r5
 | false=>cases e5;exact iteF (k _ F3 H3 g13 (.bl _))
theorem de_chain {op op':CmpOp} {g g':D->D->Option D} {r r':R2} {ea eb ec:EvE} (ho:OpR X (compareOp op) r/\Op2 X r g) (ho':OpR X (compareOp op') r'/\Op2 X r' g') (ha:PE X a (tR X O ea)) (hb:PE X b (tR X O eb)) (hc:PE X c (tR X O ec)) (hm:lastMarks [op,op'] [b,c]=false:=by with_unfolding_all rfl) :
  PE X (.Compare a [op,op'] [b,c] pos) (tD X O (eChain g g' ea eb ec)):=PE.imp (pe_chain ho.1 ho'.1 ha hb hc hm) fun σ H Q h=>chain_t ho.2 ho'.2 h
theorem Dz:PA X [] (tL X O lN):=PA.imp pa_nil fun σ H Q ⟨F0,F,en,ds,rs,w,k⟩=>by cases w;exact k [] F H (.refl rs.fh) .nil
theorem da_cons {es:List Expr} {ea:EvE} {l:EvL} (ha:PE X a (tD X O ea)) (hr:PA X es (tL X O l)) (hs:starEach (a::es) X.env=(false,eval a X.env)::starEach es X.env:=by rfl):PA X (a::es) (tL X O (lC ea l)) :=
 PA.imp (pa_cons ha hr hs) fun σ H Q ⟨F0,F,en,ds,rs,w,k⟩=>by
  obtain ⟨d,e1,e2⟩:=bind1 w
  obtain ⟨ds',e3,rfl⟩:=map1 e2
  refine ⟨F0,F,en,d,rs,e1,fun v F1 H1 g1 r1=>?_⟩
  exact ⟨F0,F1,en,ds',rs.grow g1,e3,fun vs F2 H2 g2 r2=>k (v::vs) F2 H2 (g1.trans g2) (.cons (r1.mono g2.ff) r2)⟩
theorem lNil_len:∀ (e:EnvD) (d:List D),lN e=some d->d.length<=0:=fun e d h=>by cases h;exact Nat.le_refl 0
theorem lCons_len {n:Nat} {ea:EvE} {l:EvL} (h:∀ (e:EnvD) (d:List D),l e=some d->d.length<=n):∀ (e:EnvD) (d:List D),lC ea l e=some d->d.length<=n+1:=fun e d w=>by
 obtain ⟨x,e1,e2⟩:=bind1 w
 obtain ⟨ds,e3,rfl⟩:=map1 e2
 exact Nat.succ_le_succ (h e ds e3)
theorem de_tup {es:List Expr} {l:EvL} {x1} (h:PA X es (tL X O l)) (hz:∀ (e:EnvD) (d:List D),l e=some d->d.length<=lI):PE X (.Tuple es x1 pos) (tD X O (eTup l)) :=
 PE.imp (pe_tup h) fun σ H Q ⟨F0,F,en,d,rs,w,k⟩=>by
  obtain ⟨ds,e1,rfl⟩:=map1 w
  refine ⟨F0,F,en,ds,rs,e1,fun vs F1 H1 g1 r1=>⟨by rw [r1.length,sizeN];exact hz en ds e1,fun p hp=>?_⟩⟩
  have g:=Gr.new g1.fh hp (.tup vs)
  exact k _ _ _ (g1.trans g) (.tup upd_same (r1.mono g.ff))
theorem de_lst {es:List Expr} {l:EvL} (h:PA X es (tL X O l)) (hz:∀ (e:EnvD) (d:List D),l e=some d->d.length<=lI):PE X (.List es pos) (tD X O (eLst l)) :=
 PE.imp (pe_lst h) fun σ H Q ⟨F0,F,en,d,rs,w,k⟩=>by
  obtain ⟨ds,e1,rfl⟩:=map1 w
  refine ⟨F0,F,en,ds,rs,e1,fun vs F1 H1 g1 r1=>⟨by rw [r1.length,sizeN];exact hz en ds e1,fun p hp=>?_⟩⟩
  have g:=Gr.new g1.fh hp (.lst vs)
  exact k _ _ _ (g1.trans g) (.lst upd_same (r1.mono g.ff))
theorem dO_lst {es:List Expr} {l:EvL} (h:PA X es (tL X O l)) (hz:∀ (e:EnvD) (d:List D),l e=some d->d.length<=lI):PE X (.List es pos) (tO X O (eLst l)) :=
 PE.imp (pe_lst h) fun σ H Q ⟨F0,F,en,d,rs,w,k⟩=>by
  obtain ⟨ds,e1,rfl⟩:=map1 w
  refine ⟨F0,F,en,ds,rs,e1,fun vs F1 H1 g1 r1=>⟨by rw [r1.length,sizeN];exact hz en ds e1,fun p hp=>?_⟩⟩
  have g:=Gr.newO g1.fh hp (.lst vs)
  exact k p none vs ds F1 _ (g1.trans g) (g1.hh.none hp) (g1.fh.none hp) upd_same r1 rfl trivial
theorem do_none:PO X none (tOI X O oNo):=fun pins s σ H Q I ⟨F0,F,en,o,rs,w,k⟩=>by
 cases w
 exact po_none pins s σ H Q I (k F H (.refl rs.fh))
theorem do_some {ev:EvE} (h:PE X e (tR X O ev)):PO X (some e) (tOI X O (oAt ev)):=fun pins s σ H Q I ⟨F0,F,en,o,rs,w,k⟩=>by
 obtain ⟨d,e1,e2⟩:=bind1 w
 cases d with
 | int i=>cases e2;exact po_some h pins s σ H Q I ⟨F0,F,en,.int i,rs,e1,fun v F' H' g r=>⟨i,r.int,k F' H' g⟩⟩
 | _=>cases e2
theorem cut_reps {K:Fg} {F:Hp} {xs:List V} {ds:List D} (r:Reps K F xs ds) (lo hi:Option Int):Reps K F (cutV xs lo hi) (cutD ds lo hi):=by
 unfold cutV cutD
 rw [r.length]
 exact (r.drop _).take _
def C1 (X:Cx) (r:List V->Hp->VK->Prop) (g:D->Option D):Prop:=∀ (F H:Hp) (x:V) (dx d:D) (Q:VK),Sm F H->RdD X.K F H x dx->g dx=some d->(∀ v F' H',Gr F H F' H'->Rep X.K F' v d->Q v H')->r [x] H Q
theorem pa1R {ev:EvE} (ha:PE X a (tR X O ev)) (hs:starEach [a] X.env=[(false,eval a X.env)]:=by rfl):PA X [a] (tCons (tR X O ev) tNil):=pa_cons ha pa_nil hs
theorem de_b1 {id:String} {x:Str} {p:Pos} {r:List V->Hp->VK->Prop} {g:D->Option D} {ev:EvE} (hc:CallR X (.builtin id) r/\C1 X r g) (hg:Gl X x) (hm:X.mg x=none) (hv:bootBuiltins x=some (.builtin id)) (ha:PE X a (tR X O ev)) (hn:x≠"__name__":=by decide) (hdb:(x==("__debug__":Str))=false:=by decide)
  (he:starEach [a] X.env=[(false,eval a X.env)]:=by rfl):PE X (.Call (.Name x p) [a] [] pos) (tD X O (eUn g ev)) :=
 PE.imp (pe_callB hc.1 hg hm hv (pa1R ha he) hn hdb he rfl) fun σ H Q ⟨F0,F,en,d,rs,w,k⟩=>by
  obtain ⟨dx,e1,e2⟩:=bind1 w
  exact ⟨F0,F,en,dx,rs,e1,fun v F' H' g r=>hc.2 F' H' v dx d Q g.fh r e2 fun v2 F2 H2 g2 r2=>k v2 F2 H2 (g.trans g2) r2⟩
theorem de_ty1 {T:String} {x:Str} {p:Pos} {r:List V->Hp->VK->Prop} {g:D->Option D} {ev:EvE} (hc:CallR X (.type T) r/\C1 X r g) (hg:Gl X x) (hm:X.mg x=none) (hv:bootBuiltins x=some (.type T)) (ha:PE X a (tR X O ev)) (hn:x≠"__name__":=by decide) (hdb:(x==("__debug__":Str))=false:=by decide)
  (he:starEach [a] X.env=[(false,eval a X.env)]:=by rfl):PE X (.Call (.Name x p) [a] [] pos) (tD X O (eUn g ev)) :=
 PE.imp (pe_callTy hc.1 hg hm hv (pa1R ha he) hn hdb he rfl) fun σ H Q ⟨F0,F,en,d,rs,w,k⟩=>by
  obtain ⟨dx,e1,e2⟩:=bind1 w
  exact ⟨F0,F,en,dx,rs,e1,fun v F' H' g r=>hc.2 F' H' v dx d Q g.fh r e2 fun v2 F2 H2 g2 r2=>k v2 F2 H2 (g.trans g2) r2⟩
theorem call_lenD:CallR X (.builtin "len") (fun xs H Q=>(∃ p ys,xs=[.ref p]/\(SqL X.K H p ys\/SqT X.K H p ys)/\Q (.int ys.length) H)\/∃ z,xs=[.str z]/\z.length<=sizeLine/\Q (.int z.length) H) /\
  C1 X (fun xs H Q=>(∃ p ys,xs=[.ref p]/\(SqL X.K H p ys\/SqT X.K H p ys)/\Q (.int ys.length) H)\/∃ z,xs=[.str z]/\z.length<=sizeLine/\Q (.int z.length) H) D.len:=by
 refine ⟨CallR.or call_len_seq call_len_str,fun F H x dx d Q s rx e k=>?_⟩
 cases dx with
 | str z =>
  simp only [D.len] at e
  split at e
  ·rename_i hz
   cases e
   exact .inr ⟨z,by rw [rx.str],by rw [sizeN];exact hz,k _ F H (.refl s) (.int _)⟩
  ·cases e
 | tup ds =>
  cases e
  obtain ⟨p,xs,rfl,h,r⟩:=rx.tup
  exact .inl ⟨p,xs,rfl,.inr (SqT.of (s _ _ h)),by rw [r.length];exact k _ F H (.refl s) (.int _)⟩
 | lst ds =>
  cases e
  obtain ⟨p,xs,rfl,h,r⟩:=rx.lst s
  exact .inl ⟨p,xs,rfl,.inl (SqL.of h),by rw [r.length];exact k _ F H (.refl s) (.int _)⟩
 | scr ns =>
  cases e
  obtain ⟨p,rfl,h⟩:=rx.scr
  exact .inl ⟨p,_,rfl,.inl (s.sqL h),by rw [List.length_map];exact k _ F H (.refl s) (.int _)⟩
 | _=>cases e
theorem log2_lt {n:Nat} (h:n<2^1900):n.log2<1920:=by
 by_cases z:n=0
 ·subst z;decide
 ·have:=(Nat.log2_lt z (k:=1900)).mpr h
  omega
theorem call_strD:CallR X (.type "str") (fun xs H Q=>∃ i,xs=[.int i]/\i.natAbs.log2<1920/\Q (.str (toString i)) H)/\C1 X (fun xs H Q=>∃ i,xs=[.int i]/\i.natAbs.log2<1920/\Q (.str (toString i)) H) D.strI:=by
 refine ⟨call_str_int,fun F H x dx d Q s rx e k=>?_⟩
 cases dx with
 | int i =>
  simp only [D.strI] at e
  split at e
  ·rename_i hz
   cases e
   exact ⟨i,by rw [rx.int],log2_lt hz,k _ F H (.refl s) (.str _)⟩
  ·cases e
 | _=>cases e
theorem call_intD:CallR X (.type "int") (fun xs H Q=>(∃ i,xs=[.int i]/\Q (.int i) H)\/∃ k,xs=[.bl k]/\Q (.int (if k then 1 else 0)) H)/\C1 X (fun xs H Q=>(∃ i,xs=[.int i]/\Q (.int i) H)\/∃ k,xs=[.bl k]/\Q (.int (if k then 1 else 0)) H) D.intB:=by
 refine ⟨call_int1,fun F H x dx d Q s rx e k=>?_⟩
 cases dx with
 | int i=>cases e;exact .inl ⟨i,by rw [rx.int],k _ F H (.refl s) (.int _)⟩
 | bl b=>cases e;exact .inr ⟨b,by rw [rx.bl],k _ F H (.refl s) (.int _)⟩
 | _=>cases e
def C2 (X:Cx) (r:List V->Hp->VK->Prop) (g:D->D->Option D):Prop:=∀ (F H:Hp) (x y:V) (dx dy d:D) (Q:VK),Sm F H->RdD X.K F H x dx->RdD X.K F H y dy->g dx dy=some d->(∀ v F' H',Gr F H F' H'->Rep X.K F' v d->Q v H')->r [x,y] H Q
theorem de_b2 {id:String} {x:Str} {p:Pos} {r:List V->Hp->VK->Prop} {g:D->D->Option D} {ea eb:EvE} (hc:CallR X (.builtin id) r/\C2 X r g) (hg:Gl X x) (hm:X.mg x=none) (hv:bootBuiltins x=some (.builtin id)) (ha:PE X a (tR X O ea)) (hb:PE X b (tR X O eb)) (hn:x≠"__name__":=by decide) (hdb:(x==("__debug__":Str))=false:=by decide)
  (he:starEach [a,b] X.env=[(false,eval a X.env),(false,eval b X.env)]:=by rfl) (he2:starEach [b] X.env=[(false,eval b X.env)]:=by rfl):PE X (.Call (.Name x p) [a,b] [] pos) (tD X O (eOp g ea eb)) :=
 PE.imp (pe_callB hc.1 hg hm hv (pa_cons ha (pa1R hb he2) (by rw [he,he2])) hn hdb (by rw [he,he2]) (by rw [he2];rfl)) fun σ H Q ⟨F0,F,en,d,rs,w,k⟩=>by
  obtain ⟨dx,dy,e1,e2,e3⟩:=bind2 w
  refine ⟨F0,F,en,dx,rs,e1,fun v F1 H1 g1 r1=>?_⟩
  exact ⟨F0,F1,en,dy,rs.grow g1,e2,fun u F2 H2 g2 r2=>hc.2 F2 H2 v u dx dy d Q g2.fh (r1.gr g2) r2 e3 fun v3 F3 H3 g3 r3=>k v3 F3 H3 ((g1.trans g2).trans g3) r3⟩
theorem call_maxD (hc:X.calm=true):CallR X (.builtin "max") (fun xs H Q=>∃ i j,xs=[.int i,.int j]/\Q (.int (if j > i then j else i)) H)/\C2 X (fun xs H Q=>∃ i j,xs=[.int i,.int j]/\Q (.int (if j > i then j else i)) H) D.max2:=by
 refine ⟨call_max2 hc,fun F H x y dx dy d Q s rx ry e k=>?_⟩
 cases dx<;>cases dy<;>try (simp [D.max2] at e;done)
 case int.int i j=>cases e;exact ⟨i,j,by rw [rx.int,ry.int],k _ F H (.refl s) (.int _)⟩
def rInst (X:Cx) (T:String):List V->Hp->VK->Prop:=fun xs H Q=>∃ x t b,xs=[x,.ty T]/\TyOf X.K H x t/\PySem.W.kitOne X.K t (.type T)=some b/\Q (.bl b) H
theorem call_instR (T:String):CallR X (.builtin "isinstance") (rInst X T):=by
 intro pins s σ H xs us Q I r ⟨x,t,b,hx,ty,e,q⟩
 subst hx
 obtain ⟨u,w,rfl,rx,rw'⟩:=vals2 r
 cases (show w=Value.type T from rw')
 exact isinst_ok I rx ty e fun tk=>⟨.bl b,H,I.tok tk,rfl,q⟩
def Kit (K:Fg) (T:String):Prop:=∀ d:D,(∀ ns,d≠.scr ns)->PySem.W.kitOne K (.type (tyD d)) (.type T)=some (decide (tyD d=T)||(decide (T="int")&&decide (tyD d="bool")))
theorem tyOf_rd {F H:Hp} {x:V} {d:D} (s:Sm F H) (hd:∀ ns,d≠.scr ns) (r:RdD X.K F H x d):TyOf X.K H x (.type (tyD d)):=by
 cases d with
 | non=>rw [r.non];exact .non
 | bl b=>rw [r.bl];exact .bl b
 | int i=>rw [r.int];exact .int i
 | str z=>rw [r.str];exact .str z
 | tup ds=>obtain ⟨p,xs,rfl,h,_⟩:=r.tup;exact .tup (s _ _ h)
 | lst ds=>obtain ⟨p,xs,rfl,h,_⟩:=r.lst s;exact .lst h
 | dic ks ds=>obtain ⟨p,xs,rfl,h,_⟩:=r.dic s;rcases h with h | ⟨o,h⟩;exact .dK h;exact .frzD h
 | scr ns=>exact absurd rfl (hd ns)
theorem de_inst {T:String} {x y:Str} {p p2:Pos} {ev:EvE} (kt:Kit X.K T) (hg:Gl X x) (hm:X.mg x=none) (hv:bootBuiltins x=some (.builtin "isinstance")) (hg2:Gl X y) (hm2:X.mg y=none) (hv2:bootBuiltins y=some (.type T)) (ha:PE X a (tR X O ev)) (hn:x≠"__name__":=by decide) (hdb:(x==("__debug__":Str))=false:=by decide)
  (hn2:y≠"__name__":=by decide) (hdb2:(y==("__debug__":Str))=false:=by decide)
  (he:starEach [a,.Name y p2] X.env=[(false,eval a X.env),(false,eval (.Name y p2) X.env)]:=by rfl) (he2:starEach [.Name y p2] X.env=[(false,eval (.Name y p2) X.env)]:=by rfl):PE X (.Call (.Name x p) [a,.Name y p2] [] pos) (tD X O (eInst T ev)) :=
 PE.imp (pe_callB (call_instR T) hg hm hv (pa_cons ha (pa_cons (pe_bltn hg2 hm2 hv2 (show RelV (.ty T) (.type T) from rfl) hn2 hdb2) pa_nil he2) (by rw [he,he2])) hn hdb (by rw [he,he2]) (by rw [he2];rfl)) fun σ H Q ⟨F0,F,en,d,rs,w,k⟩=>by
  obtain ⟨dx,e1,e2⟩:=bind1 w
  have hs:(∀ ns,dx≠.scr ns)/\d=.bl (decide (tyD dx=T)||(decide (T="int")&&decide (tyD dx="bool"))):=by
   cases dx with
   | scr ns=>cases e2
   | _=>cases e2;exact ⟨(fun _ z=>nomatch z),rfl⟩
  refine ⟨F0,F,en,dx,rs,e1,fun v F1 H1 g1 r1=>?_⟩
  refine ⟨v,_,_,rfl,tyOf_rd g1.fh hs.1 r1,kt dx hs.1,?_⟩
  rw [hs.2] at k
  exact k _ F1 H1 g1 (.bl _)
end
end Wd
namespace Wd
open PySem PySem.Spec PyProof.Rows L2
structure Ex (H₀:Hp) (F0:Fz) (F H:Hp):Prop where
 fh:Sm F H
 hh:Sm F0.h H
 ff:Sm F0.f F
 fr:∀ a o,F a=some o->F0.f a=some o\/F0.h a=none
theorem RS.ex {K:Fg} {H₀:Hp} {F0:Fz} {F H:Hp} {σ:L2.St} {e:EnvD} {O:List Nat} (r:RS K H₀ F0 F H σ e O):Ex H₀ F0 F H:=⟨r.fh,r.hh,r.ff,r.fr⟩
theorem Ex.gr {H₀:Hp} {F0:Fz} {F H:Hp} (x:Ex H₀ F0 F H):Gr F0.f F0.h F H:=⟨x.ff,x.hh,x.fh,x.fr⟩
def RetD (K:Fg) (H₀ F H:Hp) (w:Bool) (v:V) (d:D):Prop :=
 if w=true then ∃ p k xs ds,v=.ref p/\H₀ p=none/\F p=none/\H p=some (ho k xs)/\Reps K F xs ds/\d=dOf k ds/\HoOk k xs else Rep K F v d
def FlOk (X:Cx) (O' OL:List Nat) (w:Bool) (F0:Fz) (F:Hp) (Dn:Ends):Fl->Prop
 | .nx e'=>∀ σ' F' H',Sm F F'->RS X.K X.H₀ F0 F' H' σ' e' O'->Dn.nx σ' H'
 | .bk e'=>∀ σ' F' H',Sm F F'->RS X.K X.H₀ F0 F' H' σ' e' OL->Dn.bk σ' H'
 | .ct e'=>∀ σ' F' H',Sm F F'->RS X.K X.H₀ F0 F' H' σ' e' OL->Dn.ct σ' H'
 | .rt d=>∀ v F' H',Ex X.H₀ F0 F' H'->RetD X.K F0.h F' H' w v d->Dn.rt v H'
def tS (X:Cx) (O O' OL:List Nat) (w:Bool) (b:EvS):TS:=fun Dn σ H=>∃ F0 F e fl,RS X.K X.H₀ F0 F H σ e O/\b e=some fl/\FlOk X O' OL w F0 F Dn fl
theorem FlOk.mono {X:Cx} {O' OL:List Nat} {w:Bool} {F0:Fz} {F F1:Hp} {Dn:Ends} {fl:Fl} (h:FlOk X O' OL w F0 F Dn fl) (s:Sm F F1):FlOk X O' OL w F0 F1 Dn fl:=by
 cases fl with
 | nx e=>exact fun σ' F' H' q r=>h σ' F' H' (s.trans q) r
 | bk e=>exact fun σ' F' H' q r=>h σ' F' H' (s.trans q) r
 | ct e=>exact fun σ' F' H' q r=>h σ' F' H' (s.trans q) r
 | rt d=>exact h
section
variable {X:Cx} {O O1 O2 O' OL:List Nat} {w:Bool} {st:Stmt} {rest:List Stmt} {e:Expr} {pos:Pos}
theorem Sn:PSs X [] (tS X O O OL w sNx):=PSs.imp pss_nil fun Dn σ H ⟨F0,F,en,fl,rs,z,k⟩=>by
 cases z
 exact k σ F H (.refl _) rs
theorem So {b:EvS} (h:PS X st (tS X O O' OL w b)):PSs X [st] (tS X O O' OL w b):=pss_one h
theorem Ss {a b:EvS} (h1:PS X st (tS X O O1 OL w a)) (h2:PSs X rest (tS X O1 O' OL w b)):PSs X (st::rest) (tS X O O' OL w (sQ a b)) :=
 PSs.imp (pss_cons h1 h2) fun Dn σ H ⟨F0,F,en,fl,rs,z,k⟩=>by
  have z':seqO (a en) b=some fl:=z
  cases q:a en with
  | none=>rw [q] at z';cases z'
  | some f1 =>
   rw [q] at z'
   refine ⟨F0,F,en,f1,rs,q,?_⟩
   cases f1 with
   | nx e1=>exact fun σ' F' H' s r=>⟨F0,F',e1,fl,r,z',k.mono s⟩
   | bk e1=>cases z';exact k
   | ct e1=>cases z';exact k
   | rt d=>cases z';exact k
theorem ds_cont:PS X (.Continue pos) (tS X O O' O w sCnt):=PS.imp ps_continue fun Dn σ H ⟨F0,F,en,fl,rs,z,k⟩=>by
 cases z
 exact k σ F H (.refl _) rs
theorem RS.exg {K:Fg} {H₀:Hp} {F0:Fz} {F H F' H':Hp} {σ:L2.St} {e:EnvD} {O:List Nat} (r:RS K H₀ F0 F H σ e O) (g:Gr F H F' H'):Ex H₀ F0 F' H':=(r.grow g).ex
theorem ds_ret {ev:EvE} (h:PE X e (tD X O ev)):PS X (.Return (some e) pos) (tS X O O' OL false (sRet ev)):=PS.imp (ps_ret h) fun Dn σ H ⟨F0,F,en,fl,rs,z,k⟩=>by
 obtain ⟨d,e1,rfl⟩:=map1 z
 exact ⟨F0,F,en,d,rs,e1,fun v F' H' g r=>k v F' H' (rs.exg g) r⟩
theorem ds_expr {ev:EvE} (h:PE X e (tD X O ev)) (hs:swapsWith e none pos.line X.env=pure false:=by rfl):PS X (.Expr e pos) (tS X O O OL w (sDrop ev)):=PS.imp (ps_expr h hs) fun Dn σ H ⟨F0,F,en,fl,rs,z,k⟩=>by
 obtain ⟨d,e1,rfl⟩:=map1 z
 exact ⟨F0,F,en,d,rs,e1,fun v F' H' g r=>k σ F' H' g.ff (rs.grow g)⟩
theorem ds_if {c:Expr} {a b:List Stmt} {ec:EvE} {ea eb:EvS} (hc:PT X c (tDT X O ec)) (ha:PSs X a (tS X O O' OL w ea)) (hb:PSs X b (tS X O O' OL w eb)):PS X (.If c a b pos) (tS X O O' OL w (sIf ec ea eb)) :=
 PS.imp (ps_if hc ha hb) fun Dn σ H ⟨F0,F,en,fl,rs,z,k⟩=>by
  obtain ⟨c,e1,e2⟩:=ifO_some z
  refine ⟨F0,F,en,c,rs,e1,fun F1 H1 g1=>?_⟩
  cases c with
  | true=>exact iteT ⟨F0,F1,en,fl,rs.grow g1,e2,k.mono g1.ff⟩
  | false=>exact iteF ⟨F0,F1,en,fl,rs.grow g1,e2,k.mono g1.ff⟩
def dl (i:Nat) (O:List Nat):List Nat:=O.filter fun j=>!(j==i)
def ad (i:Nat) (O:List Nat):List Nat:=O.filter (fun j=>decide (j<i))++i::O.filter (fun j=>decide (i<j))
theorem mem_dl {i j:Nat}:j∈dl i O↔j∈O/\j≠i:=by unfold dl;simp
theorem mem_ad {i j:Nat}:j∈ad i O↔j=i\/j∈O:=by
 unfold ad
 simp only [List.mem_append,List.mem_filter,List.mem_cons,decide_eq_true_eq]
 constructor
 ·rintro (h | h | h)
  ·exact .inr h.1
  ·exact .inl h
  ·exact .inr h.1
 ·rintro (h | h)
  ·exact .inr (.inl h)
  ·rcases Nat.lt_trichotomy j i with z | z | z
   ·exact .inl ⟨h,z⟩
   ·exact .inr (.inl z)
   ·exact .inr (.inr ⟨h,z⟩)
theorem set_get {α:Type} {l:List α} {i j:Nat} {x:α} (hi:i<l.length):(l.set i x)[j]?=if i=j then some x else l[j]?:=by
 rw [List.getElem?_set]
 split
 ·rename_i h;subst h;simp [hi]
 ·rfl
theorem RS.put {K:Fg} {H₀:Hp} {F0:Fz} {F H:Hp} {σ:L2.St} {en:EnvD} {i:Nat} {v:V} {d:D} (r:RS K H₀ F0 F H σ en O) (h:Rep K F v d) (hi:i<en.length) (hq:pinN i∉O):RS K H₀ F0 F H (σ.set i (some v)) (en.set i (some d)) (dl i O) where
 fh:=r.fh
 hh:=r.hh
 ff:=r.ff
 fr:=r.fr
 slot:=fun j d' e1 hj=>by
  rw [set_get hi] at e1
  rw [set_get (by rw [r.len];exact hi)]
  split at e1
  ·rename_i z;cases e1;rw [if_pos z];exact ⟨v,rfl,h⟩
  ·rename_i z
   rw [if_neg z]
   exact r.slot j d' e1 fun q=>hj (mem_dl.mpr ⟨q,fun w=>z w.symm⟩)
 own:=fun j d' e1 hj=>by
  obtain ⟨h1,h2⟩:=mem_dl.mp hj
  rw [set_get hi,if_neg (Ne.symm h2)] at e1
  rw [set_get (by rw [r.len];exact hi),if_neg (Ne.symm h2)]
  exact r.own j d' e1 h1
 dis:=fun j k p d1 d2 hj hk f1 f2 e1 e2=>by
  obtain ⟨h1,h2⟩:=mem_dl.mp hj
  obtain ⟨h3,h4⟩:=mem_dl.mp hk
  rw [set_get (by rw [r.len];exact hi),if_neg (Ne.symm h2)] at e1
  rw [set_get (by rw [r.len];exact hi),if_neg (Ne.symm h4)] at e2
  rw [set_get hi,if_neg (Ne.symm h2)] at f1
  rw [set_get hi,if_neg (Ne.symm h4)] at f2
  exact r.dis j k p d1 d2 h1 h3 f1 f2 e1 e2
 pin:=fun j hj=>by
  obtain ⟨h1,_⟩:=mem_dl.mp hj
  obtain ⟨p,e1,e2⟩:=r.pin j h1
  refine ⟨p,e1,?_⟩
  rw [List.getElem?_set_ne (fun z:i=j=>hq (by rw [z];exact h1))]
  exact e2
 len:=by rw [List.length_set,List.length_set];exact r.len
theorem RS.putO {K:Fg} {H₀:Hp} {F0:Fz} {F H:Hp} {σ:L2.St} {en:EnvD} {i:Nat} {p:Addr} {kk:Option (List Kd)} {xs:List V} {ds:List D} (r:RS K H₀ F0 F H σ en O) (h0:F0.h p=none) (hf:F p=none) (hp:H p=some (ho kk xs)) (hk:HoOk kk xs) (hr:Reps K F xs ds) (hi:i<en.length) (hq:pinN i∉O) (hiq:∀ j,i≠pinN j)
  (hn:∀ j d,j∈O->en[j]?=some (some d)->j≠i->σ[j]?≠some (some (.ref p))):RS K H₀ F0 F H (σ.set i (some (.ref p))) (en.set i (some (dOf kk ds))) (ad i O) where
 fh:=r.fh
 hh:=r.hh
 ff:=r.ff
 fr:=r.fr
 slot:=fun j d' e1 hj=>by
  have hj1:j≠i:=fun z=>hj (mem_ad.mpr (.inl z))
  have hj2:j∉O:=fun z=>hj (mem_ad.mpr (.inr z))
  rw [set_get hi,if_neg (Ne.symm hj1)] at e1
  rw [set_get (by rw [r.len];exact hi),if_neg (Ne.symm hj1)]
  exact r.slot j d' e1 hj2
 own:=fun j d' e1 hj=>by
  rw [set_get hi] at e1
  rw [set_get (by rw [r.len];exact hi)]
  split at e1
  ·rename_i z;cases e1;rw [if_pos z];exact ⟨p,kk,xs,ds,rfl,h0,hf,hp,hr,rfl,hk⟩
  ·rename_i z
   rw [if_neg z]
   rcases mem_ad.mp hj with q | q
   ·exact absurd q.symm z
   ·exact r.own j d' e1 q
 dis:=fun j k q d1 d2 hj hk f1 f2 e1 e2=>by
  rw [set_get (by rw [r.len];exact hi)] at e1 e2
  rw [set_get hi] at f1 f2
  by_cases z1:i=j
  ·by_cases z2:i=k
   ·rw [<- z1,<- z2]
   ·rw [if_pos z1] at e1
    cases e1
    rw [if_neg z2] at e2
    rcases mem_ad.mp hk with w | w
    ·exact absurd w.symm z2
    ·rw [if_neg z2] at f2
     exact absurd e2 (hn k d2 w f2 (Ne.symm z2))
  ·rw [if_neg z1] at e1
   rcases mem_ad.mp hj with w | w
   ·exact absurd w.symm z1
   ·by_cases z2:i=k
    ·rw [if_pos z2] at e2
     cases e2
     rw [if_neg z1] at f1
     exact absurd e1 (hn j d1 w f1 (Ne.symm z1))
    ·rw [if_neg z2] at e2
     rcases mem_ad.mp hk with w2 | w2
     ·exact absurd w2.symm z2
     ·rw [if_neg z1] at f1
      rw [if_neg z2] at f2
      exact r.dis j k q d1 d2 w w2 f1 f2 e1 e2
 pin:=fun j hj=>by
  rcases mem_ad.mp hj with z | h1
  ·exact absurd z.symm (hiq j)
  ·obtain ⟨p,e1,e2⟩:=r.pin j h1
   refine ⟨p,e1,?_⟩
   rw [List.getElem?_set_ne (fun z:i=j=>hq (by rw [z];exact h1))]
   exact e2
 len:=by rw [List.length_set,List.length_set];exact r.len
theorem RS.write {K:Fg} {H₀:Hp} {F0:Fz} {F H:Hp} {σ:L2.St} {en:EnvD} {i:Nat} {p:Addr} {kk:Option (List Kd)} {xs:List V} {ds:List D} (r:RS K H₀ F0 F H σ en O) (hi:i∈O) {d0:D} (he:en[i]?=some (some d0)) (hσ:σ[i]?=some (some (.ref p))) (h0:F0.h p=none) (hf:F p=none) (hk:HoOk kk xs) (hr:Reps K F xs ds) :
  RS K H₀ F0 F (upd H p (ho kk xs)) σ (en.set i (some (dOf kk ds))) O :=
 have hl:i<en.length:=by
  cases Nat.lt_or_ge i en.length with
  | inl h=>exact h
  | inr h=>rw [List.getElem?_eq_none h] at he;cases he
 {
 fh:=r.fh.upd _ hf
 hh:=r.hh.upd _ h0
 ff:=r.ff
 fr:=r.fr
 slot:=fun j d' e1 hj=>by
  have z:i≠j:=fun z=>hj (z▸hi)
  rw [set_get hl,if_neg z] at e1
  exact r.slot j d' e1 hj
 own:=fun j d' e1 hj=>by
  rw [set_get hl] at e1
  split at e1
  ·rename_i z;cases e1;subst z
   exact ⟨p,kk,xs,ds,hσ,h0,hf,upd_same,hr,rfl,hk⟩
  ·rename_i z
   obtain ⟨q,k2,ys,es,h1,h2,h3,h4,h5,h6⟩:=r.own j d' e1 hj
   refine ⟨q,k2,ys,es,h1,h2,h3,?_,h5,h6⟩
   rw [upd_ne (fun w:q=p=>z (r.dis i j p _ _ hi hj he e1 hσ (by rw [<- w];exact h1)))]
   exact h4
 dis:=fun j k q d1 d2 hj hk f1 f2 g1 g2=>by
  rw [set_get hl] at f1 f2
  have k1:∃ d,en[j]?=some (some d):=by
   split at f1
   ·rename_i z;subst z;exact ⟨_,he⟩
   ·exact ⟨_,f1⟩
  have k2:∃ d,en[k]?=some (some d):=by
   split at f2
   ·rename_i z;subst z;exact ⟨_,he⟩
   ·exact ⟨_,f2⟩
  obtain ⟨_,k1⟩:=k1
  obtain ⟨_,k2⟩:=k2
  exact r.dis j k q _ _ hj hk k1 k2 g1 g2
 pin:=r.pin
 len:=by rw [List.length_set];exact r.len }
theorem RS.rel {K:Fg} {H₀:Hp} {F0:Fz} {F H:Hp} {σ:L2.St} {en:EnvD} (ob:Addr->Obj) (i:Nat) (r:RS K H₀ F0 F H σ en O) :
  ∃ F' H',Sm F F'/\RS K H₀ F0 F' H' σ en (dl i O)/\(H'=H\/∃ p kk xs,H p=some (ho kk xs)/\H'=upd H p (hz (ob p) kk xs)):=by
 have none_:(∀ d,en[i]?=some (some d)->i∉O)->∃ F' H',Sm F F'/\RS K H₀ F0 F' H' σ en (dl i O)/\(H'=H\/∃ p kk xs,H p=some (ho kk xs)/\H'=upd H p (hz (ob p) kk xs)):=fun hn=>by
  refine ⟨F,H,.refl F,⟨r.fh,r.hh,r.ff,r.fr,fun j d e1 hj=>?_,fun j d e1 hj=>r.own j d e1 (mem_dl.mp hj).1,fun j k p d1 d2 hj hk=>r.dis j k p d1 d2 (mem_dl.mp hj).1 (mem_dl.mp hk).1,fun j hj=>r.pin j (mem_dl.mp hj).1,r.len⟩,.inl rfl⟩
  exact r.slot j d e1 fun w=>hj (mem_dl.mpr ⟨w,fun z=>hn d (z▸e1) (z▸w)⟩)
 by_cases hi:i∈O
 ·cases q:en[i]? with
  | none=>exact none_ fun d e=>by rw [q] at e;cases e
  | some o =>
   cases o with
   | none=>exact none_ fun d e=>by rw [q] at e;cases e
   | some d0 =>
    obtain ⟨p,kk,xs,ds,h1,h2,h3,h4,h5,h6,h7⟩:=r.own i d0 q hi
    have sf:Sm F (upd F p (hz (ob p) kk xs)):=(Sm.refl F).upd _ h3
    refine ⟨upd F p (hz (ob p) kk xs),upd H p (hz (ob p) kk xs),sf,⟨fun a o e1=>?_,fun a o e1=>?_,r.ff.trans sf,fun a o e1=>?_,fun j d e1 hj=>?_,fun j d e1 hj=>?_,fun j k p d1 d2 hj hk=>r.dis j k p d1 d2 (mem_dl.mp hj).1 (mem_dl.mp hk).1,fun j hj=>r.pin j (mem_dl.mp hj).1,r.len⟩,.inr ⟨p,kk,xs,h4,rfl⟩⟩
    ·by_cases z:a=p
     ·subst z;rw [upd_same] at e1 ⊢;exact e1
     ·rw [upd_ne z] at e1 ⊢;exact r.fh a o e1
    ·have z:a≠p:=fun z=>by rw [z,h2] at e1;cases e1
     rw [upd_ne z];exact r.hh a o e1
    ·by_cases z:a=p
     ·subst z;exact .inr h2
     ·rw [upd_ne z] at e1;exact r.fr a o e1
    ·by_cases z:j=i
     ·subst z
      rw [q] at e1;cases e1
      subst h6
      exact ⟨_,h1,Rep.hz upd_same h7 (h5.mono sf)⟩
     ·obtain ⟨v,w1,w2⟩:=r.slot j d e1 fun w=>hj (mem_dl.mpr ⟨w,z⟩)
      exact ⟨v,w1,w2.mono sf⟩
    ·obtain ⟨w1,w2⟩:=mem_dl.mp hj
     obtain ⟨p',k2',ys,es,k1,k2,k3,k4,k5,k6⟩:=r.own j d e1 w1
     have ne:p'≠p:=fun z:p'=p=>w2 (r.dis j i p _ _ w1 hi e1 q (by rw [<- z];exact k1) h1)
     refine ⟨p',k2',ys,es,k1,k2,?_,?_,k5.mono sf,k6⟩
     ·rw [upd_ne ne];exact k3
     ·rw [upd_ne ne];exact k4
 ·exact none_ fun _ _=>hi
theorem RS.put' {K:Fg} {H₀:Hp} {F0:Fz} {F H:Hp} {σ:L2.St} {en:EnvD} (i:Nat) {v:V} {d:D} (r:RS K H₀ F0 F H σ en O) (h:Rep K F v d) (hq:pinN i∉O):RS K H₀ F0 F H (σ.set i (some v)) (en.set i (some d)) (dl i O):=by
 by_cases hi:i<en.length
 ·exact r.put h hi hq
 ·have e1:en.set i (some d)=en:=List.set_eq_of_length_le (by omega)
  have e2:σ.set i (some v)=σ:=List.set_eq_of_length_le (by rw [r.len];omega)
  rw [e1,e2]
  refine ⟨r.fh,r.hh,r.ff,r.fr,fun j d f1 hj=>?_,fun j d f1 hj=>r.own j d f1 (mem_dl.mp hj).1,fun j k p d1 d2 hj hk=>r.dis j k p d1 d2 (mem_dl.mp hj).1 (mem_dl.mp hk).1,fun j hj=>r.pin j (mem_dl.mp hj).1,r.len⟩
  have:j≠i:=fun z=>by
   rw [z,List.getElem?_eq_none (by omega)] at f1
   cases f1
  exact r.slot j d f1 fun w=>hj (mem_dl.mpr ⟨w,this⟩)
theorem RS.putO' {K:Fg} {H₀:Hp} {F0:Fz} {F H:Hp} {σ:L2.St} {en:EnvD} (i:Nat) {p:Addr} {kk:Option (List Kd)} {xs:List V} {ds:List D} (r:RS K H₀ F0 F H σ en O) (h0:F0.h p=none) (hf:F p=none) (hp:H p=some (ho kk xs)) (hk:HoOk kk xs) (hr:Reps K F xs ds)
  (hn:∀ j d,j∈O->en[j]?=some (some d)->j≠i->σ[j]?≠some (some (.ref p))) (hq:pinN i∉O) (hiq:∀ j,i≠pinN j):RS K H₀ F0 F H (σ.set i (some (.ref p))) (en.set i (some (dOf kk ds))) (ad i O):=by
 by_cases hi:i<en.length
 ·exact r.putO h0 hf hp hk hr hi hq hiq hn
 ·have e1:en.set i (some (dOf kk ds))=en:=List.set_eq_of_length_le (by omega)
  have e2:σ.set i (some (V.ref p))=σ:=List.set_eq_of_length_le (by rw [r.len];omega)
  have n1:en[i]?=none:=List.getElem?_eq_none (by omega)
  have n2:σ[i]?=none:=List.getElem?_eq_none (by rw [r.len];omega)
  rw [e1,e2]
  refine ⟨r.fh,r.hh,r.ff,r.fr,fun j d f1 hj=>r.slot j d f1 fun w=>hj (mem_ad.mpr (.inr w)),fun j d f1 hj=>?_,fun j k q d1 d2 hj hk g1 g2 f1 f2=>?_,fun j hj=>?_,r.len⟩
  ·rcases mem_ad.mp hj with z | z
   ·rw [z,n1] at f1;cases f1
   ·exact r.own j d f1 z
  ·rcases mem_ad.mp hj with z | z
   ·rw [z,n2] at f1;cases f1
   ·rcases mem_ad.mp hk with z2 | z2
    ·rw [z2,n2] at f2;cases f2
    ·exact r.dis j k q d1 d2 z z2 g1 g2 f1 f2
  ·rcases mem_ad.mp hj with z | h1
   ·exact absurd z.symm (hiq j)
   ·exact r.pin j h1
theorem ho_hz {X:Cx} {pins:List (Addr×Obj)} {σ:L2.St} {H:Hp} {s:Shared} (I:Inv X pins σ H s) {p:Addr} {kk:Option (List Kd)} {xs:List V} (h:H p=some (ho kk xs)):Inv X pins σ (upd H p (hz ((s.heap.get? p).getD default) kk xs)) s:=by
 cases kk with
 | none =>
  have e:upd H p (hz ((s.heap.get? p).getD default) none xs)=H:=by
   funext b
   by_cases z:b=p
   ·subst z;rw [upd_same];exact h.symm
   ·rw [upd_ne z]
  rw [e];exact I
 | some ks =>
  have h':H p=some (.dK (ks.zip xs)):=h
  have ok:ObjOk X.prog X.w H s.heap p (.dK (ks.zip xs)):=I.hok p _ h'
  obtain ⟨z1,z2,vs,rel,o,es,ep,ho,rest⟩:=ok
  rw [ho]
  show Inv X pins σ (upd H p (.frz o (.dK (ks.zip xs)))) s
  have ne:∀ {b:Addr} {u:HO},H b=some u->(∀ kvs,u≠.dK kvs)->b≠p:=fun e n z=>by rw [z,h'] at e;cases e;exact n _ rfl
  have I2:=I.step (h':=s.heap) (H':=upd H p (.frz o (.dK (ks.zip xs)))) (g':=s.gens) (d':=s.drawn) (t':=s.toks) (ch:=[]) (fun b hb=>by cases hb) (fun b o _ _ _ e _=>e) (fun b o _ _ _ e _=>⟨o.slots,e⟩) (fun b o _ e n=>by rw [upd_ne (fun z=>by rw [z,h'] at n;cases n)];exact n)
   (fun b o _ e=>⟨o,e⟩) (fun b xs e=>by rw [upd_ne (ne e (fun _ z=>nomatch z))];exact e) (fun b xs u e=>by rw [upd_ne (ne e (fun _ z=>nomatch z))];exact e) (fun b ps e=>⟨#[],by rw [upd_ne (ne e (fun _ z=>nomatch z)),e];simp⟩) (fun m hm=>hm) (fun b u e=>?_) I.bare
  ·exact I2
  ·by_cases hb:b=p
   ·subst hb
    rw [upd_same] at e
    cases e
    exact ⟨ho,z1,z2,vs,rel,o,es,ep,ho,rest⟩
   ·rw [upd_ne hb] at e
    exact (I.hok b u e).stay (fun c v _ q=>q) (fun c q=>by rw [upd_ne (ne q (fun _ z=>nomatch z))];exact q) fun c xs q=>by rw [upd_ne (ne q (fun _ z=>nomatch z))];exact q
theorem relI {X:Cx} {pins:List (Addr×Obj)} {F0:Fz} {F H:Hp} {σ:L2.St} {en:EnvD} {s:Shared} (i:Nat) (I:Inv X pins σ H s) (r:RS X.K X.H₀ F0 F H σ en O):∃ F' H',Inv X pins σ H' s/\Sm F F'/\RS X.K X.H₀ F0 F' H' σ en (dl i O):=by
 obtain ⟨F',H',sf,r',h⟩:=r.rel (fun p=>(s.heap.get? p).getD default) i
 refine ⟨F',H',?_,sf,r'⟩
 rcases h with h | ⟨p,kk,xs,hp,h⟩
 ·rw [h];exact I
 ·rw [h];exact ho_hz I hp
theorem dss_rel (i:Nat) {b:EvS} {sts:List Stmt} (h:PSs X sts (tS X (dl i O) O' OL w b)):PSs X sts (tS X O O' OL w b):=by
 rintro pins s σ H D I ⟨F0,F,en,fl,rs,z,k⟩
 obtain ⟨F',H',I',sf,rs'⟩:=relI i I rs
 exact h pins s σ H' D I' ⟨F0,F',en,fl,rs',z,k.mono sf⟩
theorem dss_relE (i:Nat) (O1:List Nat) {b:EvS} {sts:List Stmt} (h:PSs X sts (tS X O O1 OL w b)) (e:O'=dl i O1:=by rfl):PSs X sts (tS X O O' OL w b):=by
 subst e
 rintro pins s σ H D I ⟨F0,F,en,fl,rs,z,k⟩
 refine thn (h pins s σ H { D with nx:=fun σ' H'=>∃ F' e',fl=.nx e'/\Sm F F'/\RS X.K X.H₀ F0 F' H' σ' e' O1 } I ⟨F0,F,en,fl,rs,z,?_⟩) fun f s' sp=>?_
 ·cases fl with
  | nx e=>exact fun σ' F' H' s r=>⟨F',e,rfl,s,r⟩
  | bk e=>exact k
  | ct e=>exact k
  | rt d=>exact k
 ·cases f with
  | next =>
   obtain ⟨σ',H',I',F',e',rfl,s1,r⟩:=sp
   obtain ⟨F2,H2,I2,s2,r2⟩:=relI i I' r
   exact ⟨σ',H2,I2,k σ' F2 H2 (s1.trans s2) r2⟩
  | _=>exact sp
end
end Wd
namespace Wd
open PySem PySem.Spec PyProof.Rows L2
section
variable {X:Cx} {O O1 O2 O' OL:List Nat} {w:Bool} {st:Stmt} {rest:List Stmt} {e:Expr} {pos:Pos}
def tG (X:Cx) (O O':List Nat) (g:EvG):TG:=fun v σ H Q=>∃ F0 F en d e',RS X.K X.H₀ F0 F H σ en O/\Rep X.K F v d/\g d en=some e'/\∀ σ' H' F',Gr F H F' H'->RS X.K X.H₀ F0 F' H' σ' e' O'->Q σ' H'
def tGs (X:Cx) (O O':List Nat) (gs:List EvG):TGs:=fun vs σ H Q=>∃ F0 F en ds e',RS X.K X.H₀ F0 F H σ en O/\Reps X.K F vs ds/\gAll gs ds en=some e'/\∀ σ' H' F',Gr F H F' H'->RS X.K X.H₀ F0 F' H' σ' e' O'->Q σ' H'
theorem PG.imp {t t':TG} (h:PG X e t) (q:∀ v σ H Q,t' v σ H Q->t v σ H Q):PG X e t':=fun pins s σ H v u Q I r z=>h pins s σ H v u Q I r (q v σ H Q z)
theorem PGs.imp {es:List Expr} {t t':TGs} (h:PGs X es t) (q:∀ v σ H Q,t' v σ H Q->t v σ H Q):PGs X es t':=fun pins s σ H v u Q I r z=>h pins s σ H v u Q I r (q v σ H Q z)
theorem dg_name (i:Nat) {x:Str} (hN:X.N.Nodup) (hi:X.N[i]?=some x:=by rfl) (hx:Loc X.env.scope x:=by first | exact Or.inl rfl | exact Or.inr rfl) (hf:X.fn x=true\/X.env.scope.names.lookup x=some .local:=by first | exact .inl rfl | exact .inr rfl) (hq:pinN i∉O:=by decide):PG X (.Name x pos) (tG X O (dl i O) (gS i)) :=
 PG.imp (pg_name hN hi hx hf) fun v σ H Q ⟨F0,F,en,d,e',rs,r,z,k⟩=>by
  cases z
  exact k _ H F (.refl rs.fh) (rs.put' i r hq)
theorem dgs_nil:PGs X [] (tGs X O O []):=PGs.imp pgs_nil fun vs σ H Q ⟨F0,F,en,ds,e',rs,r,z,k⟩=>by
 cases r with
 | nil=>cases z;exact ⟨rfl,k σ H F (.refl rs.fh) rs⟩
 | cons h r=>simp [gAll] at z
theorem dgs_cons {es:List Expr} {g:EvG} {gs:List EvG} (h1:PG X e (tG X O O1 g)) (h2:PGs X es (tGs X O1 O' gs)) (hs:(assignEach (e::es) X.env).map (·.2)=assign e X.env::(assignEach es X.env).map (·.2):=by rfl):PGs X (e::es) (tGs X O O' (g::gs)) :=
 PGs.imp (pgs_cons h1 h2 hs) fun vs σ H Q ⟨F0,F,en,ds,e',rs,r,z,k⟩=>by
  cases r with
  | nil=>simp [gAll] at z
  | @cons x d xs ds h r =>
   have z':((g d en).bind fun e'=>gAll gs ds e')=some e':=z
   obtain ⟨e1,q1,q2⟩:=bind1 z'
   refine ⟨x,xs,rfl,F0,F,en,d,e1,rs,h,q1,fun σ' H' F' s rs'=>?_⟩
   exact ⟨F0,F',e1,ds,e',rs',r.mono s.ff,q2,fun σ2 H2 F2 s2 rs2=>k σ2 H2 F2 (s.trans s2) rs2⟩
theorem dg_tup {es:List Expr} {k0:Nat} {gs:List EvG} (hc:X.calm=true) (h:PGs X es (tGs X O O' gs)) (hl:gs.length=es.length) (hn:(assignEach es X.env).length=es.length:=by rfl) (hst:(assignEach es X.env).findIdx? (·.1)=none:=by rfl):PG X (.Tuple es k0 pos) (tG X O O' (gUnp gs)) :=
 PG.imp (pg_tup hc h hn hst) fun v σ H Q ⟨F0,F,en,d,e',rs,r,z,k⟩=>by
  cases r with
  | @tup a xs ds h r =>
   have z':gAll gs ds en=some e':=z
   have len:∀ (gs:List EvG) (ds:List D) (en e':EnvD),gAll gs ds en=some e'->ds.length=gs.length:=by
    intro gs
    induction gs with
    | nil=>intro ds en e' h;cases ds with
     | nil=>rfl
     | cons _ _=>simp [gAll] at h
    | cons g gs ih=>intro ds en e' h;cases ds with
     | nil=>simp [gAll] at h
     | cons d ds =>
      have h':((g d en).bind fun e'=>gAll gs ds e')=some e':=h
      obtain ⟨e1,_,q2⟩:=bind1 h'
      rw [List.length_cons,List.length_cons,ih ds e1 e' q2]
   exact ⟨a,xs,rfl,SqT.of (rs.fh _ _ h),by rw [r.length,len gs ds en e' z',hl],F0,F,en,ds,e',rs,r,z',k⟩
  | _=>cases z
theorem asg_t {ev:EvE} {g:EvG} {Dn:Ends} {σ:L2.St} {H:Hp} (h:tS X O O' OL w (sAsg ev g) Dn σ H):tAsg (tD X O ev) (tG X O O' g) Dn σ H:=by
 obtain ⟨F0,F,en,fl,rs,z,k⟩:=h
 obtain ⟨d,e1,e2⟩:=bind1 z
 obtain ⟨e',e3,rfl⟩:=map1 e2
 refine ⟨F0,F,en,d,rs,e1,fun v F1 H1 g1 r1=>?_⟩
 exact ⟨F0,F1,en,d,e',rs.grow g1,r1,e3,fun σ' H' F' s rs'=>k σ' F' H' (g1.ff.trans s.ff) rs'⟩
theorem ds_asg {tg:Expr} {ev:EvE} {g:EvG} (he:PE X e (tD X O ev)) (hg:PG X tg (tG X O O' g)) (hs:swapsWithSole [tg] e pos.line X.env=pure false:=by rfl) (hw:swappedStores [tg] e X.env=pure none:=by rfl)
  (h1:(assignEach [tg] X.env).map (·.2)=[assign tg X.env]:=by rfl):PS X (.Assign [tg] e pos) (tS X O O' OL w (sAsg ev g)):=PS.imp (ps_asg he hg hs hw h1) fun Dn σ H h=>asg_t h
theorem ds_set (i:Nat) {x:Str} {p:Pos} {ev:EvE} (hN:X.N.Nodup) (he:PE X e (tD X O ev)) (hi:X.N[i]?=some x:=by rfl) (hx:Loc X.env.scope x:=by first | exact Or.inl rfl | exact Or.inr rfl) (hs:swapsWith e (some (.Name x p)) pos.line X.env=pure false:=by rfl)
  (hf:X.fn x=true\/X.env.scope.names.lookup x=some .local:=by first | exact .inl rfl | exact .inr rfl) (hq:pinN i∉O:=by decide):PS X (.Assign [.Name x p] e pos) (tS X O (dl i O) OL w (sAsg ev (gS i))) :=
 PS.imp (ps_set hN hi hx he hs hf) fun Dn σ H ⟨F0,F,en,fl,rs,z,k⟩=>by
  obtain ⟨d,e1,e2⟩:=bind1 z
  obtain ⟨e',e3,rfl⟩:=map1 e2
  cases e3
  exact ⟨F0,F,en,d,rs,e1,fun v F1 H1 g1 r1=>k _ F1 H1 g1.ff ((rs.grow g1).put' i r1 hq)⟩
theorem ds_setO (i:Nat) {x:Str} {p:Pos} {ev:EvE} (hN:X.N.Nodup) (he:PE X e (tO X O ev)) (hi:X.N[i]?=some x:=by rfl) (hx:Loc X.env.scope x:=by first | exact Or.inl rfl | exact Or.inr rfl) (hs:swapsWith e (some (.Name x p)) pos.line X.env=pure false:=by rfl)
  (hf:X.fn x=true\/X.env.scope.names.lookup x=some .local:=by first | exact .inl rfl | exact .inr rfl) (hq:pinN i∉O:=by decide) (hil:i<1000:=by decide):PS X (.Assign [.Name x p] e pos) (tS X O (ad i O) OL w (sAsg ev (gS i))) :=
 PS.imp (ps_set hN hi hx he hs hf) fun Dn σ H ⟨F0,F,en,fl,rs,z,k⟩=>by
  obtain ⟨d,e1,e2⟩:=bind1 z
  obtain ⟨e',e3,rfl⟩:=map1 e2
  cases e3
  refine ⟨F0,F,en,d,rs,e1,fun p kk xs ds F1 H1 g1 n1 n2 h r e4 hk=>?_⟩
  subst e4
  refine k _ F1 H1 g1.ff ((rs.grow g1).putO' i (rs.hh.none n1) n2 h hk r (fun j d' hj q2 _ q=>?_) hq (fun j z=>by unfold pinN at z;omega))
  obtain ⟨p',_,ys,es,h1,_,_,h4,_⟩:=rs.own j d' q2 hj
  rw [h1] at q
  cases q
  rw [n1] at h4
  cases h4
end
end Wd
namespace Wd
open PySem PySem.Spec PyProof.Rows L2
section
variable {X:Cx} {O O1 O2 O' OL:List Nat} {w:Bool} {st:Stmt} {rest:List Stmt} {e a:Expr} {pos:Pos}
theorem ip_addD:PIp X .Add (fun x y H Q=>(rI0 fun i j=>.int (i+j)) x y H Q\/∃ i j,x=.str i/\y=.str j/\i.length+j.length<=sizeLine/\Q (.str (i++j)) H) /\
  Op2 X (fun x y H Q=>(rI0 fun i j=>.int (i+j)) x y H Q\/∃ i j,x=.str i/\y=.str j/\i.length+j.length<=sizeLine/\Q (.str (i++j)) H) D.addI:=by
 refine ⟨OpR.or iop_add iop_add_str,fun F H x y dx dy d Q s rx ry e k=>?_⟩
 cases dx<;>cases dy<;>try (simp [D.addI] at e;done)
 case int.int i j =>
  cases e
  exact .inl ⟨i,j,rx.int,ry.int,k _ F H (.refl s) (.int _)⟩
 case str.str i j =>
  simp only [D.addI] at e
  split at e
  ·rename_i hz
   cases e
   exact .inr ⟨i,j,rx.str,ry.str,by rw [sizeN];exact hz,k _ F H (.refl s) (.str _)⟩
  ·cases e
theorem ip_subD:PIp X .Sub (rI0 fun i j=>.int (i-j))/\Op2 X (rI0 fun i j=>.int (i-j)) D.sub :=
 ⟨iop_sub,ints20 (fd:=fun i j=>.int (i-j)) (fun dx dy d e=>by cases dx<;>cases dy<;>simp [D.sub] at e ⊢) (fun i j d e=>by cases e;rfl) fun _ _ _ _=>.int _⟩
theorem ds_aug (i:Nat) {x:Str} {p:Pos} {op:Operator} {r:R2} {g:D->D->Option D} {ev:EvE} (hN:X.N.Nodup) (hO:i∉O) (he:PE X e (tR X O ev)) (ho:PIp X op r/\Op2 X r g) (hi:X.N[i]?=some x:=by rfl) (hx:Loc X.env.scope x:=by first | exact Or.inl rfl | exact Or.inr rfl)
  (hf:X.fn x=true\/X.env.scope.names.lookup x=some .local:=by first | exact .inl rfl | exact .inr rfl) (hq:pinN i∉O:=by decide):PS X (.AugAssign (.Name x p) op e pos) (tS X O (dl i O) OL w (sAug i g ev)) :=
 PS.imp (ps_aug hN hi hx he ho.1 hf) fun Dn σ H ⟨F0,F,en,fl,rs,z,k⟩=>by
  obtain ⟨dx,dy,e1,e2,e3⟩:=bind2 z
  obtain ⟨dz,e4,rfl⟩:=map1 e3
  obtain ⟨v,h1,h2⟩:=rs.slot i dx (eVar_at e1) hO
  refine ⟨v,h1,F0,F,en,dy,rs,e2,fun y F1 H1 g1 r1=>?_⟩
  exact ho.2 F1 H1 v y dx dy dz _ g1.fh (.inl (h2.mono g1.ff)) r1 e4 fun u F2 H2 g2 r2=>k _ F2 H2 (g1.ff.trans g2.ff) ((rs.grow (g1.trans g2)).put' i r2 hq)
theorem ds_app (i:Nat) (hi:i∈O) {x:Str} {p apos cpos:Pos} {ev:EvE} (he:PE X e (tD X O ev)) (hN:X.N[i]?=some x:=by rfl) (hv:Vis X.env.scope x:=by first | exact Or.inl rfl | exact Or.inr (Or.inl rfl) | exact Or.inr (Or.inr rfl)) (hd:(x==("__debug__":Str))=false:=by decide) (hcd:(x==("__classdict__":Str))=false:=by decide)
  (hbase:attributeBase (.Name x p) "append" X.env (eval (.Name x p) X.env)=eval (.Name x p) X.env:=by rfl) (hline:(apos.endLine==cpos.line)=true:=by rfl) (hs:starEach [e] X.env=[(false,eval e X.env)]:=by rfl)
  (hfew:((backTo cpos (starEach [e] X.env)).all (fun x=>!x.1)&&(backToKw cpos (keywordEach [] X.env)).all (fun x=>x.1.isSome)&&decide ([e].length+([]:List Keyword).length+(if ([]:List Keyword).isEmpty then 0 else 1)<30))=true:=by rfl)
  (hsw:swapsWith (.Call (.Attribute (.Name x p) "append" apos) [e] [] cpos) none pos.line X.env=pure false:=by rfl) :
  PS X (.Expr (.Call (.Attribute (.Name x p) "append" apos) [e] [] cpos) pos) (tS X O O OL w (sP i ev)) :=
 PS.imp (ps_expr (pe_bm PySem.F.plainAttrs_list PySem.F.slot_list_append PySem.F.type_list_append mt_append (pe_var hN hv hd hcd) (pa_cons he pa_nil hs) hbase hfew hline hs rfl) hsw) fun Dn σ H ⟨F0,F,en,fl,rs,z,k⟩=>by
  obtain ⟨dx,dy,e1,e2,e3⟩:=bind2 z
  obtain ⟨dz,e4,rfl⟩:=map1 e3
  obtain ⟨q,kk,xs,ds,h1,h2,h3,h4,h5,h6,h7⟩:=rs.own i dx (eVar_at e1) hi
  subst h6
  cases kk with
  | some ks=>cases e4
  | none =>
  simp only [ho,dOf] at h4 e4 e1
  refine ⟨_,h1,.inl ⟨rfl,xs,SqL.of h4⟩,F0,F,en,dy,rs,e2,fun y F1 H1 g1 r1=>?_⟩
  simp only [D.app] at e4
  split at e4
  ·rename_i hz
   cases e4
   have rs1:=rs.grow g1
   obtain ⟨q',kk',xs',ds',k1,k2,k3,k4,k5,k6,k7⟩:=rs1.own i _ (eVar_at e1) hi
   rw [h1] at k1
   cases k1
   cases kk' with
   | some ks=>cases k6
   | none =>
   cases k6
   simp only [ho] at k4
   have hx:xs'=xs:=by
    have:=g1.hh _ _ h4
    rw [k4] at this
    cases this;rfl
   subst hx
   refine ⟨q,xs',y,rfl,rfl,k4,?_,?_⟩
   ·rw [sizeN,k5.length];exact hz
   ·exact k _ F1 _ g1.ff (rs1.write (kk:=none) hi (eVar_at e1) h1 k2 k3 trivial (k5.append (.cons r1 .nil)))
  ·cases e4
theorem ds_ext (i:Nat) (hi:i∈O) {x:Str} {p apos cpos:Pos} {ev:EvE} (he:PE X e (tR X O ev)) (hN:X.N[i]?=some x:=by rfl) (hv:Vis X.env.scope x:=by first | exact Or.inl rfl | exact Or.inr (Or.inl rfl) | exact Or.inr (Or.inr rfl)) (hd:(x==("__debug__":Str))=false:=by decide) (hcd:(x==("__classdict__":Str))=false:=by decide)
  (hbase:attributeBase (.Name x p) "extend" X.env (eval (.Name x p) X.env)=eval (.Name x p) X.env:=by rfl) (hline:(apos.endLine==cpos.line)=true:=by rfl) (hs:starEach [e] X.env=[(false,eval e X.env)]:=by rfl)
  (hfew:((backTo cpos (starEach [e] X.env)).all (fun x=>!x.1)&&(backToKw cpos (keywordEach [] X.env)).all (fun x=>x.1.isSome)&&decide ([e].length+([]:List Keyword).length+(if ([]:List Keyword).isEmpty then 0 else 1)<30))=true:=by rfl)
  (hsw:swapsWith (.Call (.Attribute (.Name x p) "extend" apos) [e] [] cpos) none pos.line X.env=pure false:=by rfl) :
  PS X (.Expr (.Call (.Attribute (.Name x p) "extend" apos) [e] [] cpos) pos) (tS X O O OL w (sExt i ev)) :=
 PS.imp (ps_expr (pe_bm PySem.F.plainAttrs_list PySem.F.slot_list_extend PySem.F.type_list_extend mt_extend (pe_var hN hv hd hcd) (pa1R he hs) hbase hfew hline hs rfl) hsw) fun Dn σ H ⟨F0,F,en,fl,rs,z,k⟩=>by
  obtain ⟨dx,dy,e1,e2,e3⟩:=bind2 z
  obtain ⟨dz,e4,rfl⟩:=map1 e3
  obtain ⟨q,kk,xs,ds,h1,h2,h3,h4,h5,h6,h7⟩:=rs.own i dx (eVar_at e1) hi
  subst h6
  cases kk with
  | some ks=>cases e4
  | none =>
  simp only [ho,dOf] at h4 e4 e1
  refine ⟨_,h1,.inl ⟨rfl,xs,SqL.of h4⟩,F0,F,en,dy,rs,e2,fun y F1 H1 g1 r1=>?_⟩
  cases dy with
  | lst es =>
   simp only [D.ext] at e4
   split at e4
   ·rename_i hz
    cases e4
    obtain ⟨q2,ys,rfl,m1,m2⟩:=r1.lst g1.fh
    have rs1:=rs.grow g1
    obtain ⟨q',kk',xs',ds',k1,k2,k3,k4,k5,k6,k7⟩:=rs1.own i _ (eVar_at e1) hi
    rw [h1] at k1
    cases k1
    cases kk' with
    | some ks=>cases k6
    | none =>
    cases k6
    simp only [ho] at k4
    have hx:xs'=xs:=by
     have:=g1.hh _ _ h4
     rw [k4] at this
     cases this;rfl
    subst hx
    refine ⟨q,q2,xs',ys,rfl,rfl,k4,m1,?_,?_⟩
    ·rw [sizeN,k5.length,m2.length];exact hz
    ·exact k _ F1 _ g1.ff (rs1.write (kk:=none) hi (eVar_at e1) h1 k2 k3 trivial (k5.append m2))
   ·cases e4
  | _=>cases e4
end
def spD (K:Fg) (f:List D->Option D):Sp:=fun vs H Q _=>∃ F ds d,Sm F H/\Reps K F vs ds/\f ds=some d/\∀ v F' H',Gr F H F' H'->Rep K F' v d->Q v H'
def Cal (P:Program) (w:World) (K:Fg) (mg:Str->Option Value) (base:Heap) (k:Nat) (x:Str) (ps:List Str) (sp:Sp):Prop :=
 ∃ f fd,FnOk P w K mg base CX0 k f fd ps sp/\Binds K fd ps []/\PySem.W.keepIn K (.ref f)=true/\mg x=some (.ref f)
def Df (K:Fg) (mg:Str->Option Value) (x:Str) (st:Stmt) (ps:List Str):Prop:=∃ f fd,Fun K x x st f fd/\Binds K fd ps []/\mg x=some (.ref f)
section
variable {X:Cx} {O:List Nat} {e:Expr} {es:List Expr} {p pos:Pos} {x:Str} {ps:List Str} {k:Nat}
theorem de_callC {f:List D->Option D} {l:EvL} (c:Cal X.prog X.w X.K X.mg X.base k x ps (spD X.K f)) (hr:Room k X.A) (hg:Gl X x) (ha:PA X (e::es) (tL X O l)) (hdb:(x==("__debug__":Str))=false:=by decide) (he:starEach (e::es) X.env=(false,eval e X.env)::starEach es X.env:=by rfl)
  (hpl:(backTo pos (starEach es X.env)).any (·.1)=false:=by rfl):PE X (.Call (.Name x p) (e::es) [] pos) (tD X O (eK f l)):=by
 obtain ⟨fa,fd,F,hb,hk,hm⟩:=c
 refine PE.imp (pe_call F hr hg hm hk hb (.nil:Vals [] []) pass0 ha hdb he hpl) fun σ H Q ⟨F0,F,en,d,rs,z,k⟩=>?_
 obtain ⟨ds,e1,e2⟩:=bind1 z
 refine ⟨F0,F,en,ds,rs,e1,fun vs F1 H1 g1 r1=>⟨F1,ds,d,g1.fh,?_,e2,fun v F' H' g r=>k v F' H' (g1.trans g) r⟩⟩
 rw [List.append_nil];exact r1
theorem de_ofO {ev:EvE} (h:PE X e (tO X O ev)):PE X e (tD X O ev):=by
 rintro pins s σ H Q I ⟨F0,F,en,d,rs,z,k⟩
 refine thn (h pins s σ H (fun x H'=>∃ p kk xs ds F',x=.ref p/\Gr F H F' H'/\H p=none/\F' p=none/\H' p=some (ho kk xs)/\Reps X.K F' xs ds/\d=dOf kk ds/\HoOk kk xs) I ⟨F0,F,en,d,rs,z,fun p kk xs ds F' H' g n1 n2 hp r e3 hk=>⟨p,kk,xs,ds,F',rfl,g,n1,n2,hp,r,e3,hk⟩⟩)
  fun v s1 ⟨x,H1,I1,r1,p,kk,xs,ds,F',hx,g,n1,n2,hp,r,e3,hk⟩=>?_
 subst hx e3
 have s2:Sm F' (upd F' p (hz ((s1.heap.get? p).getD default) kk xs)):=(Sm.refl F').upd _ n2
 refine ⟨.ref p,_,ho_hz I1 hp,r1,k _ (upd F' p (hz ((s1.heap.get? p).getD default) kk xs)) _ ⟨g.ff.trans s2,fun a o q=>?_,fun a o q=>?_,fun a o q=>?_⟩ (Rep.hz upd_same hk (r.mono s2))⟩
 ·rw [upd_ne (fun w:a=p=>by rw [w,n1] at q;cases q)];exact g.hh a o q
 ·by_cases w:a=p
  ·subst w;rw [upd_same] at q ⊢;exact q
  ·rw [upd_ne w] at q ⊢;exact g.fh a o q
 ·by_cases w:a=p
  ·subst w;exact .inr n1
  ·rw [upd_ne w] at q;exact g.fr a o q
end
section
variable {P:Program} {w:World} {K:Fg} {mg:Str->Option Value} {base:Heap} {x:Str} {st:Stmt} {N ps:List Str} {k:Nat} {b:EvS}
theorem rs_start {F H:Hp} {vs:List V} {ds:List D} (n:Nat) (s:Sm F H) (r:Reps K F vs ds):RS K H ⟨F,H,none⟩ F H (vs.map some++List.replicate (n-vs.length) none) (sD n ds) [] where
 fh:=s
 hh:=.refl H
 ff:=.refl F
 fr:=fun _ _ h=>.inl h
 slot:=fun i d h _=>by
  unfold sD at h
  rcases Nat.lt_or_ge i ds.length with hi | hi
  ·rw [List.getElem?_append_left (by rw [List.length_map];exact hi),List.getElem?_map,List.getElem?_eq_getElem hi] at h
   have hd:ds[i]?=some d:=by rw [List.getElem?_eq_getElem hi];simpa using h
   obtain ⟨v,h1,h2⟩:=r.get hd
   refine ⟨v,?_,h2⟩
   rw [List.getElem?_append_left (by rw [List.length_map,r.length];exact hi),List.getElem?_map,h1];rfl
  ·rw [List.getElem?_append_right (by rw [List.length_map];exact hi),List.getElem?_replicate] at h
   split at h<;>cases h
 own:=fun i d _ h=>by cases h
 dis:=fun i j p _ _ h=>by cases h
 pin:=fun i h=>by cases h
 len:=by unfold sD;simp [r.length]
theorem okC (h:Df K mg x st ps) (S:FnScope N ps (defScope st)) {O' OL:List Nat}
  (hb:∀ (f:Addr) (cdv:Value) (A:Around) (outer:List Env) (s:Shared) (H:Hp) (E:XK),Room k (A.deeper (envOfC x (defScope st) s.heap.objs.size f cdv))->PSs (cxOf CX0 P w K mg base N x (defScope st) f cdv A outer s H E).nox (defBody st) (tS (cxOf CX0 P w K mg base N x (defScope st) f cdv A outer s H E).nox [] O' OL false b)) :
  Cal P w K mg base (k+1) x ps (spD K (defD N.length ps.length b)):=by
 obtain ⟨f,fd,F,hbd,hm⟩:=h
 refine ⟨f,fd,F.ok S (fun vs H Q E ⟨F,ds,d,s,r,e,_⟩=>?_) (fun cdv A outer s H vs Q E hr ⟨Fz,ds,d,sm,r,e,k⟩=>?_),hbd,F.kp,hm⟩
 ·unfold defD at e
  split at e
  ·rename_i z;rw [r.length];exact z
  ·cases e
 ·refine ⟨_,hb f cdv A outer s H E hr,?_⟩
  unfold defD at e
  split at e
  ·rename_i z
   have e':endD (b (sD N.length ds))=some d:=e
   cases q:b (sD N.length ds) with
   | none=>rw [q] at e';cases e'
   | some fl =>
    rw [q] at e'
    have hst:start N vs=vs.map some++List.replicate (N.length-vs.length) none:=rfl
    rw [hst]
    refine ⟨⟨Fz,H,none⟩,Fz,sD N.length ds,fl,rs_start N.length sm r,q,?_⟩
    cases fl with
    | nx en=>cases e';exact fun σ' F' H' s' rs=>k .non F' H' rs.ex.gr .non
    | rt d'=>cases e';exact fun v F' H' x r=>k v F' H' x.gr r
    | bk en=>cases e'
    | ct en=>cases e'
  ·cases e
end
structure ItOk (K:Fg) (F:Hp) (J:It) (ds:List D):Prop where
 go:∀ i F' H',Sm F F'->Sm F' H'->i<ds.length->J.go i H'
 yld:∀ i F' H' x H2,Sm F F'->Sm F' H'->i<ds.length->J.yld i H' x H2->∃ F2 d,Gr F' H' F2 H2/\ds[i]?=some d/\Rep K F2 x d
 stop:∀ i F' H',Sm F F'->Sm F' H'->ds.length<=i->J.stop i H'
def tI (X:Cx) (O:List Nat) (it:EvI):TI:=fun σ H R=>∃ F0 F e ds,RS X.K X.H₀ F0 F H σ e O/\it e=some ds/\∀ F' H' J,Gr F H F' H'->ItOk X.K F' J ds->R J H'
section
variable {X:Cx} {O OL:List Nat} {w:Bool} {tg iter:Expr} {body:List Stmt} {pos:Pos}
theorem PI.imp {t t':TI} (h:PI X tg iter t) (q:∀ σ H R,t' σ H R->t σ H R):PI X tg iter t':=fun pins s σ H R I z=>h pins s σ H R I (q σ H R z)
theorem turn_some {o:Option Fl} {k:EvS} {fl:Fl} (h:turnO o k=some fl):∃ f,o=some f/\turnO (some f) k=some fl:=by
 cases o with
 | none=>cases h
 | some f=>exact ⟨f,rfl,h⟩
theorem ds_for {it:EvI} {g:EvG} {b:EvS} (hc:X.calm=true) (hp:PassesOwn (model X.prog X.w) X.A X.env X.xe) (hi:PI X tg iter (tI X O it)) (hg:PG X tg (tG X O O g)) (hb:PSs X body (tS X O O O w b)) (hs:∀ x,foldedSetIterable iter X.env x=pure x:=by intro _;rfl) :
  PS X (.For tg iter body [] pos) (tS X O O OL w (sFor it g b)) :=
 PS.imp (ps_for hp hc hi hg hb hs) fun Dn σ H ⟨F0,F,en,fl,rs,z,k⟩=>by
  obtain ⟨ds,e1,e2⟩:=bind1 z
  refine ⟨F0,F,en,ds,rs,e1,fun F1 H1 J g1 io=>?_⟩
  refine ⟨fun i m σ' H'=>m=ds.length-i/\i<=ds.length/\∃ F' en',Sm F1 F'/\RS X.K X.H₀ F0 F' H' σ' en' O/\loopD g b (ds.drop i) en'=some fl,⟨ds.length,by omega,by omega,F1,en,.refl F1,rs.grow g1,by rw [List.drop_zero];exact e2⟩,?_⟩
  rintro i m σ' H' ⟨rfl,hle,F',en',s',rs',e3⟩
  rcases Nat.lt_or_ge i ds.length with hi | hi
  ·refine .inr ⟨io.go i F' H' s' rs'.fh hi,fun σ2 H2=>∃ m',m'<ds.length-i/\m'=ds.length-(i+1)/\i+1<=ds.length/\∃ F' en',Sm F1 F'/\RS X.K X.H₀ F0 F' H2 σ2 en' O/\loopD g b (ds.drop (i+1)) en'=some fl,
    fun σ2 H2 ⟨m',h1,h2⟩=>⟨m',h1,h2⟩,fun x H2 hy=>?_⟩
   obtain ⟨F2,d,g2,hd,r2⟩:=io.yld i F' H' x H2 s' rs'.fh hi hy
   have hdr:ds.drop i=d::ds.drop (i+1):=by
    rw [List.drop_eq_getElem_cons hi]
    rw [List.getElem?_eq_getElem hi] at hd
    cases hd;rfl
   rw [hdr] at e3
   obtain ⟨f,e4,e5⟩:=turn_some (show turnO ((g d en').bind b) (loopD g b (ds.drop (i+1)))=some fl from e3)
   obtain ⟨en2,e6,e7⟩:=bind1 (show ((g d en').bind fun x=>b x)=some f from e4)
   refine ⟨F0,F2,en',d,en2,rs'.grow g2,r2,e6,fun σ3 H3 F3 s3 rs3=>?_⟩
   refine ⟨F0,F3,en2,f,rs3,e7,?_⟩
   have sA:Sm F1 F3:=(s'.trans g2.ff).trans s3.ff
   cases f with
   | nx e=>exact fun σ4 F4 H4 s4 rs4=>⟨_,by omega,rfl,hi,F4,e,sA.trans s4,rs4,e5⟩
   | ct e=>exact fun σ4 F4 H4 s4 rs4=>⟨_,by omega,rfl,hi,F4,e,sA.trans s4,rs4,e5⟩
   | bk e=>cases e5;exact fun σ4 F4 H4 s4 rs4=>k σ4 F4 H4 (g1.ff.trans (sA.trans s4)) rs4
   | rt d=>cases e5;exact k
  ·have hz:ds.drop i=[]:=List.drop_eq_nil_of_le hi
   rw [hz] at e3
   cases e3
   exact .inl ⟨io.stop i F' H' s' rs'.fh hi,k σ' F' H' (g1.ff.trans s') rs'⟩
theorem rngD_size (lo:Int) (n:Nat):(rD lo n).length=n:=by unfold rD;simp
theorem di_lst {ev:EvE} (h:PE X iter (tD X O ev)):PI X tg iter (tI X O (iLst ev)):=PI.imp (pi_list h) fun σ H R ⟨F0,F,en,ds,rs,z,k⟩=>by
 obtain ⟨d,e1,e2⟩:=bind1 z
 refine ⟨F0,F,en,d,rs,e1,fun v F1 H1 g1 r1=>?_⟩
 have fin:∀ (a:Addr) (xs:List V),SqL X.K F1 a xs->Reps X.K F1 xs ds->R (Itl X.K a) H1:=fun a xs ha r=>k F1 H1 _ g1
  ⟨fun i F' H' s s' hi=>by
   obtain ⟨v,h1,_⟩:=r.get (List.getElem?_eq_getElem hi)
   exact ⟨xs,v,s'.sqL (s.sqL ha),h1⟩,
  fun i F' H' x H2 s s' hi ⟨hH,hx⟩=>by
   subst hH
   have hx':=hx xs (s'.sqL (s.sqL ha))
   obtain ⟨d,h1,h2⟩:=r.getV hx'
   exact ⟨F',d,.refl s',h1,h2.mono s⟩,
  fun i F' H' s s' hi=>⟨xs,s'.sqL (s.sqL ha),by rw [r.length];exact hi⟩⟩
 cases r1 with
 | @lst a xs ds' ha r=>cases e2;exact ⟨a,rfl,⟨xs,SqL.of (g1.fh _ _ ha)⟩,fin a xs (SqL.of ha) r⟩
 | @scr a ns ha=>cases e2;exact ⟨a,rfl,⟨_,g1.fh.sqL ha⟩,fin a _ ha (Reps.ints ns)⟩
 | _=>cases e2
theorem di_rng {a:Expr} {p:Pos} {ev:EvE} (hg:Gl X "range") (hm:X.mg "range"=none) (ha:PE X a (tR X O ev)) (hs:starEach [a] X.env=[(false,eval a X.env)]:=by rfl):PI X tg (.Call (.Name "range" p) [a] [] pos) (tI X O (iRng ev)) :=
 PI.imp (pi_range1 hg hm (pa1R ha hs) hs) fun σ H R ⟨F0,F,en,ds,rs,z,k⟩=>by
  obtain ⟨d,e1,e2⟩:=bind1 z
  cases d with
  | int n =>
   simp only [D.rng] at e2
   split at e2
   ·rename_i hz
    cases e2
    refine ⟨F0,F,en,.int n,rs,e1,fun v F1 H1 g1 r1=>⟨n,by rw [r1.int],by omega,by omega,k F1 H1 _ g1 ⟨fun i F' H' s s' hi=>?_,fun i F' H' x H2 s s' hi ⟨hH,hx⟩=>?_,fun i F' H' s s' hi=>?_⟩⟩⟩
    ·rw [rngD_size] at hi;exact hi
    ·subst hH hx
     have hi':i<n.toNat:=by rw [rngD_size] at hi;exact hi
     exact ⟨F',.int (0+(i:Int)),.refl s',by simp [rD,hi'],.int _⟩
    ·rw [rngD_size] at hi;exact hi
   ·cases e2
  | _=>cases e2
end
end Wd
namespace Wd
open PySem PySem.Spec PyProof.Rows L2
section
variable {P:Program} {w:World} {K:Fg} {mg:Str->Option Value} {base:Heap} {x:Str} {st:Stmt} {N ps:List Str} {k:Nat} {b:EvS}
theorem okF {f:Addr} {fd:FuncData} (F:Fun K x x st f fd) (S:FnScope N ps (defScope st)) {O' OL:List Nat}
  (hb:∀ (cdv:Value) (A:Around) (outer:List Env) (s:Shared) (H:Hp) (E:XK),Room k (A.deeper (envOfC x (defScope st) s.heap.objs.size f cdv))->PSs (cxOf CX0 P w K mg base N x (defScope st) f cdv A outer s H E).nox (defBody st) (tS (cxOf CX0 P w K mg base N x (defScope st) f cdv A outer s H E).nox [] O' OL false b)) :
  FnOk P w K mg base CX0 (k+1) f fd ps (spD K (defD N.length ps.length b)):=by
 refine F.ok S (fun vs H Q E ⟨F,ds,d,s,r,e,_⟩=>?_) (fun cdv A outer s H vs Q E hr ⟨Fz,ds,d,sm,r,e,k⟩=>?_)
 ·unfold defD at e
  split at e
  ·rename_i z;rw [r.length];exact z
  ·cases e
 ·refine ⟨_,hb cdv A outer s H E hr,?_⟩
  unfold defD at e
  split at e
  ·rename_i z
   have e':endD (b (sD N.length ds))=some d:=e
   cases q:b (sD N.length ds) with
   | none=>rw [q] at e';cases e'
   | some fl =>
    rw [q] at e'
    have hst:start N vs=vs.map some++List.replicate (N.length-vs.length) none:=rfl
    rw [hst]
    refine ⟨⟨Fz,H,none⟩,Fz,sD N.length ds,fl,rs_start N.length sm r,q,?_⟩
    cases fl with
    | nx en=>cases e';exact fun σ' F' H' s' rs=>k .non F' H' rs.ex.gr .non
    | rt d'=>cases e';exact fun v F' H' x r=>k v F' H' x.gr r
    | bk en=>cases e'
    | ct en=>cases e'
  ·cases e
section
variable {h:Heap} {f:Addr} {oc kV dc pm cd ct:Value} {od an:Option Addr} {osl:Array (Option Value)}
theorem df_mk (X:K.In h) (G:h.Ns mainGlobals mg) (hb:∀ (kV doc pm:Value) (an:Option Addr) (cdv ct:Value) (us:List Value),us.length=ps.length->bindArgs (PySem.W.fnOf x x (defArgs st) (defBody st) (defScope st) .none kV doc pm an cdv ct) ⟨us,[]⟩=pure (ps.zip us))
  (a:PySem.W.nsIn K mainGlobals x=some (some (.ref f))) (l:K.lookup f=some ⟨oc,od,.func (PySem.W.fnOf x x (defArgs st) (defBody st) (defScope st) .none kV dc pm an cd ct),osl⟩) (c:PySem.W.codeIn K cd x=true) (k:PySem.W.keepIn K (.ref f)=true):Df K mg x st ps :=
 ⟨f,_,fun_mk l c k,(fun_mk l c k).binds hb,PySem.W.mg_of X G a⟩
theorem gint_mk {v:Value} {i:Int} (X:K.In h) (G:h.Ns mainGlobals mg) (a:PySem.W.nsIn K mainGlobals x=some (some v)) (e:∃ t,v=.int i t):∃ t,mg x=some (.int i t):=by
 obtain ⟨t,rfl⟩:=e
 exact ⟨t,PySem.W.mg_of X G a⟩
theorem law_mk {fa:Addr} {y:Str} (X:K.In h) (G:h.Ns mainGlobals mg) (hfa:mg x=some (.ref fa)) (hb:∀ (kV doc pm:Value) (an:Option Addr) (cdv ct:Value) (u:Value),bindArgs (PySem.W.fnOf x x (defArgs st) (defBody st) (defScope st) .none kV doc pm an cdv ct) ⟨[u],[]⟩=pure [(y,u)])
  (a:PySem.W.nsIn K mainGlobals x=some (some (.ref f))) (l:K.lookup f=some ⟨oc,od,.func (PySem.W.fnOf x x (defArgs st) (defBody st) (defScope st) .none kV dc pm an cd ct),osl⟩) (c:PySem.W.codeIn K cd x=true) (k:PySem.W.keepIn K (.ref f)=true) :
  ∃ fd,(∀ (s:Shared) (u:Value),BindsTo s fd ⟨[u],[]⟩ [(y,u)])/\Fun K x x st fa fd:=by
 have e:=hfa.symm.trans (PySem.W.mg_of X G a)
 cases e
 exact ⟨_,fun s u=>.of_eq (hb _ _ _ _ _ _ u),fun_mk l c k⟩
end
end
theorem law_sp (K:Fg) (f:List D->Option D) (h:∀ ns,f [.scr ns]=some (.bl true)) (H:Hp) (a:Addr) (ns:List Int) (hS:SqL K H a (ns.map V.int)):spD K f [.ref a] H (fun v _=>v=.bl true) fun _ _ _=>False :=
 ⟨H,[.scr ns],.bl true,.refl H,.cons (.scr hS) .nil,h ns,fun v F' H' g r=>by cases r;rfl⟩
theorem kit_int (K:Fg):Kit K "int":=fun d hd=>by cases d<;>first | rfl | exact absurd rfl (hd _)
theorem kit_bool (K:Fg):Kit K "bool":=fun d hd=>by cases d<;>first | rfl | exact absurd rfl (hd _)
theorem kit_dict (K:Fg):Kit K "dict":=fun d hd=>by cases d<;>first | rfl | exact absurd rfl (hd _)
end Wd
namespace Wd
open PySem PySem.Spec PyProof.Rows L2
section
variable {X:Cx} {pins:List (Addr×Obj)} {σ:L2.St} {H:Hp} {s:Shared} {h':Heap}
theorem turnNew {t':Nat} {ch:List Addr} {p:Addr} {o:HO} (I:Inv X pins σ H s) (k:∀ b u,b∉ch->s.heap.get? b=some u->h'.get? b=some u) (hf:∀ b∈ch,FpOk X pins H b) (hp:s.heap.objs.size<=p) (new:ObjOk X.prog X.w (upd H p o) h' p o) :
  Inv X pins σ (upd H p o) { s with heap:=h',toks:=t' }:=by
 have hn:H p=none:=I.hok.fresh hp
 have nit:∀ b u,H b=some u->b∉ch:=fun b u e z=>by rw [(hf b z).1] at e;cases e
 refine I.step (g':=s.gens) (d':=s.drawn) (ch:=ch) (fun b hb=>?_) (fun b o _ _ hc e _=>k b o hc e) (fun b o _ _ hc e _=>⟨o.slots,k b o hc e⟩) (fun b o _ e n=>?_)
  (fun b o hc e=>⟨o,k b o hc e⟩) (fun b xs e=>?_) (fun b xs u e=>?_) (fun b ps e=>⟨#[],?_⟩) (fun m hm=>?_) (fun b u e=>?_) I.bare
 ·obtain ⟨f0,f1,f2,f3,f4,f5⟩:=hf b hb
  exact ⟨f3,f1,f4,f5⟩
 ·rw [upd_ne (Nat.ne_of_lt (Nat.lt_of_lt_of_le (Heap.lt_size e) hp))];exact n
 ·rw [upd_ne (ne_of_none e hn)];exact e
 ·rw [upd_ne (ne_of_none e hn)];exact e
 ·rw [upd_ne (ne_of_none e hn),e];simp
 ·obtain ⟨o,es,ep,ho,r⟩:=hm
  exact ⟨o,es,ep,k _ o (fun z=>(hf _ z).2.1 rfl) ho,r⟩
 ·by_cases hb:b=p
  ·subst hb;rw [upd_same] at e;cases e;exact new
  ·rw [upd_ne hb] at e
   refine (I.hok b u e).stay (fun c v hc q=>k c v ?_ q) (fun c q=>by rw [upd_ne (ne_of_none q hn)];exact q) fun c xs q=>by rw [upd_ne (ne_of_none q hn)];exact q
   rcases hc with z | z
   ·rw [z];exact nit b u e
   ·exact nit c _ z
theorem turnAll {t':Nat} {ch:List Addr} (I:Inv X pins σ H s) (k:∀ b u,b∉ch->s.heap.get? b=some u->h'.get? b=some u) (hf:∀ b∈ch,FpOk X pins H b):Inv X pins σ H { s with heap:=h',toks:=t' }:=by
 have nit:∀ b u,H b=some u->b∉ch:=fun b u e z=>by rw [(hf b z).1] at e;cases e
 refine I.step (g':=s.gens) (d':=s.drawn) (ch:=ch) (fun b hb=>?_) (fun b o _ _ hc e _=>k b o hc e) (fun b o _ _ hc e _=>⟨o.slots,k b o hc e⟩) (fun _ _ _ _ n=>n)
  (fun b o hc e=>⟨o,k b o hc e⟩) (fun _ _ e=>e) (fun _ _ _ e=>e) (fun b ps e=>⟨#[],by rw [e];simp⟩) (fun m hm=>?_) (fun b u e=>?_) I.bare
 ·obtain ⟨f0,f1,f2,f3,f4,f5⟩:=hf b hb
  exact ⟨f3,f1,f4,f5⟩
 ·obtain ⟨o,es,ep,ho,r⟩:=hm
  exact ⟨o,es,ep,k _ o (fun z=>(hf _ z).2.1 rfl) ho,r⟩
 ·refine (I.hok b u e).stay (fun c v hc q=>k c v ?_ q) (fun _ q=>q) fun _ _ q=>q
  rcases hc with z | z
  ·rw [z];exact nit b u e
  ·exact nit c _ z
end
def Ite (K:Fg) (a:Addr):It :=
 ⟨fun i H=>∃ xs x,SqL K H a xs/\xs[i]?=some x,fun i H x H'=>∃ p y,H p=none/\x=.ref p/\H'=upd H p (.tup [.int i,y])/\∀ xs,SqL K H a xs->xs[i]?=some y,fun i H=>∃ xs,SqL K H a xs/\xs.length<=i⟩
theorem turn_enum {P:Program} {w:World} {K:Fg} {elts:List Expr} {x1:Nat} {pos:Pos} (a e it:Addr) (hne:e≠it):Turn P w K (.Tuple elts x1 pos) (Ite K a) [e,it] e (fun i h=>∃ old,IsEnum h e it i old/\h.IsListIter it a i) where
 mem:=by simp
 obj:=fun i h st b hb=>by
  obtain ⟨old,he,o,ho,c,d⟩:=st
  rcases List.mem_cons.mp hb with z | z
  ·subst z
   exact ⟨_,he,fun v z=>by
    have z':Data.fields _=Data.cell v:=z
    cases z'⟩
  ·have z:=List.mem_singleton.mp z
   subst z
   exact ⟨o,ho,fun v z=>by rw [d] at z;cases z⟩
 keep:=fun i h h' st k=>by
  obtain ⟨old,he,hi⟩:=st
  exact ⟨old,k e (by simp) _ he,hi.at fun o q=>k it (by simp) o q⟩
 item:=by
  intro X hP hw hK hc i pins s σ H E I hf st hg
  subst hP hw hK
  obtain ⟨old,he,hi⟩:=st
  obtain ⟨xs,x,hq,hx⟩:=hg
  obtain ⟨its,rv,p,hz⟩:=I.list hq
  obtain ⟨u,hu,ru⟩:=rv.get hx
  refine wpAny_pyNext_enum_item he hi p.isList (x:=u) (by simpa using hu) hne fun h' eo hi' ht hsz kk=>?_
  refine ⟨_,rfl,wpAny_letOwnedTupleGo_enum eo fun h2 he2 sb=>?_⟩
  have k2:∀ b o,b∉[e,it]->s.heap.get? b=some o->h2.get? b=some o:=fun b o hb q=>by
   have h1:b≠e:=fun z=>hb (by simp [z])
   have h3:b≠it:=fun z=>hb (by simp [z])
   exact (sb.2 b h1).trans (kk b o h1 h3 q)
  have fe:H s.heap.objs.size=none:=I.hok.fresh (Nat.le_refl _)
  have le:e<s.heap.objs.size:=Heap.lt_size he
  have ht2:h2.get? s.heap.objs.size=some { cls:=.type "tuple",data:=.seq #[.int i s.toks,u] }:=(sb.2 _ (Nat.ne_of_gt le)).trans ht
  have li:it<s.heap.objs.size:=by obtain ⟨o,ho,_⟩:=hi;exact Heap.lt_size ho
  have I2:Inv X pins σ (upd H s.heap.objs.size (.tup [.int i,x])) { s with heap:=h2,toks:=s.toks+1 } :=
   turnNew (t':=s.toks+1) I k2 hf (Nat.le_refl _) (show ObjOk X.prog X.w _ h2 _ (.tup [.int i,x]) from ⟨by show 2<=sizeLine;decide,[.int i s.toks,u],.cons ⟨_,rfl⟩ (.cons ru .nil),⟨_,ht2,rfl,_,rfl⟩⟩)
  refine ⟨.ref s.heap.objs.size,_,I2,rfl,⟨_,x,fe,rfl,rfl,fun ys hy=>by rw [I.list_inj hy hq];exact hx⟩,⟨u,he2,?_⟩,fun b hb=>?_⟩
  ·exact hi'.at fun o q=>(sb.2 it (Ne.symm hne)).trans q
  ·have:b≠s.heap.objs.size:=by
    rcases List.mem_cons.mp hb with z | z
    ·rw [z];exact Nat.ne_of_lt le
    ·rw [List.mem_singleton.mp z];exact Nat.ne_of_lt li
   rw [upd_ne this]
   exact (hf b hb).1
 done:=by
  intro X hP hw hK hc i pins s σ H E I hf st hg
  subst hP hw hK
  obtain ⟨old,he,hi⟩:=st
  obtain ⟨xs,hq,hx⟩:=hg
  obtain ⟨its,rv,p,hz⟩:=I.list hq
  have hl:=rv.length
  exact wpAny_pyNext_enum_end (I.ok.hd hc) he hi p.isList (by simp;omega) fun h' eb=>⟨rfl,turnAll (t':=s.toks) I (fun b o hb q=>eb b o (fun z=>hb (by simp [z])) q) hf⟩
 self:=fun _ _ _ _ _ st h=>by
  obtain ⟨old,he,_⟩:=st
  exact wpAny_pyIter_enum he h
section
variable {X:Cx} {O:List Nat} {a:Expr} {p pos:Pos}
def iEnumV (K:Fg) (ta:TA):TI:=fun σ H R=>ta σ H fun vs H1=>∃ l,vs=[.ref l]/\(∃ xs,SqL K H1 l xs)/\R (Ite K l) H1
theorem pi_enum {elts:List Expr} {x1:Nat} {tpos:Pos} {ta:TA} (hg:Gl X "enumerate") (hm:X.mg "enumerate"=none) (ha:PA X [a] ta) (hs:starEach [a] X.env=[(false,eval a X.env)]:=by rfl):PI X (.Tuple elts x1 tpos) (.Call (.Name "enumerate" p) [a] [] pos) (iEnumV X.K ta):=by
 intro pins s σ H R I h
 refine Call_ (ld_blt I hg hm boot_enumerate (PyProof.Rows.callWith_type1 (thn (ha pos pins s σ H _ I h) fun us s1 ⟨vs,H1,I1,r1,q1⟩=>?_) hs rfl))
 obtain ⟨l,e,⟨xs,hq⟩,q⟩:=q1
 subst e
 obtain ⟨u,rfl,rx⟩:=vals1 r1
 cases rx
 obtain ⟨its,rv,pl,hz⟩:=I1.list hq
 refine call_enumerate_list pl.isList fun h' he hi hsz hk=>?_
 have I2:Inv X pins σ H1 { s1 with heap:=h' }:=I1.kept (t':=s1.toks) hk
 have fe:∀ b,s1.heap.objs.size<=b->H1 b=none:=fun b hb=>I1.hok.fresh hb
 refine wpAny_pyIter_enum he ⟨_,[s1.heap.objs.size+1,s1.heap.objs.size],_,_,H1,rfl,I2,turn_enum l _ _ (Nat.succ_ne_self _),⟨.none,he,hi⟩,fun b hb=>?_,q⟩
 have:s1.heap.objs.size<=b:=by
  rcases List.mem_cons.mp hb with z | z
  ·rw [z];exact Nat.le_succ _
  ·rw [List.mem_singleton.mp z];exact Nat.le_refl _
 exact I1.fpOk this (fe b this)
theorem enumD_get:∀ (ds:List D) (n i:Nat) (d:D),ds[i]?=some d->(enumD n ds)[i]?=some (.tup [.int ((n+i:Nat):Int),d])
 | [],_,_,_,h=>by simp at h
 | d::ds,n,0,_,h=>by simp at h;subst h;simp [enumD]
 | d::ds,n,i+1,x,h=>by
  have:=enumD_get ds (n+1) i x (by simpa using h)
  rw [enumD,List.getElem?_cons_succ,this,show n+1+i=n+(i+1) by omega]
theorem enumD_len:∀ (ds:List D) (n:Nat),(enumD n ds).length=ds.length
 | [],_=>rfl
 | d::ds,n=>by rw [enumD,List.length_cons,List.length_cons,enumD_len]
theorem di_enum {elts:List Expr} {x1:Nat} {tpos:Pos} {ev:EvE} (hg:Gl X "enumerate") (hm:X.mg "enumerate"=none) (ha:PE X a (tD X O ev)) (hs:starEach [a] X.env=[(false,eval a X.env)]:=by rfl):PI X (.Tuple elts x1 tpos) (.Call (.Name "enumerate" p) [a] [] pos) (tI X O (iEnum ev)) :=
 PI.imp (pi_enum hg hm (pa_cons ha pa_nil hs) hs) fun σ H R ⟨F0,F,en,ds0,rs,z,k⟩=>by
  obtain ⟨d,e1,e2⟩:=bind1 z
  obtain ⟨ds,e3,rfl⟩:=map1 e2
  refine ⟨F0,F,en,d,rs,e1,fun v F1 H1 g1 r1=>?_⟩
  have fin:∀ (l:Addr) (xs:List V),SqL X.K F1 l xs->Reps X.K F1 xs ds->R (Ite X.K l) H1:=fun l xs hl r=>k F1 H1 _ g1
   ⟨fun i F' H' s s' hi=>by
    rw [enumD_len] at hi
    obtain ⟨v,h1,_⟩:=r.get (List.getElem?_eq_getElem hi)
    exact ⟨xs,v,s'.sqL (s.sqL hl),h1⟩,
   fun i F' H' x H2 s s' hi hy=>by
    obtain ⟨p,y,hp,rfl,rfl,hx⟩:=hy
    have hx':=hx xs (s'.sqL (s.sqL hl))
    obtain ⟨d,h1,h2⟩:=r.getV hx'
    have g:=Gr.new s' hp (.tup [.int i,y])
    refine ⟨_,.tup [.int i,d],g,?_,.tup upd_same (.cons (.int _) (.cons ((h2.mono s).mono g.ff) .nil))⟩
    have:=enumD_get ds 0 i d h1
    rw [this,Nat.zero_add],
   fun i F' H' s s' hi=>⟨xs,s'.sqL (s.sqL hl),by rw [enumD_len] at hi;rw [r.length];exact hi⟩⟩
  cases r1 with
  | @lst l xs ds' hl r=>cases e3;exact ⟨l,rfl,⟨xs,SqL.of (g1.fh _ _ hl)⟩,fin l xs (SqL.of hl) r⟩
  | @scr l ns hl=>cases e3;exact ⟨l,rfl,⟨_,g1.fh.sqL hl⟩,fin l _ hl (Reps.ints ns)⟩
  | _=>cases e3
end
end Wd
namespace Wd
open PySem PySem.Spec PyProof.Rows L2
section
variable {env:Env}
theorem closure_ok:∀ (names:List (Str×NameKind)) (cs:List (Str×Addr)),(∀ x∈names,x.2=.free->∃ c,env.cells.lookup x.1=some c)->(∀ x c,cs.lookup x=some c->env.cells.lookup x=some c) ->
  ∃ cl,(forIn (m:=Sem) names cs ((fun x r=>match x with | (name,kind)=>if (kind==NameKind.free)=true then do let c <- cellOf env name;pure (ForInStep.yield ((name,c)::r)) else pure (ForInStep.yield r)):(Str×NameKind)->List (Str×Addr)->Sem (ForInStep (List (Str×Addr)))))=pure cl /\
   (∀ x c,cl.lookup x=some c->env.cells.lookup x=some c)/\∀ x,((∃ c,cs.lookup x=some c)\/(x,NameKind.free)∈names)->∃ c,cl.lookup x=some c
 | [],cs,_,hP=>⟨cs,rfl,hP,fun x h=>by
   rcases h with h | h
   ·exact h
   ·cases h⟩
 | (n,k)::names,cs,hf,hP=>by
  rw [List.forIn_cons]
  by_cases hk:k=.free
  ·subst hk
   obtain ⟨c,hc⟩:=hf (n,.free) List.mem_cons_self rfl
   have hcell:cellOf env n=pure c:=by unfold cellOf;rw [hc]
   obtain ⟨cl,h1,h2,h3⟩:=closure_ok names ((n,c)::cs) (fun x hx=>hf x (List.mem_cons_of_mem _ hx)) (fun x c' h=>by
    rw [List.lookup_cons] at h
    split at h
    ·rename_i z
     cases h
     rw [eq_of_beq z];exact hc
    ·exact hP x c' h)
   refine ⟨cl,?_,h2,fun x h=>h3 x ?_⟩
   ·rw [<- h1]
    simp only [beq_self_eq_true,if_true,hcell]
    rfl
   ·rcases h with ⟨c',h⟩ | h
    ·left
     rw [List.lookup_cons]
     split
     ·exact ⟨_,rfl⟩
     ·exact ⟨c',h⟩
    ·rcases List.mem_cons.mp h with h | h
     ·cases h
      left
      exact ⟨c,by simp⟩
     ·exact .inr h
  ·have hb:(k==NameKind.free)=false:=by simpa using hk
   obtain ⟨cl,h1,h2,h3⟩:=closure_ok names cs (fun x hx=>hf x (List.mem_cons_of_mem _ hx)) hP
   refine ⟨cl,?_,h2,fun x h=>h3 x ?_⟩
   ·rw [<- h1]
    simp only [hb,Bool.false_eq_true,if_false]
    rfl
   ·rcases h with h | h
    ·exact .inl h
    ·rcases List.mem_cons.mp h with h | h
     ·cases h
      exact absurd rfl hk
     ·exact .inr h
theorem closureFor_ok {scope:Scope} (hf:∀ x∈scope.names,x.2=.free->∃ c,env.cells.lookup x.1=some c) :
  ∃ cl,closureFor scope env=pure cl/\(∀ x c,cl.lookup x=some c->env.cells.lookup x=some c)/\∀ x,(x,NameKind.free)∈scope.names->∃ c,cl.lookup x=some c:=by
 obtain ⟨cl,h1,h2,h3⟩:=closure_ok scope.names [] hf (fun x c h=>by cases h)
 refine ⟨cl,?_,h2,fun x h=>h3 x (.inr h)⟩
 have e:closureFor scope env=((forIn (m:=Sem) scope.names [] ((fun x r=>match x with | (name,kind)=>if (kind==NameKind.free)=true then do let c <- cellOf env name;pure (ForInStep.yield ((name,c)::r)) else pure (ForInStep.yield r)):(Str×NameKind)->List (Str×Addr)->Sem (ForInStep (List (Str×Addr))))) >>= fun r=>pure r):=rfl
 rw [e,h1]
 rfl
theorem lookup_relabel (env:Env):∀ (names:List (Str×NameKind)) (x:Str),(names.map fun (n,k)=>if (k==NameKind.free&&env.scope.kind==.function&&env.kindOf n==some .cell) then (n,NameKind.cell) else (n,k)).lookup x =
  (names.lookup x).map fun k=>if (k==NameKind.free&&env.scope.kind==.function&&env.kindOf x==some .cell) then NameKind.cell else k
 | [],_=>rfl
 | (n,k)::names,x=>by
  have ih:=lookup_relabel env names x
  rw [List.map_cons,List.lookup_cons]
  show List.lookup x ((if (k==NameKind.free&&env.scope.kind==.function&&env.kindOf n==some .cell)=true then (n,NameKind.cell) else (n,k))::_)=_
  cases hx:x==n with
  | true =>
   have:=eq_of_beq hx
   subst this
   by_cases hc:(k==NameKind.free&&env.scope.kind==.function&&env.kindOf x==some .cell)=true
   ·rw [if_pos hc,List.lookup_cons,hx]
    rw [List.lookup_cons,hx]
    simp only [Option.map_some]
    rw [if_pos hc]
   ·rw [if_neg hc,List.lookup_cons,hx]
    rw [List.lookup_cons,hx]
    simp only [Option.map_some]
    rw [if_neg hc]
  | false =>
   by_cases hc:(k==NameKind.free&&env.scope.kind==.function&&env.kindOf n==some .cell)=true
   ·rw [if_pos hc,List.lookup_cons,List.lookup_cons,hx];exact ih
   ·rw [if_neg hc,List.lookup_cons,List.lookup_cons,hx];exact ih
theorem mem_of_lookup {α β:Type} [BEq α] [LawfulBEq α]:∀ {l:List (α×β)} {x:α} {y:β},l.lookup x=some y->(x,y)∈l
 | [],_,_,h=>by cases h
 | (a,b)::l,x,y,h=>by
  rw [List.lookup_cons] at h
  split at h
  ·rename_i z;cases h;rw [eq_of_beq z];exact List.mem_cons_self
  ·exact List.mem_cons_of_mem _ (mem_of_lookup h)
end
def compCx (X:Cx) (scope:Scope) (N':List Str) (cl:List (Str×Addr)) (C:Addr) (ex:List Addr) (s:Shared) (H:Hp) (pn:List (Addr×Obj)):Cx :=
 { X with N:=N',env:=compEnvC scope cl C X.env,s₀:=s,H₀:=H,outer:=X.stack,ex:=ex,fn:=fun _=>false,pn:=pn,xe:=fun _ _=>False }
structure CompSc (X:Cx) (scope:Scope) (n:Nat) (N':List Str) (caps:List Nat):Prop where
 kind:scope.kind=.function
 nocell:∀ y∈scope.names,y.2≠.cell
 loc:∀ x∈scope.names,x.2=.local->scope.names.lookup x.1=some .local
 fre:∀ x∈scope.names,x.2=.free->X.env.kindOf x.1=some .cell\/X.env.kindOf x.1=some .free
 len:N'.length=n+caps.length
 cap:∀ (j i:Nat),caps[j]?=some i->∃ x,N'[n+j]?=some x/\X.N[i]?=some x/\scope.names.lookup x=some .free
 nd:N'.Nodup
section
variable {X:Cx} {pins:List (Addr×Obj)} {σ:L2.St} {H:Hp} {s:Shared} {scope:Scope} {n:Nat} {N':List Str} {caps:List Nat} {cl:List (Str×Addr)} {C:Addr} {ex:List Addr}
theorem comp_kind (S:CompSc X scope n N' caps) {x:Str} (h:(compEnvC scope cl C X.env).kindOf x=some .cell\/(compEnvC scope cl C X.env).kindOf x=some .free):(x,NameKind.free)∈scope.names:=by
 have e:(compEnvC scope cl C X.env).kindOf x=(scope.names.lookup x).map fun k=>if (k==NameKind.free&&X.env.scope.kind==.function&&X.env.kindOf x==some .cell) then NameKind.cell else k:=lookup_relabel X.env scope.names x
 rw [e] at h
 cases q:scope.names.lookup x with
 | none=>rw [q] at h;rcases h with h | h<;>cases h
 | some k =>
  have m:=mem_of_lookup q
  cases k with
  | free=>exact m
  | cell=>exact absurd rfl (S.nocell _ m)
  | _ =>
   rw [q] at h
   rcases h with h | h<;>simp at h
theorem compCx_ok (I:Inv X pins σ H s) (S:CompSc X scope n N' caps) (hC:s.heap.objs.size<=C) (hcl:∀ x c,cl.lookup x=some c->X.env.cells.lookup x=some c) (hhas:∀ x,(x,NameKind.free)∈scope.names->∃ c,cl.lookup x=some c)
  (hex:∀ b∈ex,FpOk X pins H b/\b≠C) (pn:List (Addr×Obj)):(compCx X scope N' cl C ex s H pn).Ok where
 mod:=I.ok.mod
 kind:=S.kind
 glob:=I.ok.glob
 blt:=I.ok.blt
 above:=hC
 inj:=fun x y c h1 h2=>I.ok.inj x y c (hcl x c h1) (hcl y c h2)
 has:=fun x h=>hhas x (comp_kind (cl:=cl) (C:=C) S h)
 cab:=fun x c h=>by cases h
 hd:=I.ok.hd
 frames:=I.ok.frames
 stk:=.inl rfl
 exf:=fun b hb=>⟨(hex b hb).2,fun x c h=>(hex b hb).1.2.2.2.2.1 x c (hcl x c h)⟩
 bs:=I.bs
 bsz:=Nat.le_trans I.ok.bsz I.sz
 noex:=fun b o e hb=>by
  rcases (hex b hb).1.2.2.2.1 with z | z
  ·exact I.ok.noex b o e z
  ·exact absurd (Nat.lt_of_lt_of_le (Heap.lt_size e) (Nat.le_trans I.ok.bsz z)) (Nat.lt_irrefl _)
 exfs:=fun b hb hf=>by
  obtain ⟨⟨_,h1,h2,_⟩,_⟩:=hex b hb
  rcases List.mem_cons.mp (I.stkSub b hf) with z | z
  ·exact h1 z
  ·exact h2 z
 funs:=I.stack
 frf:=I.stkFree
end
end Wd
namespace Wd
open PySem PySem.Spec PyProof.Rows L2
theorem comp_loop {prog:Program} {w:World} {A:Around} {R:Result->Shared->Prop} {s:Shared} {elt target iter:Expr} {ifs:List Expr} {scope:Scope} {pos:Pos} {it acc:Value} {env:Env} {E:Value->Shared->Prop} (hE:∀ x s,¬ E x s) (J:Nat->Shared->Prop)
  (turn:∀ n s,J n s->wpAny (model prog w) A (pyNext it) (fun r s₁=>match r with
   | none=>R (.ok .next) s₁
   | some v=>wpAny (model prog w) A (letOwnedTupleGo target it v) (fun _ s₁=>wpAny (model prog w) A (assign target env v) (fun _ s₂ =>
     wpAny (model prog w) A (forIn ifs true fun c r=>if r=true then do let ok <- isTrue c env (eval c env);pure (ForInStep.yield ok) else pure (ForInStep.yield r)) (fun ok s₃ =>
      if ok=true then wpAny (model prog w) A (eval elt env) (fun x s₄ =>
       wpAny (model prog w) A (call (.builtin "list.append") [acc,x]) (fun _ s₅=>∃ m,m<n/\J m s₅) E s₄) E s₃
      else ∃ m,m<n/\J m s₃) E s₂) E s₁) E s₁) E s)
  (n:Nat) (h:J n s):codeAny (model prog w) A (.compLoop (.ListComp elt [⟨target,iter,ifs,0⟩] scope pos) 0 it acc env) R s:=by
 have no:∀ {E':Value->Shared->Prop} x s,E x s->E' x s:=fun x s h=>absurd h (hE x s)
 refine codeAny_loop rfl J (fun n s hI=>?_) n h
 show wpAny _ A ((compTurn (.ListComp elt [⟨target,iter,ifs,0⟩] scope pos) 0 it acc env).onRaise (fun x=>do noteFrame x env;theTreesLotGoes x)) _ _ s
 refine wpAny_noted ?_
 rw [compTurn_list]
 refine wpAny_bind (wpAny_standAt (wpAny_bind (wpAny_mono (turn n s hI) (fun r s₁ h₁=>?_) fun x s h'=>no x s h')))
 cases r with
 | none=>exact wpAny_pure h₁
 | some v =>
  refine wpAny_bind (wpAny_mono h₁ (fun _ s₂ h₂=>wpAny_bind (wpAny_mono h₂ (fun _ s₂ h₂=>wpAny_bind (wpAny_mono h₂ (fun ok s₃ h₃=>?_) fun x s h'=>no x s h')) fun x s h'=>no x s h')) fun x s h'=>no x s h')
  cases ok with
  | false=>exact wpAny_pure ⟨rfl,h₃⟩
  | true =>
   exact wpAny_bind (wpAny_bind (wpAny_mono h₃ (fun x s₄ h₄=>wpAny_bind (wpAny_mono h₄ (fun _ s₅ h₅=>wpAny_pure (wpAny_pure ⟨rfl,h₅⟩)) fun x s h'=>no x s h')) fun x s h'=>no x s h'))
def PIf (X:Cx) (ifs:List Expr) (t:TT):Prop :=
 ∀ (pins:List (Addr×Obj)) (s:Shared) (σ:L2.St) (H:Hp) (Q:Bool->Hp->Prop),Inv X pins σ H s->t σ H Q ->
  wpAny (model X.prog X.w) X.A (forIn ifs true fun c r=>if r=true then do let ok <- isTrue c X.env (eval c X.env);pure (ForInStep.yield ok) else pure (ForInStep.yield r)) (TP X pins σ Q) X.xe s
section
variable {X:Cx}
theorem dif_none {O:List Nat}:PIf X [] (tDT X O (eC (.bl true))):=fun pins s σ H Q I ⟨F0,F,en,b,rs,w,k⟩=>by
 cases w
 exact wpAny_pure ⟨H,I,k F H (.refl rs.fh)⟩
theorem dif_one {O:List Nat} {c:Expr} {ev:EvE} (h:PT X c (tDT X O ev)):PIf X [c] (tDT X O ev):=fun pins s σ H Q I t=>by
 simp only [List.forIn_cons,List.forIn_nil,if_true]
 exact wpAny_bind (wpAny_bind (wpAny_mono (h pins s σ H Q I t) (fun b s' hb=>wpAny_pure (wpAny_pure hb)) fun _ _ x=>x))
end
section
variable {X:Cx} {pins:List (Addr×Obj)} {σ:L2.St} {H:Hp} {s:Shared} {scope:Scope} {n:Nat} {N':List Str} {caps:List Nat} {cl:List (Str×Addr)} {fp:List Addr}
def capS (n:Nat) (caps:List Nat) (σ:L2.St):L2.St:=List.replicate n none++caps.map fun i=>(σ[i]?).join
theorem comp_start (I:Inv X pins σ H s) (S:CompSc X scope n N' caps) (hcl:∀ x c,cl.lookup x=some c->X.env.cells.lookup x=some c) (hhas:∀ x,(x,NameKind.free)∈scope.names->∃ c,cl.lookup x=some c) (hfp:∀ b∈fp,FpOk X pins H b/\b<s.heap.objs.size)
  {h1:Heap} {tk:Nat} (hns:h1.Ns (s.heap.objs.size+1) fun _=>none) (old:∀ b o,(s.heap.push { cls:=.type "list",data:=.seq #[] }).get? b=some o->h1.get? b=some o) :
  Inv (compCx X scope N' cl (s.heap.objs.size+1) (s.heap.objs.size::fp) { s with heap:=s.heap.push { cls:=.type "list",data:=.seq #[] } } H (X.pn++pins)) [] (capS n caps σ) (upd H s.heap.objs.size (.lst [])) { s with heap:=h1,toks:=tk }:=by
 have hz:(s.heap.push { cls:=.type "list",data:=.seq #[] }).objs.size=s.heap.objs.size+1:=Heap.size_push ..
 have up:∀ b o,s.heap.get? b=some o->h1.get? b=some o:=fun b o e=>old b o (Heap.get?_push_of_some _ e)
 have hacc:H s.heap.objs.size=none:=I.hok.fresh (Nat.le_refl _)
 have hC:H (s.heap.objs.size+1)=none:=I.hok.fresh (Nat.le_succ _)
 have I3:Inv X pins σ H { s with heap:=s.heap.push { cls:=.type "list",data:=.seq #[] } }:=I.kept (t':=s.toks) fun b o e=>Heap.get?_push_of_some _ e
 have cellLt:∀ x c,X.env.cells.lookup x=some c->c<s.heap.objs.size:=fun x c e=>by
  obtain ⟨v,o,ho,_⟩:=I.cell x c e
  exact Heap.lt_size ho
 refine ⟨compCx_ok I3 S (by rw [hz];exact Nat.le_refl _) hcl hhas (fun b hb=>?_) _,rfl,I.bare,⟨fun b o e _ _ _=>old b o e,fun b o e _ _ _=>⟨o.slots,old b o e⟩,fun b o e n hb=>?_,fun b o e _=>⟨o,old b o e⟩,fun b xs e=>?_,fun b o u e=>?_,fun b ps e=>⟨#[],?_⟩⟩,
  ⟨_,hns,fun i x v e1 e2 _=>?_⟩,fun x c e=>?_,?_,fun x c e=>?_,fun p hp=>?_,I.hok.laid up (Nat.le_refl _) ⟨Nat.zero_le _,[],0,.nil,old _ _ (Heap.get?_push_size _ rfl)⟩,?_⟩
 ·rcases List.mem_cons.mp hb with z | z
  ·subst z
   exact ⟨I.fpOk (Nat.le_refl _) hacc,Nat.ne_of_lt (Nat.lt_succ_self _)⟩
  ·exact ⟨(hfp b z).1,Nat.ne_of_lt (Nat.lt_succ_of_lt (hfp b z).2)⟩
 ·rw [upd_ne (fun z=>hb (by rw [z];exact List.mem_cons_self))];exact n
 ·rw [upd_ne (ne_of_none e hacc)];exact e
 ·rw [upd_ne (ne_of_none e hacc)];exact e
 ·have e':H b=some (.tbl ps):=e
  rw [upd_ne (ne_of_none e' hacc),e'];simp
 ·unfold capS at e2
  rcases Nat.lt_or_ge i n with hi | hi
  ·rw [List.getElem?_append_left (by simpa using hi),List.getElem?_replicate,if_pos hi] at e2
   cases e2
  ·rw [List.getElem?_append_right (by simpa using hi),List.length_replicate,List.getElem?_map] at e2
   cases q:caps[i-n]? with
   | none=>rw [q] at e2;cases e2
   | some j =>
    rw [q] at e2
    obtain ⟨x',f1,f2,f3⟩:=S.cap (i-n) j q
    rw [show n+(i-n)=i by omega] at f1
    have e1':N'[i]?=some x:=e1
    rw [f1] at e1'
    cases e1'
    have e2':(σ[j]?).join=some v:=Option.some.inj e2
    have e3:σ[j]?=some (some v):=by
     cases w:σ[j]? with
     | none=>rw [w] at e2';cases e2'
     | some o=>rw [w] at e2';cases o with
      | none=>cases e2'
      | some u=>cases e2';rfl
    have hm:=mem_of_lookup f3
    have kx:=S.fre _ hm rfl
    obtain ⟨m,_,hl⟩:=I.loc
    obtain ⟨u,r,lk⟩:=hl j x v f2 e3 (by
     rcases kx with z | z
     ·exact .inr (.inl z)
     ·exact .inr (.inr z))
    refine ⟨u,r,.inr ⟨?_,?_⟩⟩
    ·have e:(compEnvC scope cl (s.heap.objs.size+1) X.env).kindOf x=(scope.names.lookup x).map fun k=>if (k==NameKind.free&&X.env.scope.kind==.function&&X.env.kindOf x==some .cell) then NameKind.cell else k:=lookup_relabel X.env scope.names x
     have e':(compEnvC scope cl (s.heap.objs.size+1) X.env).kindOf x=some (if (NameKind.free==NameKind.free&&X.env.scope.kind==.function&&X.env.kindOf x==some .cell) then NameKind.cell else NameKind.free):=by rw [e,f3];rfl
     show (compEnvC scope cl (s.heap.objs.size+1) X.env).kindOf x=some .cell\/(compEnvC scope cl (s.heap.objs.size+1) X.env).kindOf x=some .free
     rw [e']
     split
     ·exact .inl rfl
     ·exact .inr rfl
    ·obtain ⟨c,hc⟩:=hhas x hm
     rcases lk with ⟨z,_⟩ | ⟨_,c',hc',o,ho,hd⟩
     ·rcases kx with w | w<;>(rw [z] at w;cases w)
     ·have:=hcl x c hc
      rw [hc'] at this
      cases this
      exact ⟨c,hc,o,up c o ho,hd⟩
 ·obtain ⟨v,o,ho,hd⟩:=I.cell x c (hcl x c e)
  exact ⟨v,o,up c o ho,hd⟩
 ·show upd H s.heap.objs.size (.lst []) (s.heap.objs.size+1)=none
  rw [upd_ne (Nat.succ_ne_self _)];exact hC
 ·rw [upd_ne (Nat.ne_of_lt (cellLt x c (hcl x c e)))];exact I.freeC x c (hcl x c e)
 ·have hp':p∈X.pn++pins:=by simpa [compCx] using hp
  obtain ⟨k1,k2,k3,k4,k5⟩:=I.pin p hp'
  have lt:p.1<s.heap.objs.size:=Heap.lt_size k1
  refine ⟨up _ _ k1,?_,Nat.ne_of_lt (Nat.lt_succ_of_lt lt),fun hb=>?_,k5⟩
  ·rw [upd_ne (Nat.ne_of_lt lt)];exact k2
  ·rcases List.mem_cons.mp (I.stkSub _ hb) with z | z
   ·exact k3 z
   ·exact k4 z
 ·show (capS n caps σ).length=N'.length
  rw [S.len];simp [capS]
end
end Wd
namespace Wd
open PySem PySem.Spec PyProof.Rows L2
def AllCx (X:Cx) (scope:Scope) (N':List Str) (P:Cx->Prop):Prop :=
 ∀ (cl:List (Str×Addr)) (C:Addr) (ex:List Addr) (s:Shared) (H:Hp) (pn:List (Addr×Obj)),P (compCx X scope N' cl C ex s H pn)
section
variable {X:Cx} {O:List Nat} {scope:Scope} {n:Nat} {N':List Str} {caps:List Nat} {tg iter elt:Expr} {ifs:List Expr} {pos:Pos} {it:EvI} {g:EvG} {c el:EvE}
theorem rs_cap {K:Fg} {H₀:Hp} {F0:Fz} {F H:Hp} {σ:L2.St} {en:EnvD} (r:RS K H₀ F0 F H σ en O) (hO:∀ i∈caps,i∉O):RS K H ⟨F,H,none⟩ F H (capS n caps σ) (capE n caps en) [] where
 fh:=r.fh
 hh:=.refl H
 ff:=.refl F
 fr:=fun _ _ h=>.inl h
 slot:=fun i d h _=>by
  unfold capE at h
  unfold capS
  rcases Nat.lt_or_ge i n with hi | hi
  ·rw [List.getElem?_append_left (by simpa using hi),List.getElem?_replicate,if_pos hi] at h
   cases h
  ·rw [List.getElem?_append_right (by simpa using hi),List.length_replicate,List.getElem?_map] at h
   rw [List.getElem?_append_right (by simpa using hi),List.length_replicate,List.getElem?_map]
   cases q:caps[i-n]? with
   | none=>rw [q] at h;cases h
   | some j =>
    rw [q] at h
    have h':(en[j]?).join=some d:=Option.some.inj h
    have e3:en[j]?=some (some d):=by
     cases w:en[j]? with
     | none=>rw [w] at h';cases h'
     | some o=>rw [w] at h';cases o with
      | none=>cases h'
      | some u=>cases h';rfl
    have hj:j∈caps:=List.mem_of_getElem? q
    obtain ⟨v,h1,h2⟩:=r.slot j d e3 (hO j hj)
    refine ⟨v,?_,h2⟩
    simp [h1]
 own:=fun i d _ h=>by cases h
 dis:=fun i j p _ _ h=>by cases h
 pin:=fun i h=>by cases h
 len:=by unfold capS capE;simp
theorem rs_acc {K:Fg} {H₀:Hp} {F0:Fz} {F H:Hp} {σ:L2.St} {en:EnvD} {p:Addr} {o:HO} (r:RS K H₀ F0 F H σ en []) (h0:F0.h p=none) (hf:F p=none):RS K H₀ F0 F (upd H p o) σ en [] where
 fh:=r.fh.upd o hf
 hh:=r.hh.upd o h0
 ff:=r.ff
 fr:=r.fr
 slot:=r.slot
 own:=fun i d _ h=>by cases h
 dis:=fun i j p _ _ h=>by cases h
 pin:=fun i h=>by cases h
 len:=r.len
theorem ifO_ite2 {α:Type} {o:Option D} {x y:Option α} {r:α} (h:ifO o x y=some r):∃ b,o=some (.bl b)/\(b=true->x=some r)/\(b=false->y=some r):=by
 obtain ⟨b,h1,h2⟩:=ifO_some h
 refine ⟨b,h1,fun z=>?_,fun z=>?_⟩
 ·subst z;exact h2
 ·subst z;exact h2
structure ItOkH (K:Fg) (F H:Hp) (J:It) (ds:List D):Prop where
 go:∀ i F' H',Sm F F'->Sm F' H'->Sm H H'->i<ds.length->J.go i H'
 yld:∀ i F' H' x H2,Sm F F'->Sm F' H'->Sm H H'->i<ds.length->J.yld i H' x H2->∃ F2 d,Gr F' H' F2 H2/\ds[i]?=some d/\Rep K F2 x d
 stop:∀ i F' H',Sm F F'->Sm F' H'->Sm H H'->ds.length<=i->J.stop i H'
def tIH (X:Cx) (O:List Nat) (it:EvI):TI:=fun σ H R=>∃ F0 F e ds,RS X.K X.H₀ F0 F H σ e O/\it e=some ds/\∀ F' H' J,Gr F H F' H'->ItOkH X.K F' H' J ds->R J H'
theorem dih (h:PI X tg iter (tI X O it)):PI X tg iter (tIH X O it):=PI.imp h fun σ H R ⟨F0,F,en,ds,rs,z,k⟩=>⟨F0,F,en,ds,rs,z,fun F' H' J g io=>k F' H' J g ⟨fun i F2 H2 a b _=>io.go i F2 H2 a b,fun i F2 H2 x H3 a b _=>io.yld i F2 H2 x H3 a b,fun i F2 H2 a b _=>io.stop i F2 H2 a b⟩⟩
theorem di_own (i:Nat) {x:Str} {p:Pos} (hN:X.N[i]?=some x:=by rfl) (hv:Vis X.env.scope x:=by first | exact Or.inl rfl | exact Or.inr (Or.inl rfl) | exact Or.inr (Or.inr rfl)) (hd:(x==("__debug__":Str))=false:=by decide) (hcd:(x==("__classdict__":Str))=false:=by decide):PI X tg (.Name x p) (tIH X O (iLst (eV i))):=PI.imp (pi_list (dr_var (O:=O) i hN hv hd hcd)) fun σ H R ⟨F0,F,en,ds,rs,z,k⟩=>by
 obtain ⟨d,e1,e2⟩:=bind1 z
 refine ⟨F0,F,en,d,rs,e1,fun v F1 H1 g1 r1=>?_⟩
 have fin:∀ (a:Addr) (xs:List V),SqL X.K H1 a xs->Reps X.K F1 xs ds->R (Itl X.K a) H1:=fun a xs ha r=>k F1 H1 _ g1
  ⟨fun i F' H' s s' sh hi=>by
   obtain ⟨v,h1,_⟩:=r.get (List.getElem?_eq_getElem hi)
   exact ⟨xs,v,sh.sqL ha,h1⟩,
  fun i F' H' x H2 s s' sh hi ⟨hH,hx⟩=>by
   subst hH
   have hx':=hx xs (sh.sqL ha)
   obtain ⟨d,h1,h2⟩:=r.getV hx'
   exact ⟨F',d,.refl s',h1,h2.mono s⟩,
  fun i F' H' s s' sh hi=>⟨xs,sh.sqL ha,by rw [r.length];exact hi⟩⟩
 cases d with
 | lst ds'=>cases e2;obtain ⟨a,xs,rfl,h,r⟩:=r1.lst g1.fh;exact ⟨a,rfl,⟨xs,SqL.of h⟩,fin a xs (SqL.of h) r⟩
 | scr ns=>cases e2;obtain ⟨a,rfl,h⟩:=r1.scr;exact ⟨a,rfl,⟨_,g1.fh.sqL h⟩,fin a _ (g1.fh.sqL h) (Reps.ints ns)⟩
 | _=>cases e2
theorem comp_core (hx:X.xe=fun _ _=>False) (hc:X.calm=true) (S:CompSc X scope n N' caps) (hO:∀ i∈caps,i∉O) (hi:PI X tg iter (tIH X O it)) (hg:AllCx X scope N' fun Y=>PG Y tg (tG Y [] [] g)) (ht:AllCx X scope N' fun Y=>PIf Y ifs (tDT Y [] c)) (he:AllCx X scope N' fun Y=>PE Y elt (tD Y [] el))
  (hs:∀ x,foldedSetIterable iter X.env x=pure x) {use:Option (Value->Sem Unit)} {Qv:Value->Shared->Prop} {cpos:Pos} {pins:List (Addr×Obj)} {σ:L2.St} {H:Hp} {s:Shared} (I:Inv X pins σ H s) {F0:Fz} {F:Hp} {en:EnvD} {ds tot:List D} (rs:RS X.K X.H₀ F0 F H σ en O) (e1:it en=some ds) (hlen:ds.length<=lI)
  (e3:compD g c el ds (capE n caps en)=some tot)
  (fin0:∀ acc C s' H' F' xs m,H acc=none->Inv X pins σ H' s'->FpOk X pins H' C->s'.heap.Ns C m->Gr F H F' H'->F' acc=none->H' acc=some (.lst xs)->Reps X.K F' xs tot->compPost (model X.prog X.w) X.A X.xe use Qv (.ref acc) C (.ok .next) s') :
  wpAny (model X.prog X.w) X.A (comprehension (.ListComp elt [⟨tg,iter,ifs,0⟩] scope pos) scope X.env cpos (newList []) false (eval iter X.env) use) Qv X.xe s:=by
 obtain ⟨cl,hclo,hcl,hhas⟩:=closureFor_ok (scope:=scope) (env:=X.env) fun x hx hk=>I.ok.has x.1 (S.fre x hx hk)
 refine wpAny_comprehension_free (use:=use) rfl hs hclo S.kind S.loc ?_
 refine thn (hi pins s σ H _ I ⟨F0,F,en,ds,rs,e1,fun F' H' J gr io=>⟨F',gr,io⟩⟩:wpAny (model X.prog X.w) X.A (eval iter X.env) (fun v s1=>wpAny (model X.prog X.w) X.A (pyIter v) (PIE X pins σ tg fun J H'=>∃ F',Gr F H F' H'/\ItOkH X.K F' H' J ds) X.xe s1) X.xe s) fun v s1 h1=>?_
 refine thn h1 fun itv s2 h2=>?_
 obtain ⟨ita,fp,tn,J,H2,rfl,I2,T,st2,f2,F2,gr,io⟩:=h2
 have fpo:∀ b∈fp,FpOk X pins H2 b/\b<s2.heap.objs.size:=fun b hb=>by
  obtain ⟨o,ho,_⟩:=T.obj 0 _ st2 b hb
  exact ⟨f2 b hb,Heap.lt_size ho⟩
 have hacc:H2 s2.heap.objs.size=none:=I2.hok.fresh (Nat.le_refl _)
 have hz:(s2.heap.push { cls:=.type "list",data:=.seq #[] }).objs.size=s2.heap.objs.size+1:=Heap.size_push ..
 refine wpAny_newObj_type (wpAny_newFunctionEnv S.nocell (by intro y hy;simp at hy) (fun h1 hns1 hsb1=>?_) S.kind)
 dsimp only at hns1 hsb1 ⊢
 have hns:h1.Ns (s2.heap.objs.size+1) fun _=>none:=by
  have q:=hns1
  rw [hz] at q
  exact q
 have old:∀ b o,(s2.heap.push { cls:=.type "list",data:=.seq #[] }).get? b=some o->h1.get? b=some o:=fun b o e =>
  hsb1.extBut b o (Nat.ne_of_lt (Heap.lt_size e)) (Heap.get?_push_of_some _ e)
 have I4:=comp_start (tk:=s2.toks+([]:List (Str×Value)).length) I2 S hcl hhas fpo hns old
 have loop:∀ (R:Result->Shared->Prop),(∀ s' H' F' xs m,Inv (compCx X scope N' cl (s2.heap.objs.size+1) (s2.heap.objs.size::fp) { s2 with heap:=s2.heap.push { cls:=.type "list",data:=.seq #[] } } H2 (X.pn++pins)) [] m H' s'->Gr F2 H2 F' H'->F' s2.heap.objs.size=none->H' s2.heap.objs.size=some (.lst xs)->Reps X.K F' xs tot->R (.ok .next) s') ->
   codeAny (model X.prog X.w) X.A (.compLoop (.ListComp elt [⟨tg,iter,ifs,0⟩] scope pos) 0 (.ref ita) (.ref s2.heap.objs.size) (compEnvC scope cl (s2.heap.objs.size+1) X.env)) R { s2 with heap:=h1,toks:=s2.toks+([]:List (Str×Value)).length }:=by
  intro R hR
  have gY:=hg cl (s2.heap.objs.size+1) (s2.heap.objs.size::fp) { s2 with heap:=s2.heap.push { cls:=.type "list",data:=.seq #[] } } H2 (X.pn++pins)
  have tY:=ht cl (s2.heap.objs.size+1) (s2.heap.objs.size::fp) { s2 with heap:=s2.heap.push { cls:=.type "list",data:=.seq #[] } } H2 (X.pn++pins)
  have eY:=he cl (s2.heap.objs.size+1) (s2.heap.objs.size::fp) { s2 with heap:=s2.heap.push { cls:=.type "list",data:=.seq #[] } } H2 (X.pn++pins)
  generalize hY:compCx X scope N' cl (s2.heap.objs.size+1) (s2.heap.objs.size::fp) { s2 with heap:=s2.heap.push { cls:=.type "list",data:=.seq #[] } } H2 (X.pn++pins)=Y at I4 gY tY eY hR
  have yK:Y.K=X.K:=by rw [<- hY];rfl
  have yP:Y.prog=X.prog:=by rw [<- hY];rfl
  have yW:Y.w=X.w:=by rw [<- hY];rfl
  have yA:Y.A=X.A:=by rw [<- hY];rfl
  have yH:Y.H₀=H2:=by rw [<- hY];rfl
  have yE:Y.env=compEnvC scope cl (s2.heap.objs.size+1) X.env:=by rw [<- hY];rfl
  have yX:Y.xe=fun _ _=>False:=by rw [<- hY];rfl
  have yc:Y.calm=true:=by rw [<- hY];exact hc
  have yf:Y.fs=frs X.stack:=by rw [<- hY];rfl
  have yx:Y.ex=s2.heap.objs.size::fp:=by rw [<- hY];rfl
  have yp:Y.pn=X.pn++pins:=by rw [<- hY];rfl
  have stat:∀ {H':Hp},(∀ b∈fp,H' b=none)->∀ b∈fp,FpOk Y [] H' b:=fun hn b hb=>by
   obtain ⟨⟨_,q1,q2,q3,q4,q5⟩,q6⟩:=fpo b hb
   refine ⟨hn b hb,?_,?_,.inl ?_,fun x c e=>?_,fun p hp=>q5 p ?_⟩
   ·rw [yE];exact Nat.ne_of_lt (Nat.lt_succ_of_lt q6)
   ·rw [yf]
    intro hf
    rcases List.mem_cons.mp (I2.stkSub b hf) with w | w
    ·exact q1 w
    ·exact q2 w
   ·rw [yx];exact List.mem_cons_of_mem _ hb
   ·rw [yE] at e;exact q4 x c (hcl x c e)
   ·rw [yp] at hp;simpa using hp
  rw [<- yP,<- yW,<- yA,<- yE]
  have T':Turn Y.prog Y.w Y.K tg J fp ita tn:=by rw [yP,yW,yK];exact T
  have nofp:∀ b∈fp,b≠s2.heap.objs.size:=fun b hb=>Nat.ne_of_lt (fpo b hb).2
  refine comp_loop (E:=Y.xe) (fun x s h=>by rw [yX] at h;exact h) (fun m s'=>∃ i σ' H' F' en' xs done rest,m=ds.length-i/\i<=ds.length/\Inv Y [] σ' H' s'/\tn i s'.heap/\(∀ b∈fp,H' b=none)/\RS X.K H2 ⟨F2,H2,none⟩ F' H' σ' en' []/\H' s2.heap.objs.size=some (.lst xs)/\F' s2.heap.objs.size=none /\
   Reps X.K F' xs done/\compD g c el (ds.drop i) en'=some rest/\done++rest=tot/\done.length<=i) ?_ ds.length
   ⟨0,capS n caps σ,_,F2,capE n caps en,[],[],tot,by omega,by omega,I4,T.keep 0 _ _ st2 (fun b hb o e=>old b o (Heap.get?_push_of_some _ e)),fun b hb=>?_,rs_acc (rs_cap (rs.grow gr) hO) hacc ((rs.grow gr).fh.none hacc),upd_same,(rs.grow gr).fh.none hacc,.nil,by rw [List.drop_zero];exact e3,rfl,Nat.le_refl _⟩
  ·rintro m s3 ⟨i,σ3,H3,F3,en3,xs,done,rest,rfl,hle,I3,st3,fr3,rs3,ha3,fa3,r3,q3,tot3,dl3⟩
   have gr3:Gr F2 H2 F3 H3:=rs3.ex.gr
   rcases Nat.lt_or_ge i ds.length with hi | hi
   ·refine thn (T'.item Y rfl rfl rfl yc i [] s3 σ3 H3 Y.xe I3 (stat fr3) st3 (io.go i F3 H3 gr3.ff rs3.fh rs3.hh hi)) fun r s4 ⟨u,hr,h4⟩=>?_
    subst hr
    refine thn h4 fun _ s5 ⟨x,H5,I5,r5,y5,st5,fr5⟩=>?_
    obtain ⟨F5,dx,g5,hd5,rx5⟩:=io.yld i F3 H3 x H5 gr3.ff rs3.fh rs3.hh hi y5
    have hdr:ds.drop i=dx::ds.drop (i+1):=by
     rw [List.drop_eq_getElem_cons hi]
     rw [List.getElem?_eq_getElem hi] at hd5
     cases hd5;rfl
    rw [hdr] at q3
    obtain ⟨en6,q4,q5⟩:=bind1 (show ((g dx en3).bind fun e1=>ifO (c e1) ((el e1).bind fun x=>(compD g c el (ds.drop (i+1)) e1).map fun r=>x::r) (compD g c el (ds.drop (i+1)) e1))=some rest from q3)
    obtain ⟨b,q6,qt,qf⟩:=ifO_ite2 q5
    have I5':=I5.pinned (stat fr5) (T.obj _ _ st5)
    have a5:H5 s2.heap.objs.size=some (.lst xs):=g5.hh _ _ ha3
    have n5:F5 s2.heap.objs.size=none:=by
     cases w:F5 s2.heap.objs.size with
     | none=>rfl
     | some o =>
      rcases g5.fr _ o w with z | z
      ·rw [fa3] at z;cases z
      ·rw [ha3] at z;cases z
    have rs5:RS Y.K Y.H₀ ⟨F2,H2,none⟩ F5 H5 σ3 en3 []:=by rw [yK,yH];exact rs3.grow g5
    refine thn (gY _ s5 σ3 H5 x u (fun σ' H'=>∃ F',Gr F5 H5 F' H'/\RS Y.K Y.H₀ ⟨F2,H2,none⟩ F' H' σ' en6 []) I5' r5 ⟨⟨F2,H2,none⟩,F5,en3,dx,en6,rs5,by rw [yK];exact rx5,q4,fun σ' H' F' g' r'=>⟨F',g',r'⟩⟩) fun _ s6 ⟨σ6,H6,I6,F6,g6,rs6⟩=>?_
    have keepN:∀ {Fa Ha Fb Hb:Hp},Gr Fa Ha Fb Hb->Ha s2.heap.objs.size=some (.lst xs)->Fa s2.heap.objs.size=none->Hb s2.heap.objs.size=some (.lst xs)/\Fb s2.heap.objs.size=none:=fun {Fa Ha Fb Hb} gg ha fa=>by
     refine ⟨gg.hh _ _ ha,?_⟩
     cases w:Fb s2.heap.objs.size with
     | none=>rfl
     | some o =>
      rcases gg.fr _ o w with z | z
      ·rw [fa] at z;cases z
      ·rw [ha] at z;cases z
    obtain ⟨a6,n6⟩:=keepN g6 a5 n5
    refine thn (tY _ s6 σ6 H6 (fun b' H'=>b'=b/\∃ F',Gr F6 H6 F' H') I6 ⟨⟨F2,H2,none⟩,F6,en6,b,rs6,q6,fun F' H' g'=>⟨rfl,F',g'⟩⟩) fun ok s7 ⟨H7,I7,hb,F7,g7⟩=>?_
    subst hb
    obtain ⟨a7,n7⟩:=keepN g7 a6 n6
    have rs7:=rs6.grow g7
    have sm7:Sm F3 F7:=(g5.ff.trans g6.ff).trans g7.ff
    have back:∀ {σ8:L2.St} {H8:Hp} {s8:Shared},Inv Y ([]++pinsAt fp s5.heap) σ8 H8 s8->Inv Y [] σ8 H8 s8/\tn (i+1) s8.heap/\∀ b∈fp,H8 b=none:=fun {σ8 H8 s8} I8=>by
     refine ⟨I8.unpinned,T.keep _ _ _ st5 fun b hb o e=>(I8.pin (b,o) (List.mem_append_right _ (List.mem_append_right _ (mem_pinsAt hb e)))).1,fun b hb=>?_⟩
     obtain ⟨o,e,_⟩:=T.obj _ _ st5 b hb
     exact (I8.pin (b,o) (List.mem_append_right _ (List.mem_append_right _ (mem_pinsAt hb e)))).2.1
    cases ok with
    | false =>
     rw [if_neg Bool.false_ne_true]
     obtain ⟨k1,k2,k3⟩:=back I7
     exact ⟨_,by omega,i+1,σ6,H7,F7,en6,xs,done,rest,rfl,hi,k1,k2,k3,by rw [yK,yH] at rs7;exact rs7,a7,n7,r3.mono sm7,qf rfl,tot3,by omega⟩
    | true =>
     rw [if_pos rfl]
     obtain ⟨dy,q8,q9⟩:=bind1 (qt rfl)
     obtain ⟨rest',q10,q11⟩:=map1 q9
     refine thn (eY _ s7 σ6 H7 (fun v' H'=>∃ F',Gr F7 H7 F' H'/\Rep Y.K F' v' dy) I7 ⟨⟨F2,H2,none⟩,F7,en6,dy,rs7,q8,fun v' F' H' g' r'=>⟨F',g',r'⟩⟩) fun y s8 ⟨y',H8,I8,ry8,F8,g8,rp8⟩=>?_
     obtain ⟨a8,n8⟩:=keepN g8 a7 n7
     have rs8:=rs7.grow g8
     have sm8:Sm F3 F8:=sm7.trans g8.ff
     have len8:xs.length<sizeLine:=by
      rw [sizeN,r3.length];omega
     refine thn (mt_append (X:=Y) _ s8 σ6 H8 (.ref s2.heap.objs.size) [y'] (.ref s2.heap.objs.size) [y] (fun v' H'=>H'=upd H8 s2.heap.objs.size (.lst (xs++[y']))) I8 rfl (.cons ry8 .nil) ⟨_,xs,y',rfl,rfl,a8,len8,rfl⟩) fun _ s9 ⟨v9,H9,I9,_,hH9⟩=>?_
     subst hH9
     obtain ⟨k1,k2,k3⟩:=back I9
     rw [yK,yH] at rs8
     rw [yK] at rp8
     refine ⟨_,by omega,i+1,σ6,_,F8,en6,xs++[y'],done++[dy],rest',rfl,hi,k1,k2,k3,rs_acc rs8 hacc n8,upd_same,n8,(r3.mono sm8).append (.cons rp8 .nil),q10,?_,?_⟩
     ·rw [List.append_assoc];rw [<- tot3,<- q11];rfl
     ·rw [List.length_append,List.length_singleton];omega
   ·have hzz:ds.drop i=[]:=List.drop_eq_nil_of_le hi
    rw [hzz] at q3
    cases q3
    rw [List.append_nil] at tot3
    subst tot3
    refine thn (T'.done Y rfl rfl rfl yc i [] s3 σ3 H3 Y.xe I3 (stat fr3) st3 (io.stop i F3 H3 gr3.ff rs3.fh rs3.hh hi)) fun r s4 ⟨hr,I4'⟩=>?_
    subst hr
    exact hR s4 H3 F3 xs σ3 I4' gr3 fa3 ha3 r3
  ·rw [upd_ne (nofp b hb)];exact (fpo b hb).1.1
 have I3:Inv X pins σ H2 { s2 with heap:=s2.heap.push { cls:=.type "list",data:=.seq #[] } }:=I2.kept (t':=s2.toks) fun b o e=>Heap.get?_push_of_some _ e
 have fin:∀ s' H' F' xs m,Inv (compCx X scope N' cl (s2.heap.objs.size+1) (s2.heap.objs.size::fp) { s2 with heap:=s2.heap.push { cls:=.type "list",data:=.seq #[] } } H2 (X.pn++pins)) [] m H' s'->Gr F2 H2 F' H'->F' s2.heap.objs.size=none->H' s2.heap.objs.size=some (.lst xs)->Reps X.K F' xs tot ->
   compPost (model X.prog X.w) X.A X.xe use Qv (.ref s2.heap.objs.size) (s2.heap.objs.size+1) (.ok .next) s':=by
  intro s' H' F' xs m I' g' fa ha r'
  obtain ⟨mm,hn',_⟩:=id I'.loc
  have fC:H' (s2.heap.objs.size+1)=none:=I'.free
  have IX:Inv X pins σ H' s':=I3.call' (s':=s') (ch:=s2.heap.objs.size::fp) I'.os I'.base I'.hok I'.bare fun b hb=>by
   rcases List.mem_cons.mp hb with w | w
   ·obtain ⟨_,q1,_,q3,q4,q5⟩:=I2.fpOk (b:=b) (H':=H2) (by rw [w];exact Nat.le_refl _) (by rw [w];exact hacc)
    exact ⟨q3,q1,q4,q5⟩
   ·obtain ⟨⟨_,q1,_,q3,q4,q5⟩,_⟩:=fpo b w
    exact ⟨q3,q1,q4,q5⟩
  exact fin0 s2.heap.objs.size (s2.heap.objs.size+1) s' H' F' xs mm (gr.hh.none hacc) IX (I2.fpOk (H':=H') (Nat.le_succ _) fC) hn' (gr.trans g') fa ha r'
 have st1:tn 0 h1:=T.keep 0 _ _ st2 (fun b hb o e=>old b o (Heap.get?_push_of_some _ e))
 have L:=loop (compPost (model X.prog X.w) X.A X.xe use Qv (.ref s2.heap.objs.size) (s2.heap.objs.size+1)) fin
 show codeAny (model X.prog X.w) X.A (.compStart (.ListComp elt [⟨tg,iter,ifs,0⟩] scope pos) 0 (.ref ita) (.ref s2.heap.objs.size) (compEnvC scope cl (s2.heap.push { cls:=.type "list",data:=.seq #[] }).objs.size X.env)) (compPost (model X.prog X.w) X.A X.xe use Qv (.ref s2.heap.objs.size) (s2.heap.push { cls:=.type "list",data:=.seq #[] }).objs.size) _
 rw [hz]
 exact codeAny_compStart_list L (T.self _ 0 _ _ _ st1 L)
theorem table_goes {pins:List (Addr×Obj)} {σ:L2.St} {H:Hp} {s:Shared} {C:Addr} {h':Heap} (I:Inv X pins σ H s) (f:FpOk X pins H C) (sb:Heap.SameBut C s.heap h'):Inv X pins σ H { s with heap:=h' }:=by
 obtain ⟨f0,f1,_,f3,f4,f5⟩:=f
 exact I.turned (t':=s.toks) (fun b o hb e=>(sb.2 b hb).trans e) f0 f1 f3 f4 f5
theorem dO_comp (hx:X.xe=fun _ _=>False) (hc:X.calm=true) (S:CompSc X scope n N' caps) (hO:∀ i∈caps,i∉O) (hi:PI X tg iter (tIH X O it)) (hg:AllCx X scope N' fun Y=>PG Y tg (tG Y [] [] g)) (ht:AllCx X scope N' fun Y=>PIf Y ifs (tDT Y [] c)) (he:AllCx X scope N' fun Y=>PE Y elt (tD Y [] el))
  (hs:∀ x,foldedSetIterable iter X.env x=pure x:=by intro _;rfl):PE X (.ListComp elt [⟨tg,iter,ifs,0⟩] scope pos) (tO X O (eComp n caps it g c el)):=by
 intro pins s σ H Q I ⟨F0,F,en,d,rs,z,k⟩
 obtain ⟨ds,e1,e2⟩:=bind1 z
 split at e2
 case isFalse=>cases e2
 case isTrue hlen =>
 obtain ⟨tot,e3,rfl⟩:=map1 e2
 rw [eval_ListComp]
 refine comp_core hx hc S hO hi hg ht he hs (use:=none) I rs e1 hlen e3 fun acc C s' H' F' xs m n1 I' fC hn gr fa ha r'=>?_
 exact ⟨m,hn,fun h' sb=>⟨.ref acc,H',table_goes I' fC sb,rfl,k acc none xs tot F' H' gr n1 fa ha r' rfl trivial⟩⟩
theorem ds_setComp (i:Nat) {x:Str} {p spos:Pos} {OL:List Nat} {w:Bool} (hN:X.N.Nodup) (hx:X.xe=fun _ _=>False) (hc:X.calm=true) (S:CompSc X scope n N' caps) (hO:∀ i∈caps,i∉O) (hi:PI X tg iter (tIH X O it)) (hg:AllCx X scope N' fun Y=>PG Y tg (tG Y [] [] g)) (ht:AllCx X scope N' fun Y=>PIf Y ifs (tDT Y [] c)) (he:AllCx X scope N' fun Y=>PE Y elt (tD Y [] el))
  (hxi:X.N[i]?=some x:=by rfl) (hlx:Loc X.env.scope x:=by first | exact Or.inl rfl | exact Or.inr rfl) (hf:X.fn x=true\/X.env.scope.names.lookup x=some .local:=by first | exact .inl rfl | exact .inr rfl)
  (hsw:swapsWith (.ListComp elt [⟨tg,iter,ifs,0⟩] scope pos) (some (.Name x p)) spos.line X.env=pure true:=by rfl) (hs:∀ x,foldedSetIterable iter X.env x=pure x:=by intro _;rfl) (hq:pinN i∉O:=by decide) (hil:i<1000:=by decide) :
  PS X (.Assign [.Name x p] (.ListComp elt [⟨tg,iter,ifs,0⟩] scope pos) spos) (tS X O (ad i O) OL w (sAsg (eComp n caps it g c el) (gS i))):=by
 intro pins s σ H Dn I ⟨F0,F,en,fl,rs,z,k⟩
 obtain ⟨d,z1,z2⟩:=bind1 z
 obtain ⟨en',z3,rfl⟩:=map1 z2
 cases z3
 obtain ⟨ds,e1,e2⟩:=bind1 z1
 split at e2
 case isFalse=>cases e2
 case isTrue hlen =>
 obtain ⟨tot,e3,rfl⟩:=map1 e2
 rw [exec_Assign_Name_used _ _ _ _ hsw]
 refine wpAny_bind (wpAny_standAt (wpAny_bind ?_))
 show wpAny _ X.A (do let _ <- comprehension (.ListComp elt [⟨tg,iter,ifs,0⟩] scope pos) scope X.env _ (newList []) false (eval iter X.env) (some (assign (.Name x p) X.env))) _ _ s
 refine wpAny_bind (thn (comp_core hx hc S hO hi hg ht he hs (use:=some (assign (.Name x p) X.env)) (Qv:=fun _ s'=>SP X pins Dn .next s') I rs e1 hlen e3 fun acc C s' H' F' xs m n1 I' fC hn gr fa ha r'=>?_) fun _ s' hq=>wpAny_pure (wpAny_pure hq))
 show wpAny _ X.A (assign (.Name x p) X.env (.ref acc)) _ _ s'
 refine wpAny_assign_Name (store_ok2 I' hN hxi hlx (show RelV (.ref acc) (.ref acc) from rfl) (fun s'' I'' hch=>?_) hf)
 obtain ⟨a,sb,ha'⟩:=hch
 have hCa:C≠a:=by
  obtain ⟨_,f1,_,_,f4,_⟩:=fC
  rcases ha' with q | q
  ·rw [q];exact f1
  ·exact fun zz=>f4 x a q zz.symm
 have rs':=rs.grow gr
 refine ⟨m,hn.sameBut sb hCa,fun h' sb'=>⟨_,H',table_goes I'' fC sb',k _ F' H' gr.ff (rs'.putO' (kk:=none) i (rs.hh.none n1) fa ha trivial r' (fun j d' hj q2 _ q=>?_) hq (fun j z=>by unfold pinN at z;omega))⟩⟩
 obtain ⟨p',_,ys,es,h1,_,_,h4,_⟩:=rs.own j d' q2 hj
 rw [h1] at q
 cases q
 rw [n1] at h4
 cases h4
end
end Wd
namespace Wd
open PySem PySem.Spec PyProof.Rows L2
theorem filterMap_run (cps:Array Nat) (i k:Nat):((List.range k).map fun m=>i+m).filterMap (cps[·]?)=(cps.toList.drop i).take k:=by
 rw [List.filterMap_map]
 induction k generalizing i with
 | zero=>simp
 | succ k ih =>
  rw [List.range_succ_eq_map,List.filterMap_cons,List.filterMap_map]
  have e0:((fun x=>cps[x]?)∘fun m=>i+m) 0=cps[i]?:=by simp
  have e1:(((fun x=>cps[x]?)∘fun m=>i+m)∘Nat.succ)=((fun x=>cps[x]?)∘fun m=>(i+1)+m):=by
   funext m;simp only [Function.comp];rw [show i+Nat.succ m=i+1+m by omega]
  rw [e0,e1,ih (i+1)]
  cases q:cps[i]? with
  | none =>
   have hz:cps.toList.length<=i:=by
    rcases Nat.lt_or_ge i cps.size with h | h
    ·rw [Array.getElem?_eq_getElem h] at q;cases q
    ·simpa using h
   rw [List.drop_eq_nil_of_le hz,List.drop_eq_nil_of_le (Nat.le_succ_of_le hz)];simp
  | some v =>
   have hi:i<cps.toList.length:=by
    rcases Nat.lt_or_ge i cps.size with h | h
    ·simpa using h
    ·rw [Array.getElem?_eq_none h] at q;cases q
   have hv:cps.toList[i]=v:=by
    have:cps.toList[i]?=some v:=by simpa using q
    rw [List.getElem?_eq_getElem hi] at this
    exact Option.some.inj this
   rw [List.drop_eq_getElem_cons hi,hv,List.take_succ_cons]
theorem clip_nat (v:Option Int) (n d:Nat) (hd:d<=n):(match v with | none=>(d:Int) | some i=>max 0 (min (if i<0 then i+(n:Int) else i) (n:Int)))=((sIxD n d v:Nat):Int):=by
 cases v with
 | none=>rfl
 | some i=>simp only [sIxD];split<;>omega
theorem sliceRange_nat (a b:Nat):sliceRange (a:Int) (b:Int) 1=(List.range (b-a)).map fun m=>a+m:=by
 unfold sliceRange
 simp only [show (1:Int) > 0 by decide,if_true]
 have hc:(if (a:Int)<(b:Int) then ((b:Int)-(a:Int)+1-1)/1 else 0).toNat=b-a:=by
  split
  ·rw [Int.ediv_one];omega
  ·omega
 rw [hc]
 apply List.map_congr_left
 intro m _
 omega
theorem indices_eq (lo hi:Option Int) (n:Nat):Builtin.Str.strSliceIndices lo hi 1 n=(List.range (sIxD n n hi-sIxD n 0 lo)).map fun m=>sIxD n 0 lo+m:=by
 rw [<- sliceRange_nat]
 unfold Builtin.Str.strSliceIndices
 simp only [show (1:Int) > 0 by decide,if_true]
 have h1:=clip_nat lo n 0 (Nat.zero_le _)
 have h2:=clip_nat hi n n (Nat.le_refl _)
 cases lo<;>cases hi<;>dsimp only at h1 h2 ⊢<;>rw [<- h1,<- h2]<;>rfl
theorem slice_cut (x:Str) (lo hi:Option Int):Txt.slice x lo hi=cutS x lo hi:=by
 unfold Txt.slice cutS cutD
 have hl:x.cps.toList.length=x.length:=by simp [Str.length]
 rw [indices_eq,List.length_map,List.length_range,hl]
 split
 ·rename_i h
  have h':sIxD x.length x.length hi-sIxD x.length 0 lo=x.length:=by simpa using h
  have b1:sIxD x.length x.length hi<=x.length:=by
   cases hi with
   | none=>exact Nat.le_refl _
   | some v=>simp only [sIxD];split<;>omega
  by_cases z:x.length=0
  ·have:x.cps.toList=[]:=List.length_eq_zero_iff.mp (by rw [hl];exact z)
   obtain ⟨c⟩:=x
   have hc:c=#[]:=by simpa using this
   subst hc
   simp
  ·have b2:sIxD x.length 0 lo=0:=by omega
   rw [h',b2,List.drop_zero,<- hl,List.take_length]
 ·rw [filterMap_run]
section
variable {X:Cx} {O:List Nat} {e a b:Expr} {pos:Pos}
def rSlS:V->Option Int->Option Int->Hp->VK->Prop:=fun x lo hi H Q=>∃ z,x=.str z/\z.length<=sizeLine/\Q (.str (cutS z lo hi)) H
theorem part_of {v:Value} {o:Option Int} (p:IsPart v o):∃ l:Option (Int×Tok),partValue l=v/\l.map (·.1)=o:=by
 cases p with
 | none=>exact ⟨none,rfl,rfl⟩
 | int i t=>exact ⟨some (i,t),rfl,rfl⟩
theorem sl_str:SlR X rSlS:=by
 intro pins s σ H x v vl vu lo hi sl Q I rx hs pl pu h
 obtain ⟨z,rfl,hz,q⟩:=h
 obtain ⟨t,rfl⟩:=(show ∃ t,v=Value.str z t from rx)
 obtain ⟨l,rfl,rfl⟩:=part_of pl
 obtain ⟨u,rfl,rfl⟩:=part_of pu
 refine ⟨"str",_,F.slot_str_getitem.lookup,typeIs_str _ _ _,wpAny_getItem_str_slice (l:=l) (u:=u) (st:=none) hs rfl ?_⟩
 have e:=slice_cut z (l.map (·.1)) (u.map (·.1))
 refine post_val_or_str ⟨?_,fun t' k=>?_⟩
 ·exact Nat.le_trans (Txt.slice_le z (l.map (·.1)) (u.map (·.1))) hz
 ·have:EP X pins σ Q (.str (Txt.slice z (l.map (·.1)) (u.map (·.1))) t') { s with toks:=k }:=by
   rw [e];exact ⟨.str (cutS z _ _),H,I.tok k,⟨t',rfl⟩,q⟩
  exact this
theorem de_cutA {ev:EvE} {lo hi:Option Expr} {el eh:EvO} {p2:Pos} (he:PE X e (tR X O ev)) (hl:PO X lo (tOI X O el)) (hu:PO X hi (tOI X O eh)):PE X (.Subscript e (.Slice lo hi none p2) pos) (tD X O (eCut ev el eh)) :=
 PE.imp (pe_slice (SlR.or sl_str (SlR.or sl_list sl_tup)) he hl hu) fun σ H Q ⟨F0,F,en,d,rs,w,k⟩=>by
  obtain ⟨dx,e1,w1⟩:=bind1 w
  obtain ⟨l,u,e2,e3,e4⟩:=bind2 w1
  refine ⟨F0,F,en,dx,rs,e1,fun x F1 H1 g1 r1=>?_⟩
  refine ⟨F0,F1,en,l,rs.grow g1,e2,fun F2 H2 g2=>?_⟩
  refine ⟨F0,F2,en,u,(rs.grow g1).grow g2,e3,fun F3 H3 g3=>?_⟩
  have g13:=(g1.trans g2).trans g3
  have r3:=(r1.gr g2).gr g3
  have s3:=g3.fh
  cases dx with
  | str z =>
   simp only [cutA] at e4
   split at e4
   ·rename_i hz
    cases e4
    exact .inl ⟨z,r3.str,by rw [sizeN];exact hz,k _ F3 H3 g13 (.str _)⟩
   ·cases e4
  | lst ds =>
   cases e4
   obtain ⟨p,xs,rfl,h,r⟩:=r3.lst s3
   refine .inr (.inl ⟨p,xs,rfl,SqL.of h,fun q hq=>?_⟩)
   have g:=Gr.new s3 hq (.lst (cutV xs l u))
   exact k _ _ _ (g13.trans g) (.lst upd_same ((cut_reps r l u).mono g.ff))
  | scr ns =>
   cases e4
   obtain ⟨p,rfl,h⟩:=r3.scr
   refine .inr (.inl ⟨p,_,rfl,s3.sqL h,fun q hq=>?_⟩)
   have g:=Gr.new s3 hq (.lst (cutV (ns.map V.int) l u))
   have r:Reps X.K F3 (cutV (ns.map V.int) l u) (cutD (ns.map D.int) l u):=cut_reps (Reps.ints ns) l u
   have hc:cutD (ns.map D.int) l u=(cutD ns l u).map D.int:=by unfold cutD;rw [List.length_map,<- List.map_drop,<- List.map_take]
   rw [hc] at r
   exact k _ _ _ (g13.trans g) (.lst upd_same (r.mono g.ff))
  | tup ds =>
   have e5:(if sIxD ds.length 0 l=0/\sIxD ds.length ds.length u=ds.length then none else some (D.tup (cutD ds l u)))=some d:=e4
   split at e5
   ·cases e5
   ·rename_i hw
    cases e5
    obtain ⟨p,xs,rfl,h,r⟩:=r3.tup
    refine .inr (.inr ⟨p,xs,rfl,SqT.of (s3 _ _ h),?_,fun q hq=>?_⟩)
    ·rw [r.length];exact hw
    ·have g:=Gr.new s3 hq (.tup (cutV xs l u))
     exact k _ _ _ (g13.trans g) (.tup upd_same ((cut_reps r l u).mono g.ff))
  | _=>cases e4
def rStrip:V->List V->Hp->VK->Prop:=fun x xs H Q=>∃ z,x=.str z/\xs=[]/\z.length<=sizeLine/\Q (.str (Txt.strip z)) H
theorem mt_strip:MtR X "str.strip" rStrip:=by
 intro pins s σ H x xs v us Q I rx rs h
 obtain ⟨z,rfl,rfl,hz,q⟩:=h
 obtain ⟨t,rfl⟩:=(show ∃ t,v=Value.str z t from rx)
 cases Vals.zero rs
 exact SCL.strip (fun t' k _=>⟨.str (Txt.strip z),H,I.tok k,⟨t',rfl⟩,q⟩) hz
theorem de_strip {ev:EvE} {apos:Pos} (ha:PE X a (tR X O ev)) (hbase:attributeBase a "strip" X.env (eval a X.env)=eval a X.env:=by rfl) (hline:(apos.endLine==pos.line)=true:=by rfl):PE X (.Call (.Attribute a "strip" apos) [] [] pos) (tD X O (eUn D.strip ev)) :=
 PE.imp (pe_bm0 PySem.F.plainAttrs_str PySem.F.slot_str_strip PySem.F.type_str_strip mt_strip ha hbase hline) fun σ H Q ⟨F0,F,en,d,rs,w,k⟩=>by
  obtain ⟨dx,e1,e2⟩:=bind1 w
  refine ⟨F0,F,en,dx,rs,e1,fun v F1 H1 g1 r1=>?_⟩
  cases dx with
  | str z =>
   simp only [D.strip] at e2
   split at e2
   ·rename_i hz
    cases e2
    rw [r1.str]
    exact ⟨rfl,z,rfl,rfl,by rw [sizeN];exact hz,k _ F1 H1 g1 (.str _)⟩
   ·cases e2
  | _=>cases e2
theorem foldl_cps (c:Array Nat):∀ (k:Nat) (acc:Array Nat),(List.replicate k c).foldl (·++·) acc=(acc.toList++(List.replicate k c.toList).flatten).toArray
 | 0,acc=>by simp
 | k+1,acc=>by rw [List.replicate_succ,List.foldl_cons,foldl_cps c k,List.replicate_succ,List.flatten_cons];simp
theorem mul_eq (x:Str) (n:Int):Txt.mul x n=mulS x n:=by
 unfold Txt.mul mulS
 split
 ·rename_i h
  rw [show n.toNat=0 by omega];rfl
 ·split
  ·rename_i h1 h2
   by_cases z:n=1
   ·subst z
    obtain ⟨c⟩:=x
    simp
   ·have hx:x.length=0:=by
     rcases Bool.or_eq_true _ _ |>.mp h2 with w | w
     ·exact absurd (eq_of_beq w) z
     ·exact eq_of_beq w
    obtain ⟨c⟩:=x
    have hc:c=#[]:=by simpa [Str.length] using hx
    subst hc
    simp
  ·rw [foldl_cps];simp
def rMulS:R2:=fun x y H Q=>∃ z n,x=.str z/\y=.int n/\-1073741824<n/\n<1073741824/\z.length*n.toNat<=lI/\Q (.str (mulS z n)) H
theorem op_mulS:OpR X (binaryOp .Mult) rMulS:=by
 intro pins s σ H x y v u Q I rx ry h
 obtain ⟨z,n,rfl,rfl,h1,h2,h3,q⟩:=h
 obtain ⟨t,rfl⟩:=(show ∃ t,v=Value.str z t from rx)
 obtain ⟨t2,rfl⟩:=(show ∃ t,u=Value.int n t from ry)
 have ok:MulOk z n:=by
  refine ⟨?_,fun hn hc=>?_,fun hn hc=>?_⟩
  ·rw [decide_eq_false (by omega),decide_eq_false (by omega)];rfl
  ·have hz:z.length<=lI:=by
    have:1<=n.toNat:=by omega
    exact Nat.le_trans (Nat.le_mul_of_pos_right _ this) h3
   have:(9223372036854775807:Int)/n ≥ 8589934591:=by
    apply Int.le_ediv_of_mul_le (by omega)
    omega
   have e:((2:Int)^63-1)=9223372036854775807:=by decide
   rw [e]
   unfold lI at hz
   omega
  ·have h4:z.length*n.toNat<=sizeLine:=by rw [sizeN];exact h3
   unfold Builtin.Str.tooLong
   simpa using h4
 exact SB.mul ok fun t' k=>by rw [mul_eq];exact ⟨.str (mulS z n),H,I.tok k,⟨t',rfl⟩,q⟩
theorem op_mulA:OpR X (binaryOp .Mult) (fun x y H Q=>(rI CMul fun i j=>.int (i*j)) x y H Q\/(rMulS x y H Q\/rRep x y H Q))/\Op2 X (fun x y H Q=>(rI CMul fun i j=>.int (i*j)) x y H Q\/(rMulS x y H Q\/rRep x y H Q)) D.mulA:=by
 refine ⟨OpR.or op_mul (OpR.or op_mulS op_rep),fun F H x y dx dy d Q s rx ry e k=>?_⟩
 cases dx<;>cases dy<;>try (simp [D.mulA] at e;done)
 case int.int i j=>exact .inl (op_mulD.2 F H x y (.int i) (.int j) d Q s rx ry e k)
 case str.int z n =>
  simp only [D.mulA] at e
  split at e
  ·rename_i h
   cases e
   exact .inr (.inl ⟨z,n,rx.str,ry.int,h.1,h.2.1,h.2.2,k _ F H (.refl s) (.str _)⟩)
  ·cases e
 case lst.int ds n =>
  simp only [D.mulA] at e
  split at e
  ·rename_i h
   cases e
   obtain ⟨p,xs,rfl,hp,r⟩:=rx.lst s
   refine .inr (.inr ⟨p,n,xs,rfl,ry.int,hp,by omega,by omega,by rw [sizeN,r.length];exact h.2.2,fun q hq=>?_⟩)
   have g:=Gr.new s hq (.lst (List.replicate n.toNat xs).flatten)
   have rr:Reps X.K F (List.replicate n.toNat xs).flatten (List.replicate n.toNat ds).flatten:=by
    generalize n.toNat=m
    induction m with
    | zero=>exact .nil
    | succ m ih=>rw [List.replicate_succ,List.replicate_succ,List.flatten_cons,List.flatten_cons];exact r.append ih
   exact k _ _ _ g (.lst upd_same (rr.mono g.ff))
  ·cases e
end
end Wd
namespace Wd
open PySem PySem.Spec PyProof.Rows L2
section
variable {X:Cx} {O:List Nat} {e a b:Expr} {pos:Pos}
theorem flat_rd {K:Fg} {F H:Hp} {x:V} {d:D} (r:RdD K F H x d) (h:flatD d=true):flatV x=true/\Rep K F x d:=by
 cases d with
 | non=>rw [r.non];exact ⟨rfl,.non⟩
 | bl b=>rw [r.bl];exact ⟨rfl,.bl b⟩
 | int i=>rw [r.int];exact ⟨rfl,.int i⟩
 | str z=>rw [r.str];exact ⟨rfl,.str z⟩
 | _=>cases h
theorem eqV_D {K:Fg} {F:Hp} {x y:V} {dx dy:D} (rx:Rep K F x dx) (ry:Rep K F y dy) (hx:flatD dx=true) (hy:flatD dy=true):eqV y x=(D.eq dy dx==some true):=by
 cases rx with
 | non=>cases ry with
  | non=>rfl
  | bl q=>simp [D.eq,eqV]
  | int q=>simp [D.eq,eqV]
  | str q=>simp [D.eq,eqV]
  | _=>cases hy
 | bl p=>cases ry with
  | non=>simp [D.eq,eqV]
  | bl q=>cases p<;>cases q<;>rfl
  | int q =>
   have h:D.eq (.int q) (.bl p)=some (decide (q=b2i p)):=by rw [D.eq]
   rw [h]
   show (q==(if p then 1 else 0))=(some (decide (q=b2i p))==some true)
   by_cases z:q=b2i p
   ·rw [decide_eq_true z,z];unfold b2i;simp
   ·rw [decide_eq_false z]
    have:(q==(if p then 1 else 0))=false:=by
     apply beq_eq_false_iff_ne.mpr
     intro w;exact z w
    rw [this];rfl
  | str q=>simp [D.eq,eqV]
  | _=>cases hy
 | int p=>cases ry with
  | non=>simp [D.eq,eqV]
  | bl q =>
   have h:D.eq (.bl q) (.int p)=some (decide (b2i q=p)):=by rw [D.eq]
   rw [h]
   show ((if q then 1 else 0)==p)=(some (decide (b2i q=p))==some true)
   by_cases z:b2i q=p
   ·rw [decide_eq_true z,<- z];unfold b2i;simp
   ·rw [decide_eq_false z]
    have:((if q then 1 else 0)==p)=false:=by
     apply beq_eq_false_iff_ne.mpr
     intro w;exact z w
    rw [this];rfl
  | int q =>
   rw [eq_int]
   show (q==p)=(some (decide (q=p))==some true)
   by_cases z:q=p
   ·rw [decide_eq_true z,z,beq_self_eq_true];rfl
   ·rw [decide_eq_false z,beq_eq_false_iff_ne.mpr z];rfl
  | str q=>simp [D.eq,eqV]
  | _=>cases hy
 | str p=>cases ry with
  | non=>simp [D.eq,eqV]
  | bl q=>simp [D.eq,eqV]
  | int q=>simp [D.eq,eqV]
  | str q =>
   rw [eq_str]
   show (q==p)=(some (decide (q=p))==some true)
   by_cases z:q=p
   ·rw [decide_eq_true z,z,beq_self_eq_true];rfl
   ·rw [decide_eq_false z,beq_eq_false_iff_ne.mpr z];rfl
  | _=>cases hy
 | _=>cases hx
theorem inV_D {K:Fg} {F:Hp} {x:V} {dx:D} (rx:Rep K F x dx) (hx:flatD dx=true):∀ {ys:List V} {ds:List D},Reps K F ys ds->ds.all flatD=true->inV x ys=inD dx ds/\ys.all flatV=true
 | _,_,.nil,_=>⟨rfl,rfl⟩
 | _,_,.cons h r,hd=>by
  rw [List.all_cons,Bool.and_eq_true] at hd
  obtain ⟨i1,i2⟩:=inV_D rx hx r hd.2
  refine ⟨?_,?_⟩
  ·unfold inV at i1 ⊢
   rw [List.any_cons,i1,eqV_D rx h hx hd.1]
   rfl
  ·rw [List.all_cons,i2,(flat_rd (H:=F) (.inl h) hd.1).1];rfl
theorem op_inG {neg:Bool} {op:CmpOp} {g:D->D->Option D} (hr:OpR X (compareOp op) (rIn X.K neg))
  (h1:∀ dx dy d,g dx dy=some d->∃ ys,(dy=.tup ys\/dy=.lst ys)/\flatD dx=true/\ys.all flatD=true/\d=.bl (if neg then !inD dx ys else inD dx ys)):OpR X (compareOp op) (rIn X.K neg)/\Op2 X (rIn X.K neg) g:=by
 refine ⟨hr,fun F H x y dx dy d Q s rx ry e k=>?_⟩
 obtain ⟨ys,hy,fx,fy,rfl⟩:=h1 dx dy d e
 obtain ⟨fv,rp⟩:=flat_rd rx fx
 rcases hy with rfl | rfl
 ·obtain ⟨p,xs,rfl,hp,r⟩:=ry.tup
  obtain ⟨i1,i2⟩:=inV_D rp fx r fy
  refine ⟨p,xs,rfl,.inr (SqT.of (s _ _ hp)),fv,i2,?_⟩
  rw [i1];exact k _ F H (.refl s) (.bl _)
 ·obtain ⟨p,xs,rfl,hp,r⟩:=ry.lst s
  obtain ⟨i1,i2⟩:=inV_D rp fx r fy
  refine ⟨p,xs,rfl,.inl (SqL.of hp),fv,i2,?_⟩
  rw [i1];exact k _ F H (.refl s) (.bl _)
theorem op_inD:OpR X (compareOp .In) (rIn X.K false)/\Op2 X (rIn X.K false) D.inO:=op_inG op_in_seq fun dx dy d e=>by
 unfold D.inO at e
 split at e
 ·split at e
  ·rename_i ys h;cases e;exact ⟨ys,.inl rfl,h.1,h.2,rfl⟩
  ·cases e
 ·split at e
  ·rename_i ys h;cases e;exact ⟨ys,.inr rfl,h.1,h.2,rfl⟩
  ·cases e
 ·cases e
theorem op_notInD:OpR X (compareOp .NotIn) (rIn X.K true)/\Op2 X (rIn X.K true) D.notInO:=op_inG op_notIn_seq fun dx dy d e=>by
 unfold D.notInO at e
 split at e
 ·split at e
  ·rename_i ys h;cases e;exact ⟨ys,.inl rfl,h.1,h.2,rfl⟩
  ·cases e
 ·split at e
  ·rename_i ys h;cases e;exact ⟨ys,.inr rfl,h.1,h.2,rfl⟩
  ·cases e
 ·cases e
theorem dO_list {x:Str} {p:Pos} {ev:EvE} (hg:Gl X x) (hm:X.mg x=none) (hv:bootBuiltins x=some (.type "list")) (ha:PE X a (tR X O ev)) (hn:x≠"__name__":=by decide) (hdb:(x==("__debug__":Str))=false:=by decide)
  (he:starEach [a] X.env=[(false,eval a X.env)]:=by rfl):PE X (.Call (.Name x p) [a] [] pos) (tO X O (eUn D.listOf ev)) :=
 PE.imp (pe_callTy call_list_of hg hm hv (pa1R ha he) hn hdb he rfl) fun σ H Q ⟨F0,F,en,d,rs,w,k⟩=>by
  obtain ⟨dx,e1,e2⟩:=bind1 w
  refine ⟨F0,F,en,dx,rs,e1,fun v F1 H1 g1 r1=>?_⟩
  have fin:∀ (l:Addr) (xs:List V) (ds:List D),(SqL X.K H1 l xs\/SqT X.K H1 l xs)->Reps X.K F1 xs ds->d=.lst ds->∃ p ys,[V.ref l]=[.ref p]/\(SqL X.K H1 p ys\/SqT X.K H1 p ys)/\∀ l,H1 l=none->Q (.ref l) (upd H1 l (.lst ys)):=fun l xs ds hl r hd =>
   ⟨l,xs,rfl,hl,fun q hq=>k q none xs ds F1 _ (g1.trans (Gr.newO g1.fh hq (.lst xs))) (g1.hh.none hq) (g1.fh.none hq) upd_same r hd trivial⟩
  cases dx with
  | lst ds=>cases e2;obtain ⟨l,xs,rfl,h,r⟩:=r1.lst g1.fh;exact fin l xs ds (.inl (SqL.of h)) r rfl
  | tup ds=>cases e2;obtain ⟨l,xs,rfl,h,r⟩:=r1.tup;exact fin l xs ds (.inr (SqT.of (g1.fh _ _ h))) r rfl
  | scr ns=>cases e2;obtain ⟨l,rfl,h⟩:=r1.scr;exact fin l _ _ (.inl (g1.fh.sqL h)) (Reps.ints ns) rfl
  | _=>cases e2
theorem vals_at {vs:List V} {us:List Value} (r:Vals vs us) {i:Nat} {u:Value} (h:us[i]?=some u):∃ v,vs[i]?=some v/\RelV v u:=by
 have hl:=r.length
 rcases Nat.lt_or_ge i vs.length with hi | hi
 ·obtain ⟨u',h1,h2⟩:=r.get (List.getElem?_eq_getElem hi)
  rw [h] at h1
  cases h1
  exact ⟨_,List.getElem?_eq_getElem hi,h2⟩
 ·rw [List.getElem?_eq_none (by omega)] at h;cases h
theorem ints_at {ns:List Int} {us:List Value} (r:Vals (ns.map V.int) us) {i:Nat} {u:Value} (h:us.toArray[i]?=some u):∃ t,u=Value.int (ns.getD i 0) t:=by
 obtain ⟨v,h1,h2⟩:=vals_at r (by simpa using h)
 rw [List.getElem?_map] at h1
 cases q:ns[i]? with
 | none=>rw [q] at h1;cases h1
 | some n =>
  rw [q] at h1
  cases h1
  obtain ⟨t,rfl⟩:=(show ∃ t,u=Value.int n t from h2)
  exact ⟨t,by rw [List.getD_eq_getElem?_getD,q];rfl⟩
theorem walk_list {pins:List (Addr×Obj)} {σ:L2.St} {H:Hp} {s:Shared} {l:Addr} {us:List Value} {A:Around} {E:Value->Shared->Prop} {Q:Value->Shared->Prop} (I:Inv X pins σ H s) (hh:A.handled=none) (hp:PlainL s.heap l us.toArray)
  (h:∀ s₂:Shared,Walks X.prog X.w A s.heap.objs.size [s.heap.objs.size,l] [s.heap.objs.size] us.toArray.size (fun i v=>us.toArray[i]?=some v) (fun i h=>h.IsListIter s.heap.objs.size l i/\h.IsList l us.toArray) ->
   (s₂.heap.IsListIter s.heap.objs.size l 0/\s₂.heap.IsList l us.toArray)->(∀ b∈[s.heap.objs.size,l],b<s₂.heap.objs.size) ->
   (∀ (h':Heap) (tk:Nat),(∀ b o,b∉[s.heap.objs.size]->s₂.heap.get? b=some o->h'.get? b=some o)->Inv X pins σ H { s₂ with heap:=h',toks:=tk })->Q (.ref s.heap.objs.size) s₂) :
  wpAny (model X.prog X.w) A (pyIter (.ref l)) Q E s:=by
 have hlt:l<s.heap.objs.size:=by obtain ⟨_,_,e,_⟩:=hp;exact Heap.lt_size e
 refine wpAny_pyIter_list hp.isList (h _ (Walks.list hh _ l (Nat.ne_of_lt hlt) us.toArray) ⟨⟨_,Heap.get?_push_size _ rfl,rfl,rfl⟩,hp.isList.push _⟩ (fun b hb=>?_) fun h' tk hk=>?_)
 ·show b<(s.heap.push _).objs.size
  rw [Heap.size_push]
  rcases List.mem_cons.mp hb with rfl | hb
  ·exact Nat.lt_succ_self _
  ·rw [List.mem_singleton.mp hb];exact Nat.lt_succ_of_lt hlt
 ·exact I.kept (t':=tk) fun b u e=>hk b u (fun z=>by
   rw [List.mem_singleton.mp z] at e
   exact absurd (Heap.lt_size e) (Nat.lt_irrefl _)) (Heap.get?_push_of_some _ e)
theorem call_maxR (hc:X.calm=true):CallR X (.builtin "max") (fun xs H Q=>∃ (l:Addr) (n:Int) (ns:List Int),xs=[.ref l]/\SqL X.K H l ((n::ns).map V.int)/\Q (.int (maxI n ns)) H):=by
 intro pins s σ H xs us Q I r ⟨l,n,ns,hx,hq,q⟩
 subst hx
 obtain ⟨u,rfl,rx⟩:=vals1 r
 cases rx
 obtain ⟨its,rv,pl,hz⟩:=I.list hq
 refine call_max_walk (walk_list I (I.ok.hd hc) pl fun s₂ W st hfp back=>?_)
 have hval:∀ i v,its.toArray[i]?=some v->∃ t,v=Value.int ((n::ns).getD i 0) t:=fun i v h=>ints_at rv h
 have hl:=rv.length
 rw [List.length_map] at hl
 refine ⟨_,_,_,_,_,_,_,rfl,W,st,hfp,?_,CmpOf.ints_gt (fun i=>(n::ns).getD i 0) hval,fun v h' tk hP hk=>?_⟩
 ·rw [List.size_toArray,<- hl];exact Nat.succ_pos _
 ·obtain ⟨t,rfl⟩:=hval _ _ hP
  obtain ⟨b1,b2⟩:=argBest_gt (fun i=>(n::ns).getD i 0) (its.toArray.size-1)
  obtain ⟨m1,m2,m3⟩:=maxI_spec ns n
  generalize argBest (fun i j=>decide ((n::ns).getD i 0 > (n::ns).getD j 0)) (its.toArray.size-1)=k at b1 b2 ⊢
  have hsz:its.toArray.size=ns.length+1:=by rw [List.size_toArray,<- hl];rfl
  have e:(n::ns).getD k 0=maxI n ns:=by
   apply Int.le_antisymm
   ·cases k with
    | zero=>exact m2
    | succ k =>
     have hk':k<ns.length:=by omega
     show ns.getD k 0<=_
     rw [List.getD_eq_getElem?_getD,List.getElem?_eq_getElem hk']
     exact m3 _ (List.getElem_mem hk')
   ·rcases m1 with w | w
    ·rw [w];exact b2 0 (Nat.zero_le _)
    ·obtain ⟨j,hj,e⟩:=List.getElem_of_mem w
     have:=b2 (j+1) (by omega)
     rw [show (n::ns).getD (j+1) 0=ns.getD j 0 from rfl,List.getD_eq_getElem?_getD,List.getElem?_eq_getElem hj] at this
     rw [<- e];exact this
  rw [e]
  exact ⟨.int (maxI n ns),H,back h' tk hk,⟨t,rfl⟩,q⟩
theorem call_maxL (hc:X.calm=true):CallR X (.builtin "max") (fun xs H Q=>∃ (l:Addr) (n:Int) (ns:List Int),xs=[.ref l]/\SqL X.K H l ((n::ns).map V.int)/\Q (.int (maxI n ns)) H)/\C1 X (fun xs H Q=>∃ (l:Addr) (n:Int) (ns:List Int),xs=[.ref l]/\SqL X.K H l ((n::ns).map V.int)/\Q (.int (maxI n ns)) H) D.maxL:=by
 refine ⟨call_maxR hc,fun F H x dx d Q s rx e k=>?_⟩
 cases dx with
 | lst ds =>
  simp only [D.maxL] at e
  split at e
  ·rename_i n ns q
   cases e
   obtain ⟨l,xs,rfl,h,r⟩:=rx.lst s
   have:=r.intsOf q
   subst this
   exact ⟨l,n,ns,rfl,SqL.of h,k _ F H (.refl s) (.int _)⟩
  ·cases e
 | _=>cases e
theorem preSum_list (ns:List Int):∀ k,k<=ns.length->preSum (fun i=>ns.getD i 0) k=(ns.take k).sum
 | 0,_=>by simp [preSum]
 | k+1,h=>by
  rw [preSum,preSum_list ns k (by omega),List.take_succ,List.getElem?_eq_getElem (by omega),List.sum_append]
  simp [List.getElem?_eq_getElem (show k<ns.length by omega)]
theorem call_sumR (hc:X.calm=true):CallR X (.builtin "sum") (fun xs H Q=>∃ (l:Addr) (ns:List Int),xs=[.ref l]/\SqL X.K H l (ns.map V.int)/\Q (.int ns.sum) H):=by
 intro pins s σ H xs us Q I r ⟨l,ns,hx,hq,q⟩
 subst hx
 obtain ⟨u,rfl,rx⟩:=vals1 r
 cases rx
 obtain ⟨its,rv,pl,hz⟩:=I.list hq
 refine call_sum_walkAnyS (walk_list I (I.ok.hd hc) pl fun s₂ W st hfp back=>?_)
 have hval:∀ i v,its.toArray[i]?=some v->∃ t,v=Value.int (ns.getD i 0) t:=fun i v h=>ints_at rv h
 have hl:=rv.length
 rw [List.length_map] at hl
 refine ⟨_,_,_,_,_,_,_,(fun i=>ns.getD i 0),rfl,W.toS,st,hfp,hval,fun s' t' mv=>?_⟩
 have e:preSum (fun i=>ns.getD i 0) its.toArray.size=ns.sum:=by rw [List.size_toArray,<- hl,preSum_list ns ns.length (Nat.le_refl _),List.take_length]
 rw [e]
 have I':=back s'.heap s'.toks mv.heap
 have es:({ s₂ with heap:=s'.heap,toks:=s'.toks }:Shared)=s':=by
  obtain ⟨h',g',d',t',o'⟩:=s'
  have m1:g'=s₂.gens:=mv.gens
  have m2:d'=s₂.drawn:=mv.drawn
  have m3:o'=s₂.os:=mv.os
  subst m1 m2 m3
  rfl
 rw [es] at I'
 exact ⟨.int ns.sum,H,I',⟨t',rfl⟩,q⟩
theorem call_sumL (hc:X.calm=true):CallR X (.builtin "sum") (fun xs H Q=>∃ (l:Addr) (ns:List Int),xs=[.ref l]/\SqL X.K H l (ns.map V.int)/\Q (.int ns.sum) H)/\C1 X (fun xs H Q=>∃ (l:Addr) (ns:List Int),xs=[.ref l]/\SqL X.K H l (ns.map V.int)/\Q (.int ns.sum) H) D.sumL:=by
 refine ⟨call_sumR hc,fun F H x dx d Q s rx e k=>?_⟩
 cases dx with
 | lst ds =>
  obtain ⟨ns,q,rfl⟩:=map1 e
  obtain ⟨l,xs,rfl,h,r⟩:=rx.lst s
  have:=r.intsOf q
  subst this
  exact ⟨l,ns,rfl,SqL.of h,k _ F H (.refl s) (.int _)⟩
 | _=>cases e
theorem bools_of {K:Fg} {F:Hp}:∀ {vs:List V} {ds:List D} {bs:List Bool},Reps K F vs ds->boolsOf ds=some bs->vs=bs.map V.bl
 | _,_,bs,.nil,e=>by cases e;rfl
 | _,_,bs,.cons (d:=d) h r,e=>by
  cases h with
  | bl i =>
   simp only [boolsOf] at e
   cases q:boolsOf _ with
   | none=>rw [q] at e;cases e
   | some ms =>
    rw [q] at e
    cases e
    rw [bools_of r q];rfl
  | _=>simp [boolsOf] at e
theorem any_range (bs:List Bool):∀ k,k<=bs.length->(List.range k).any (fun i=>bs.getD i false)=(bs.take k).any id
 | 0,_=>by simp
 | k+1,h=>by
  rw [List.range_succ,List.any_append,any_range bs k (by omega),List.take_succ,List.getElem?_eq_getElem (by omega),List.any_append]
  simp [List.getElem?_eq_getElem (show k<bs.length by omega)]
theorem call_anyR (hc:X.calm=true):CallR X (.builtin "any") (fun xs H Q=>∃ (l:Addr) (bs:List Bool),xs=[.ref l]/\SqL X.K H l (bs.map V.bl)/\Q (.bl (bs.any id)) H):=by
 intro pins s σ H xs us Q I r ⟨l,bs,hx,hq,q⟩
 subst hx
 obtain ⟨u,rfl,rx⟩:=vals1 r
 cases rx
 obtain ⟨its,rv,pl,hz⟩:=I.list hq
 refine call_any_walk (walk_list I (I.ok.hd hc) pl fun s₂ W st hfp back=>?_)
 have hval:∀ i v,its.toArray[i]?=some v->v=Value.bool (bs.getD i false):=fun i v h=>by
  obtain ⟨w,h1,h2⟩:=vals_at rv (by simpa using h)
  rw [List.getElem?_map] at h1
  cases q:bs[i]? with
  | none=>rw [q] at h1;cases h1
  | some n =>
   rw [q] at h1
   cases h1
   rw [show v=Value.bool n from h2,List.getD_eq_getElem?_getD,q];rfl
 have hl:=rv.length
 rw [List.length_map] at hl
 refine ⟨_,_,_,_,_,_,(fun i=>bs.getD i false),rfl,W,st,fun i v s3 Q3 E3 hP hQ=>?_,fun h' tk hk=>?_⟩
 ·rw [hval i v hP];exact wpAny_truthy_bool hQ
 ·have e:(List.range its.toArray.size).any (fun i=>bs.getD i false)=bs.any id:=by rw [List.size_toArray,<- hl,any_range bs bs.length (Nat.le_refl _),List.take_length]
  rw [e]
  exact ⟨.bl (bs.any id),H,back h' tk hk,rfl,q⟩
theorem call_anyL (hc:X.calm=true):CallR X (.builtin "any") (fun xs H Q=>∃ (l:Addr) (bs:List Bool),xs=[.ref l]/\SqL X.K H l (bs.map V.bl)/\Q (.bl (bs.any id)) H)/\C1 X (fun xs H Q=>∃ (l:Addr) (bs:List Bool),xs=[.ref l]/\SqL X.K H l (bs.map V.bl)/\Q (.bl (bs.any id)) H) D.anyL:=by
 refine ⟨call_anyR hc,fun F H x dx d Q s rx e k=>?_⟩
 cases dx with
 | lst ds =>
  obtain ⟨bs,q,rfl⟩:=map1 e
  obtain ⟨l,xs,rfl,h,r⟩:=rx.lst s
  have:=bools_of r q
  subst this
  exact ⟨l,bs,rfl,SqL.of h,k _ F H (.refl s) (.bl _)⟩
 | _=>cases e
end
end Wd
namespace Wd
open PySem PySem.Spec PyProof.Rows L2
theorem ds_never {X:Cx} {O O' OL:List Nat} {w:Bool} {st:Stmt}:PS X st (tS X O O' OL w sNever):=fun _ _ _ _ _ _ ⟨_,_,_,_,_,z,_⟩=>by cases z
def compOk (osc:Scope) (oN:List Str) (scope:Scope) (n:Nat) (N':List Str) (caps:List Nat):Bool :=
 scope.kind==.function&&scope.names.all (fun y=>y.2 != .cell)&&scope.names.all (fun x=>x.2 != .local||scope.names.lookup x.1==some .local) &&
 scope.names.all (fun x=>x.2 != .free||osc.names.lookup x.1==some .cell||osc.names.lookup x.1==some .free)&&N'.length==n+caps.length &&
 (List.range caps.length).all (fun j=>match caps[j]?,N'[n+j]? with
  | some i,some x=>oN[i]?==some x&&scope.names.lookup x==some .free
  | _,_=>false)&&decide N'.Nodup
theorem compSc_of {X:Cx} {scope:Scope} {n:Nat} {N':List Str} {caps:List Nat} (h:compOk X.env.scope X.N scope n N' caps=true):CompSc X scope n N' caps:=by
 unfold compOk at h
 simp only [Bool.and_eq_true,decide_eq_true_eq,beq_iff_eq,List.all_eq_true] at h
 obtain ⟨⟨⟨⟨⟨⟨h1,h2⟩,h3⟩,h4⟩,h5⟩,h6⟩,h7⟩:=h
 refine ⟨h1,fun y hy z=>?_,fun x hx z=>?_,fun x hx z=>?_,h5,fun j i hj=>?_,h7⟩
 ·have:=h2 y hy
  rw [z] at this
  simp at this
 ·have:=h3 x hx
  rw [z] at this
  simpa using this
 ·have:=h4 x hx
  rw [z] at this
  have q:List.lookup x.1 X.env.scope.names=some NameKind.cell\/List.lookup x.1 X.env.scope.names=some NameKind.free:=by simpa using this
  exact q
 ·have hl:j<caps.length:=by
   rcases Nat.lt_or_ge j caps.length with w | w
   ·exact w
   ·rw [List.getElem?_eq_none w] at hj;cases hj
  have:=h6 j (List.mem_range.mpr hl)
  rw [hj] at this
  cases q:N'[n+j]? with
  | none=>rw [q] at this;cases this
  | some x =>
   rw [q] at this
   simp only [Bool.and_eq_true,beq_iff_eq] at this
   exact ⟨x,rfl,this.1,this.2⟩
end Wd
namespace Wd
open PySem
section
variable {es:List Expr} {env:Env}
theorem se_Constant {a b c}:starEach (.Constant a b c::es) env=(false,eval (.Constant a b c) env)::starEach es env:=rfl
theorem se_Name {a b}:starEach (.Name a b::es) env=(false,eval (.Name a b) env)::starEach es env:=rfl
theorem se_BinOp {a b c d}:starEach (.BinOp a b c d::es) env=(false,eval (.BinOp a b c d) env)::starEach es env:=rfl
theorem se_Compare {a b c d}:starEach (.Compare a b c d::es) env=(false,eval (.Compare a b c d) env)::starEach es env:=rfl
theorem se_Call {a b c d}:starEach (.Call a b c d::es) env=(false,eval (.Call a b c d) env)::starEach es env:=rfl
theorem se_Subscript {a b c}:starEach (.Subscript a b c::es) env=(false,eval (.Subscript a b c) env)::starEach es env:=rfl
theorem se_List {a b}:starEach (.List a b::es) env=(false,eval (.List a b) env)::starEach es env:=rfl
theorem se_Tuple {a b c}:starEach (.Tuple a b c::es) env=(false,eval (.Tuple a b c) env)::starEach es env:=rfl
theorem se_ListComp {a b c d}:starEach (.ListComp a b c d::es) env=(false,eval (.ListComp a b c d) env)::starEach es env:=rfl
end
end Wd
namespace Wd
open PySem PySem.Spec PyProof.Rows L2
section
variable {X:Cx} {O:List Nat} {es:List Expr} {l:EvL} {ea:EvE}
theorem Dk {a b c} (ha:PE X (.Constant a b c) (tD X O ea)) (hr:PA X es (tL X O l)):PA X (.Constant a b c::es) (tL X O (lC ea l)):=da_cons ha hr se_Constant
theorem da_Name {a b} (ha:PE X (.Name a b) (tD X O ea)) (hr:PA X es (tL X O l)):PA X (.Name a b::es) (tL X O (lC ea l)):=da_cons ha hr se_Name
theorem Db {a b c d} (ha:PE X (.BinOp a b c d) (tD X O ea)) (hr:PA X es (tL X O l)):PA X (.BinOp a b c d::es) (tL X O (lC ea l)):=da_cons ha hr se_BinOp
theorem da_Compare {a b c d} (ha:PE X (.Compare a b c d) (tD X O ea)) (hr:PA X es (tL X O l)):PA X (.Compare a b c d::es) (tL X O (lC ea l)):=da_cons ha hr se_Compare
theorem Dl {a b c d} (ha:PE X (.Call a b c d) (tD X O ea)) (hr:PA X es (tL X O l)):PA X (.Call a b c d::es) (tL X O (lC ea l)):=da_cons ha hr se_Call
theorem Du {a b c} (ha:PE X (.Subscript a b c) (tD X O ea)) (hr:PA X es (tL X O l)):PA X (.Subscript a b c::es) (tL X O (lC ea l)):=da_cons ha hr se_Subscript
theorem da_List {a b} (ha:PE X (.List a b) (tD X O ea)) (hr:PA X es (tL X O l)):PA X (.List a b::es) (tL X O (lC ea l)):=da_cons ha hr se_List
theorem Dt {a b c} (ha:PE X (.Tuple a b c) (tD X O ea)) (hr:PA X es (tL X O l)):PA X (.Tuple a b c::es) (tL X O (lC ea l)):=da_cons ha hr se_Tuple
theorem da_ListComp {a b c d} (ha:PE X (.ListComp a b c d) (tD X O ea)) (hr:PA X es (tL X O l)):PA X (.ListComp a b c d::es) (tL X O (lC ea l)):=da_cons ha hr se_ListComp
end
end Wd
namespace Wd
theorem lst_hz {n:Nat} {l:EvL} (h:∀ (e:EnvD) (d:List D),l e=some d->d.length<=n) (hn:n<=lI):∀ (e:EnvD) (d:List D),l e=some d->d.length<=lI:=fun e d w=>Nat.le_trans (h e d w) hn
theorem lz0:∀ (e:EnvD) (d:List D),lN e=some d->d.length<=lI:=lst_hz (n:=0) lNil_len (by decide)
theorem lz1 {p:EvE}:∀ (e:EnvD) (d:List D),(lC p lN) e=some d->d.length<=lI:=lst_hz (n:=1) (lCons_len lNil_len) (by decide)
theorem lz2 {p q:EvE}:∀ (e:EnvD) (d:List D),(lC p (lC q lN)) e=some d->d.length<=lI:=lst_hz (n:=2) (lCons_len (lCons_len lNil_len)) (by decide)
theorem lz3 {p q r:EvE}:∀ (e:EnvD) (d:List D),(lC p (lC q (lC r lN))) e=some d->d.length<=lI:=lst_hz (n:=3) (lCons_len (lCons_len (lCons_len lNil_len))) (by decide)
theorem lz4 {p q r t:EvE}:∀ (e:EnvD) (d:List D),(lC p (lC q (lC r (lC t lN)))) e=some d->d.length<=lI:=lst_hz (n:=4) (lCons_len (lCons_len (lCons_len (lCons_len lNil_len)))) (by decide)
open PySem PySem.Spec PyProof.Rows L2
end Wd
namespace Wd
open PySem PySem.Spec PyProof.Rows L2
theorem _root_.L2.Room.units1 {k:Nat} {A:Around} (r:Room k A):A.units+1<cLine:=by have:=r.units;omega
theorem valV_zip {K:Fg} {F:Hp} (k:Kd):∀ {ks:List Kd} {xs:List V} {ds:List D},ks.length=xs.length->Reps K F xs ds->(dVal ks ds k=none/\valV (ks.zip xs) k=none/\hasK k ks=false)\/∃ d v,dVal ks ds k=some d/\valV (ks.zip xs) k=some v/\Rep K F v d/\hasK k ks=true
 | [],xs,ds,_,_=>.inl ⟨by cases ds<;>rfl,rfl,rfl⟩
 | c::ks,[],_,h,_=>by cases h
 | c::ks,x::xs,_,h,.cons (d:=d) (ds:=ds) hx r=>by
  by_cases z:c=k
  ·right
   exact ⟨d,x,by show (if c=k then some d else _)=_;rw [if_pos z],valV_pos (p:=(c,x)) z,hx,by simp [hasK,z]⟩
  ·have e1:dVal (c::ks) (d::ds) k=dVal ks ds k:=by show (if c=k then some d else _)=_;rw [if_neg z]
   have e2:valV ((c::ks).zip (x::xs)) k=valV (ks.zip xs) k:=valV_neg (p:=(c,x)) z
   rw [e1,e2]
   rcases valV_zip k (by simpa using h) r with ⟨a,b,c'⟩ | ⟨d',v',a,b,c',m⟩
   ·refine .inl ⟨a,b,?_⟩
    show (decide (c=k)||hasK k ks)=false
    rw [c',decide_eq_false z];rfl
   ·refine .inr ⟨d',v',a,b,c',?_⟩
    show (decide (c=k)||hasK k ks)=true
    rw [m,Bool.or_true]
theorem any_zip (k:Kd):∀ {ks:List Kd} {xs:List V},ks.length=xs.length->((ks.zip xs).any fun kv=>decide (kv.1=k))=hasK k ks
 | [],_,_=>by simp [hasK]
 | c::ks,[],h=>by cases h
 | c::ks,x::xs,h=>by
  rw [List.zip_cons_cons,List.any_cons,any_zip k (by simpa using h)]
  rfl
def vRep:List Kd->List V->Kd->V->List V
 | c::ks,x::xs,k,v=>(if c=k then v else x)::vRep ks xs k v
 | _,_,_,_=>[]
theorem rep_zip {K:Fg} {F:Hp} (k:Kd) {v:V} {d:D} (hv:Rep K F v d):∀ {ks:List Kd} {xs:List V} {ds:List D},ks.length=xs.length->Reps K F xs ds ->
  (ks.zip xs).map (fun kv=>if kv.1=k then (kv.1,v) else kv)=ks.zip (vRep ks xs k v)/\ks.length=(vRep ks xs k v).length/\Reps K F (vRep ks xs k v) (dRep ks ds k d)
 | [],xs,ds,_,_=>⟨by simp,rfl,by cases ds<;>exact .nil⟩
 | c::ks,[],_,h,_=>by cases h
 | c::ks,x::xs,_,h,.cons (d:=d0) (ds:=ds) hx r=>by
  obtain ⟨a,b,c'⟩:=rep_zip k hv (ks:=ks) (xs:=xs) (by simpa using h) r
  refine ⟨?_,?_,?_⟩
  ·show (if c=k then (c,v) else (c,x))::(ks.zip xs).map _=(c,if c=k then v else x)::ks.zip (vRep ks xs k v)
   rw [a]
   by_cases z:c=k
   ·rw [if_pos z,if_pos z]
   ·rw [if_neg z,if_neg z]
  ·show ks.length+1=(vRep ks xs k v).length+1
   rw [b]
  ·refine .cons ?_ c'
   by_cases z:c=k
   ·rw [if_pos z,if_pos z];exact hv
   ·rw [if_neg z,if_neg z];exact hx
theorem Reps.snoc {K:Fg} {F:Hp} {xs:List V} {ds:List D} {v:V} {d:D} (r:Reps K F xs ds) (h:Rep K F v d):Reps K F (xs++[v]) (ds++[d]):=r.append (.cons h .nil)
theorem put_zip {K:Fg} {F:Hp} {k:Kd} {v:V} {d:D} (hv:Rep K F v d) {ks:List Kd} {xs:List V} {ds:List D} (hl:ks.length=xs.length) (r:Reps K F xs ds) :
  ∃ ks' xs' ds',HO.dK (putK (ks.zip xs) k v)=ho (some ks') xs'/\HoOk (some ks') xs'/\Reps K F xs' ds'/\dPut ks ds k d=dOf (some ks') ds':=by
 unfold putK dPut
 rw [any_zip k hl]
 by_cases z:hasK k ks=true
 ·obtain ⟨a,b,c⟩:=rep_zip k hv hl r
  refine ⟨ks,vRep ks xs k v,dRep ks ds k d,?_,b,c,?_⟩
  ·rw [if_pos z,a];rfl
  ·rw [if_pos z];rfl
 ·refine ⟨ks++[k],xs++[v],ds++[d],?_,?_,r.snoc hv,?_⟩
  ·rw [if_neg z]
   show HO.dK (ks.zip xs++[(k,v)])=.dK ((ks++[k]).zip (xs++[v]))
   rw [List.zip_append hl];rfl
  ·show (ks++[k]).length=(xs++[v]).length
   rw [List.length_append,List.length_append,hl];rfl
  ·rw [if_neg z];rfl
theorem kOf_rd {K:Fg} {F H:Hp} {v:V} {d:D} {k:Kd} (r:RdD K F H v d) (h:kOf d=some k):v=kV k:=by
 cases d with
 | str x=>cases h;exact r.str
 | int i=>cases h;exact r.int
 | _=>cases h
section
variable {X:Cx} {O O' OL:List Nat} {w:Bool} {e a b:Expr} {pos:Pos}
theorem dO_dict:PE X (.Dict [] [] pos) (tO X O (eC (.dic [] []))):=PE.imp pe_dnewK fun σ H Q ⟨F0,F,en,d,rs,z,k⟩=>by
 cases z
 intro p hp
 exact k p (some []) [] [] F _ (Gr.newO rs.fh hp (.dK [])) hp (rs.fh.none hp) upd_same .nil rfl rfl
theorem din_t {ea eb:EvE} {g:Bool->Bool} {f:D->D->Option D} (hf:∀ y d r,f y d=some r->∃ ks ds k,d=.dic ks ds/\kOf y=some k/\r=.bl (g (hasK k ks))) {σ:L2.St} {H:Hp} {Q:Bool->Hp->Prop} (h:tDT X O (eOp f ea eb) σ H Q) :
  tR X O ea σ H fun y H1=>tR X O eb σ H1 fun x H2=>∃ a o,x=.ref a/\DGet H2 a y o/\∃ d,V.bl (g o.isSome)=.bl d/\Q d H2:=by
 obtain ⟨F0,F,en,b,rs,z,k⟩:=h
 obtain ⟨dy,dx,e1,e2,e3⟩:=bind2 z
 obtain ⟨ks,ds,kk,rfl,q1,q2⟩:=hf _ _ _ e3
 refine ⟨F0,F,en,dy,rs,e1,fun y F1 H1 g1 r1=>⟨F0,F1,en,_,rs.grow g1,e2,fun x F2 H2 g2 r2=>?_⟩⟩
 obtain ⟨p,xs,rfl,h,hl,rp⟩:=r2.dic g2.fh
 refine ⟨p,valV (ks.zip xs) kk,rfl,?_,?_⟩
 ·rw [kOf_rd (r1.gr g2) q1];exact .inl ⟨_,_,h,rfl,rfl⟩
 ·have:(valV (ks.zip xs) kk).isSome=hasK kk ks:=by
   rcases valV_zip kk hl rp with ⟨_,n,m⟩ | ⟨d',v',_,a2,_,m⟩
   ·rw [n,m];rfl
   ·rw [a2,m];rfl
  rw [this]
  cases q2
  exact ⟨_,rfl,k F2 H2 (g1.trans g2)⟩
theorem dt_din {ea eb:EvE} (hu:X.A.units+1<cLine) (ha:PE X a (tR X O ea)) (hb:PE X b (tR X O eb)) (hm:behindInMarks .In b=false:=by with_unfolding_all rfl):PT X (.Compare a [.In] [b] pos) (tDT X O (eOp D.dIn ea eb)) :=
 PT.imp (pt_cmp (pc_din hu ha hb) hm) fun σ H Q h=>by
  have q:=din_t (g:=id) (fun y d r e=>by
   cases d with
   | dic ks ds=>obtain ⟨k,e1,rfl⟩:=map1 (show ((kOf y).map fun k=>D.bl (hasK k ks))=some r from e);exact ⟨ks,ds,k,rfl,e1,rfl⟩
   | _=>cases e) h
  exact q
theorem dt_dnotin {ea eb:EvE} (hu:X.A.units+1<cLine) (ha:PE X a (tR X O ea)) (hb:PE X b (tR X O eb)) (hm:behindInMarks .NotIn b=false:=by with_unfolding_all rfl):PT X (.Compare a [.NotIn] [b] pos) (tDT X O (eOp D.dNotIn ea eb)) :=
 PT.imp (pt_cmp (pc_dnotin hu ha hb) hm) fun σ H Q h=>by
  have q:=din_t (g:=not) (fun y d r e=>by
   cases d with
   | dic ks ds=>obtain ⟨k,e1,rfl⟩:=map1 (show ((kOf y).map fun k=>D.bl (!hasK k ks))=some r from e);exact ⟨ks,ds,k,rfl,e1,rfl⟩
   | _=>cases e) h
  exact q
theorem ds_dput (i:Nat) (hi:i∈O) {x:Str} {p pos':Pos} {v key:Expr} {ek ev:EvE} (hu:X.A.units+1<cLine) (hk:PE X key (tR X O ek)) (hv:PE X v (tD X O ev)) (hN:X.N[i]?=some x:=by rfl) (hvis:Vis X.env.scope x:=by first | exact Or.inl rfl | exact Or.inr (Or.inl rfl) | exact Or.inr (Or.inr rfl)) (hd:(x==("__debug__":Str))=false:=by decide) (hcd:(x==("__classdict__":Str))=false:=by decide)
  (hs:swapsWith v (some (.Subscript (.Name x p) key pos')) pos.line X.env=pure false:=by rfl):PS X (.Assign [.Subscript (.Name x p) key pos'] v pos) (tS X O O OL w (sDput i ek ev)) :=
 PS.imp (ps_dput hu (pe_var hN hvis hd hcd) hk hv hs) fun Dn σ H ⟨F0,F,en,fl,rs,z,k⟩=>by
  obtain ⟨dv,e1,z1⟩:=bind1 z
  obtain ⟨dx,e2,z2⟩:=bind1 z1
  obtain ⟨dy,e3,z3⟩:=bind1 z2
  obtain ⟨dz,e4,rfl⟩:=map1 z3
  refine ⟨F0,F,en,dv,rs,e1,fun u F1 H1 g1 r1=>?_⟩
  have rs1:=rs.grow g1
  obtain ⟨p,kk,xs,ds,h1,h2,h3,h4,h5,h6,h7⟩:=rs1.own i dx (eVar_at e2) hi
  refine ⟨_,h1,F0,F1,en,dy,rs1,e3,fun y F2 H2 g2 r2=>?_⟩
  have rs2:=rs1.grow g2
  obtain ⟨p',kk',xs',ds',k1,k2,k3,k4,k5,k6,k7⟩:=rs2.own i dx (eVar_at e2) hi
  rw [h1] at k1
  cases k1
  subst k6
  cases kk' with
  | none=>cases e4
  | some ks =>
   obtain ⟨kx,q1,q2⟩:=bind1 (show ((kOf dy).bind fun k=>if ks.length<lI then some (dPut ks ds' k dv) else none)=some dz from e4)
   split at q2
   ·rename_i hz
    cases q2
    obtain ⟨ks2,xs2,ds2,a1,a2,a3,a4⟩:=put_zip (k:=kx) (r1.mono g2.ff) k7 k5
    refine ⟨p,upd H2 p (.dK (putK (ks.zip xs') kx u)),rfl,?_,?_⟩
    ·rw [kOf_rd r2 q1]
     exact DPut.k k4 (by rw [List.length_zip,show ks.length=xs'.length from k7,Nat.min_self,<- show ks.length=xs'.length from k7,sizeN];exact hz)
    ·rw [a1]
     rw [a4] at k
     exact k _ F2 _ (g1.ff.trans g2.ff) (rs2.write hi (eVar_at e2) h1 k2 k3 a2 a3)
   ·cases q2
end
end Wd
namespace Wd
open PySem PySem.Spec PyProof.Rows L2
def er (H:Hp) (p:Addr):Hp:=fun a=>if a=p then none else H a
theorem er_same {H:Hp} {p:Addr}:er H p p=none:=if_pos rfl
theorem er_ne {H:Hp} {p a:Addr} (h:a≠p):er H p a=H a:=if_neg h
theorem er_sm {H:Hp} {p:Addr}:Sm (er H p) H:=fun a o h=>by
 by_cases z:a=p
 ·rw [z,er_same] at h;cases h
 ·rw [er_ne z] at h;exact h
theorem Sm.er {F H:Hp} (s:Sm F H) {p:Addr} (h:F p=Option.none):Sm F (er H p):=fun a o e=>by
 have:a≠p:=fun z=>by rw [z,h] at e;cases e
 rw [er_ne this];exact s a o e
def spM (K:Fg) (f:List D->Option D):Sp:=fun vs H Q _=>∃ F us cs p kk xs es d,Sm F H/\vs=us++[.ref p]/\Reps K F us cs/\F p=none/\H p=some (ho kk xs)/\HoOk kk xs/\Reps K F xs es/\f (cs++[dOf kk es])=some d /\
 ∀ kk' xs' es' F' H',Gr F (er H p) F' H'->F' p=none->H' p=some (ho kk' xs')->HoOk kk' xs'->Reps K F' xs' es'->d=dOf kk' es'->Q .non H'
section
variable {P:Program} {w:World} {K:Fg} {mg:Str->Option Value} {base:Heap} {x:Str} {st:Stmt} {N ps:List Str} {k:Nat} {b:EvS}
theorem rs_startM {F H:Hp} {us:List V} {cs:List D} {p:Addr} {kk:Option (List Kd)} {xs:List V} {es:List D} (n m:Nat) (hm:us.length=m) (hn:m<n) (hn2:n<=1000) (s:Sm F H) (r:Reps K F us cs) (hf:F p=none) (hp:H p=some (ho kk xs)) (hk:HoOk kk xs) (re:Reps K F xs es) :
  RS K H ⟨F,er H p,some p⟩ F H ((us++[V.ref p]).map some++List.replicate (n-(us++[V.ref p]).length) none) (sD n (cs++[dOf kk es])) [m,pinN m]:=by
 have hc:cs.length=m:=by rw [<- r.length];exact hm
 have em:(sD n (cs++[dOf kk es]))[m]?=some (some (dOf kk es)):=by
  unfold sD
  rw [List.getElem?_append_left (by rw [List.length_map,List.length_append,hc];simp),List.getElem?_map,List.getElem?_append_right (by omega),hc]
  simp
 have sm:((us++[V.ref p]).map some++List.replicate (n-(us++[V.ref p]).length) none)[m]?=some (some (V.ref p)):=by
  rw [List.getElem?_append_left (by rw [List.length_map,List.length_append,hm];simp),List.getElem?_map,List.getElem?_append_right (by omega),hm]
  simp
 have big:∀ i d,(sD n (cs++[dOf kk es]))[i]?=some (some d)->i<n:=fun i d h=>by
  have:i<(sD n (cs++[dOf kk es])).length:=by
   cases Nat.lt_or_ge i (sD n (cs++[dOf kk es])).length with
   | inl h=>exact h
   | inr h'=>rw [List.getElem?_eq_none h'] at h;cases h
  unfold sD at this
  rw [List.length_append,List.length_map,List.length_append,List.length_replicate,hc] at this
  simp at this
  omega
 refine ⟨s,er_sm,.refl F,fun _ _ h=>.inl h,fun i d h hi=>?_,fun i d h hi=>?_,fun i j q d1 d2 hi hj h1 h2 _ _=>?_,fun i hi=>?_,?_⟩
 ·have hne:i≠m:=fun z=>hi (by rw [z];simp)
  unfold sD at h
  rcases Nat.lt_or_ge i m with hl | hl
  ·rw [List.getElem?_append_left (by rw [List.length_map,List.length_append,hc];simp;omega),List.getElem?_map,List.getElem?_append_left (by omega)] at h
   have hd:cs[i]?=some d:=by
    cases q:cs[i]? with
    | none=>rw [q] at h;cases h
    | some d'=>rw [q] at h;cases h;rfl
   obtain ⟨v,h1,h2⟩:=r.get hd
   refine ⟨v,?_,h2⟩
   rw [List.getElem?_append_left (by rw [List.length_map,List.length_append,hm];simp;omega),List.getElem?_map,List.getElem?_append_left (by omega),h1];rfl
  ·rw [List.getElem?_append_right (by rw [List.length_map,List.length_append,hc];simp;omega),List.getElem?_replicate] at h
   split at h<;>cases h
 ·have hlt:=big i d h
  have hi':i=m:=by
   rcases List.mem_cons.mp hi with z | z
   ·exact z
   ·have:=List.mem_singleton.mp z
    unfold pinN at this;omega
  subst hi'
  rw [em] at h
  cases h
  exact ⟨p,kk,xs,es,sm,er_same,hf,hp,re,rfl,hk⟩
 ·have a1:=big i d1 h1
  have a2:=big j d2 h2
  have e1:i=m:=by
   rcases List.mem_cons.mp hi with z | z
   ·exact z
   ·have:=List.mem_singleton.mp z
    unfold pinN at this;omega
  have e2:j=m:=by
   rcases List.mem_cons.mp hj with z | z
   ·exact z
   ·have:=List.mem_singleton.mp z
    unfold pinN at this;omega
  rw [e1,e2]
 ·have:i=m:=by
   rcases List.mem_cons.mp hi with z | z
   ·unfold pinN at z;omega
   ·have:=List.mem_singleton.mp z
    unfold pinN at this;omega
  subst this
  exact ⟨p,rfl,sm⟩
 ·unfold sD;simp [r.length]
theorem okCM (h:Df K mg x st ps) (S:FnScope N ps (defScope st)) {O' OL:List Nat} (hps:0<ps.length) (hpn:ps.length<=N.length) (hN2:N.length<=1000) (hO1:ps.length-1∈O') (hO2:pinN (ps.length-1)∈O')
  (hb:∀ (f:Addr) (cdv:Value) (A:Around) (outer:List Env) (s:Shared) (H:Hp) (E:XK),Room k (A.deeper (envOfC x (defScope st) s.heap.objs.size f cdv))->PSs (cxOf CX0 P w K mg base N x (defScope st) f cdv A outer s H E).nox (defBody st) (tS (cxOf CX0 P w K mg base N x (defScope st) f cdv A outer s H E).nox [ps.length-1,pinN (ps.length-1)] O' OL false b)) :
  Cal P w K mg base (k+1) x ps (spM K (defM N.length ps.length b)):=by
 obtain ⟨f,fd,F,hbd,hm⟩:=h
 have len:∀ {us:List V} {cs:List D} {Fz:Hp} {p:Addr} {dd d:D},Reps K Fz us cs->defM N.length ps.length b (cs++[dd])=some d->us.length=ps.length-1/\cs.length=ps.length-1:=fun r e=>by
  unfold defM at e
  split at e
  ·rename_i z
   rw [List.length_append] at z
   simp at z
   have:=r.length
   omega
  ·cases e
 refine ⟨f,fd,F.ok S (fun vs H Q E ⟨Fz,us,cs,p,kk,xs,es,d,s,hv,r,hf,hp,hk,re,e,_⟩=>?_) (fun cdv A outer s H vs Q E hr ⟨Fz,us,cs,p,kk,xs,es,d,sm,hv,r,hf,hp,hk,re,e,k⟩=>?_),hbd,F.kp,hm⟩
 ·have:=len (p:=p) r e
  rw [hv,List.length_append];simp;omega
 ·refine ⟨_,hb f cdv A outer s H E hr,?_⟩
  have hl:=len (p:=p) r e
  have e':(match b (sD N.length (cs++[dOf kk es])) with
   | some (.nx e)=>(e[ps.length-1]?).join
   | _=>none)=some d:=by
   unfold defM at e
   split at e
   ·exact e
   ·cases e
  cases q:b (sD N.length (cs++[dOf kk es])) with
  | none=>rw [q] at e';cases e'
  | some fl =>
   rw [q] at e'
   have hst:start N vs=(us++[V.ref p]).map some++List.replicate (N.length-(us++[V.ref p]).length) none:=by rw [hv];rfl
   rw [hst]
   refine ⟨⟨Fz,er H p,some p⟩,Fz,sD N.length (cs++[dOf kk es]),fl,rs_startM N.length (ps.length-1) hl.1 (by omega) hN2 sm r hf hp hk re,q,?_⟩
   cases fl with
   | nx en =>
    intro σ' F' H' s' rs
    have hd:en[ps.length-1]?=some (some d):=eVar_at e'
    obtain ⟨p',kk',xs',es',h1,h2,h3,h4,h5,h6,h7⟩:=rs.own _ _ hd hO1
    obtain ⟨p2,m1,m2⟩:=rs.pin _ hO2
    cases m1
    rw [h1] at m2
    cases m2
    exact k kk' xs' es' F' H' rs.ex.gr h3 h4 h7 h5 h6
   | rt d'=>cases e'
   | bk en=>cases e'
   | ct en=>cases e'
end
theorem RS.call {K:Fg} {H₀:Hp} {F0:Fz} {F H F' H':Hp} {σ:L2.St} {en:EnvD} {O:List Nat} {i:Nat} {p:Addr} {d0:D} {kk:Option (List Kd)} {xs:List V} {es:List D} (r:RS K H₀ F0 F H σ en O) (hi:i∈O) (he:en[i]?=some (some d0)) (hσ:σ[i]?=some (some (.ref p))) (h0:F0.h p=none)
  (g:Gr F (er H p) F' H') (hf:F' p=none) (hp:H' p=some (ho kk xs)) (hk:HoOk kk xs) (re:Reps K F' xs es):RS K H₀ F0 F' H' σ (en.set i (some (dOf kk es))) O :=
 have hl:i<en.length:=by
  cases Nat.lt_or_ge i en.length with
  | inl h=>exact h
  | inr h=>rw [List.getElem?_eq_none h] at he;cases he
 {
 fh:=g.fh
 hh:=(r.hh.er h0).trans g.hh
 ff:=r.ff.trans g.ff
 fr:=fun a o e=>by
  rcases g.fr a o e with z | z
  ·exact r.fr a o z
  ·by_cases q:a=p
   ·rw [q,hf] at e;cases e
   ·rw [er_ne q] at z
    exact .inr (r.hh.none z)
 slot:=fun j d' e1 hj=>by
  have z:i≠j:=fun z=>hj (z▸hi)
  rw [set_get hl,if_neg z] at e1
  obtain ⟨v,h1,h2⟩:=r.slot j d' e1 hj
  exact ⟨v,h1,h2.mono g.ff⟩
 own:=fun j d' e1 hj=>by
  rw [set_get hl] at e1
  split at e1
  ·rename_i z;cases e1;subst z
   exact ⟨p,kk,xs,es,hσ,h0,hf,hp,re,rfl,hk⟩
  ·rename_i z
   obtain ⟨q,k2,ys,es2,h1,h2,h3,h4,h5,h6⟩:=r.own j d' e1 hj
   have qp:q≠p:=fun w:q=p=>z (r.dis i j p _ _ hi hj he e1 hσ (by rw [<- w];exact h1))
   have e4:er H p q=some (ho k2 ys):=by rw [er_ne qp];exact h4
   refine ⟨q,k2,ys,es2,h1,h2,?_,g.hh _ _ e4,h5.mono g.ff,h6⟩
   cases w:F' q with
   | none=>rfl
   | some o =>
    rcases g.fr q o w with z2 | z2
    ·rw [h3] at z2;cases z2
    ·rw [e4] at z2;cases z2
 dis:=fun j k q d1 d2 hj hk' f1 f2 g1 g2=>by
  rw [set_get hl] at f1 f2
  have k1:∃ d,en[j]?=some (some d):=by
   split at f1
   ·rename_i z;subst z;exact ⟨_,he⟩
   ·exact ⟨_,f1⟩
  have k2:∃ d,en[k]?=some (some d):=by
   split at f2
   ·rename_i z;subst z;exact ⟨_,he⟩
   ·exact ⟨_,f2⟩
  obtain ⟨_,k1⟩:=k1
  obtain ⟨_,k2⟩:=k2
  exact r.dis j k q _ _ hj hk' k1 k2 g1 g2
 pin:=r.pin
 len:=by rw [List.length_set];exact r.len }
def tLM (X:Cx) (O:List Nat) (i:Nat) (l:EvL):TA:=fun σ H Q=>∃ F0 F e ds p,RS X.K X.H₀ F0 F H σ e O/\l e=some ds/\σ[i]?=some (some (.ref p))/\∀ vs F' H',Gr F H F' H'->Reps X.K F' vs ds->Q (vs++[.ref p]) H'
section
variable {X:Cx} {O OL:List Nat} {w:Bool} {e a:Expr} {es:List Expr} {p pos cpos:Pos} {x y:Str} {ps:List Str} {k:Nat}
theorem da_own (i:Nat) (hN:X.N[i]?=some x:=by rfl) (hv:Vis X.env.scope x:=by first | exact Or.inl rfl | exact Or.inr (Or.inl rfl) | exact Or.inr (Or.inr rfl)) (hd:(x==("__debug__":Str))=false:=by decide) (hcd:(x==("__classdict__":Str))=false:=by decide):PA X [.Name x p] (tLM X O i lN) :=
 PA.imp (pa_cons (pe_var hN hv hd hcd) pa_nil se_Name) fun σ H Q ⟨F0,F,en,ds,q,rs,z,hσ,k⟩=>by
  cases z
  exact ⟨_,hσ,k [] F H (.refl rs.fh) .nil⟩
theorem da_consM {i:Nat} {ea:EvE} {l:EvL} (ha:PE X a (tD X O ea)) (hr:PA X es (tLM X O i l)) (hs:starEach (a::es) X.env=(false,eval a X.env)::starEach es X.env:=by rfl):PA X (a::es) (tLM X O i (lC ea l)) :=
 PA.imp (pa_cons ha hr hs) fun σ H Q ⟨F0,F,en,ds,q,rs,z,hσ,k⟩=>by
  obtain ⟨d,e1,e2⟩:=bind1 z
  obtain ⟨ds',e3,rfl⟩:=map1 e2
  refine ⟨F0,F,en,d,rs,e1,fun v F1 H1 g1 r1=>?_⟩
  exact ⟨F0,F1,en,ds',q,rs.grow g1,e3,hσ,fun vs F2 H2 g2 r2=>k (v::vs) F2 H2 (g1.trans g2) (.cons (r1.mono g2.ff) r2)⟩
theorem ds_callM (i:Nat) (hi:i∈O) {f:List D->Option D} {l:EvL} (c:Cal X.prog X.w X.K X.mg X.base k x ps (spM X.K f)) (hr:Room k X.A) (hg:Gl X x) (ha:PA X (e::es) (tLM X O i l)) (hdb:(x==("__debug__":Str))=false:=by decide) (he:starEach (e::es) X.env=(false,eval e X.env)::starEach es X.env:=by rfl)
  (hpl:(backTo cpos (starEach es X.env)).any (·.1)=false:=by rfl) (hsw:swapsWith (.Call (.Name x p) (e::es) [] cpos) none pos.line X.env=pure false:=by rfl):PS X (.Expr (.Call (.Name x p) (e::es) [] cpos) pos) (tS X O O OL w (sCallM i f l)):=by
 obtain ⟨fa,fd,F,hb,hk,hm⟩:=c
 refine PS.imp (ps_expr (pe_call F hr hg hm hk hb (.nil:Vals [] []) pass0 ha hdb he hpl) hsw) fun Dn σ H ⟨F0,F,en,fl,rs,z,k⟩=>?_
 obtain ⟨ds,e1,z1⟩:=bind1 z
 obtain ⟨dx,e2,z2⟩:=bind1 z1
 obtain ⟨dz,e3,rfl⟩:=map1 z2
 obtain ⟨q,kk,xs,es',h1,h2,h3,h4,h5,h6,h7⟩:=rs.own i dx (eVar_at e2) hi
 refine ⟨F0,F,en,ds,q,rs,e1,h1,fun vs F1 H1 g1 r1=>?_⟩
 have rs1:=rs.grow g1
 obtain ⟨q',kk',xs',es2,k1,k2,k3,k4,k5,k6,k7⟩:=rs1.own i dx (eVar_at e2) hi
 rw [h1] at k1
 cases k1
 subst k6
 refine ⟨F1,vs,ds,q,kk',xs',es2,dz,g1.fh,?_,r1,k3,k4,k7,k5,e3,fun kk2 xs2 es3 F' H' g hf hp hk2 re ed=>?_⟩
 ·rw [List.append_nil]
 ·subst ed
  exact k σ F' H' (g1.ff.trans g.ff) (rs1.call hi (eVar_at e2) h1 k2 g hf hp hk2 re)
end
end Wd
namespace Wd
open PySem PySem.Spec PyProof.Rows L2
def Itz (K:Fg) (a b:Addr):It :=
 ⟨fun i H=>∃ xs ys x y,SqL K H a xs/\SqL K H b ys/\xs[i]?=some x/\ys[i]?=some y,fun i H x H'=>∃ p y1 y2,H p=none/\x=.ref p/\H'=upd H p (.tup [y1,y2])/\(∀ xs,SqL K H a xs->xs[i]?=some y1)/\∀ ys,SqL K H b ys->ys[i]?=some y2,fun i H=>∃ xs ys,SqL K H a xs/\SqL K H b ys/\(xs.length<=i\/ys.length<=i)⟩
theorem turn_zip {P:Program} {w:World} {K:Fg} {elts:List Expr} {x1:Nat} {pos:Pos} (l1 l2 z TI TO i1 i2:Addr) (D:ZipApart z TI TO i1 i2 l1 l2):Turn P w K (.Tuple elts x1 pos) (Itz K l1 l2) [z,TI,TO,i1,i2] z
  (fun i h=>IsZip h z TI TO .none/\IsPair h TI (.ref i1) (.ref i2)/\(∃ a b,IsPair h TO a b)/\h.IsListIter i1 l1 i/\h.IsListIter i2 l2 i) where
 mem:=by simp
 obj:=fun i h st b hb=>by
  obtain ⟨hz,hTI,⟨a,c,hTO⟩,⟨o1,ho1,c1,d1⟩,⟨o2,ho2,c2,d2⟩⟩:=st
  simp only [List.mem_cons,List.not_mem_nil,or_false] at hb
  rcases hb with q | q | q | q | q<;>subst q
  ·exact ⟨_,hz,fun v e=>by
    have e':Data.fields _=Data.cell v:=e
    cases e'⟩
  ·exact ⟨_,hTI,fun v e=>by
    have e':Data.seq _=Data.cell v:=e
    cases e'⟩
  ·exact ⟨_,hTO,fun v e=>by
    have e':Data.seq _=Data.cell v:=e
    cases e'⟩
  ·exact ⟨o1,ho1,fun v e=>by rw [d1] at e;cases e⟩
  ·exact ⟨o2,ho2,fun v e=>by rw [d2] at e;cases e⟩
 keep:=fun i h h' st k=>by
  obtain ⟨hz,hTI,⟨a,c,hTO⟩,h1,h2⟩:=st
  exact ⟨k z (by simp) _ hz,k TI (by simp) _ hTI,⟨a,c,k TO (by simp) _ hTO⟩,h1.at fun o q=>k i1 (by simp) o q,h2.at fun o q=>k i2 (by simp) o q⟩
 item:=by
  intro X hP hw hK hc i pins s σ H E I hf st hg
  subst hP hw hK
  obtain ⟨hz,hTI,⟨a,c,hTO⟩,h1,h2⟩:=st
  obtain ⟨xs,ys,x,y,hq1,hq2,hx,hy⟩:=hg
  obtain ⟨its1,rv1,p1,_⟩:=I.list hq1
  obtain ⟨its2,rv2,p2,_⟩:=I.list hq2
  obtain ⟨u1,hu1,ru1⟩:=rv1.get hx
  obtain ⟨u2,hu2,ru2⟩:=rv2.get hy
  refine wpAny_pyNext_zip_item D hz hTI hTO h1 h2 p1.isList p2.isList (x:=u1) (y:=u2) (by simpa using hu1) (by simpa using hu2) fun h' hz' hTO' h1' h2' hT hsz kk=>?_
  refine ⟨_,rfl,wpAny_letOwnedTupleGo_zip hz' fun h3 hz3 sb=>?_⟩
  have k2:∀ b o,b∉[z,TI,TO,i1,i2]->s.heap.get? b=some o->h3.get? b=some o:=fun b o hb q=>by
   have a1:b≠z:=fun e=>hb (by simp [e])
   have a2:b≠TO:=fun e=>hb (by simp [e])
   have a3:b≠i1:=fun e=>hb (by simp [e])
   have a4:b≠i2:=fun e=>hb (by simp [e])
   exact (sb.2 b a1).trans (kk b o a1 a2 a3 a4 q)
  have fe:H s.heap.objs.size=none:=I.hok.fresh (Nat.le_refl _)
  have lz:z<s.heap.objs.size:=Heap.lt_size hz
  have ht3:h3.get? s.heap.objs.size=some { cls:=.type "tuple",data:=.seq #[u1,u2] }:=(sb.2 _ (Nat.ne_of_gt lz)).trans hT
  have I2:Inv X pins σ (upd H s.heap.objs.size (.tup [x,y])) { s with heap:=h3,toks:=s.toks } :=
   turnNew (t':=s.toks) I k2 hf (Nat.le_refl _) (show ObjOk X.prog X.w _ h3 _ (.tup [x,y]) from ⟨by show 2<=sizeLine;decide,[u1,u2],.cons ru1 (.cons ru2 .nil),⟨_,ht3,rfl,_,rfl⟩⟩)
  have hTI3:IsPair h3 TI (.ref i1) (.ref i2):=(sb.2 _ D.TIz).trans (kk TI _ D.TIz D.TITO D.TIi1 D.TIi2 hTI)
  refine ⟨.ref s.heap.objs.size,_,I2,rfl,⟨_,x,y,fe,rfl,rfl,fun zs hz'=>by rw [I.list_inj hz' hq1];exact hx,fun zs hz'=>by rw [I.list_inj hz' hq2];exact hy⟩,⟨hz3,hTI3,⟨u1,u2,(sb.2 _ D.TOz).trans hTO'⟩,h1'.at fun o q=>(sb.2 _ D.i1z).trans q,h2'.at fun o q=>(sb.2 _ D.i2z).trans q⟩,fun b hb=>?_⟩
  have hlt:b<s.heap.objs.size:=by
   simp only [List.mem_cons,List.not_mem_nil,or_false] at hb
   rcases hb with q | q | q | q | q<;>subst q
   ·exact lz
   ·exact Heap.lt_size hTI
   ·exact Heap.lt_size hTO
   ·obtain ⟨o,ho,_⟩:=h1;exact Heap.lt_size ho
   ·obtain ⟨o,ho,_⟩:=h2;exact Heap.lt_size ho
  rw [upd_ne (Nat.ne_of_lt hlt)]
  exact (hf b hb).1
 done:=by
  intro X hP hw hK hc i pins s σ H E I hf st hg
  subst hP hw hK
  obtain ⟨hz,hTI,⟨a,c,hTO⟩,h1,h2⟩:=st
  obtain ⟨xs,ys,hq1,hq2,hx⟩:=hg
  obtain ⟨its1,rv1,p1,_⟩:=I.list hq1
  obtain ⟨its2,rv2,p2,_⟩:=I.list hq2
  have l1':=rv1.length
  have l2':=rv2.length
  refine wpAny_pyNext_zip_end (I.ok.hd hc) D hz hTI hTO h1 h2 p1.isList p2.isList ?_ fun h' kk=>⟨rfl,turnAll (t':=s.toks) I (fun b o hb q=>kk b o (fun e=>hb (by simp [e])) (fun e=>hb (by simp [e])) (fun e=>hb (by simp [e])) (fun e=>hb (by simp [e])) q) hf⟩
  rcases hx with q | q
  ·left;simp;omega
  ·right;simp;omega
 self:=fun _ _ _ _ _ st h=>by
  obtain ⟨hz,_⟩:=st
  exact wpAny_pyIter_zip hz h
theorem neN2 {x y:Nat} (h:x<y\/y<x):x≠y:=by omega
theorem zapart (I l1 l2:Nat) (h1:l1<I) (h2:l2<I):ZipApart (I+4) (I+2) (I+3) I (I+1) l1 l2:=by
 constructor<;>(refine neN2 ?_;omega)
section
variable {X:Cx} {O:List Nat} {a b:Expr} {p pos:Pos}
def iZipV (K:Fg) (ta:TA):TI:=fun σ H R=>ta σ H fun vs H1=>∃ l m,vs=[.ref l,.ref m]/\(∃ xs,SqL K H1 l xs)/\(∃ ys,SqL K H1 m ys)/\R (Itz K l m) H1
theorem pi_zip {elts:List Expr} {x1:Nat} {tpos:Pos} {ta:TA} (hg:Gl X "zip") (hm:X.mg "zip"=none) (ha:PA X [a,b] ta) (hs:starEach [a,b] X.env=[(false,eval a X.env),(false,eval b X.env)]) (hs2:starEach [b] X.env=[(false,eval b X.env)]):PI X (.Tuple elts x1 tpos) (.Call (.Name "zip" p) [a,b] [] pos) (iZipV X.K ta):=by
 intro pins s σ H R I h
 refine Call_ (ld_blt I hg hm boot_zip (PyProof.Rows.callWith_type1 (thn (ha pos pins s σ H _ I h) fun us s1 ⟨vs,H1,I1,r1,q1⟩=>?_) (by rw [hs,hs2]) (by rw [hs2];rfl)))
 obtain ⟨l,m,e,⟨xs,hq1⟩,⟨ys,hq2⟩,q⟩:=q1
 subst e
 obtain ⟨u,u2,rfl,rx,ry⟩:=vals2 r1
 cases rx
 cases ry
 obtain ⟨its1,rv1,p1,_⟩:=I1.list hq1
 obtain ⟨its2,rv2,p2,_⟩:=I1.list hq2
 have lt1:l<s1.heap.objs.size:=by obtain ⟨o,ho,_⟩:=p1.isList;exact Heap.lt_size ho
 have lt2:m<s1.heap.objs.size:=by obtain ⟨o,ho,_⟩:=p2.isList;exact Heap.lt_size ho
 have D:ZipApart (s1.heap.objs.size+4) (s1.heap.objs.size+2) (s1.heap.objs.size+3) s1.heap.objs.size (s1.heap.objs.size+1) l m:=zapart _ _ _ lt1 lt2
 refine call_zip_2 p1.isList p2.isList fun h' hz hTI hTO hi1 hi2 hsz hk=>?_
 have I2:Inv X pins σ H1 { s1 with heap:=h' }:=I1.kept (t':=s1.toks) hk
 have fe:∀ b,s1.heap.objs.size<=b->H1 b=none:=fun b hb=>I1.hok.fresh hb
 refine wpAny_pyIter_zip hz ⟨_,[s1.heap.objs.size+4,s1.heap.objs.size+2,s1.heap.objs.size+3,s1.heap.objs.size,s1.heap.objs.size+1],_,_,H1,rfl,I2,turn_zip l m _ _ _ _ _ D,⟨hz,hTI,⟨_,_,hTO⟩,hi1,hi2⟩,fun b hb=>?_,q⟩
 have:s1.heap.objs.size<=b:=by
  simp only [List.mem_cons,List.not_mem_nil,or_false] at hb
  rcases hb with q | q | q | q | q<;>rw [q]
  ·exact Nat.le_add_right _ _
  ·exact Nat.le_add_right _ _
  ·exact Nat.le_add_right _ _
  ·exact Nat.le_refl _
  ·exact Nat.le_add_right _ _
 exact I1.fpOk this (fe b this)
theorem zipD_len:∀ (as bs:List D),(zipD as bs).length=min as.length bs.length
 | [],_=>by simp [zipD]
 | _::_,[]=>by simp [zipD]
 | a::as,b::bs=>by rw [zipD,List.length_cons,zipD_len,List.length_cons,List.length_cons];omega
theorem zipD_get:∀ (as bs:List D) (i:Nat) (x y:D),as[i]?=some x->bs[i]?=some y->(zipD as bs)[i]?=some (.tup [x,y])
 | [],_,_,_,_,h,_=>by simp at h
 | _::_,[],_,_,_,_,h=>by simp at h
 | a::as,b::bs,0,_,_,h1,h2=>by simp at h1 h2;subst h1 h2;simp [zipD]
 | a::as,b::bs,i+1,x,y,h1,h2=>by
  rw [zipD,List.getElem?_cons_succ]
  exact zipD_get as bs i x y (by simpa using h1) (by simpa using h2)
theorem its_sq {K:Fg} {F:Hp} {v:V} {d:D} {ds:List D} (r:Rep K F v d) (e:D.its d=some ds):∃ l xs,v=.ref l/\SqL K F l xs/\Reps K F xs ds:=by
 cases r with
 | @lst l xs ds' hl r=>cases e;exact ⟨l,xs,rfl,SqL.of hl,r⟩
 | @scr l ns hl=>cases e;exact ⟨l,_,rfl,hl,Reps.ints ns⟩
 | _=>cases e
theorem di_zip {elts:List Expr} {x1:Nat} {tpos:Pos} {ea eb:EvE} (hg:Gl X "zip") (hm:X.mg "zip"=none) (ha:PE X a (tD X O ea)) (hb:PE X b (tD X O eb)) (hs:starEach [a,b] X.env=[(false,eval a X.env),(false,eval b X.env)]:=by rfl) (hs2:starEach [b] X.env=[(false,eval b X.env)]:=by rfl):PI X (.Tuple elts x1 tpos) (.Call (.Name "zip" p) [a,b] [] pos) (tI X O (iZip ea eb)) :=
 PI.imp (pi_zip hg hm (pa_cons ha (pa_cons hb pa_nil hs2) (by rw [hs,hs2])) hs hs2) fun σ H R ⟨F0,F,en,ds0,rs,z,k⟩=>by
  obtain ⟨dx,e1,z1⟩:=bind1 z
  obtain ⟨dy,e2,z2⟩:=bind1 z1
  obtain ⟨xs',e3,z3⟩:=bind1 z2
  obtain ⟨ys',e4,rfl⟩:=map1 z3
  refine ⟨F0,F,en,dx,rs,e1,fun v F1 H1 g1 r1=>⟨F0,F1,en,dy,rs.grow g1,e2,fun u F2 H2 g2 r2=>?_⟩⟩
  obtain ⟨l,xs,rfl,hl,rx⟩:=its_sq (r1.mono g2.ff) e3
  obtain ⟨m,ys,rfl,hm',ry⟩:=its_sq r2 e4
  refine ⟨l,m,rfl,⟨xs,g2.fh.sqL hl⟩,⟨ys,g2.fh.sqL hm'⟩,k F2 H2 _ (g1.trans g2) ⟨fun i F' H' s s' hi=>?_,fun i F' H' x H3 s s' hi hy=>?_,fun i F' H' s s' hi=>?_⟩⟩
  ·rw [zipD_len] at hi
   obtain ⟨v1,h1,_⟩:=rx.get (List.getElem?_eq_getElem (show i<xs'.length by omega))
   obtain ⟨v2,h2,_⟩:=ry.get (List.getElem?_eq_getElem (show i<ys'.length by omega))
   exact ⟨xs,ys,v1,v2,s'.sqL (s.sqL hl),s'.sqL (s.sqL hm'),h1,h2⟩
  ·obtain ⟨p,y1,y2,hp,rfl,rfl,hx1,hx2⟩:=hy
   obtain ⟨d1,a1,a2⟩:=rx.getV (hx1 xs (s'.sqL (s.sqL hl)))
   obtain ⟨d2,b1,b2⟩:=ry.getV (hx2 ys (s'.sqL (s.sqL hm')))
   have g:=Gr.new s' hp (.tup [y1,y2])
   exact ⟨_,.tup [d1,d2],g,zipD_get _ _ i d1 d2 a1 b1,.tup upd_same (.cons ((a2.mono s).mono g.ff) (.cons ((b2.mono s).mono g.ff) .nil))⟩
  ·rw [zipD_len] at hi
   exact ⟨xs,ys,s'.sqL (s.sqL hl),s'.sqL (s.sqL hm'),by rw [rx.length,ry.length];omega⟩
end
end Wd
namespace Wd
open PySem PySem.Spec PyProof.Rows L2
section
variable {X:Cx} {O OL:List Nat} {w:Bool} {c:Expr} {body:List Stmt} {pos:Pos}
end
end Wd
namespace Wd
open PySem PySem.Spec PyProof.Rows L2
section
open PySem.SeqAt
open PySem.AutoSeq1 (wpAny_loadPart')
open PySem.MeetsSeq PySem.MeetsSeq2 PySem.MeetsSeq3
end
section
variable {X:Cx} {O:List Nat} {e a b c:Expr} {pos:Pos}
end
end Wd
namespace Wd
open PySem PySem.Spec PyProof.Rows L2
section
variable {K:Fg} {H₀:Hp} {F0:Fz} {F H:Hp} {σ:L2.St} {e:EnvD} {O:List Nat}
def lendF (F0:Fz) (p:Addr) (xs:List V):Fz:=⟨F0.f,fun a=>if a=p then some (.lst xs) else F0.h a,some p⟩
theorem lend_at (F0:Fz) (p:Addr) (xs:List V):(lendF F0 p xs).h p=some (.lst xs):=by simp [lendF]
theorem lend_no {F0:Fz} {p a:Addr} {xs:List V} (h:(lendF F0 p xs).h a=none):F0.h a=none/\a≠p:=by
 unfold lendF at h
 dsimp only at h
 split at h
 ·cases h
 ·exact ⟨h,by assumption⟩
theorem lt_all {O:List Nat} (h:O.all (·<1000)=true) {j:Nat} (hj:pinN j∈O):False:=by
 have:=List.all_eq_true.mp h _ hj
 unfold pinN at this
 simp at this
 omega
theorem RS.back {i:Nat} {p:Addr} {xs:List V} {ds:List D} {F' H':Hp} {σ':L2.St} {e':EnvD} (r:RS K H₀ (lendF F0 p xs) F' H' σ' e' (dl i O++[pinN i])) (hq:O.all (·<1000)=true) (hl:e'.length<=1000) (hO:i∈O)
  (h2:F0.h p=none) (hf:F0.f p=none) (h5:Reps K F' xs ds):RS K H₀ F0 F' H' σ' (e'.set i (some (.lst ds))) O:=by
 obtain ⟨_,hp,hs⟩:=r.pin i (List.mem_append_right _ (by simp))
 cases hp
 have h4:H' p=some (.lst xs):=r.hh p _ (lend_at F0 p xs)
 have h3:F' p=none:=by
  cases q:F' p with
  | none=>rfl
  | some o =>
   rcases r.fr p o q with z | z
   ·rw [show (lendF F0 p xs).f=F0.f from rfl,hf] at z;cases z
   ·rw [lend_at] at z;cases z
 have one:∀ {j:Nat} {d:D},j≠i->(e'.set i (some (.lst ds)))[j]?=some (some d)->e'[j]?=some (some d):=fun {j d} hji hj=>by
  rwa [List.getElem?_set_ne (Ne.symm hji)] at hj
 refine ⟨r.fh,fun a o h=>r.hh a o ?_,r.ff,fun a o h=>?_,fun j d hj hn=>?_,fun j d hj hm=>?_,fun j j' q d d' hm hm' hj hj' hs1 hs2=>?_,fun j hj=>(lt_all hq hj).elim,by rw [List.length_set];exact r.len⟩
 ·unfold lendF
  dsimp only
  rw [if_neg ?_]
  ·exact h
  ·rintro rfl;rw [h2] at h;cases h
 ·rcases r.fr a o h with z | z
  ·exact .inl z
  ·exact .inr (lend_no z).1
 ·have hji:j≠i:=fun z=>hn (z▸hO)
  have hj':=one hji hj
  refine r.slot j d hj' fun z=>?_
  rcases List.mem_append.mp z with z | z
  ·exact hn (mem_dl.mp z).1
  ·have:j=pinN i:=by simpa using z
   subst this
   have:=(List.getElem?_eq_some_iff.mp hj').1
   unfold pinN at this;omega
 ·by_cases hji:j=i
  ·subst hji
   rw [List.getElem?_set] at hj
   simp only [if_true] at hj
   split at hj
   ·cases hj
    exact ⟨p,none,xs,ds,hs,h2,h3,h4,h5,rfl,trivial⟩
   ·cases hj
  ·obtain ⟨p',k,ys,ds',a1,a2,a3⟩:=r.own j d (one hji hj) (List.mem_append_left _ (mem_dl.mpr ⟨hm,hji⟩))
   exact ⟨p',k,ys,ds',a1,(lend_no a2).1,a3⟩
 ·by_cases hji:j=i
  ·by_cases hji':j'=i
   ·rw [hji,hji']
   ·exfalso
    subst hji
    obtain ⟨p',k,ys,ds',a1,a2,a3⟩:=r.own j' d' (one hji' hj') (List.mem_append_left _ (mem_dl.mpr ⟨hm',hji'⟩))
    rw [hs] at hs1;cases hs1
    rw [a1] at hs2;cases hs2
    exact (lend_no a2).2 rfl
  ·by_cases hji':j'=i
   ·exfalso
    subst hji'
    obtain ⟨p',k,ys,ds',a1,a2,a3⟩:=r.own j d (one hji hj) (List.mem_append_left _ (mem_dl.mpr ⟨hm,hji⟩))
    rw [hs] at hs2;cases hs2
    rw [a1] at hs1;cases hs1
    exact (lend_no a2).2 rfl
   ·exact r.dis j j' q d d' (List.mem_append_left _ (mem_dl.mpr ⟨hm,hji⟩)) (List.mem_append_left _ (mem_dl.mpr ⟨hm',hji'⟩)) (one hji hj) (one hji' hj') hs1 hs2
end
section
variable {X:Cx} {O O' OL:List Nat} {w:Bool} {tg:Expr} {body:List Stmt} {pos pos':Pos}
end
end Wd
namespace Wd
open PySem PySem.Spec PyProof.Rows L2
section
variable {X:Cx} {O:List Nat} {a:Expr} {p q pos:Pos}
def Views (X:Cx) (V id:String):Prop:=∀ (A:Around) (E:Value->Shared->Prop) (s:Shared) (d:Addr) (kvs:List (Key×Value)) (Q:Value->Shared->Prop),(d==sysModules)=false->s.heap.DictOf (mixKind X.prog X.w) d kvs ->
 Q (.ref s.heap.objs.size) { s with heap:=s.heap.push { cls:=.type V,data:=.fields #[.ref d] } }->wpAny (model X.prog X.w) A (call (.builtin id) [.ref d]) Q E s
theorem views_values:Views X "dict_values" "dict.values":=fun A E s d kvs Q lo hD h =>
 PySem.call_meetsIn PySem.F.slot_dict_values hD.typeIs PySem.F.entry_dict_values (PySem.F.args_dict_values_1 _) (meets_dict_values (mixKind X.prog X.w) d lo) ⟨⟨kvs,hD⟩,h⟩
theorem views_items:Views X "dict_items" "dict.items":=fun A E s d kvs Q lo hD h =>
 PySem.call_meetsIn PySem.F.slot_dict_items hD.typeIs PySem.F.entry_dict_items (PySem.F.args_dict_items_1 _) (meets_dict_items (mixKind X.prog X.w) d lo) ⟨⟨kvs,hD⟩,h⟩
theorem view_wp {pl:Sem Bool} {V id:String} {name:Str} {ev:EvE} (vw:Views X V id) (slot:Slot "dict" name id) (hty:typeOf (.builtin id)=pure (.type "method_descriptor")) (ha:PE X a (tR X O ev)) {pins:List (Addr×Obj)} {s:Shared} {σ:L2.St} {H:Hp} (I:Inv X pins σ H s)
  {Q:Value->Shared->Prop} {F0:Fz} {F:Hp} {en:EnvD} {ks:List Kd} {ds:List D} (rs:RS X.K X.H₀ F0 F H σ en O) (he:ev en=some (.dic ks ds))
  (k:∀ r d s' F' H' xs,Inv X pins σ H' s'->Gr F H F' H'->s'.heap.get? r=some { cls:=.type V,data:=.fields #[.ref d] }->H' r=none->Rd H' d (.dK (ks.zip xs))->ks.length=xs.length->Reps X.K F' xs ds->Q (.ref r) s')
  (hE:eval (.Call (.Attribute a name p) [] [] q) X.env=(do
   let ov <- eval a X.env
   standAt p.atName
   let (f,first) <- holding [ov] (getMethod ov name pl)
   callWith q f first (backTo q (starEach [] X.env)) []):=by rfl):wpAny (model X.prog X.w) X.A (eval (.Call (.Attribute a name p) [] [] q) X.env) Q X.xe s:=by
 refine MethodCall_ (thn (ha pins s σ H (fun x H1=>∃ F1,Gr F H F1 H1/\RdD X.K F1 H1 x (.dic ks ds)) I ⟨F0,F,en,_,rs,he,fun v F1 H1 g1 r1=>⟨F1,g1,r1⟩⟩) fun v s1 ⟨x,H1,I1,r1,F1,g1,rd⟩=>?_) hE
 obtain ⟨d,xs,rfl,hd,hl,rp⟩:=rd.dic g1.fh
 cases r1
 obtain ⟨z,hsys,vs,rel,dd⟩:=dk_rd I1.hok hd
 refine getMethod_builtin dd.typeIs PySem.F.plainAttrs_dict slot hty dd.mapOf.noDict ?_
 refine callWith_builtin_kwB rfl rfl (evalArgs_nil3 ?_)
 refine vw _ _ _ _ _ _ hsys dd ?_
 exact k _ _ _ F1 H1 xs (I1.kept (t':=s1.toks) fun b u e=>Heap.get?_push_of_some _ e) g1 (Heap.get?_push_size _ rfl) (I1.hok.fresh (Nat.le_refl _)) hd hl rp
theorem paired_of {α β:Type} {R:α->β->Prop}:∀ {xs:List α} {us:List β},xs.length=us.length->(∀ (j:Nat) x u,xs[j]?=some x->us[j]?=some u->R x u)->Paired R xs us
 | [],[],_,_=>.nil
 | x::xs,u::us,hl,h=>.cons (h 0 x u rfl rfl) (paired_of (by simpa using hl) fun j y v hy hv=>h (j+1) y v (by simpa using hy) (by simpa using hv))
 | [],_::_,hl,_=>by simp at hl
 | _::_,[],hl,_=>by simp at hl
theorem is_rel {P:Program} {w:World} {k:Key} {v:Value} (h:(mixKind P w).is k v=true):RelV (kV k) v:=by
 rcases keyIs_shape (show keyIs k v=true from h) with ⟨i,t,rfl,rfl⟩ | ⟨x,t,rfl,rfl⟩
 ·exact ⟨t,rfl⟩
 ·exact ⟨t,rfl⟩
theorem kv_at {κ:Type} {ps:List (κ×V)} {vs:List (κ×Value)} (r:KV ps vs):∀ {j:Nat} {p:κ×V} {v:κ×Value},ps[j]?=some p->vs[j]?=some v->p.1=v.1/\RelV p.2 v.2:=by
 unfold KV at r
 induction r with
 | nil=>intro j p v h;simp at h
 | cons h _ ih =>
  intro j p v hp hv
  cases j with
  | zero=>simp at hp hv;subst hp hv;exact h
  | succ j=>exact ih (by simpa using hp) (by simpa using hv)
theorem kv_len {κ:Type} {ps:List (κ×V)} {vs:List (κ×Value)} (r:KV ps vs):ps.length=vs.length:=Paired.length r
def LCall (X:Cx) (V:String) (G:D->Option D):Prop:=∀ (pins:List (Addr×Obj)) (s:Shared) (σ:L2.St) (F H:Hp) (r d:Addr) (ks:List Kd) (xs:List L2.V) (ds:List D) (res:D) (Q:Value->Shared->Prop),Inv X pins σ H s->Sm F H ->
 s.heap.get? r=some { cls:=.type V,data:=.fields #[.ref d] }->H r=none->Rd H d (.dK (ks.zip xs))->ks.length=xs.length->Reps X.K F xs ds->G (.dic ks ds)=some res ->
 (∀ q k ys es F' H' s',Inv X pins σ H' s'->Gr F H F' H'->H q=none->F' q=none->H' q=some (ho k ys)->Reps X.K F' ys es->res=dOf k es->HoOk k ys->Q (.ref q) s')->wpAny (model X.prog X.w) X.A (call (.type "list") [.ref r]) Q X.xe s
theorem manyNew {pins:List (Addr×Obj)} {σ:L2.St} {H H':Hp} {s:Shared} {h':Heap} {t':Nat} (I:Inv X pins σ H s) (k:∀ b u,s.heap.get? b=some u->h'.get? b=some u) (ext:∀ b u,H b=some u->H' b=some u)
  (new:∀ b u,H' b=some u->H b=some u\/s.heap.objs.size<=b/\ObjOk X.prog X.w H' h' b u):Inv X pins σ H' { s with heap:=h',toks:=t' }:=by
 refine I.step (g':=s.gens) (d':=s.drawn) (ch:=[]) (fun b hb=>by cases hb) (fun b o _ _ _ e _=>k b o e) (fun b o _ _ _ e _=>⟨o.slots,k b o e⟩) (fun b o _ e n=>?_)
  (fun b o _ e=>⟨o,k b o e⟩) (fun b xs e=>ext b _ e) (fun b xs u e=>ext b _ e) (fun b ps e=>⟨#[],by rw [ext b _ e];simp⟩) (fun m hm=>?_) (fun b u e=>?_) I.bare
 ·cases q:H' b with
  | none=>rfl
  | some u =>
   rcases new b u q with z | z
   ·rw [n] at z;cases z
   ·exact absurd (Heap.lt_size e) (Nat.not_lt.mpr z.1)
 ·obtain ⟨o,es,ep,ho,r⟩:=hm
  exact ⟨o,es,ep,k _ o ho,r⟩
 ·rcases new b u e with z | z
  ·exact (I.hok b u z).stay (fun c v _ q=>k c v q) (fun c q=>ext c _ q) fun c xs q=>ext c _ q
  ·exact z.2
def tupsAt (H:Hp):List Addr->List (List L2.V)->Hp
 | a::as,x::xs=>upd (tupsAt H as xs) a (.tup x)
 | _,_=>H
theorem tupsAt_out {H:Hp} {b:Addr}:∀ {as:List Addr} {xs:List (List L2.V)},b∉as->tupsAt H as xs b=H b
 | [],_,_=>rfl
 | _::_,[],_=>rfl
 | a::as,x::xs,h=>by
  simp only [List.mem_cons,not_or] at h
  show upd (tupsAt H as xs) a (.tup x) b=H b
  rw [upd_ne h.1,tupsAt_out h.2]
theorem tupsAt_in {H:Hp}:∀ {as:List Addr} {xs:List (List L2.V)} {j:Nat} {a:Addr} {x:List L2.V},as.Nodup->as[j]?=some a->xs[j]?=some x->tupsAt H as xs a=some (.tup x)
 | [],_,_,_,_,_,h,_=>by simp at h
 | _::_,[],_,_,_,_,_,h=>by simp at h
 | a::as,x::xs,0,_,_,_,h1,h2=>by simp at h1 h2;subst h1 h2;exact upd_same
 | a::as,x::xs,j+1,b,y,hn,h1,h2=>by
  have hn':=List.nodup_cons.mp hn
  have hb:b∈as:=List.mem_of_getElem? (by simpa using h1)
  show upd (tupsAt H as xs) a (.tup x) b=_
  have hne:b≠a:=by rintro rfl;exact hn'.1 hb
  rw [upd_ne hne]
  exact tupsAt_in hn'.2 (by simpa using h1) (by simpa using h2)
def pairV:List Kd->List L2.V->List (List L2.V)
 | k::ks,x::xs=>[kV k,x]::pairV ks xs
 | _,_=>[]
theorem pairV_at:∀ {ks:List Kd} {xs:List L2.V} {j:Nat} {k:Kd} {x:L2.V},ks[j]?=some k->xs[j]?=some x->(pairV ks xs)[j]?=some [kV k,x]
 | [],_,_,_,_,h,_=>by simp at h
 | _::_,[],_,_,_,_,h=>by simp at h
 | _::_,_::_,0,_,_,h1,h2=>by simp at h1 h2;subst h1 h2;rfl
 | _::ks,_::xs,j+1,_,_,h1,h2=>pairV_at (ks:=ks) (xs:=xs) (j:=j) (by simpa using h1) (by simpa using h2)
theorem pairV_len:∀ {ks:List Kd} {xs:List L2.V},ks.length=xs.length->(pairV ks xs).length=ks.length
 | [],_,_=>rfl
 | _::_,[],h=>by simp at h
 | _::ks,_::xs,h=>by rw [pairV,List.length_cons,pairV_len (by simpa using h),List.length_cons]
theorem rep_key {K:Fg} {F:Hp}:∀ k:Kd,Rep K F (kV k) (kD k)
 | .inl i=>.int i
 | .inr x=>.str x
theorem reps_pairs {K:Fg} {F:Hp}:∀ {ks:List Kd} {xs:List L2.V} {ds:List D} {as:List Addr},ks.length=xs.length->as.length=ks.length->Reps K F xs ds->(∀ (j:Nat) a x,as[j]?=some a->(pairV ks xs)[j]?=some x->F a=some (.tup x))->Reps K F (as.map .ref) (pairD ks ds)
 | [],[],_,[],_,_,.nil,_=>.nil
 | k::ks,x::xs,_,a::as,hl,ha,.cons hx r,h=>.cons (.tup (h 0 a _ rfl rfl) (.cons (rep_key k) (.cons hx .nil))) (reps_pairs (by simpa using hl) (by simpa using ha) r fun j b y hb hy=>h (j+1) b y (by simpa using hb) (by simpa [pairV] using hy))
 | [],_::_,_,_,hl,_,_,_=>by simp at hl
 | _::_,[],_,_,hl,_,_,_=>by simp at hl
 | [],[],_,_::_,_,ha,_,_=>by simp at ha
 | _::_,_::_,_,[],_,ha,_,_=>by simp at ha
theorem lcall_items (hc:X.calm=true):LCall X "dict_items" D.itemsL:=fun pins s σ F H r d ks xs ds res Q I sm hr hr0 hd hl rp hG k=>by
 obtain ⟨z,hsys,vs,rel,dd⟩:=dk_rd I.hok hd
 obtain ⟨ep,da⟩:=dd.dictAt
 have hlen:=kv_len rel
 have hzl:(ks.zip xs).length=ks.length:=by rw [List.length_zip];omega
 unfold D.itemsL at hG
 simp only [] at hG
 split at hG
 ·rename_i hn
  cases hG
  refine PySem.W.kdx_call (knd:=mixKind X.prog X.w) (kvs:=vs) (ep:=ep) (I.ok.hd hc) ⟨_,hr,rfl,rfl⟩ da (by omega) fun h' tk acc c as hk hD hal G hacc=>?_
  have fe:∀ b,s.heap.objs.size<=b->H b=none:=fun b hb=>I.hok.fresh hb
  have ab:∀ a∈as,s.heap.objs.size<=a/\a≠s.heap.objs.size:=fun a ha=>⟨Nat.le_of_lt (G.above a ha),Nat.ne_of_gt (G.above a ha)⟩
  have nd:as.Nodup:=G.rise.imp fun h=>Nat.ne_of_lt h
  have hpl:=pairV_len hl
  have hin:∀ (T:Hp) j a x,as[j]?=some a->(pairV ks xs)[j]?=some x->tupsAt T as (pairV ks xs) a=some (.tup x):=fun T j a x h1 h2=>tupsAt_in nd h1 h2
  have hF:∀ b,b∉as->tupsAt F as (pairV ks xs) b=F b:=fun b hb=>tupsAt_out hb
  have hH:∀ b,b∉as->tupsAt H as (pairV ks xs) b=H b:=fun b hb=>tupsAt_out hb
  have qas:s.heap.objs.size∉as:=fun h=>(ab _ h).2 rfl
  have mem:∀ b∈as,∃ j x,as[j]?=some b/\(pairV ks xs)[j]?=some x:=fun b hb=>by
   obtain ⟨j,hj⟩:=List.mem_iff_getElem?.mp hb
   have hlt:j<(pairV ks xs).length:=by have:=(List.getElem?_eq_some_iff.mp hj).1;omega
   exact ⟨j,_,hj,List.getElem?_eq_getElem hlt⟩
  have smF:Sm F (tupsAt F as (pairV ks xs)):=fun b u e=>by
   by_cases hb:b∈as
   ·have:=sm b u e;rw [fe b (ab b hb).1] at this;cases this
   ·rw [hF b hb];exact e
  have ext:∀ b u,H b=some u->upd (tupsAt H as (pairV ks xs)) s.heap.objs.size (.lst (as.map .ref)) b=some u:=fun b u e=>by
   have hq:b≠s.heap.objs.size:=fun z=>by rw [z,fe _ (Nat.le_refl _)] at e;cases e
   have hb:b∉as:=fun z=>by rw [fe b (ab b z).1] at e;cases e
   rw [upd_ne hq,hH b hb];exact e
  have I2:Inv X pins σ (upd (tupsAt H as (pairV ks xs)) s.heap.objs.size (.lst (as.map .ref))) { s with heap:=h',toks:=tk }:=manyNew I hk ext fun b u e=>by
   by_cases hq:b=s.heap.objs.size
   ·subst hq
    rw [upd_same] at e
    cases e
    refine .inr ⟨Nat.le_refl _,by rw [List.length_map];omega,acc.toList,c,?_,by rw [Array.toArray_toList];exact hD⟩
    rw [hacc]
    exact paired_of (by rw [List.length_map,List.length_map]) fun j x u hx hu=>by
     rw [List.getElem?_map] at hx hu
     cases q:as[j]? with
     | none=>rw [q] at hx;cases hx
     | some a=>rw [q] at hx hu;cases hx;cases hu;rfl
   ·rw [upd_ne hq] at e
    by_cases hb:b∈as
    ·obtain ⟨j,x,h1,h2⟩:=mem b hb
     rw [hin H j b x h1 h2] at e
     cases e
     obtain ⟨key,kk,y,h3,h4,h5⟩:=G.pairs j b h1
     have hj:j<(ks.zip xs).length:=by have:=(List.getElem?_eq_some_iff.mp h3).1;omega
     have e:=kv_at rel (List.getElem?_eq_getElem hj) h3
     rw [List.getElem_zip] at e
     have hx:=pairV_at (ks:=ks) (xs:=xs) (j:=j) (List.getElem?_eq_getElem (by omega)) (List.getElem?_eq_getElem (by omega))
     rw [h2] at hx
     cases hx
     refine .inr ⟨(ab b hb).1,by show 2<=sizeLine;decide,[key,y],.cons ?_ (.cons e.2 .nil),⟨_,h5,rfl,_,rfl⟩⟩
     have e1:=e.1
     dsimp only at e1
     rw [e1]
     exact is_rel h4
    ·rw [hH b hb] at e;exact .inl e
  refine k _ none (as.map .ref) (pairD ks ds) (tupsAt F as (pairV ks xs)) _ _ I2 ⟨smF,fun b u e=>ext b u e,fun b u e=>?_,fun b u e=>?_⟩ (fe _ (Nat.le_refl _)) ?_ upd_same (reps_pairs hl (by omega) (rp.mono smF) fun j a x h1 h2=>hin F j a x h1 h2) rfl trivial
  ·by_cases hb:b∈as
   ·obtain ⟨j,x,h1,h2⟩:=mem b hb
    rw [hin F j b x h1 h2] at e
    rw [upd_ne (ab b hb).2,hin H j b x h1 h2];exact e
   ·rw [hF b hb] at e
    exact ext b u (sm b u e)
  ·by_cases hb:b∈as
   ·exact .inr (fe b (ab b hb).1)
   ·rw [hF b hb] at e;exact .inl e
  ·rw [hF _ qas];exact sm.none (fe _ (Nat.le_refl _))
 ·cases hG
theorem dO_lview {pl:Sem Bool} {V id:String} {name x:Str} {p1:Pos} {G:D->Option D} {ev:EvE} (vw:Views X V id) (slot:Slot "dict" name id) (hty:typeOf (.builtin id)=pure (.type "method_descriptor")) (lc:LCall X V G) (hG:∀ d r,G d=some r->∃ ks ds,d=.dic ks ds)
  (hg:Gl X x) (hm:X.mg x=none) (hv:bootBuiltins x=some (.type "list")) (ha:PE X a (tR X O ev)) (hn:x≠"__name__":=by decide) (hdb:(x==("__debug__":Str))=false:=by decide)
  (he:starEach [.Call (.Attribute a name p) [] [] q] X.env=[(false,eval (.Call (.Attribute a name p) [] [] q) X.env)]:=by rfl)
  (hE:eval (.Call (.Attribute a name p) [] [] q) X.env=(do
   let ov <- eval a X.env
   standAt p.atName
   let (f,first) <- holding [ov] (getMethod ov name pl)
   callWith q f first (backTo q (starEach [] X.env)) []):=by rfl) :
  PE X (.Call (.Name x p1) [.Call (.Attribute a name p) [] [] q] [] pos) (tO X O (eUn G ev)):=by
 rintro pins s σ H Q I ⟨F0,F,en,d,rs,w,k⟩
 obtain ⟨dx,e1,e2⟩:=bind1 w
 obtain ⟨ks,ds,rfl⟩:=hG dx d e2
 refine wpAny_Call_Name_kw (ld_blt I hg hm hv ?_ hn hdb)
 refine PyProof.Rows.callWith_type1 ?_ he rfl
 rw [he]
 refine Calls.spliced_cons (view_wp vw slot hty ha I rs e1 (fun r dd s' F' H' xs I' g hr hr0 hd hl rp=>?_) hE)
 refine Calls.spliced_nil ?_
 exact lc pins s' σ F' H' r dd ks xs ds d _ I' g.fh hr hr0 hd hl rp e2 fun q kk ys es F2 H2 s2 I2 g2 a1 a2 a3 a4 a5 a6=>⟨.ref q,H2,I2,rfl,k q kk ys es F2 H2 (g.trans g2) (g.hh.none a1) a2 a3 a4 a5 a6⟩
end
end Wd
namespace Wd
open PySem PySem.Spec PyProof.Rows L2
theorem frz_at {X:Cx} {pins:List (Addr×Obj)} {σ:L2.St} {H:Hp} {s:Shared} {d:Addr} {o:Obj} {kvs:List (Key×V)} {es:Array DictEntry} {ep:Nat} (I:Inv X pins σ H s) (hd:H d=some (.frz o (.dK kvs))) (ho:o.data=.dict es ep) :
  ∃ vs,KV kvs vs/\s.heap.DictAt (mixKind X.prog X.w) d vs ep:=by
 obtain ⟨h1,_,_,vs,rel,o',es',ep',ho',hx,hdat,rest⟩:=(show ObjOk X.prog X.w H s.heap d (.frz o (.dK kvs)) from I.hok d _ hd)
 rw [h1] at ho'
 cases ho'
 rw [ho] at hdat
 cases hdat
 exact ⟨vs,rel,o,es,h1,hx,ho,rest⟩
def Itd (d:Addr) (o:Obj) (kvs:List (Key×V)) (vals:Bool):It :=
 ⟨fun i H=>H d=some (.frz o (.dK kvs))/\i<kvs.length,fun i H x H'=>H'=H/\∃ p,kvs[i]?=some p/\x=if vals then p.2 else kV p.1,fun i H=>H d=some (.frz o (.dK kvs))/\kvs.length<=i⟩
theorem turn_vals {P:Program} {w:World} {K:Fg} {tg:Expr} (d it:Addr) {o:Obj} {kvs:List (Key×V)} {es:Array DictEntry} {ep:Nat} (ho:o.data=.dict es ep):Turn P w K tg (Itd d o kvs true) [it] it (fun i h=>h.IsValIter it d i kvs.length ep) where
 mem:=by simp
 obj:=fun i h st b hb=>by
  have e:b=it:=by simpa using hb
  subst e
  obtain ⟨o,e,c,d⟩:=st
  exact ⟨o,e,fun v z=>by rw [d] at z;cases z⟩
 keep:=fun i h h' st k=>st.at fun o e=>k it (by simp) o e
 item:=by
  intro X hP hw hK hc i pins s σ H E I hf st hg
  subst hP hw hK
  obtain ⟨hd,hi⟩:=hg
  obtain ⟨vs,rel,da⟩:=frz_at I hd ho
  have hl:=kv_len rel
  obtain ⟨f0,f1,f2,f3,f4,f5⟩:=hf it (by simp)
  have hx:vs[i]?=some (vs[i]'(by omega)):=List.getElem?_eq_getElem (by omega)
  obtain ⟨e1,e2⟩:=kv_at rel (List.getElem?_eq_getElem hi) hx
  refine wpAny_pyNext_values_item (knd:=mixKind X.prog X.w) (k:=(vs[i]'(by omega)).1) (v:=(vs[i]'(by omega)).2) (by rw [<- hl];exact st) da hx fun h' st' sb=>?_
  have I1:Inv X pins σ H { s with heap:=h' }:=I.turned (t':=s.toks) (fun b o hb e=>(sb.2 b hb).trans e) f0 f1 f3 f4 f5
  rw [<- hl] at st'
  obtain ⟨oi,e,c,dd⟩:=id st'
  exact ⟨_,rfl,go_of (s:={ s with heap:=h' }) e c dd (by decide) ⟨kvs[i].2,H,I1,e2,⟨rfl,kvs[i],List.getElem?_eq_getElem hi,rfl⟩,st',fun b hb=>(hf b hb).1⟩⟩
 done:=by
  intro X hP hw hK hc i pins s σ H E I hf st hg
  subst hP hw hK
  obtain ⟨hd,hi⟩:=hg
  obtain ⟨vs,rel,da⟩:=frz_at I hd ho
  have hl:=kv_len rel
  obtain ⟨f0,f1,f2,f3,f4,f5⟩:=hf it (by simp)
  exact wpAny_pyNext_values_end (knd:=mixKind X.prog X.w) (I.ok.hd hc) (by rw [<- hl];exact st) da (List.getElem?_eq_none (by omega)) fun h' eb=>⟨rfl,I.turned (t':=s.toks) (fun b o hb e=>eb b o hb e) f0 f1 f3 f4 f5⟩
 self:=fun _ _ _ _ _ st h=>wpAny_pyIter_valiter st h
section
variable {X:Cx} {O:List Nat} {tg a iter:Expr} {p q:Pos}
theorem itd_ok {K:Fg} {F H:Hp} {d:Addr} {o:Obj} {ks:List Kd} {xs:List V} {ds:List D} (hd:F d=some (.frz o (.dK (ks.zip xs)))) (hl:ks.length=xs.length) (rp:Reps K F xs ds) (vals:Bool):ItOk K F (Itd d o (ks.zip xs) vals) (if vals then ds else ks.map kD):=by
 have hz:(ks.zip xs).length=ks.length:=by rw [List.length_zip];omega
 have hrl:=rp.length
 have hlen:(if vals then ds else ks.map kD).length=ks.length:=by cases vals<;>simp<;>omega
 refine ⟨fun i F' H' s s' hi=>⟨s' _ _ (s _ _ hd),by omega⟩,fun i F' H' x H2 s s' hi ⟨hH,p,hp,hx⟩=>?_,fun i F' H' s s' hi=>⟨s' _ _ (s _ _ hd),by omega⟩⟩
 subst hH
 have hi':i<ks.length:=by omega
 rw [List.getElem?_eq_getElem (by omega)] at hp
 cases hp
 rw [List.getElem_zip] at hx
 cases vals with
 | false =>
  refine ⟨F',kD ks[i],.refl s',?_,?_⟩
  ·show (ks.map kD)[i]?=_
   rw [List.getElem?_map,List.getElem?_eq_getElem hi']
   rfl
  ·rw [hx];exact rep_key _
 | true =>
  obtain ⟨dd,h1,h2⟩:=rp.getV (List.getElem?_eq_getElem (show i<xs.length by omega))
  refine ⟨F',dd,.refl s',h1,?_⟩
  rw [hx]
  exact h2.mono s
theorem di_vals {pl:Sem Bool} {ev:EvE} (h:PE X a (tD X O ev)) (hE:eval (.Call (.Attribute a "values" p) [] [] q) X.env=(do
   let ov <- eval a X.env
   standAt p.atName
   let (f,first) <- holding [ov] (getMethod ov "values" pl)
   callWith q f first (backTo q (starEach [] X.env)) []):=by rfl):PI X tg (.Call (.Attribute a "values" p) [] [] q) (tI X O (iVals ev)):=by
 rintro pins s σ H R I ⟨F0,F,en,ds0,rs,z,k⟩
 obtain ⟨d,e1,e2⟩:=bind1 z
 refine MethodCall_ (thn (h pins s σ H (fun x H1=>∃ F1,Gr F H F1 H1/\Rep X.K F1 x d) I ⟨F0,F,en,d,rs,e1,fun v F1 H1 g1 r1=>⟨F1,g1,r1⟩⟩) fun v s1 ⟨x,H1,I1,rx,F1,g1,r1⟩=>?_) hE
 cases r1 with
 | @dic dd o ks xs ds hd hl rp =>
  cases e2
  cases rx
  have hd1:=g1.fh _ _ hd
  obtain ⟨h1,zl,hsys,vs,rel,o',es,ep,ho',hx,hdat,rest⟩:=(show ObjOk X.prog X.w H1 s1.heap dd (.frz o (.dK (ks.zip xs))) from I1.hok dd _ hd1)
  rw [h1] at ho'
  cases ho'
  have hlen:=kv_len rel
  have da:s1.heap.DictAt (mixKind X.prog X.w) dd vs ep:=⟨o,es,h1,hx,hdat,rest⟩
  have hT:=da.dictOf
  refine getMethod_builtin hT.typeIs PySem.F.plainAttrs_dict PySem.F.slot_dict_values PySem.F.type_dict_values hT.mapOf.noDict ?_
  refine callWith_builtin_kwB rfl rfl (evalArgs_nil3 ?_)
  refine views_values (X:=X) _ _ _ _ _ _ hsys hT ?_
  have I2:Inv X pins σ H1 { s1 with heap:=s1.heap.push { cls:=.type "dict_values",data:=.fields #[.ref dd] } }:=I1.kept (t':=s1.toks) fun b u e=>Heap.get?_push_of_some _ e
  refine wpAny_pyIter_values (knd:=mixKind X.prog X.w) (kvs:=vs) (ep:=ep) ⟨_,Heap.get?_push_size _ rfl,rfl,rfl⟩ (da.push _) ?_
  refine ⟨_,[_],_,_,H1,rfl,I2.kept (t':=s1.toks) fun b o e=>Heap.get?_push_of_some _ e,turn_vals dd _ (kvs:=ks.zip xs) hdat,⟨_,Heap.get?_push_size _ rfl,rfl,by rw [hlen];rfl⟩,fun b hb=>?_,k F1 H1 _ g1 (itd_ok (H:=H1) hd hl rp true)⟩
  have e:=List.mem_singleton.mp hb
  subst e
  exact I2.fpOk (Nat.le_refl _) (I2.hok.fresh (Nat.le_refl _))
 | _=>cases e2
end
end Wd
namespace Wd
open PySem PySem.Spec PyProof.Rows L2
section
variable {X:Cx} {O:List Nat} {a:Expr} {p q p1 pos:Pos} {x:Str} {ev:EvE}
theorem dO_litems {pl:Sem Bool} (hc:X.calm=true) (hg:Gl X x) (hm:X.mg x=none) (hv:bootBuiltins x=some (.type "list")) (ha:PE X a (tR X O ev)) (hn:x≠"__name__":=by decide) (hdb:(x==("__debug__":Str))=false:=by decide)
  (he:starEach [.Call (.Attribute a "items" p) [] [] q] X.env=[(false,eval (.Call (.Attribute a "items" p) [] [] q) X.env)]:=by rfl)
  (hE:eval (.Call (.Attribute a "items" p) [] [] q) X.env=(do
   let ov <- eval a X.env
   standAt p.atName
   let (f,first) <- holding [ov] (getMethod ov "items" pl)
   callWith q f first (backTo q (starEach [] X.env)) []):=by rfl):PE X (.Call (.Name x p1) [.Call (.Attribute a "items" p) [] [] q] [] pos) (tO X O (eUn D.itemsL ev)) :=
 dO_lview views_items PySem.F.slot_dict_items PySem.F.type_dict_items (lcall_items hc) (fun d r h=>by cases d<;>first | exact ⟨_,_,rfl⟩ | cases h) hg hm hv ha hn hdb he hE
end
section
variable {X:Cx} {O:List Nat} {x:Str} {pos p:Pos} {e:Expr} {es:List Expr} {l:EvL} {k k':Nat} {ps:List Str}
theorem dv (i:Nat) (hN:X.N[i]?=some x:=by rfl) (hv:Vis X.env.scope x:=by first | exact Or.inl rfl | exact Or.inr (Or.inl rfl) | exact Or.inr (Or.inr rfl)) (hd:(x==("__debug__":Str))=false:=by decide) (hc:(x==("__classdict__":Str))=false:=by decide):PE X (.Name x pos) (tR X O (eV i)):=dr_var i hN hv hd hc
theorem dq {i:Int} {j}:PE X (.Constant (.int i) j pos) (tR X O (eC (.int i))):=dr de_int
theorem dn (i:Nat) (hr:PA X es (tL X O l)) (hN:X.N[i]?=some x:=by rfl) (hv:Vis X.env.scope x:=by first | exact Or.inl rfl | exact Or.inr (Or.inl rfl) | exact Or.inr (Or.inr rfl)) (hO:i∉O:=by decide) (hd:(x==("__debug__":Str))=false:=by decide) (hc:(x==("__classdict__":Str))=false:=by decide):PA X (.Name x pos::es) (tL X O (lC (eV i) l)):=da_Name (de_var i hN hv hO hd hc) hr
theorem dc {f:List D->Option D} (c:Cal X.prog X.w X.K X.mg X.base k x ps (spD X.K f)) (hr:Room k' X.A) (ha:PA X (e::es) (tL X O l)) (hk:k<=k':=by decide) (hg:Gl X x:=by exact rfl) (hdb:(x==("__debug__":Str))=false:=by decide) (he:starEach (e::es) X.env=(false,eval e X.env)::starEach es X.env:=by rfl) (hpl:(backTo pos (starEach es X.env)).any (·.1)=false:=by rfl):PE X (.Call (.Name x p) (e::es) [] pos) (tD X O (eK f l)):=de_callC c (hr.mono hk) hg ha hdb he hpl
end
end Wd
namespace My
section
open PySem Wd
def b_figures:EvS:=sRet (eUn D.len (eUn D.strI (eV 0)))
def f_figures:List D->Option D:=defD 1 1 b_figures
def b_bare:EvS:=sRet (eTup (lC (eV 0) (lC (eC (.int 0)) (lC (eC (.int 0)) (lC (eC (.int 0)) lN)))))
def f_bare:List D->Option D:=defD 1 1 b_bare
def b_has_height:EvS:=sRet (eOp D.le (eOp D.add (eOp D.add (eOp D.ix (eV 1) (eC (.int 1))) (eOp D.ix (eV 1) (eC (.int 3)))) (eV 2)) (eOp D.ix (eV 0) (eC (.int 1))))
def f_has_height:List D->Option D:=defD 3 3 b_has_height
def b_has_width:EvS:=sRet (eOr (eOp D.eqO (eOp D.ix (eV 1) (eC (.int 2))) (eC (.int 0))) (eOp D.le (eOp D.add (eOp D.add (eOp D.ix (eV 1) (eC (.int 2))) (eC (.int 1))) (eV 2)) (eOp D.ix (eV 0) (eC (.int 0)))))
def f_has_width:List D->Option D:=defD 3 3 b_has_width
def b_word_at:EvS:=sRet (eTup (lC (eTup (lC (eV 0) (lC (eV 1) (lC (eV 2) lN)))) (lC (eTup (lC (eV 0) (lC (eV 1) (lC (eOp D.add (eV 2) (eV 3)) (lC (eV 4) lN))))) lN)))
def f_word_at:List D->Option D:=defD 5 5 b_word_at
def b_put_word:EvS:=sQ (sAsg (eOp D.ix (eV 1) (eC (.int 0))) (gS 4)) (sQ (sAsg (eOp D.ix (eV 1) (eC (.int 1))) (gS 5)) (sQ (sAsg (eOp D.ix (eV 1) (eC (.int 2))) (gS 6)) (sQ (sAsg (eOp D.add (eOp D.ix (eV 1) (eC (.int 3))) (eV 3)) (gS 7)) (sQ (sIf (eAnd (eK f_has_width (lC (eV 0) (lC (eV 1) (lC (eV 2) lN)))) (eK f_has_height (lC (eV 0) (lC (eV 1) (lC (eOp D.add (eC (.int 1)) (eV 3)) lN))))) (sQ (sAsg (eIf (eOp D.eqO (eV 6) (eC (.int 0))) (eC (.int 0)) (eOp D.add (eV 6) (eC (.int 1)))) (gS 8)) (sRet (eK f_word_at (lC (eV 4) (lC (eV 5) (lC (eV 8) (lC (eV 2) (lC (eV 7) lN)))))))) (sNx)) (sQ (sIf (eAnd (eOp D.gt (eV 6) (eC (.int 0))) (eK f_has_height (lC (eV 0) (lC (eV 1) (lC (eOp D.add (eC (.int 2)) (eV 3)) lN))))) (sRet (eK f_word_at (lC (eV 4) (lC (eOp D.add (eV 5) (eC (.int 1))) (lC (eC (.int 0)) (lC (eV 2) (lC (eV 7) lN))))))) (sNx)) (sRet (eK f_word_at (lC (eOp D.add (eV 4) (eC (.int 1))) (lC (eC (.int 0)) (lC (eC (.int 0)) (lC (eV 2) (lC (eV 3) lN))))))))))))
def f_put_word:List D->Option D:=defD 9 4 b_put_word
def b_end_line:EvS:=sQ (sIf (eOp D.eqO (eOp D.ix (eV 0) (eC (.int 2))) (eC (.int 0))) (sRet (eV 0)) (sNx)) (sRet (eTup (lC (eOp D.ix (eV 0) (eC (.int 0))) (lC (eOp D.add (eOp D.ix (eV 0) (eC (.int 1))) (eC (.int 1))) (lC (eC (.int 0)) (lC (eOp D.ix (eV 0) (eC (.int 3))) lN))))))
def f_end_line:List D->Option D:=defD 1 1 b_end_line
def b_put_block:EvS:=sQ (sAsg (eK f_end_line (lC (eV 1) lN)) (gS 4)) (sQ (sIf (eNot (eK f_has_height (lC (eV 0) (lC (eV 4) (lC (eOp D.add (eV 2) (eV 3)) lN))))) (sAsg (eK f_bare (lC (eOp D.add (eOp D.ix (eV 4) (eC (.int 0))) (eC (.int 1))) lN)) (gS 4)) (sNx)) (sQ (sAsg (eTup (lC (eOp D.ix (eV 4) (eC (.int 0))) (lC (eOp D.ix (eV 4) (eC (.int 1))) (lC (eC (.int 0)) lN)))) (gS 5)) (sRet (eTup (lC (eV 5) (lC (eTup (lC (eOp D.ix (eV 4) (eC (.int 0))) (lC (eOp D.add (eOp D.ix (eV 4) (eC (.int 1))) (eV 2)) (lC (eC (.int 0)) (lC (eOp D.ix (eV 4) (eC (.int 3))) lN))))) lN))))))
def f_put_block:List D->Option D:=defD 6 4 b_put_block
def b_new_page:EvS:=sQ (sIf (eOp D.eqO (eV 0) (eK f_bare (lC (eOp D.ix (eV 0) (eC (.int 0))) lN))) (sRet (eV 0)) (sNx)) (sRet (eK f_bare (lC (eOp D.add (eOp D.ix (eV 0) (eC (.int 0))) (eC (.int 1))) lN)))
def f_new_page:List D->Option D:=defD 1 1 b_new_page
def b_new_chapter:EvS:=sQ (sAsg (eK f_new_page (lC (eV 1) lN)) (gS 2)) (sQ (sIf (eAnd (eOp D.ix (eV 0) (eC (.int 2))) (eOp D.eqO (eOp D.mod (eOp D.ix (eV 2) (eC (.int 0))) (eC (.int 2))) (eC (.int 0)))) (sRet (eK f_bare (lC (eOp D.add (eOp D.ix (eV 2) (eC (.int 0))) (eC (.int 1))) lN))) (sNx)) (sRet (eV 2)))
def f_new_chapter:List D->Option D:=defD 3 2 b_new_chapter
def b_put_plates:EvS:=sQ (sAsg (eOp D.ix (eK f_new_page (lC (eV 0) lN)) (eC (.int 0))) (gS 2)) (sRet (eTup (lC (eTup (lC (eV 2) (lC (eC (.int 0)) (lC (eC (.int 0)) lN)))) (lC (eK f_bare (lC (eOp D.add (eV 2) (eV 1)) lN)) lN))))
def f_put_plates:List D->Option D:=defD 3 2 b_put_plates
def b_is_style:EvS:=sRet (eAnd (eChain D.le D.le (eC (.int 4)) (eOp D.ix (eV 0) (eC (.int 0))) (eC (.int 90))) (eChain D.le D.le (eC (.int 2)) (eOp D.ix (eV 0) (eC (.int 1))) (eC (.int 60))))
def f_is_style:List D->Option D:=defD 1 1 b_is_style
def b_is_titled:EvS:=sRet (eOp D.inO (eOp D.ix (eV 0) (eC (.int 0))) (eTup (lC (eC (.str "chapter")) (lC (eC (.str "heading")) lN))))
def f_is_titled:List D->Option D:=defD 1 1 b_is_titled
def b_is_set:EvS:=sRet (eOp D.inO (eOp D.ix (eV 0) (eC (.int 0))) (eTup (lC (eC (.str "word")) (lC (eC (.str "ref")) lN))))
def f_is_set:List D->Option D:=defD 1 1 b_is_set
def b_label_of:EvS:=sRet (eIf (eOp D.eqO (eOp D.ix (eV 0) (eC (.int 0))) (eC (.str "para"))) (eC (.str "")) (eOp D.ix (eV 0) (eUn D.neg (eC (.int 1)))))
def f_label_of:List D->Option D:=defD 1 1 b_label_of
def b_items_of:EvS:=sRet (eIf (eOp D.eqO (eOp D.ix (eV 0) (eC (.int 0))) (eC (.str "para"))) (eOp D.ix (eV 0) (eC (.int 1))) (eLst (lN)))
def f_items_of:List D->Option D:=defD 1 1 b_items_of
def b_refs:EvS:=sQ (sAsg (eLst (lN)) (gS 1)) (sQ (sFor (iLst (eV 0)) (gS 2) (sExt 1 (eComp 1 [] (iLst (eK f_items_of (lC (eV 2) lN))) (gS 0) (eOp D.eqO (eOp D.ix (eV 0) (eC (.int 0))) (eC (.str "ref"))) (eOp D.ix (eV 0) (eC (.int 1)))))) (sRet (eV 1)))
def f_refs:List D->Option D:=defD 3 1 b_refs
def b_pages_for:EvS:=sQ (sIf (eOp D.eqO (eOp D.ix (eV 0) (eC (.int 0))) (eC (.str "plates"))) (sRet (eOp D.add (eC (.int 2)) (eOp D.ix (eV 0) (eC (.int 1))))) (sNx)) (sQ (sIf (eAnd (eK f_is_titled (lC (eV 0) lN)) (eOp D.ix (eV 1) (eC (.int 3)))) (sRet (eC (.int 4))) (sNx)) (sRet (eOp D.add (eC (.int 2)) (eOp D.mulA (eC (.int 2)) (eUn D.len (eComp 1 [] (iLst (eK f_items_of (lC (eV 0) lN))) (gS 0) (eK f_is_set (lC (eV 0) lN)) (eV 0)))))))
def f_pages_for:List D->Option D:=defD 2 2 b_pages_for
def b_pages_at_most:EvS:=sRet (eOp D.add (eC (.int 3)) (eUn D.sumL (eComp 1 [1] (iLst (eV 0)) (gS 0) (eC (.bl true)) (eK f_pages_for (lC (eV 0) (lC (eV 1) lN))))))
def f_pages_at_most:List D->Option D:=defD 2 2 b_pages_at_most
def b_room_at_most:EvS:=sRet (eK f_figures (lC (eK f_pages_at_most (lC (eV 0) (lC (eV 1) lN))) lN))
def f_room_at_most:List D->Option D:=defD 2 2 b_room_at_most
def b_any_longer:EvS:=sRet (eUn D.anyL (eComp 1 [1] (iLst (eV 0)) (gS 0) (eC (.bl true)) (eOp D.gt (eUn D.len (eV 0)) (eV 1))))
def f_any_longer:List D->Option D:=defD 2 2 b_any_longer
def b_is_wide_block:EvS:=sQ (sIf (eK f_is_titled (lC (eV 0) lN)) (sQ (sAsg (eIf (eOp D.ix (eV 1) (eC (.int 3))) (eOp D.add (eC (.int 2)) (eV 2)) (eC (.int 0))) (gS 3)) (sRet (eOp D.gt (eOp D.add (eUn D.len (eOp D.ix (eV 0) (eC (.int 1)))) (eV 3)) (eOp D.ix (eV 1) (eC (.int 0)))))) (sNx)) (sRet (eAnd (eOp D.eqO (eOp D.ix (eV 0) (eC (.int 0))) (eC (.str "table"))) (eK f_any_longer (lC (eOp D.ix (eV 0) (eC (.int 1))) (lC (eOp D.ix (eV 1) (eC (.int 0))) lN)))))
def f_is_wide_block:List D->Option D:=defD 4 3 b_is_wide_block
def b_is_wide_item:EvS:=sQ (sIf (eOp D.eqO (eOp D.ix (eV 0) (eC (.int 0))) (eC (.str "word"))) (sRet (eK f_any_longer (lC (eOp D.add (eLst (lC (eOp D.ix (eV 0) (eC (.int 1))) lN)) (eOp D.ix (eV 0) (eC (.int 2)))) (lC (eOp D.ix (eV 1) (eC (.int 0))) lN)))) (sNx)) (sRet (eAnd (eOp D.eqO (eOp D.ix (eV 0) (eC (.int 0))) (eC (.str "ref"))) (eOp D.gt (eOp D.add (eOp D.add (eUn D.len (eOp D.ix (eV 0) (eC (.int 2)))) (eV 2)) (eUn D.len (eOp D.ix (eV 0) (eC (.int 3))))) (eOp D.ix (eV 1) (eC (.int 0))))))
def f_is_wide_item:List D->Option D:=defD 3 3 b_is_wide_item
def b_is_high_block:EvS:=sQ (sIf (eOp D.eqO (eOp D.ix (eV 0) (eC (.int 0))) (eC (.str "heading"))) (sRet (eOp D.gt (eOp D.add (eOp D.ix (eV 0) (eC (.int 2))) (eC (.int 1))) (eOp D.ix (eV 1) (eC (.int 1))))) (sNx)) (sRet (eAnd (eOp D.eqO (eOp D.ix (eV 0) (eC (.int 0))) (eC (.str "table"))) (eOp D.gt (eUn D.len (eOp D.ix (eV 0) (eC (.int 1)))) (eOp D.ix (eV 1) (eC (.int 1))))))
def f_is_high_block:List D->Option D:=defD 2 2 b_is_high_block
def b_is_high_item:EvS:=sRet (eAnd (eOp D.eqO (eOp D.ix (eV 0) (eC (.int 0))) (eC (.str "word"))) (eOp D.gt (eOp D.add (eUn D.len (eOp D.ix (eV 0) (eC (.int 2)))) (eC (.int 1))) (eOp D.ix (eV 1) (eC (.int 1)))))
def f_is_high_item:List D->Option D:=defD 2 2 b_is_high_item
def b_add_label:EvS:=sQ (sIf (eOp D.dIn (eV 0) (eV 2)) (sNever) (sNx)) (sDput 2 (eV 0) (eC (.bl true)))
def f_add_label:List D->Option D:=defM 3 3 b_add_label
def b_look_at_block:EvS:=sQ (sIf (eK f_is_wide_block (lC (eV 0) (lC (eV 2) (lC (eV 3) lN)))) (sNever) (sNx)) (sQ (sIf (eK f_is_high_block (lC (eV 0) (lC (eV 2) lN))) (sNever) (sNx)) (sIf (eOp D.neO (eK f_label_of (lC (eV 0) lN)) (eC (.str ""))) (sCallM 4 f_add_label (lC (eK f_label_of (lC (eV 0) lN)) (lC (eV 1) lN))) (sNx)))
def f_look_at_block:List D->Option D:=defM 5 5 b_look_at_block
def b_look_at_item:EvS:=sQ (sIf (eK f_is_wide_item (lC (eV 0) (lC (eV 2) (lC (eV 3) lN)))) (sNever) (sNx)) (sQ (sIf (eK f_is_high_item (lC (eV 0) (lC (eV 2) lN))) (sNever) (sNx)) (sIf (eOp D.eqO (eOp D.ix (eV 0) (eC (.int 0))) (eC (.str "mark"))) (sCallM 4 f_add_label (lC (eOp D.ix (eV 0) (eC (.int 1))) (lC (eV 1) lN))) (sNx)))
def f_look_at_item:List D->Option D:=defM 5 5 b_look_at_item
def b_look_at_items:EvS:=sQ (sAsg (eUn D.len (eComp 1 [] (iLst (eV 0)) (gS 0) (eK f_is_set (lC (eV 0) lN)) (eV 0))) (gS 5)) (sFor (iLst (eV 0)) (gS 6) (sQ (sCallM 4 f_look_at_item (lC (eV 6) (lC (eV 1) (lC (eV 2) (lC (eV 3) lN))))) (sIf (eK f_is_set (lC (eV 6) lN)) (sAug 5 D.sub (eC (.int 1))) (sIf (eOp D.eqO (eV 5) (eC (.int 0))) (sNever) (sNx)))))
def f_look_at_items:List D->Option D:=defM 7 5 b_look_at_items
def b_look_at_refs:EvS:=sFor (iEnum (eV 0)) (gUnp [gS 2,gS 3]) (sFor (iLst (eK f_refs (lC (eLst (lC (eV 3) lN)) lN))) (gS 4) (sIf (eOp D.dNotIn (eV 4) (eV 1)) (sNever) (sNx)))
def f_look_at_refs:List D->Option D:=defD 5 2 b_look_at_refs
def b_look:EvS:=sQ (sIf (eNot (eK f_is_style (lC (eV 1) lN))) (sNever) (sNx)) (sQ (sAsg (eK f_room_at_most (lC (eV 0) (lC (eV 1) lN))) (gS 2)) (sQ (sAsg (eC (.dic [] [])) (gS 3)) (sQ (sFor (iEnum (eV 0)) (gUnp [gS 4,gS 5]) (sQ (sCallM 3 f_look_at_block (lC (eV 5) (lC (eV 4) (lC (eV 1) (lC (eV 2) lN))))) (sCallM 3 f_look_at_items (lC (eK f_items_of (lC (eV 5) lN)) (lC (eV 4) (lC (eV 1) (lC (eV 2) lN))))))) (sDrop (eK f_look_at_refs (lC (eV 0) (lC (eV 3) lN)))))))
def f_look:List D->Option D:=defD 6 2 b_look
def b_set_contents:EvS:=sQ (sAsg (eLst (lN)) (gS 2)) (sQ (sAsg (eK f_bare (lC (eC (.int 1)) lN)) (gS 3)) (sQ (sIf (eNot (eOp D.ix (eV 1) (eC (.int 3)))) (sRet (eTup (lC (eV 2) (lC (eV 3) lN)))) (sNx)) (sQ (sFor (iLst (eV 0)) (gS 4) (sIf (eK f_is_titled (lC (eV 4) lN)) (sQ (sAsg (eK f_put_block (lC (eV 1) (lC (eV 3) (lC (eC (.int 1)) (lC (eC (.int 0)) lN))))) (gS 5)) (sQ (sP 2 (eOp D.ix (eV 5) (eC (.int 0)))) (sAsg (eOp D.ix (eV 5) (eC (.int 1))) (gS 3)))) (sNx))) (sQ (sIf (eOp D.gt (eUn D.len (eV 2)) (eC (.int 0))) (sAsg (eK f_new_chapter (lC (eV 1) (lC (eV 3) lN))) (gS 3)) (sNx)) (sRet (eTup (lC (eV 2) (lC (eV 3) lN))))))))
def f_set_contents:List D->Option D:=defD 6 2 b_set_contents
def b_set_items:EvS:=sQ (sAsg (eLst (lN)) (gS 4)) (sQ (sAsg (eC (.int 0)) (gS 5)) (sQ (sFor (iLst (eV 0)) (gS 6) (sIf (eK f_is_set (lC (eV 6) lN)) (sQ (sIf (eOp D.eqO (eOp D.ix (eV 6) (eC (.int 0))) (eC (.str "ref"))) (sQ (sAsg (eOp D.add (eOp D.add (eUn D.len (eOp D.ix (eV 6) (eC (.int 2)))) (eOp D.ix (eV 3) (eV 5))) (eUn D.len (eOp D.ix (eV 6) (eC (.int 3))))) (gS 7)) (sQ (sAsg (eK f_put_word (lC (eV 1) (lC (eV 2) (lC (eV 7) (lC (eC (.int 0)) lN))))) (gS 8)) (sAug 5 D.addI (eC (.int 1))))) (sAsg (eK f_put_word (lC (eV 1) (lC (eV 2) (lC (eUn D.len (eOp D.ix (eV 6) (eC (.int 1)))) (lC (eUn D.len (eOp D.ix (eV 6) (eC (.int 2)))) lN))))) (gS 8))) (sQ (sP 4 (eOp D.ix (eV 8) (eC (.int 0)))) (sAsg (eOp D.ix (eV 8) (eC (.int 1))) (gS 2)))) (sNx))) (sRet (eTup (lC (eV 4) (lC (eK f_end_line (lC (eV 2) lN)) lN))))))
def f_set_items:List D->Option D:=defD 9 4 b_set_items
def b_set_block:EvS:=sQ (sIf (eOp D.eqO (eOp D.ix (eV 0) (eC (.int 0))) (eC (.str "plates"))) (sRet (eK f_put_plates (lC (eV 2) (lC (eOp D.ix (eV 0) (eC (.int 1))) lN)))) (sNx)) (sQ (sIf (eOp D.eqO (eOp D.ix (eV 0) (eC (.int 0))) (eC (.str "table"))) (sRet (eK f_put_block (lC (eV 1) (lC (eV 2) (lC (eUn D.len (eOp D.ix (eV 0) (eC (.int 1)))) (lC (eC (.int 0)) lN)))))) (sNx)) (sQ (sIf (eOp D.eqO (eOp D.ix (eV 0) (eC (.int 0))) (eC (.str "heading"))) (sRet (eK f_put_block (lC (eV 1) (lC (eV 2) (lC (eC (.int 1)) (lC (eOp D.ix (eV 0) (eC (.int 2))) lN)))))) (sNx)) (sRet (eK f_put_block (lC (eV 1) (lC (eK f_new_chapter (lC (eV 1) (lC (eV 2) lN))) (lC (eC (.int 1)) (lC (eC (.int 0)) lN))))))))
def f_set_block:List D->Option D:=defD 3 3 b_set_block
def b_set_book:EvS:=sQ (sAsg (eK f_set_contents (lC (eV 0) (lC (eV 1) lN))) (gS 3)) (sQ (sAsg (eLst (lC (eOp D.ix (eV 3) (eC (.int 0))) lN)) (gS 4)) (sQ (sAsg (eOp D.ix (eV 3) (eC (.int 1))) (gS 5)) (sQ (sAsg (eC (.int 0)) (gS 6)) (sQ (sFor (iLst (eV 0)) (gS 7) (sQ (sIf (eOp D.eqO (eOp D.ix (eV 7) (eC (.int 0))) (eC (.str "para"))) (sQ (sAsg (eK f_set_items (lC (eOp D.ix (eV 7) (eC (.int 1))) (lC (eV 1) (lC (eV 5) (lC (eCut (eV 2) (oAt (eV 6)) (oNo)) lN))))) (gS 3)) (sQ (sP 4 (eOp D.ix (eV 3) (eC (.int 0)))) (sAug 6 D.addI (eUn D.len (eK f_refs (lC (eLst (lC (eV 7) lN)) lN)))))) (sQ (sAsg (eK f_set_block (lC (eV 7) (lC (eV 1) (lC (eV 5) lN)))) (gS 3)) (sP 4 (eLst (lC (eOp D.ix (eV 3) (eC (.int 0))) lN))))) (sAsg (eOp D.ix (eV 3) (eC (.int 1))) (gS 5)))) (sRet (eV 4))))))
def f_set_book:List D->Option D:=defD 8 3 b_set_book
def b_pages_with:EvS:=sQ (sAsg (eLst (lN)) (gS 3)) (sQ (sAsg (eC (.int 0)) (gS 4)) (sQ (sFor (iLst (eV 0)) (gS 5) (sIf (eK f_is_set (lC (eV 5) lN)) (sAug 4 D.addI (eC (.int 1))) (sIf (eOp D.eqO (eOp D.ix (eV 5) (eC (.int 0))) (eV 2)) (sP 3 (eTup (lC (eOp D.ix (eV 5) (eC (.int 1))) (lC (eOp D.ix (eOp D.ix (eV 1) (eV 4)) (eC (.int 0))) lN)))) (sNx)))) (sRet (eV 3))))
def f_pages_with:List D->Option D:=defD 6 3 b_pages_with
def b_label_pages:EvS:=sQ (sAsg (eC (.dic [] [])) (gS 2)) (sQ (sFor (iZip (eV 0) (eCut (eV 1) (oAt (eC (.int 1))) (oNo))) (gUnp [gS 3,gS 4]) (sQ (sIf (eOp D.neO (eK f_label_of (lC (eV 3) lN)) (eC (.str ""))) (sDput 2 (eK f_label_of (lC (eV 3) lN)) (eOp D.ix (eOp D.ix (eV 4) (eC (.int 0))) (eC (.int 0)))) (sNx)) (sFor (iLst (eK f_pages_with (lC (eK f_items_of (lC (eV 3) lN)) (lC (eV 4) (lC (eC (.str "mark")) lN))))) (gUnp [gS 5,gS 6]) (sDput 2 (eV 5) (eV 6))))) (sRet (eV 2)))
def f_label_pages:List D->Option D:=defD 7 2 b_label_pages
def b_laid:EvS:=sQ (sDrop (eK f_look (lC (eV 0) (lC (eV 1) lN)))) (sRet (eK f_set_book (lC (eV 0) (lC (eV 1) (lC (eV 2) lN)))))
def f_laid:List D->Option D:=defD 3 3 b_laid
def b_pages_of:EvS:=sRet (eK f_label_pages (lC (eV 0) (lC (eK f_laid (lC (eV 0) (lC (eV 1) (lC (eV 2) lN)))) lN)))
def f_pages_of:List D->Option D:=defD 3 3 b_pages_of
def b_Lcell_at:EvS:=sQ (sIf (eOp D.lt (eV 1) (eUn D.len (eV 0))) (sRet (eOp D.ix (eV 0) (eV 1))) (sNx)) (sRet (eC (.int 0)))
def f_Lcell_at:List D->Option D:=defD 2 2 b_Lcell_at
def b_Lwhole:EvS:=sRet (eAnd (eInst "int" (eV 0)) (eNot (eInst "bool" (eV 0))))
def f_Lwhole:List D->Option D:=defD 1 1 b_Lwhole
def b_Lmix:EvS:=sQ (sAsg (eOp D.mod (eOp D.mulA (eOp D.add (eOp D.add (eOp D.mod (eV 0) (eC (.int 2147483647))) (eOp D.mulA (eOp D.mulA (eV 1) (eV 1)) (eC (.int 7919)))) (eC (.int 104729))) (eC (.int 48271))) (eC (.int 2147483647))) (gS 2)) (sRet (eOp D.mod (eOp D.add (eOp D.mulA (eV 2) (eV 2)) (eOp D.mulA (eC (.int 69621)) (eV 1))) (eC (.int 2147483629))))
def f_Lmix:List D->Option D:=defD 3 2 b_Lmix
def b_Llabel:EvS:=sQ (sAsg (eC (.str "abcdefghijkl")) (gS 1)) (sRet (eOp D.add (eOp D.add (eOp D.add (eCut (eC (.str "xxx")) (oNo) (oAt (eOp D.mod (eOp D.mulA (eV 0) (eC (.int 7))) (eC (.int 4))))) (eOp D.ix (eV 1) (eOp D.mod (eOp D.fdiv (eV 0) (eC (.int 12))) (eC (.int 12))))) (eOp D.ix (eV 1) (eOp D.mod (eV 0) (eC (.int 12))))) (eCut (eC (.str "yy")) (oNo) (oAt (eOp D.mod (eOp D.mulA (eV 0) (eC (.int 5))) (eC (.int 3)))))))
def f_Llabel:List D->Option D:=defD 2 1 b_Llabel
def b_Lplates:EvS:=sQ (sAsg (eC (.int 10)) (gS 2)) (sQ (sFor (iRng (eOp D.mod (eOp D.fdiv (eV 1) (eC (.int 97))) (eC (.int 4)))) (gS 3) (sAsg (eOp D.mulA (eV 2) (eC (.int 10))) (gS 2))) (sQ (sIf (eOp D.eqO (eOp D.mod (eOp D.fdiv (eV 1) (eC (.int 97))) (eC (.int 8))) (eC (.int 7))) (sAsg (eOp D.pow (eC (.int 10)) (eC (.int 30))) (gS 2)) (sNx)) (sRet (eOp D.ix (eLst (lC (eOp D.add (eC (.int 1)) (eOp D.mod (eOp D.fdiv (eV 1) (eC (.int 16))) (eC (.int 3)))) (lC (eOp D.sub (eOp D.sub (eV 2) (eC (.int 1))) (eOp D.mod (eOp D.fdiv (eV 1) (eC (.int 16))) (eC (.int 5)))) (lC (eOp D.add (eC (.int 1)) (eOp D.mod (eV 0) (eOp D.pow (eC (.int 10)) (eC (.int 39))))) lN)))) (eOp D.mod (eOp D.fdiv (eV 1) (eC (.int 997))) (eC (.int 3)))))))
def f_Lplates:List D->Option D:=defD 4 2 b_Lplates
def b_Lsigns : EvS := sQ (sAsg (eC (.str "!\"#$&'()*+,-./0123456789:;<=>?@ABCDEFGHIJKLMNOPQRSTUVWXYZ[\\]^_`")) (gS 3)) (sQ (sAsg (eOp D.add (eV 3) (eC (.str "abcdefghijklmnopqrstuvwxyz{}~|"))) (gS 3)) (sQ (sAsg (eC (.str "")) (gS 4)) (sQ (sFor (iRng (eV 1)) (gS 5) (sQ (sAsg (eOp D.add (eOp D.add (eOp D.fdiv (eV 0) (eC (.int 7))) (eOp D.mulA (eV 5) (eOp D.add (eC (.int 1)) (eOp D.mod (eV 0) (eC (.int 13)))))) (eOp D.mulA (eV 5) (eV 5))) (gS 6)) (sQ (sAsg (eOp D.ix (eV 3) (eOp D.mod (eV 6) (eOp D.add (eOp D.sub (eUn D.len (eV 3)) (eC (.int 1))) (eV 2)))) (gS 7)) (sQ (sIf (eAnd (eOp D.eqO (eV 2) (eC (.int 1))) (eOp D.eqO (eOp D.mod (eOp D.add (eOp D.fdiv (eV 0) (eC (.int 3))) (eV 5)) (eC (.int 4))) (eC (.int 0)))) (sAsg (eC (.str " ")) (gS 7)) (sNx)) (sAsg (eOp D.add (eV 4) (eV 7)) (gS 4)))))) (sRet (eV 4)))))
def f_Lsigns:List D->Option D:=defD 8 3 b_Lsigns
def b_Latom:EvS:=sQ (sAsg (eK f_Lmix (lC (eV 0) (lC (eOp D.add (eV 1) (eC (.int 20))) lN))) (gS 2)) (sQ (sAsg (eOp D.mod (eV 2) (eC (.int 17))) (gS 3)) (sQ (sAsg (eOp D.add (eC (.int 1)) (eOp D.mod (eOp D.fdiv (eV 2) (eC (.int 17))) (eOp D.ix (eLst (lC (eC (.int 11)) (lC (eC (.int 40)) lN))) (eUn D.intB (eOp D.eqO (eOp D.mod (eOp D.fdiv (eV 2) (eC (.int 187))) (eC (.int 9))) (eC (.int 4))))))) (gS 4)) (sQ (sAsg (eOp D.add (eC (.int 1)) (eOp D.mod (eOp D.fdiv (eV 2) (eC (.int 97))) (eOp D.ix (eLst (lC (eC (.int 4)) (lC (eC (.int 30)) lN))) (eUn D.intB (eOp D.eqO (eOp D.mod (eOp D.fdiv (eV 2) (eC (.int 1009))) (eC (.int 11))) (eC (.int 5))))))) (gS 5)) (sQ (sAsg (eK f_Lsigns (lC (eOp D.fdiv (eV 2) (eC (.int 17))) (lC (eV 4) (lC (eC (.int 1)) lN)))) (gS 6)) (sQ (sAsg (eK f_Lsigns (lC (eOp D.fdiv (eV 2) (eC (.int 19))) (lC (eV 4) (lC (eC (.int 0)) lN)))) (gS 7)) (sQ (sAsg (eK f_Llabel (lC (eV 1) lN)) (gS 8)) (sQ (sAsg (eV 8) (gS 9)) (sQ (sIf (eOp D.eqO (eOp D.mod (eOp D.fdiv (eV 2) (eC (.int 1009))) (eC (.int 2))) (eC (.int 0))) (sAsg (eC (.str "")) (gS 9)) (sNx)) (sQ (sIf (eOp D.eqO (eV 3) (eC (.int 0))) (sRet (eTup (lC (eC (.str "chapter")) (lC (eOp D.add (eOp D.ix (eV 7) (eC (.int 0))) (eUn D.strip (eV 6))) (lC (eV 9) lN))))) (sNx)) (sQ (sIf (eOp D.eqO (eV 3) (eC (.int 1))) (sRet (eTup (lC (eC (.str "heading")) (lC (eOp D.add (eOp D.ix (eV 7) (eC (.int 0))) (eUn D.strip (eV 6))) (lC (eOp D.sub (eV 5) (eC (.int 1))) (lC (eV 9) lN)))))) (sNx)) (sQ (sIf (eOp D.eqO (eV 3) (eC (.int 2))) (sRet (eTup (lC (eC (.str "table")) (lC (eComp 1 [6,4] (iRng (eV 5)) (gS 0) (eC (.bl true)) (eCut (eV 1) (oNo) (oAt (eOp D.max2 (eC (.int 0)) (eOp D.sub (eV 2) (eV 0)))))) (lC (eV 9) lN))))) (sNx)) (sQ (sIf (eOp D.eqO (eV 3) (eC (.int 3))) (sRet (eTup (lC (eC (.str "plates")) (lC (eK f_Lplates (lC (eV 0) (lC (eV 2) lN))) (lC (eV 9) lN))))) (sNx)) (sQ (sIf (eOp D.eqO (eV 3) (eC (.int 4))) (sRet (eTup (lC (eC (.str "break")) (lC (eC (.str "")) (lC (eC (.str "")) lN))))) (sNx)) (sQ (sIf (eOp D.lt (eV 3) (eC (.int 7))) (sRet (eTup (lC (eC (.str "mark")) (lC (eV 8) lN)))) (sNx)) (sQ (sIf (eOp D.eqO (eV 3) (eC (.int 7))) (sRet (eTup (lC (eC (.str "key")) (lC (eCut (eOp D.mulA (eV 7) (eC (.int 9))) (oNo) (oAt (eOp D.add (eC (.int 1)) (eOp D.mod (eOp D.fdiv (eV 2) (eC (.int 97))) (eC (.int 80)))))) lN)))) (sNx)) (sQ (sIf (eOp D.lt (eV 3) (eC (.int 12))) (sRet (eTup (lC (eC (.str "ref")) (lC (eC (.str "")) (lC (eCut (eV 7) (oNo) (oAt (eOp D.mod (eOp D.fdiv (eV 2) (eC (.int 97))) (eC (.int 3))))) (lC (eK f_Lsigns (lC (eOp D.fdiv (eV 2) (eC (.int 23))) (lC (eOp D.mod (eOp D.fdiv (eV 2) (eC (.int 291))) (eC (.int 3))) (lC (eC (.int 0)) lN)))) lN)))))) (sNx)) (sQ (sIf (eOp D.eqO (eV 3) (eC (.int 12))) (sRet (eTup (lC (eC (.str "word")) (lC (eV 7) (lC (eComp 1 [6] (iRng (eV 5)) (gS 0) (eC (.bl true)) (eCut (eV 1) (oAt (eV 0)) (oNo))) lN))))) (sNx)) (sRet (eTup (lC (eC (.str "word")) (lC (eV 7) (lC (eLst (lN)) lN))))))))))))))))))))))
def f_Latom:List D->Option D:=defD 10 2 b_Latom
def b_Lpointed:EvS:=sQ (sAsg (eLst (lN)) (gS 2)) (sQ (sFor (iLst (eV 0)) (gS 3) (sIf (eOp D.eqO (eOp D.ix (eV 3) (eC (.int 0))) (eC (.str "mark"))) (sP 2 (eOp D.ix (eV 3) (eC (.int 1)))) (sIf (eAnd (eOp D.notInO (eOp D.ix (eV 3) (eC (.int 0))) (eLst (lC (eC (.str "break")) (lC (eC (.str "word")) (lC (eC (.str "key")) (lC (eC (.str "ref")) lN)))))) (eOp D.neO (eOp D.ix (eV 3) (eUn D.neg (eC (.int 1)))) (eC (.str "")))) (sP 2 (eOp D.ix (eV 3) (eUn D.neg (eC (.int 1))))) (sNx)))) (sQ (sAsg (eLst (lN)) (gS 4)) (sQ (sFor (iEnum (eV 0)) (gUnp [gS 5,gS 3]) (sIf (eAnd (eOp D.eqO (eOp D.ix (eV 3) (eC (.int 0))) (eC (.str "ref"))) (eOp D.eqO (eV 2) (eLst (lN)))) (sP 4 (eTup (lC (eC (.str "word")) (lC (eC (.str "lost")) (lC (eLst (lN)) lN))))) (sIf (eOp D.eqO (eOp D.ix (eV 3) (eC (.int 0))) (eC (.str "ref"))) (sQ (sAsg (eOp D.ix (eV 2) (eOp D.mod (eK f_Lmix (lC (eOp D.ix (eV 1) (eV 5)) (lC (eOp D.add (eV 5) (eC (.int 90))) lN))) (eUn D.len (eV 2)))) (gS 6)) (sP 4 (eTup (lC (eC (.str "ref")) (lC (eV 6) (lC (eOp D.ix (eV 3) (eC (.int 2))) (lC (eOp D.ix (eV 3) (eC (.int 3))) lN))))))) (sP 4 (eV 3))))) (sRet (eV 4)))))
def f_Lpointed:List D->Option D:=defD 7 2 b_Lpointed
def b_Lgrouped:EvS:=sQ (sAsg (eLst (lN)) (gS 1)) (sQ (sAsg (eLst (lN)) (gS 2)) (sQ (sFor (iLst (eOp D.add (eV 0) (eLst (lC (eTup (lC (eC (.str "end")) (lC (eC (.str "")) (lC (eC (.str "")) lN)))) lN)))) (gS 3) (sQ (sIf (eOp D.inO (eOp D.ix (eV 3) (eC (.int 0))) (eLst (lC (eC (.str "mark")) (lC (eC (.str "key")) (lC (eC (.str "ref")) (lC (eC (.str "word")) lN)))))) (sQ (sP 2 (eV 3)) (sCnt)) (sNx)) (sQ (sIf (eAnd (eOp D.neO (eV 2) (eLst (lN))) (eOp D.inO (eOp D.ix (eOp D.ix (eV 2) (eUn D.neg (eC (.int 1)))) (eC (.int 0))) (eLst (lC (eC (.str "mark")) (lC (eC (.str "key")) lN))))) (sP 2 (eTup (lC (eC (.str "word")) (lC (eC (.str "end")) (lC (eLst (lN)) lN))))) (sNx)) (sQ (sIf (eOr (eOp D.neO (eV 2) (eLst (lN))) (eOp D.eqO (eOp D.ix (eV 3) (eC (.int 0))) (eC (.str "break")))) (sP 1 (eTup (lC (eC (.str "para")) (lC (eV 2) lN)))) (sNx)) (sQ (sAsg (eLst (lN)) (gS 2)) (sIf (eOp D.notInO (eOp D.ix (eV 3) (eC (.int 0))) (eLst (lC (eC (.str "break")) (lC (eC (.str "end")) lN)))) (sP 1 (eV 3)) (sNx))))))) (sRet (eV 1))))
def f_Lgrouped:List D->Option D:=defD 4 1 b_Lgrouped
def b_Ledge:EvS:=sQ (sIf (eOr (eOp D.ix (eV 1) (eC (.int 3))) (eOp D.neO (eOp D.mod (eK f_Lcell_at (lC (eV 0) (lC (eC (.int 4)) lN))) (eC (.int 3))) (eC (.int 1)))) (sRet (eLst (lN))) (sNx)) (sQ (sAsg (eOp D.add (eC (.int 1)) (eOp D.mod (eK f_Lmix (lC (eK f_Lcell_at (lC (eV 0) (lC (eC (.int 4)) lN))) (lC (eC (.int 19)) lN))) (eC (.int 6)))) (gS 2)) (sQ (sAsg (eC (.int 1)) (gS 3)) (sQ (sFor (iRng (eV 2)) (gS 4) (sAsg (eOp D.mulA (eV 3) (eC (.int 10))) (gS 3))) (sQ (sAsg (eLst (lC (eTup (lC (eC (.str "word")) (lC (eOp D.mulA (eC (.str "w")) (eOp D.max2 (eC (.int 1)) (eOp D.sub (eOp D.sub (eOp D.ix (eV 1) (eC (.int 0))) (eC (.int 1))) (eV 2)))) (lC (eLst (lN)) lN)))) (lC (eTup (lC (eC (.str "mark")) (lC (eC (.str "z")) lN))) (lC (eTup (lC (eC (.str "ref")) (lC (eC (.str "z")) (lC (eC (.str "")) (lC (eC (.str "")) lN))))) lN)))) (gS 5)) (sRet (eLst (lC (eTup (lC (eC (.str "plates")) (lC (eOp D.sub (eV 3) (eC (.int 2))) (lC (eC (.str "")) lN)))) (lC (eTup (lC (eC (.str "table")) (lC (eComp 1 [] (iRng (eOp D.sub (eOp D.ix (eV 1) (eC (.int 1))) (eC (.int 1)))) (gS 0) (eC (.bl true)) (eC (.str ""))) (lC (eC (.str "")) lN)))) (lC (eTup (lC (eC (.str "para")) (lC (eV 5) lN))) lN)))))))))
def f_Ledge:List D->Option D:=defD 6 2 b_Ledge
def b_Lneeds:EvS:=sQ (sAsg (eC (.int 4)) (gS 2)) (sQ (sAsg (eC (.int 2)) (gS 3)) (sQ (sFor (iLst (eV 0)) (gS 4) (sQ (sIf (eOr (eOp D.eqO (eOp D.ix (eV 4) (eC (.int 0))) (eC (.str "chapter"))) (eOp D.eqO (eOp D.ix (eV 4) (eC (.int 0))) (eC (.str "heading")))) (sAsg (eOp D.max2 (eV 2) (eOp D.add (eOp D.add (eUn D.len (eOp D.ix (eV 4) (eC (.int 1)))) (eC (.int 2))) (eV 1))) (gS 2)) (sNx)) (sQ (sIf (eOp D.eqO (eOp D.ix (eV 4) (eC (.int 0))) (eC (.str "heading"))) (sAsg (eOp D.max2 (eV 3) (eOp D.add (eOp D.ix (eV 4) (eC (.int 2))) (eC (.int 1)))) (gS 3)) (sNx)) (sQ (sIf (eOp D.eqO (eOp D.ix (eV 4) (eC (.int 0))) (eC (.str "table"))) (sQ (sAsg (eOp D.max2 (eV 3) (eUn D.len (eOp D.ix (eV 4) (eC (.int 1))))) (gS 3)) (sAsg (eUn D.maxL (eOp D.add (eLst (lC (eV 2) lN)) (eComp 1 [] (iLst (eOp D.ix (eV 4) (eC (.int 1)))) (gS 0) (eC (.bl true)) (eUn D.len (eV 0))))) (gS 2))) (sNx)) (sIf (eOp D.eqO (eOp D.ix (eV 4) (eC (.int 0))) (eC (.str "para"))) (sQ (sAsg (eUn D.maxL (eOp D.add (eLst (lC (eV 2) lN)) (eComp 1 [1] (iLst (eOp D.ix (eV 4) (eC (.int 1)))) (gS 0) (eOp D.eqO (eOp D.ix (eV 0) (eC (.int 0))) (eC (.str "ref"))) (eOp D.add (eOp D.add (eUn D.len (eOp D.ix (eV 0) (eC (.int 2)))) (eV 1)) (eUn D.len (eOp D.ix (eV 0) (eC (.int 3)))))))) (gS 2)) (sQ (sAsg (eUn D.maxL (eOp D.add (eLst (lC (eV 2) lN)) (eComp 1 [] (iLst (eOp D.ix (eV 4) (eC (.int 1)))) (gS 0) (eOp D.eqO (eOp D.ix (eV 0) (eC (.int 0))) (eC (.str "word"))) (eUn D.len (eOp D.ix (eV 0) (eC (.int 1))))))) (gS 2)) (sQ (sAsg (eComp 1 [] (iLst (eOp D.ix (eV 4) (eC (.int 1)))) (gS 0) (eOp D.eqO (eOp D.ix (eV 0) (eC (.int 0))) (eC (.str "word"))) (eOp D.ix (eV 0) (eC (.int 2)))) (gS 5)) (sQ (sAsg (eUn D.maxL (eOp D.add (eLst (lC (eV 3) lN)) (eComp 1 [] (iLst (eV 5)) (gS 0) (eC (.bl true)) (eOp D.add (eC (.int 1)) (eUn D.len (eV 0)))))) (gS 3)) (sFor (iLst (eV 5)) (gS 6) (sAsg (eUn D.maxL (eOp D.add (eLst (lC (eV 2) lN)) (eComp 1 [] (iLst (eV 6)) (gS 0) (eC (.bl true)) (eUn D.len (eV 0))))) (gS 2))))))) (sNx)))))) (sRet (eTup (lC (eV 2) (lC (eV 3) lN))))))
def f_Lneeds:List D->Option D:=defD 7 2 b_Lneeds
def b_Lmost:EvS:=sQ (sAsg (eC (.int 3)) (gS 2)) (sQ (sFor (iLst (eV 0)) (gS 3) (sQ (sAsg (eOp D.add (eV 2) (eC (.int 2))) (gS 2)) (sQ (sIf (eAnd (eV 1) (eOr (eOp D.eqO (eOp D.ix (eV 3) (eC (.int 0))) (eC (.str "chapter"))) (eOp D.eqO (eOp D.ix (eV 3) (eC (.int 0))) (eC (.str "heading"))))) (sAsg (eOp D.add (eV 2) (eC (.int 2))) (gS 2)) (sNx)) (sQ (sIf (eOp D.eqO (eOp D.ix (eV 3) (eC (.int 0))) (eC (.str "plates"))) (sAsg (eOp D.add (eV 2) (eOp D.ix (eV 3) (eC (.int 1)))) (gS 2)) (sNx)) (sIf (eOp D.eqO (eOp D.ix (eV 3) (eC (.int 0))) (eC (.str "para"))) (sAsg (eOp D.add (eV 2) (eOp D.mulA (eC (.int 2)) (eUn D.len (eComp 1 [] (iLst (eOp D.ix (eV 3) (eC (.int 1)))) (gS 0) (eOr (eOp D.eqO (eOp D.ix (eV 0) (eC (.int 0))) (eC (.str "word"))) (eOp D.eqO (eOp D.ix (eV 0) (eC (.int 0))) (eC (.str "ref")))) (eV 0))))) (gS 2)) (sNx)))))) (sRet (eV 2)))
def f_Lmost:List D->Option D:=defD 4 2 b_Lmost
def b_Ldrawn:EvS:=sQ (sAsg (eOp D.add (eCut (eV 0) (oNo) (oAt (eC (.int 63)))) (eLst (lC (eC (.int 7)) lN))) (gS 1)) (sQ (sAsg (eComp 1 [1] (iRng (eOp D.mod (eK f_Lmix (lC (eK f_Lcell_at (lC (eV 0) (lC (eC (.int 5)) lN))) (lC (eC (.int 29)) lN))) (eC (.int 58)))) (gS 0) (eC (.bl true)) (eOp D.ix (eV 1) (eOp D.mod (eV 0) (eUn D.len (eV 1))))) (gS 2)) (sQ (sAsg (eK f_Lgrouped (lC (eK f_Lpointed (lC (eComp 2 [] (iEnum (eV 2)) (gUnp [gS 0,gS 1]) (eC (.bl true)) (eK f_Latom (lC (eV 1) (lC (eV 0) lN)))) (lC (eV 2) lN))) lN)) (gS 3)) (sQ (sAsg (eOp D.eqO (eOp D.mod (eK f_Lcell_at (lC (eV 0) (lC (eC (.int 3)) lN))) (eC (.int 2))) (eC (.int 1))) (gS 4)) (sQ (sAsg (eK f_Ledge (lC (eV 0) (lC (eTup (lC (eC (.int 4)) (lC (eC (.int 2)) (lC (eC (.bl false)) (lC (eV 4) lN))))) lN))) (gS 5)) (sQ (sAsg (eUn D.len (eUn D.strI (eK f_Lmost (lC (eOp D.add (eV 5) (eV 3)) (lC (eV 4) lN))))) (gS 6)) (sQ (sAsg (eK f_Lneeds (lC (eOp D.add (eV 3) (eV 5)) (lC (eV 6) lN))) (gUnp [gS 7,gS 8])) (sQ (sIf (eOp D.neO (eV 5) (eLst (lN))) (sAsg (eOp D.max2 (eV 7) (eOp D.add (eV 6) (eC (.int 2)))) (gS 7)) (sNx)) (sQ (sAsg (eOp D.max2 (eV 7) (eOp D.add (eC (.int 4)) (eOp D.mod (eK f_Lmix (lC (eK f_Lcell_at (lC (eV 0) (lC (eC (.int 0)) lN))) (lC (eC (.int 1)) lN))) (eC (.int 30))))) (gS 9)) (sQ (sAsg (eOp D.max2 (eV 8) (eOp D.add (eC (.int 2)) (eOp D.mod (eK f_Lmix (lC (eK f_Lcell_at (lC (eV 0) (lC (eC (.int 1)) lN))) (lC (eC (.int 2)) lN))) (eC (.int 5))))) (gS 10)) (sQ (sIf (eOp D.eqO (eOp D.mod (eK f_Lcell_at (lC (eV 0) (lC (eC (.int 1)) lN))) (eC (.int 5))) (eC (.int 1))) (sAsg (eOp D.max2 (eV 8) (eOp D.add (eC (.int 2)) (eOp D.mod (eK f_Lmix (lC (eK f_Lcell_at (lC (eV 0) (lC (eC (.int 1)) lN))) (lC (eC (.int 4)) lN))) (eC (.int 59))))) (gS 10)) (sNx)) (sQ (sAsg (eTup (lC (eV 9) (lC (eV 10) (lC (eOp D.eqO (eOp D.mod (eK f_Lcell_at (lC (eV 0) (lC (eC (.int 2)) lN))) (eC (.int 2))) (eC (.int 1))) (lC (eV 4) lN))))) (gS 11)) (sRet (eTup (lC (eOp D.add (eK f_Ledge (lC (eV 0) (lC (eV 11) lN))) (eV 3)) (lC (eV 11) (lC (eV 6) lN))))))))))))))))
def f_Ldrawn:List D->Option D:=defD 12 1 b_Ldrawn
def b_Lrooms:EvS:=sQ (sAsg (eLst (lN)) (gS 4)) (sQ (sAsg (eOp D.add (eCut (eV 0) (oNo) (oAt (eC (.int 63)))) (eLst (lC (eV 3) lN))) (gS 5)) (sQ (sFor (iLst (eV 1)) (gS 6) (sIf (eOp D.eqO (eOp D.ix (eV 6) (eC (.int 0))) (eC (.str "para"))) (sFor (iLst (eOp D.ix (eV 6) (eC (.int 1)))) (gS 7) (sIf (eOp D.eqO (eOp D.ix (eV 7) (eC (.int 0))) (eC (.str "ref"))) (sQ (sAsg (eOp D.ix (eV 5) (eOp D.mod (eUn D.len (eV 4)) (eUn D.len (eV 5)))) (gS 8)) (sP 4 (eOp D.add (eC (.int 1)) (eOp D.mod (eK f_Lmix (lC (eV 8) (lC (eOp D.add (eV 3) (eUn D.len (eV 4))) lN))) (eV 2))))) (sNx))) (sNx))) (sRet (eV 4))))
def f_Lrooms:List D->Option D:=defD 9 4 b_Lrooms
def b_Lcopy:EvS:=sQ (sAsg (eLst (lN)) (gS 1)) (sQ (sFor (iLst (eV 0)) (gS 2) (sIf (eOp D.eqO (eOp D.ix (eV 2) (eC (.int 0))) (eC (.str "para"))) (sQ (sAsg (eLst (lN)) (gS 3)) (sQ (sFor (iLst (eOp D.ix (eV 2) (eC (.int 1)))) (gS 4) (sIf (eOp D.eqO (eOp D.ix (eV 4) (eC (.int 0))) (eC (.str "word"))) (sP 3 (eTup (lC (eC (.str "word")) (lC (eOp D.ix (eV 4) (eC (.int 1))) (lC (eUn D.listOf (eOp D.ix (eV 4) (eC (.int 2)))) lN))))) (sP 3 (eV 4)))) (sP 1 (eTup (lC (eC (.str "para")) (lC (eV 3) lN)))))) (sIf (eOp D.eqO (eOp D.ix (eV 2) (eC (.int 0))) (eC (.str "table"))) (sP 1 (eTup (lC (eC (.str "table")) (lC (eUn D.listOf (eOp D.ix (eV 2) (eC (.int 1)))) (lC (eOp D.ix (eV 2) (eC (.int 2))) lN))))) (sP 1 (eV 2))))) (sRet (eV 1)))
def f_Lcopy:List D->Option D:=defD 5 1 b_Lcopy
def b_Lheads:EvS:=sQ (sAsg (eLst (lN)) (gS 2)) (sQ (sFor (iRng (eUn D.len (eV 0))) (gS 3) (sQ (sAsg (eOp D.ix (eV 0) (eV 3)) (gS 4)) (sQ (sIf (eAnd (eOp D.neO (eOp D.ix (eV 4) (eC (.int 0))) (eC (.str "para"))) (eOp D.neO (eOp D.ix (eV 4) (eUn D.neg (eC (.int 1)))) (eC (.str "")))) (sP 2 (eTup (lC (eOp D.ix (eV 4) (eUn D.neg (eC (.int 1)))) (lC (eOp D.ix (eOp D.ix (eOp D.ix (eV 1) (eOp D.add (eV 3) (eC (.int 1)))) (eC (.int 0))) (eC (.int 0))) lN)))) (sNx)) (sIf (eOp D.eqO (eOp D.ix (eV 4) (eC (.int 0))) (eC (.str "para"))) (sQ (sAsg (eC (.int 0)) (gS 5)) (sFor (iLst (eOp D.ix (eV 4) (eC (.int 1)))) (gS 6) (sQ (sIf (eOp D.eqO (eOp D.ix (eV 6) (eC (.int 0))) (eC (.str "mark"))) (sP 2 (eTup (lC (eOp D.ix (eV 6) (eC (.int 1))) (lC (eOp D.ix (eOp D.ix (eOp D.ix (eV 1) (eOp D.add (eV 3) (eC (.int 1)))) (eV 5)) (eC (.int 0))) lN)))) (sNx)) (sIf (eOr (eOp D.eqO (eOp D.ix (eV 6) (eC (.int 0))) (eC (.str "word"))) (eOp D.eqO (eOp D.ix (eV 6) (eC (.int 0))) (eC (.str "ref")))) (sAsg (eOp D.add (eV 5) (eC (.int 1))) (gS 5)) (sNx))))) (sNx))))) (sRet (eV 2)))
def f_Lheads:List D->Option D:=defD 7 2 b_Lheads
def b_law:EvS:=sQ (sAsg (eK f_Ldrawn (lC (eV 0) lN)) (gUnp [gS 1,gS 2,gS 3])) (sQ (sAsg (eK f_Lrooms (lC (eV 0) (lC (eV 1) (lC (eV 3) (lC (eC (.int 200)) lN))))) (gS 4)) (sQ (sAsg (eK f_Lcopy (lC (eV 1) lN)) (gS 5)) (sQ (sAsg (eUn D.listOf (eV 4)) (gS 6)) (sQ (sAsg (eK f_pages_of (lC (eV 5) (lC (eV 2) (lC (eV 6) lN)))) (gS 7)) (sQ (sAsg (eK f_Lheads (lC (eV 1) (lC (eK f_laid (lC (eV 1) (lC (eV 2) (lC (eV 4) lN)))) lN))) (gS 8)) (sQ (sIf (eOr (eNot (eInst "dict" (eV 7))) (eOr (eOp D.neO (eV 5) (eV 1)) (eOr (eOp D.neO (eV 6) (eV 4)) (eOp D.neO (eUn D.itemsL (eV 7)) (eV 8))))) (sRet (eC (.bl false))) (sNx)) (sRet (eOp D.eqO (eComp 1 [] (iVals (eV 7)) (gS 0) (eNot (eK f_Lwhole (lC (eV 0) lN))) (eV 0)) (eLst (lN))))))))))
def f_law:List D->Option D:=defD 9 1 b_law
def cell (ns:List Int) (k:Nat):Int:=ns.getD k 0
theorem cell_at (ns:List Int) (k:Nat):f_Lcell_at [.scr ns,.int k]=some (.int (cell ns k)):=by
 unfold f_Lcell_at b_Lcell_at
 by_cases h:k<ns.length
 ·simp [mulA_int,eCut,cutA,lI,defD,sD,sQ,sIf,sRet,sRetN,sAsg,sAug,sDrop,sNx,sBrk,sCnt,gS,gUnp,gAll,eV,eC,eOp,eUn,eNot,eAnd,eOr,eIf,eChain,eTup,eLst,eK,lN,lC,eInst,oNo,oAt,eCutL,D.len,D.lt,D.le,D.gt,D.ge,D.add,D.sub,D.ix,D.eqO,D.neO,D.cmp,D.cmpN,D.inst,tyD,D.isT,D.intB,D.min2,D.max2,D.neg,D.addI,ifO_bl,notO_bl,ifO_ite,notO_ite,seqO_nx,seqO_rt,seqO_bk,seqO_ct,seqO_none,seqO_ite,endD_rt,endD_nx,endD_ite,bind_ite,map_ite,andO_some,dep_non,dep_bl,dep_int,dep_str,dep_tup,dep_lst,depL_nil,depL_cons,D.rng,D.its,D.itsT,eq_int,eq_bl,eq_str,eq_tup,eq_lst,eqL_nil,eqL_cons,ixD,h,cell]
 ·simp [mulA_int,eCut,cutA,lI,defD,sD,sQ,sIf,sRet,sRetN,sAsg,sAug,sDrop,sNx,sBrk,sCnt,gS,gUnp,gAll,eV,eC,eOp,eUn,eNot,eAnd,eOr,eIf,eChain,eTup,eLst,eK,lN,lC,eInst,oNo,oAt,eCutL,D.len,D.lt,D.le,D.gt,D.ge,D.add,D.sub,D.ix,D.eqO,D.neO,D.cmp,D.cmpN,D.inst,tyD,D.isT,D.intB,D.min2,D.max2,D.neg,D.addI,ifO_bl,notO_bl,ifO_ite,notO_ite,seqO_nx,seqO_rt,seqO_bk,seqO_ct,seqO_none,seqO_ite,endD_rt,endD_nx,endD_ite,bind_ite,map_ite,andO_some,dep_non,dep_bl,dep_int,dep_str,dep_tup,dep_lst,depL_nil,depL_cons,D.rng,D.its,D.itsT,eq_int,eq_bl,eq_str,eq_tup,eq_lst,eqL_nil,eqL_cons,ixD,h,cell]
def mix (c t:Int):Int:=((c%2147483647+t*t*7919+104729)*48271%2147483647*((c%2147483647+t*t*7919+104729)*48271%2147483647)+69621*t)%2147483629
theorem mix_lo (c t:Int):0<=mix c t:=Int.emod_nonneg _ (by decide)
theorem mix_hi (c t:Int):mix c t<2147483629:=Int.emod_lt_of_pos _ (by decide)
theorem mix_at (c t:Int) (h0:0<=t) (h1:t<=1000):f_Lmix [.int c,.int t]=some (.int (mix c t)):=by
 have e1:D.mul (.int t) (.int t)=some (.int (t*t)):=mul_l (by omega)
 have e2:D.mul (.int (t*t)) (.int 7919)=some (.int (t*t*7919)):=mul_r (by decide)
 have e3:D.mul (.int (c%2147483647+t*t*7919+104729)) (.int 48271)=some (.int ((c%2147483647+t*t*7919+104729)*48271)):=mul_r (by decide)
 have n0:=Int.emod_nonneg ((c%2147483647+t*t*7919+104729)*48271) (show (2147483647:Int)≠0 by decide)
 have n1:=Int.emod_lt_of_pos ((c%2147483647+t*t*7919+104729)*48271) (show (0:Int)<2147483647 by decide)
 have e4:D.mul (.int ((c%2147483647+t*t*7919+104729)*48271%2147483647)) (.int ((c%2147483647+t*t*7919+104729)*48271%2147483647))=some (.int _):=mul_l ⟨by omega,by omega⟩
 have e5:D.mul (.int 69621) (.int t)=some (.int (69621*t)):=mul_l (by decide)
 have m1:D.mod (.int c) (.int 2147483647)=some (.int (c%2147483647)):=mod_p (by decide)
 have m2:D.mod (.int ((c%2147483647+t*t*7919+104729)*48271)) (.int 2147483647)=some (.int _):=mod_p (by decide)
 have m3:∀ z:Int,D.mod (.int z) (.int 2147483629)=some (.int (z%2147483629)):=fun z=>mod_p (by decide)
 unfold f_Lmix b_Lmix mix
 simp [mulA_int,eCut,cutA,lI,defD,sD,sQ,sIf,sRet,sRetN,sAsg,sAug,sDrop,sNx,sBrk,sCnt,gS,gUnp,gAll,eV,eC,eOp,eUn,eNot,eAnd,eOr,eIf,eChain,eTup,eLst,eK,lN,lC,eInst,oNo,oAt,eCutL,D.len,D.lt,D.le,D.gt,D.ge,D.add,D.sub,D.ix,D.eqO,D.neO,D.cmp,D.cmpN,D.inst,tyD,D.isT,D.intB,D.min2,D.max2,D.neg,D.addI,ifO_bl,notO_bl,ifO_ite,notO_ite,seqO_nx,seqO_rt,seqO_bk,seqO_ct,seqO_none,seqO_ite,endD_rt,endD_nx,endD_ite,bind_ite,map_ite,andO_some,dep_non,dep_bl,dep_int,dep_str,dep_tup,dep_lst,depL_nil,depL_cons,D.rng,D.its,D.itsT,eq_int,eq_bl,eq_str,eq_tup,eq_lst,eqL_nil,eqL_cons,e1,e2,e3,e4,e5,m1,m2,m3]
theorem modp (z:Int) {j:Int} (h:0<j):D.mod (.int z) (.int j)=some (.int (z%j)):=mod_p h
theorem emodX (z:Int) {j:Int} (h:0<j):∃ x,z%j=x/\0<=x/\x<j:=⟨_,rfl,Int.emod_nonneg z (by omega),Int.emod_lt_of_pos z h⟩
theorem toNat_inj:∀ {a b:List Char},a.map Char.toNat=b.map Char.toNat->a=b
 | [],[],_=>rfl
 | [],_::_,h=>nomatch h
 | _::_,[],h=>nomatch h
 | a::x,b::y,h=>by
  rw [List.map_cons,List.map_cons] at h
  obtain ⟨h1,h2⟩:=List.cons.inj h
  rw [toNat_inj h2,Char.toNat_inj.mp h1]
@[simp] theorem tg (a b:String):(Str.ofString a=Str.ofString b)=(a=b):=propext ⟨fun h=>by
 rw [Str.ofString_eq_byList] at h
 unfold Str.ofStringByList at h
 have h2:(a.toList.map Char.toNat).toArray=(b.toList.map Char.toNat).toArray:=Str.mk.inj h
 exact String.toList_inj.mp (toNat_inj (congrArg Array.toList h2)),fun h=>h▸rfl⟩
inductive It where
 | word (w:Str) (ns:List Str) | ref (l a b:Str) | mark (l:Str) | key (w:Str)
inductive Bk where
 | chapter (t l:Str) | heading (t:Str) (k:Int) (l:Str) | para (is:List It) | table (rs:List Str) (l:Str) | plates (n:Int) (l:Str)
inductive At where
 | bk (b:Bk) | it (i:It) | brk | fin
def strL (xs:List Str):D:=.lst (xs.map .str)
@[simp] def It.d:It->D
 | .word w ns=>.tup [.str "word",.str w,strL ns]
 | .ref l a b=>.tup [.str "ref",.str l,.str a,.str b]
 | .mark l=>.tup [.str "mark",.str l]
 | .key w=>.tup [.str "key",.str w]
@[simp] def Bk.d:Bk->D
 | .chapter t l=>.tup [.str "chapter",.str t,.str l]
 | .heading t k l=>.tup [.str "heading",.str t,.int k,.str l]
 | .para is=>.tup [.str "para",.lst (is.map It.d)]
 | .table rs l=>.tup [.str "table",strL rs,.str l]
 | .plates n l=>.tup [.str "plates",.int n,.str l]
@[simp] def At.d:At->D
 | .bk b=>b.d
 | .it i=>i.d
 | .brk=>.tup [.str "break",.str "",.str ""]
 | .fin=>.tup [.str "end",.str "",.str ""]
def bks (bs:List Bk):D:=.lst (bs.map Bk.d)
theorem loopR {α σ:Type} {g:EvG} {b:EvS} (d:α->D) (R:σ->EnvD->Prop) (step:σ->α->σ):∀ (xs:List α),
  (∀ a∈xs,∀ s e,R s e->∃ e',((g (d a) e).bind b=some (.nx e')\/(g (d a) e).bind b=some (.ct e'))/\R (step s a) e') ->
  ∀ s e,R s e->∃ e',loopD g b (xs.map d) e=some (.nx e')/\R (xs.foldl step s) e'
 | [],_,s,e,h=>⟨e,rfl,h⟩
 | a::xs,hb,s,e,h=>by
  obtain ⟨e1,h1,r1⟩:=hb a List.mem_cons_self s e h
  obtain ⟨e2,h2,r2⟩:=loopR d R step xs (fun x hx=>hb x (List.mem_cons_of_mem _ hx)) _ _ r1
  refine ⟨e2,?_,r2⟩
  show turnO ((g (d a) e).bind b) (loopD g b (xs.map d))=_
  rcases h1 with h1 | h1
  ·rw [h1];exact h2
  ·rw [h1];exact h2
theorem compR {α:Type} {g:EvG} {c el:EvE} (d:α->D) (R:EnvD->Prop) (p:α->Bool) (o:α->D):∀ (xs:List α),
  (∀ a∈xs,∀ e,R e->∃ e',g (d a) e=some e'/\R e'/\c e'=some (.bl (p a))/\(p a=true->el e'=some (o a))) ->
  ∀ e,R e->compD g c el (xs.map d) e=some ((xs.filter p).map o)
 | [],_,e,h=>rfl
 | a::xs,hb,e,h=>by
  obtain ⟨e1,h1,r1,h2,h3⟩:=hb a List.mem_cons_self e h
  have ih:=compR d R p o xs (fun x hx=>hb x (List.mem_cons_of_mem _ hx)) _ r1
  show (g (d a) e).bind (fun e1=>ifO (c e1) ((el e1).bind fun x=>(compD g c el (xs.map d) e1).map fun r=>x::r) (compD g c el (xs.map d) e1))=_
  rw [h1]
  show ifO (c e1) _ _=_
  rw [h2,ifO_bl,ih]
  cases q:p a with
  | false=>rw [if_neg (by decide),List.filter_cons_of_neg (by simp [q])]
  | true=>rw [if_pos rfl,h3 q,List.filter_cons_of_pos q];rfl
theorem loopN {α:Type} {g:EvG} {b:EvS} (d:α->D):∀ (xs:List α) (R:Nat->EnvD->Prop),
  (∀ i (hi:i<xs.length) e,R i e->∃ e',((g (d xs[i]) e).bind b=some (.nx e')\/(g (d xs[i]) e).bind b=some (.ct e'))/\R (i+1) e') ->
  ∀ e,R 0 e->∃ e',loopD g b (xs.map d) e=some (.nx e')/\R xs.length e'
 | [],R,_,e,h=>⟨e,rfl,h⟩
 | a::xs,R,hb,e,h=>by
  obtain ⟨e1,h1,r1⟩:=hb 0 (by simp) e h
  obtain ⟨e2,h2,r2⟩:=loopN d xs (fun i=>R (i+1)) (fun i hi x hx=>hb (i+1) (by simpa using hi) x hx) _ r1
  refine ⟨e2,?_,r2⟩
  show turnO ((g (d a) e).bind b) (loopD g b (xs.map d))=_
  have h1':(g (d a) e).bind b=some (.nx e1)\/(g (d a) e).bind b=some (.ct e1):=h1
  rcases h1' with h1 | h1
  ·rw [h1];exact h2
  ·rw [h1];exact h2
theorem loopRng {g:EvG} {b:EvS} (n:Nat) (R:Nat->EnvD->Prop)
  (h:∀ i,i<n->∀ e,R i e->∃ e',((g (.int (0+(i:Int))) e).bind b=some (.nx e')\/(g (.int (0+(i:Int))) e).bind b=some (.ct e'))/\R (i+1) e') :
  ∀ e,R 0 e->∃ e',loopD g b (rD 0 n) e=some (.nx e')/\R n e':=by
 intro e h0
 have:=loopN (g:=g) (b:=b) (fun i:Nat=>D.int (0+(i:Int))) (List.range n) R (fun i hi e r=>by
  have q:(List.range n)[i]=i:=by simp
  rw [q]
  exact h i (by simpa using hi) e r) e h0
 simpa [rD] using this
theorem st {a k:EvS} {e e1:EnvD} {r:Option Fl} (h:a e=some (.nx e1)) (hk:k e1=r):sQ a k e=r:=by unfold sQ;rw [h];exact hk
theorem stR {a k:EvS} {e:EnvD} {d:D} (h:a e=some (.rt d)):sQ a k e=some (.rt d):=by unfold sQ;rw [h];rfl
theorem stC {a k:EvS} {e e1:EnvD} (h:a e=some (.ct e1)):sQ a k e=some (.ct e1):=by unfold sQ;rw [h];rfl
theorem stD {n k:Nat} {b:EvS} {ds:List D} {r:D} (hl:ds.length=k) (h:b (sD n ds)=some (.rt r)):defD n k b ds=some r:=by unfold defD;rw [if_pos hl,h];rfl
theorem stRng {it:EvI} {g:EvG} {b k:EvS} {e:EnvD} {r:Option Fl} (n:Nat) (R:Nat->EnvD->Prop) (hit:it e=some (rD 0 n)) (h0:R 0 e)
  (hb:∀ i,i<n->∀ e,R i e->∃ e',((g (.int (0+(i:Int))) e).bind b=some (.nx e')\/(g (.int (0+(i:Int))) e).bind b=some (.ct e'))/\R (i+1) e')
  (hk:∀ e',R n e'->k e'=r):sQ (sFor it g b) k e=r:=by
 obtain ⟨e',h1,h2⟩:=loopRng n R hb e h0
 refine st (e1:=e') ?_ (hk e' h2)
 unfold sFor;rw [hit];exact h1
theorem stFor {α:Type} {it:EvI} {g:EvG} {b k:EvS} {e:EnvD} {r:Option Fl} (d:α->D) (xs:List α) (R:Nat->EnvD->Prop) (hit:it e=some (xs.map d)) (h0:R 0 e)
  (hb:∀ i (hi:i<xs.length) e,R i e->∃ e',((g (d xs[i]) e).bind b=some (.nx e')\/(g (d xs[i]) e).bind b=some (.ct e'))/\R (i+1) e')
  (hk:∀ e',R xs.length e'->k e'=r):sQ (sFor it g b) k e=r:=by
 obtain ⟨e',h1,h2⟩:=loopN d xs R hb e h0
 refine st (e1:=e') ?_ (hk e' h2)
 unfold sFor;rw [hit];exact h1
theorem fFold {α σ:Type} {it:EvI} {g:EvG} {b:EvS} {e:EnvD} (d:α->D) (xs:List α) (R:σ->EnvD->Prop) (step:σ->α->σ) (s:σ) (hit:it e=some (xs.map d)) (h0:R s e)
  (hb:∀ a∈xs,∀ s e,R s e->∃ e',((g (d a) e).bind b=some (.nx e')\/(g (d a) e).bind b=some (.ct e'))/\R (step s a) e') :
  ∃ e',sFor it g b e=some (.nx e')/\R (xs.foldl step s) e':=by
 obtain ⟨e',h1,h2⟩:=loopR d R step xs hb s e h0
 refine ⟨e',?_,h2⟩
 unfold sFor;rw [hit];exact h1
theorem stFold {α σ:Type} {it:EvI} {g:EvG} {b k:EvS} {e:EnvD} {r:Option Fl} (d:α->D) (xs:List α) (R:σ->EnvD->Prop) (step:σ->α->σ) (s:σ) (hit:it e=some (xs.map d)) (h0:R s e)
  (hb:∀ a∈xs,∀ s e,R s e->∃ e',((g (d a) e).bind b=some (.nx e')\/(g (d a) e).bind b=some (.ct e'))/\R (step s a) e')
  (hk:∀ e',R (xs.foldl step s) e'->k e'=r):sQ (sFor it g b) k e=r:=by
 obtain ⟨e',h1,h2⟩:=fFold d xs R step s hit h0 hb
 exact st h1 (hk e' h2)
theorem bnd {g:EvG} {b:EvS} {d:D} {e e1:EnvD} {r:Option Fl} (h:g d e=some e1) (hk:b e1=r):(g d e).bind b=r:=by rw [h];exact hk
theorem ret {a:EvE} {e:EnvD} {d:D} (h:a e=some d):sRet a e=some (.rt d):=by unfold sRet;rw [h];rfl
theorem exD {β:Type} {dd:β->D} {P:β->Prop} {n k:Nat} {b:EvS} {ds:List D} (hl:ds.length=k) (h:∃ x,b (sD n ds)=some (.rt (dd x))/\P x):∃ x,defD n k b ds=some (dd x)/\P x:=by
 obtain ⟨x,h1,h2⟩:=h
 exact ⟨x,stD hl h1,h2⟩
theorem exSt {β:Type} {dd:β->D} {P:β->Prop} {a k:EvS} {e e1:EnvD} (h:a e=some (.nx e1)) (hk:∃ x,k e1=some (.rt (dd x))/\P x):∃ x,sQ a k e=some (.rt (dd x))/\P x:=by
 obtain ⟨x,h1,h2⟩:=hk
 exact ⟨x,st h h1,h2⟩
theorem comp_at {α:Type} {n:Nat} {caps:List Nat} {it:EvI} {g:EvG} {c el:EvE} {e:EnvD} (d:α->D) (xs:List α) (R:EnvD->Prop) (p:α->Bool) (o:α->D) (hit:it e=some (xs.map d)) (hl:xs.length<=lI) (h0:R (capE n caps e))
  (hb:∀ a∈xs,∀ e,R e->∃ e',g (d a) e=some e'/\R e'/\c e'=some (.bl (p a))/\(p a=true->el e'=some (o a))):eComp n caps it g c el e=some (.lst ((xs.filter p).map o)):=by
 unfold eComp
 rw [hit]
 show (if (xs.map d).length<=lI then (compD g c el (xs.map d) (capE n caps e)).map D.lst else none)=_
 rw [if_pos (by rw [List.length_map];exact hl),compR d R p o xs hb _ h0]
 rfl
theorem filter_tt {α:Type} (xs:List α):xs.filter (fun _=>true)=xs:=by simp
def theStr:Option D->Str
 | some (.str x)=>x
 | _=>""
def isStrO:Option D->Bool
 | some (.str _)=>true
 | _=>false
theorem isStrO_spec {o:Option D} (h:isStrO o=true):o=some (.str (theStr o)):=by
 cases o with
 | none=>cases h
 | some d=>cases d<;>first | rfl | cases h
def lab (k:Nat):Str:=theStr (f_Llabel [.int k])
def labFine (k:Nat):Bool:=isStrO (f_Llabel [.int k])&&decide (1<=(lab k).length)&&decide ((lab k).length<=7)&&decide (lab k≠"z")
theorem lab_all:(List.range 58).all labFine=true:=by decide +kernel
theorem lab_fine (k:Nat) (h:k<58):labFine k=true:=List.all_eq_true.mp lab_all k (List.mem_range.mpr h)
theorem lab_at (k:Nat) (h:k<58):f_Llabel [.int k]=some (.str (lab k)):=by
 have:=lab_fine k h
 simp only [labFine,Bool.and_eq_true] at this
 exact isStrO_spec this.1.1.1
theorem lab_z (k:Nat) (h:k<58):lab k≠"z":=by
 have:=lab_fine k h
 simp only [labFine,Bool.and_eq_true,decide_eq_true_eq] at this
 exact this.2
def noTwo:List Str->Bool
 | []=>true
 | x::xs=>xs.all (fun y=>decide (x≠y))&&noTwo xs
theorem lab_two:noTwo ((List.range 58).map lab)=true:=by decide +kernel
theorem fdivp (z:Int) {j:Int} (h:0<j/\j<1073741824):D.fdiv (.int z) (.int j)=some (.int (z/j)):=fdiv_p h
theorem tenL (t:Int) (a b c:Option D):∀ (ds:List D),∃ c',loopD (gS 3) (sAsg (eOp D.mulA (eV 2) (eC (.int 10))) (gS 2)) ds [a,b,some (.int t),c]=some (.nx [a,b,some (.int (t*10^ds.length)),c']):=by
 intro ds
 induction ds generalizing t c with
 | nil=>exact ⟨c,by simp [loopD]⟩
 | cons d ds ih =>
   obtain ⟨c',e⟩:=ih (t*10) (some d)
   refine ⟨c',?_⟩
   have m:D.mul (.int t) (.int 10)=some (.int (t*10)):=mul_r (by decide)
   simp [loopD,mulA_int,eCut,cutA,lI,defD,sD,sQ,sIf,sRet,sRetN,sAsg,sAug,sDrop,sNx,sBrk,sCnt,gS,gUnp,gAll,eV,eC,eOp,eUn,eNot,eAnd,eOr,eIf,eChain,eTup,eLst,eK,lN,lC,eInst,oNo,oAt,eCutL,D.len,D.lt,D.le,D.gt,D.ge,D.add,D.sub,D.ix,D.eqO,D.neO,D.cmp,D.cmpN,D.inst,tyD,D.isT,D.intB,D.min2,D.max2,D.neg,D.addI,ifO_bl,notO_bl,ifO_ite,notO_ite,seqO_nx,seqO_rt,seqO_bk,seqO_ct,seqO_none,seqO_ite,endD_rt,endD_nx,endD_ite,bind_ite,map_ite,andO_some,dep_non,dep_bl,dep_int,dep_str,dep_tup,dep_lst,depL_nil,depL_cons,D.rng,D.its,D.itsT,eq_int,eq_bl,eq_str,eq_tup,eq_lst,eqL_nil,eqL_cons,turnO_nx,m,e]
   rw [Int.mul_assoc,<- Int.pow_succ']
theorem tenE (t:Int) (a b c d e:Option D):∀ (ds:List D),∃ d',loopD (gS 4) (sAsg (eOp D.mulA (eV 3) (eC (.int 10))) (gS 3)) ds [a,b,c,some (.int t),d,e]=some (.nx [a,b,c,some (.int (t*10^ds.length)),d',e]):=by
 intro ds
 induction ds generalizing t d with
 | nil=>exact ⟨d,by simp [loopD]⟩
 | cons x ds ih =>
   obtain ⟨c',q⟩:=ih (t*10) (some x)
   refine ⟨c',?_⟩
   have m:D.mul (.int t) (.int 10)=some (.int (t*10)):=mul_r (by decide)
   simp [loopD,mulA_int,eCut,cutA,lI,defD,sD,sQ,sIf,sRet,sRetN,sAsg,sAug,sDrop,sNx,sBrk,sCnt,gS,gUnp,gAll,eV,eC,eOp,eUn,eNot,eAnd,eOr,eIf,eChain,eTup,eLst,eK,lN,lC,eInst,oNo,oAt,eCutL,D.len,D.lt,D.le,D.gt,D.ge,D.add,D.sub,D.ix,D.eqO,D.neO,D.cmp,D.cmpN,D.inst,tyD,D.isT,D.intB,D.min2,D.max2,D.neg,D.addI,ifO_bl,notO_bl,ifO_ite,notO_ite,seqO_nx,seqO_rt,seqO_bk,seqO_ct,seqO_none,seqO_ite,endD_rt,endD_nx,endD_ite,bind_ite,map_ite,andO_some,dep_non,dep_bl,dep_int,dep_str,dep_tup,dep_lst,depL_nil,depL_cons,D.rng,D.its,D.itsT,eq_int,eq_bl,eq_str,eq_tup,eq_lst,eqL_nil,eqL_cons,turnO_nx,m,q]
   rw [Int.mul_assoc,<- Int.pow_succ']
theorem rngD_len (lo:Int) (n:Nat):(rD lo n).length=n:=by unfold rD;simp
theorem ten_le (n:Nat) (h:n<=3):(10:Int)<=10*10^n/\(10:Int)*10^n<=10^30:=by
 have:n=0\/n=1\/n=2\/n=3:=by omega
 rcases this with z | z | z | z<;>subst z<;>decide
theorem ix3 {x y z:D} {i:Int} (h:i=0\/i=1\/i=2):D.ix (.lst [x,y,z]) (.int i)=some (if i=0 then x else if i=1 then y else z):=by
 rcases h with h | h | h<;>subst h<;>rfl
theorem big3 (x:Int) (h:x<=3):x<=10^39:=by
 have:(3:Int)<=10^39:=by decide
 omega
theorem big30 (x:Int) (h:x<=10^30):x<=10^39:=by
 have:(10:Int)^30<=10^39:=by decide
 omega
theorem plates_at (c n:Int) (hn:0<=n):∃ p:Int,f_Lplates [.int c,.int n]=some (.int p)/\1<=p/\p<=10^39:=by
 obtain ⟨m4,e4,l4,u4⟩:=emodX (n/97) (show (0:Int)<4 by decide)
 obtain ⟨m3,e3,l3,u3⟩:=emodX (n/16) (show (0:Int)<3 by decide)
 obtain ⟨m5,e5,l5,u5⟩:=emodX (n/16) (show (0:Int)<5 by decide)
 obtain ⟨m8,e8,l8,u8⟩:=emodX (n/97) (show (0:Int)<8 by decide)
 obtain ⟨q3,f3,g3,h3⟩:=emodX (n/997) (show (0:Int)<3 by decide)
 obtain ⟨mc,ec,lc,uc⟩:=emodX c (show (0:Int)<10^39 by decide)
 have ec2:c%1000000000000000000000000000000000000000=mc:=ec
 have p39:D.pow (.int 10) (.int 39)=some (.int (10^39)):=pow_p (by decide)
 have p30:D.pow (.int 10) (.int 30)=some (.int (10^30)):=pow_p (by decide)
 have mc':D.mod (.int c) (.int (10^39))=some (.int mc):=by rw [<- ec];exact mod_p (by decide)
 have z3:q3=0\/q3=1\/q3=2:=by omega
 have rg:(if m4.natAbs<4611686018427387904 then some (rD 0 m4.toNat) else none)=some (rD 0 m4.toNat):=if_pos (by omega)
 obtain ⟨c',el⟩:=tenL 10 (some (.int c)) (some (.int n)) none (rD 0 m4.toNat)
 rw [rngD_len] at el
 have tl:=ten_le m4.toNat (by omega)
 obtain ⟨T,eT⟩:∃ T:Int,10*10^m4.toNat=T:=⟨_,rfl⟩
 rw [eT] at el tl
 have fin:∀ T:Int,10<=T->T<=10^30->∃ p:Int,(if q3=0 then D.int (1+m3) else if q3=1 then D.int (T-1-m5) else D.int (1+mc))=.int p/\1<=p/\p<=10^39:=by
  intro T t0 t1
  split
  ·exact ⟨_,rfl,by omega,big3 _ (by omega)⟩
  ·split
   ·exact ⟨_,rfl,by omega,big30 _ (by omega)⟩
   ·exact ⟨_,rfl,by omega,by omega⟩
 unfold f_Lplates b_Lplates
 by_cases h8:m8=7
 ·obtain ⟨p,ep,b0,b1⟩:=fin (10^30) (by decide) (by decide)
  refine ⟨p,?_,b0,b1⟩
  simp [mulA_int,eCut,cutA,lI,defD,sD,sQ,sIf,sRet,sRetN,sAsg,sAug,sDrop,sNx,sBrk,sCnt,gS,gUnp,gAll,eV,eC,eOp,eUn,eNot,eAnd,eOr,eIf,eChain,eTup,eLst,eK,lN,lC,eInst,oNo,oAt,eCutL,D.len,D.lt,D.le,D.gt,D.ge,D.add,D.sub,D.eqO,D.neO,D.cmp,D.cmpN,D.inst,tyD,D.isT,D.intB,D.min2,D.max2,D.neg,D.addI,ifO_bl,notO_bl,ifO_ite,notO_ite,seqO_nx,seqO_rt,seqO_bk,seqO_ct,seqO_none,seqO_ite,endD_rt,endD_nx,endD_ite,bind_ite,map_ite,andO_some,dep_non,dep_bl,dep_int,dep_str,dep_tup,dep_lst,depL_nil,depL_cons,D.rng,D.its,D.itsT,eq_int,eq_bl,eq_str,eq_tup,eq_lst,eqL_nil,eqL_cons,<- eT,p39,p30,mc',fdivp,modp,e4,e3,e5,e8,f3,h8,sFor,iRng,rg,el,ix3 z3,ec2]
  simpa using ep
 ·obtain ⟨p,ep,b0,b1⟩:=fin T tl.1 tl.2
  refine ⟨p,?_,b0,b1⟩
  simp [mulA_int,eCut,cutA,lI,defD,sD,sQ,sIf,sRet,sRetN,sAsg,sAug,sDrop,sNx,sBrk,sCnt,gS,gUnp,gAll,eV,eC,eOp,eUn,eNot,eAnd,eOr,eIf,eChain,eTup,eLst,eK,lN,lC,eInst,oNo,oAt,eCutL,D.len,D.lt,D.le,D.gt,D.ge,D.add,D.sub,D.eqO,D.neO,D.cmp,D.cmpN,D.inst,tyD,D.isT,D.intB,D.min2,D.max2,D.neg,D.addI,ifO_bl,notO_bl,ifO_ite,notO_ite,seqO_nx,seqO_rt,seqO_bk,seqO_ct,seqO_none,seqO_ite,endD_rt,endD_nx,endD_ite,bind_ite,map_ite,andO_some,dep_non,dep_bl,dep_int,dep_str,dep_tup,dep_lst,depL_nil,depL_cons,D.rng,D.its,D.itsT,eq_int,eq_bl,eq_str,eq_tup,eq_lst,eqL_nil,eqL_cons,p39,p30,mc',fdivp,modp,e4,e3,e5,e8,f3,h8,sFor,iRng,rg,el,ix3 z3,ec2]
  simpa using ep
def someS : Str := Str.ofString "!\"#$&'()*+,-./0123456789:;<=>?@ABCDEFGHIJKLMNOPQRSTUVWXYZ[\\]^_`" ++ Str.ofString "abcdefghijklmnopqrstuvwxyz{}~|"
theorem someS_len:someS.length=93:=by decide +kernel
theorem someS1 : (Str.ofString "!\"#$&'()*+,-./0123456789:;<=>?@ABCDEFGHIJKLMNOPQRSTUVWXYZ[\\]^_`").length = 63 := by decide +kernel
theorem someS2:(Str.ofString "abcdefghijklmnopqrstuvwxyz{}~|").length=30:=by decide +kernel
def oneS (x:Str) (i:Int):Str:=⟨#[x.cps.toList.getD i.toNat 0]⟩
theorem oneS_len (x:Str) (i:Int):(oneS x i).length=1:=rfl
theorem ixS {x:Str} {i:Int} (h:0<=i) (h':i<x.length) (hl:x.length<=lI):D.ix (.str x) (.int i)=some (.str (oneS x i)):=by
 have q0:x.length=x.cps.size:=rfl
 have q:i.toNat<x.cps.size:=by omega
 show (if x.length<=lI then (ixD x.length i).bind fun k=>(x.cps[k]?).map fun c=>D.str ⟨#[c]⟩ else none)=_
 rw [if_pos hl,ixD,if_pos h,if_pos h']
 show (x.cps[i.toNat]?).map _=_
 rw [Array.getElem?_eq_getElem q]
 show some (D.str ⟨#[x.cps[i.toNat]]⟩)=_
 unfold oneS
 rw [List.getD_eq_getElem?_getD,Array.getElem?_toList,Array.getElem?_eq_getElem q]
 rfl
theorem len_app (x y:Str):(x++y).length=x.length+y.length:=Array.size_append
theorem addS {x y:Str} (h:x.length+y.length<=lI):D.add (.str x) (.str y)=some (.str (x++y)):=if_pos h
def sgn (n g:Int) (k:Nat):Str:=if g=1/\(n/3+k)%4=0 then " " else oneS someS ((n/7+k*(1+n%13)+k*k)%(92+g))
theorem sgn_len (n g:Int) (k:Nat):(sgn n g k).length=1:=by
 unfold sgn
 split
 ·decide +kernel
 ·rfl
def signs (n g:Int) (s:Nat):Str:=(List.range s).foldl (fun x k=>x++sgn n g k) ""
theorem foldl_len (n g:Int):∀ (ks:List Nat) (x:Str),(ks.foldl (fun x k=>x++sgn n g k) x).length=x.length+ks.length
 | [],x=>rfl
 | k::ks,x=>by
  show ((ks.foldl (fun x k=>x++sgn n g k) (x++sgn n g k)).length)=_
  rw [foldl_len n g ks,len_app,sgn_len,List.length_cons];omega
theorem signs_len (n g:Int) (s:Nat):(signs n g s).length=s:=by
 unfold signs
 rw [foldl_len,List.length_range]
 show 0+s=s
 omega
theorem signs_zero (n g:Int):signs n g 0=Str.ofString "":=by
 unfold signs
 rw [List.range_zero,List.foldl_nil]
theorem signs_at (n g:Int) (s:Nat) (hn:0<=n) (hg:g=0\/g=1) (hs:s<=1000):f_Lsigns [.int n,.int s,.int g]=some (.str (signs n g s)):=by
 have rg:D.rng (.int s)=some (rD 0 s):=by
  show (if (s:Int).natAbs<4611686018427387904 then some (rD 0 (s:Int).toNat) else none)=_
  rw [if_pos (by omega)];rfl
 have a0 : D.add (.str (Str.ofString "!\"#$&'()*+,-./0123456789:;<=>?@ABCDEFGHIJKLMNOPQRSTUVWXYZ[\\]^_`")) (.str (Str.ofString "abcdefghijklmnopqrstuvwxyz{}~|")) = some (.str someS) := addS (by rw [someS1, someS2]; decide)
 unfold f_Lsigns b_Lsigns
 refine stD rfl ?_
 refine st (e1 := [some (.int n), some (.int s), some (.int g), some (.str (Str.ofString "!\"#$&'()*+,-./0123456789:;<=>?@ABCDEFGHIJKLMNOPQRSTUVWXYZ[\\]^_`")), none, none, none, none]) (by simp [sD, sQ, sIf, sRet, sAsg, sNx, gS, eV, eC, eOp, eUn, eNot, eAnd, eOr, eTup, eLst, eK, lN, lC, D.lt, D.sub, D.eqO, D.cmp, ifO_bl, seqO_nx, seqO_rt, dep_int, dep_str, eq_int, eq_str, mulA_int]) ?_
 refine st (e1:=[some (.int n),some (.int s),some (.int g),some (.str someS),none,none,none,none]) (by simp [sD,sQ,sIf,sRet,sAsg,sNx,gS,eV,eC,eOp,eUn,eNot,eAnd,eOr,eTup,eLst,eK,lN,lC,D.lt,D.sub,D.eqO,D.cmp,ifO_bl,seqO_nx,seqO_rt,dep_int,dep_str,eq_int,eq_str,mulA_int,a0]) ?_
 refine st (e1:=[some (.int n),some (.int s),some (.int g),some (.str someS),some (.str (Str.ofString "")),none,none,none]) (by simp [sD,sQ,sIf,sRet,sAsg,sNx,gS,eV,eC,eOp,eUn,eNot,eAnd,eOr,eTup,eLst,eK,lN,lC,D.lt,D.sub,D.eqO,D.cmp,ifO_bl,seqO_nx,seqO_rt,dep_int,dep_str,eq_int,eq_str,mulA_int]) ?_
 refine stRng s (fun i e=>∃ a b c,e=[some (.int n),some (.int s),some (.int g),some (.str someS),some (.str (signs n g i)),a,b,c]) (by simp [iRng,eV,rg]) ⟨none,none,none,by rw [signs_zero]⟩ ?_ ?_
 ·rintro i hi e ⟨a,b,c,rfl⟩
  obtain ⟨j,ej⟩:∃ j:Int,(i:Int)=j:=⟨_,rfl⟩
  have i0:(0:Int)<=j/\j<1000:=by omega
  have e1:D.mul (.int j) (.int (1+n%13))=some (.int (j*(1+n%13))):=mul_l (by omega)
  have e2:D.mul (.int j) (.int j)=some (.int (j*j)):=mul_l (by omega)
  have e3:D.mod (.int (n/7+j*(1+n%13)+j*j)) (.int (92+g))=some (.int ((n/7+j*(1+n%13)+j*j)%(92+g))):=mod_p (by omega)
  have e4:D.ix (.str someS) (.int ((n/7+j*(1+n%13)+j*j)%(92+g)))=some (.str (oneS someS ((n/7+j*(1+n%13)+j*j)%(92+g)))):=by
   have a0:=Int.emod_nonneg (n/7+j*(1+n%13)+j*j) (show (92+g)≠0 by omega)
   have a1:=Int.emod_lt_of_pos (n/7+j*(1+n%13)+j*j) (show 0<92+g by omega)
   exact ixS a0 (by rw [someS_len];omega) (by rw [someS_len];decide)
  have e5:D.add (.str (signs n g i)) (.str (sgn n g i))=some (.str (signs n g (i+1))):=by
   rw [addS (by rw [signs_len,sgn_len];unfold lI;omega)]
   unfold signs
   rw [List.range_succ,List.foldl_append]
   rfl
  have e6:D.len (.str someS)=some (.int 93):=by
   show (if someS.length<=lI then some (D.int someS.length) else none)=_
   rw [someS_len];rfl
  have e7:(93:Int)-1+g=92+g:=by omega
  have ai:∀ x y:Int,D.add (.int x) (.int y)=some (.int (x+y)):=fun _ _=>rfl
  refine ⟨[some (.int n),some (.int s),some (.int g),some (.str someS),some (.str (signs n g (i+1))),some (.int j),some (.int (n/7+j*(1+n%13)+j*j)),some (.str (sgn n g i))],.inl ?_,_,_,_,rfl⟩
  rw [ej,Int.zero_add]
  refine bnd (e1:=[some (.int n),some (.int s),some (.int g),some (.str someS),some (.str (signs n g i)),some (.int j),b,c]) rfl ?_
  refine st (e1:=[some (.int n),some (.int s),some (.int g),some (.str someS),some (.str (signs n g i)),some (.int j),some (.int (n/7+j*(1+n%13)+j*j)),c]) (by simp [sD,sQ,sIf,sRet,sAsg,sNx,gS,eV,eC,eOp,eUn,eNot,eAnd,eOr,eTup,eLst,eK,lN,lC,D.lt,D.sub,D.eqO,D.cmp,ifO_bl,seqO_nx,seqO_rt,dep_int,dep_str,eq_int,eq_str,mulA_int,fdivp,modp,ai,e1,e2]) ?_
  refine st (e1:=[some (.int n),some (.int s),some (.int g),some (.str someS),some (.str (signs n g i)),some (.int j),some (.int (n/7+j*(1+n%13)+j*j)),some (.str (oneS someS ((n/7+j*(1+n%13)+j*j)%(92+g))))]) (by simp [sD,sQ,sIf,sRet,sAsg,sNx,gS,eV,eC,eOp,eUn,eNot,eAnd,eOr,eTup,eLst,eK,lN,lC,D.lt,D.sub,D.eqO,D.cmp,ifO_bl,seqO_nx,seqO_rt,dep_int,dep_str,eq_int,eq_str,mulA_int,e6,ai,e7,e3,e4]) ?_
  refine st (e1:=[some (.int n),some (.int s),some (.int g),some (.str someS),some (.str (signs n g i)),some (.int j),some (.int (n/7+j*(1+n%13)+j*j)),some (.str (sgn n g i))]) ?_ (by simp [sD,sQ,sIf,sRet,sAsg,sNx,gS,eV,eC,eOp,eUn,eNot,eAnd,eOr,eTup,eLst,eK,lN,lC,D.lt,D.sub,D.eqO,D.cmp,ifO_bl,seqO_nx,seqO_rt,dep_int,dep_str,eq_int,eq_str,mulA_int,e5])
  unfold sgn
  rw [ej]
  rcases hg with z | z<;>by_cases hc:(n/3+j)%4=0<;>simp [sD,sQ,sIf,sRet,sAsg,sNx,gS,eV,eC,eOp,eUn,eNot,eAnd,eOr,eTup,eLst,eK,lN,lC,D.lt,D.sub,D.eqO,D.cmp,ifO_bl,seqO_nx,seqO_rt,dep_int,dep_str,eq_int,eq_str,mulA_int,fdivp,modp,ai,z,hc]
 ·rintro e ⟨a,b,c,rfl⟩
  simp [sRet,eV]
theorem cutS_len (x:Str) (lo hi:Option Int):(cutS x lo hi).length<=x.length:=by
 show (cutD x.cps.toList lo hi).toArray.size<=x.cps.size
 rw [List.size_toArray]
 unfold cutD
 rw [List.length_take,List.length_drop]
 have:x.cps.toList.length=x.cps.size:=Array.length_toList
 omega
theorem cutS_hi (x:Str) (j:Int) (h:0<=j):((cutS x none (some j)).length:Int)=min j x.length:=by
 show ((cutD x.cps.toList none (some j)).toArray.size:Int)=_
 rw [List.size_toArray]
 unfold cutD sIxD
 have:x.cps.toList.length=x.length:=Array.length_toList
 rw [List.length_take,List.length_drop,this]
 simp only []
 rw [if_neg (by omega)]
 omega
theorem cut_at {x:Str} (h:x.length<=lI) (lo hi:Option Int):cutA (.str x) lo hi=some (.str (cutS x lo hi)):=if_pos h
theorem strip_at {x:Str} (h:x.length<=lI):D.strip (.str x)=some (.str (Txt.strip x)):=if_pos h
theorem mulS_len (x:Str) (n:Int):(mulS x n).length=n.toNat*x.length:=by
 show ((List.replicate n.toNat x.cps.toList).flatten.toArray.size)=_
 rw [List.size_toArray,List.length_flatten,List.map_replicate,List.sum_replicate_nat]
 rfl
theorem mulS_at {x:Str} {n:Int} (h:-1073741824<n/\n<1073741824/\x.length*n.toNat<=lI):D.mulA (.str x) (.int n)=some (.str (mulS x n)):=if_pos h
def LbOk (k:Nat) (l:Str):Prop:=l=""\/l=lab k
def AtOk (k:Nat):At->Prop
 | .brk=>True
 | .fin=>False
 | .bk (.chapter t l)=>(1<=t.length/\t.length<=41)/\LbOk k l
 | .bk (.heading t n l)=>(1<=t.length/\t.length<=41)/\(0<=n/\n<=29)/\LbOk k l
 | .bk (.table rs l)=>(1<=rs.length/\rs.length<=30)/\(∀ r∈rs,r.length<=40)/\LbOk k l
 | .bk (.plates n l)=>(1<=n/\n<=10^39)/\LbOk k l
 | .bk (.para _)=>False
 | .it (.mark l)=>l=lab k
 | .it (.key w)=>1<=w.length/\w.length<=80
 | .it (.ref l a b)=>l=""/\a.length<=2/\b.length<=2
 | .it (.word w ns)=>(1<=w.length/\w.length<=40)/\ns.length<=30/\∀ r∈ns,r.length<=40
theorem lbOk_if (k:Nat) (p:Prop) [Decidable p]:LbOk k (if p then Str.ofString "" else lab k):=by
 by_cases h:p
 ·rw [if_pos h];exact .inl rfl
 ·rw [if_neg h];exact .inr rfl
theorem emodN (z:Int) {j:Int} (h:0<j):∃ x:Nat,z%j=(x:Int)/\(x:Int)<j:=⟨(z%j).toNat,by have:=Int.emod_nonneg z (show j≠0 by omega);omega,by have:=Int.emod_lt_of_pos z h;have:=Int.emod_nonneg z (show j≠0 by omega);omega⟩
theorem rng_at (n:Int) (h:0<=n/\n<=1000):D.rng (.int n)=some (rD 0 n.toNat):=if_pos (by omega)
theorem rng_nat (m:Nat) (h:m<=100000):D.rng (.int m)=some ((List.range m).map fun i:Nat=>D.int (0+(i:Int))):=by
 show (if (m:Int).natAbs<4611686018427387904 then some (rD 0 (m:Int).toNat) else none)=_
 rw [if_pos (by omega)];rfl
theorem add_int (x y:Int):D.add (.int x) (.int y)=some (.int (x+y)):=rfl
theorem lineN_big' {a:Nat} (h:a<=1000000):1+a<=lI:=Nat.le_trans (Nat.add_le_add_left h 1) (by decide)
theorem lB {a:Nat} (h:a<=1000000):a<=lI:=Nat.le_trans h (by decide)
theorem atom_at (c:Int) (k:Nat) (hk:k<58):∃ a,f_Latom [.int c,.int k]=some a.d/\AtOk k a:=by
 obtain ⟨kk,ek⟩:∃ kk:Int,(k:Int)=kk:=⟨_,rfl⟩
 obtain ⟨n,en⟩:∃ n:Int,mix c (kk+20)=n:=⟨_,rfl⟩
 have n0:0<=n:=en▸mix_lo _ _
 have n1:n<2147483629:=en▸mix_hi _ _
 have hm:f_Lmix [.int c,.int (kk+20)]=some (.int n):=en▸mix_at c (kk+20) (by omega) (by omega)
 obtain ⟨kd,ekd,kd0,kd1⟩:=emodX n (show (0:Int)<17 by decide)
 obtain ⟨sz,esz,sz0,sz1⟩:∃ sz:Nat,1+n/17%(if decide (n/187%9=4) then (40:Int) else 11)=(sz:Int)/\1<=sz/\sz<=40:=by
  cases decide (n/187%9=4)
  ·exact ⟨(1+n/17%11).toNat,by simp;omega,by omega,by omega⟩
  ·exact ⟨(1+n/17%40).toNat,by simp;omega,by omega,by omega⟩
 obtain ⟨mn,emn,mn0,mn1⟩:∃ mn:Int,1+n/97%(if decide (n/1009%11=5) then (30:Int) else 4)=mn/\1<=mn/\mn<=30:=by
  cases decide (n/1009%11=5)
  ·exact ⟨(1+n/97%4),by simp,by omega,by omega⟩
  ·exact ⟨(1+n/97%30),by simp,by omega,by omega⟩
 have mp2:D.mod (.int (n/17)) (.int (if decide (n/187%9=4) then (40:Int) else 11))=some (.int (n/17%(if decide (n/187%9=4) then (40:Int) else 11))):=mod_p (by split<;>omega)
 have mp3:D.mod (.int (n/97)) (.int (if decide (n/1009%11=5) then (30:Int) else 4))=some (.int (n/97%(if decide (n/1009%11=5) then (30:Int) else 4))):=mod_p (by split<;>omega)
 obtain ⟨tx,etx,tl⟩:∃ tx,f_Lsigns [.int (n/17),.int sz,.int 1]=some (.str tx)/\tx.length=sz:=⟨_,signs_at (n/17) 1 sz (by omega) (.inr rfl) (by omega),signs_len _ _ _⟩
 obtain ⟨wd,ewd,wl⟩:∃ tx,f_Lsigns [.int (n/19),.int sz,.int 0]=some (.str tx)/\tx.length=sz:=⟨_,signs_at (n/19) 0 sz (by omega) (.inl rfl) (by omega),signs_len _ _ _⟩
 have lbe:f_Llabel [.int kk]=some (.str (lab k)):=ek▸lab_at k hk
 obtain ⟨nm,enm,hnm⟩:∃ nm,(if n/1009%2=0 then Str.ofString "" else lab k)=nm/\LbOk k nm:=⟨_,rfl,lbOk_if _ _⟩
 rw [ek]
 unfold f_Latom b_Latom
 refine exD (dd:=At.d) rfl ?_
 refine exSt (e1:=[some (.int c),some (.int kk),some (.int n),none,none,none,none,none,none,none]) (by simp [sD,sQ,sIf,sRet,sAsg,sNx,gS,eV,eC,eOp,eUn,eNot,eAnd,eOr,eTup,eLst,eK,lN,lC,D.lt,D.sub,D.eqO,D.cmp,ifO_bl,seqO_nx,seqO_rt,dep_int,dep_str,eq_int,eq_str,mulA_int,hm,add_int]) ?_
 refine exSt (e1:=[some (.int c),some (.int kk),some (.int n),some (.int kd),none,none,none,none,none,none]) (by simp [sD,sQ,sIf,sRet,sAsg,sNx,gS,eV,eC,eOp,eUn,eNot,eAnd,eOr,eTup,eLst,eK,lN,lC,D.lt,D.sub,D.eqO,D.cmp,ifO_bl,seqO_nx,seqO_rt,dep_int,dep_str,eq_int,eq_str,mulA_int,modp,ekd]) ?_
 refine exSt (e1:=[some (.int c),some (.int kk),some (.int n),some (.int kd),some (.int sz),none,none,none,none,none]) (by by_cases z:n/187%9=4<;>simp [z] at esz<;>simp [mulA_int,eCut,cutA,lI,defD,sD,sQ,sIf,sRet,sRetN,sAsg,sAug,sDrop,sNx,sBrk,sCnt,gS,gUnp,gAll,eV,eC,eOp,eUn,eNot,eAnd,eOr,eIf,eChain,eTup,eLst,eK,lN,lC,eInst,oNo,oAt,eCutL,D.len,D.lt,D.le,D.gt,D.ge,D.add,D.sub,D.ix,D.eqO,D.neO,D.cmp,D.cmpN,D.inst,tyD,D.isT,D.intB,D.min2,D.max2,D.neg,D.addI,ifO_bl,notO_bl,ifO_ite,notO_ite,seqO_nx,seqO_rt,seqO_bk,seqO_ct,seqO_none,seqO_ite,endD_rt,endD_nx,endD_ite,bind_ite,map_ite,andO_some,dep_non,dep_bl,dep_int,dep_str,dep_tup,dep_lst,depL_nil,depL_cons,D.rng,D.its,D.itsT,eq_int,eq_bl,eq_str,eq_tup,eq_lst,eqL_nil,eqL_cons,fdivp,modp,z,ixD,esz]) ?_
 refine exSt (e1:=[some (.int c),some (.int kk),some (.int n),some (.int kd),some (.int sz),some (.int mn),none,none,none,none]) (by by_cases z:n/1009%11=5<;>simp [z] at emn<;>simp [mulA_int,eCut,cutA,lI,defD,sD,sQ,sIf,sRet,sRetN,sAsg,sAug,sDrop,sNx,sBrk,sCnt,gS,gUnp,gAll,eV,eC,eOp,eUn,eNot,eAnd,eOr,eIf,eChain,eTup,eLst,eK,lN,lC,eInst,oNo,oAt,eCutL,D.len,D.lt,D.le,D.gt,D.ge,D.add,D.sub,D.ix,D.eqO,D.neO,D.cmp,D.cmpN,D.inst,tyD,D.isT,D.intB,D.min2,D.max2,D.neg,D.addI,ifO_bl,notO_bl,ifO_ite,notO_ite,seqO_nx,seqO_rt,seqO_bk,seqO_ct,seqO_none,seqO_ite,endD_rt,endD_nx,endD_ite,bind_ite,map_ite,andO_some,dep_non,dep_bl,dep_int,dep_str,dep_tup,dep_lst,depL_nil,depL_cons,D.rng,D.its,D.itsT,eq_int,eq_bl,eq_str,eq_tup,eq_lst,eqL_nil,eqL_cons,fdivp,modp,z,ixD,emn]) ?_
 refine exSt (e1:=[some (.int c),some (.int kk),some (.int n),some (.int kd),some (.int sz),some (.int mn),some (.str tx),none,none,none]) (by simp [sD,sQ,sIf,sRet,sAsg,sNx,gS,eV,eC,eOp,eUn,eNot,eAnd,eOr,eTup,eLst,eK,lN,lC,D.lt,D.sub,D.eqO,D.cmp,ifO_bl,seqO_nx,seqO_rt,dep_int,dep_str,eq_int,eq_str,mulA_int,fdivp,etx]) ?_
 refine exSt (e1:=[some (.int c),some (.int kk),some (.int n),some (.int kd),some (.int sz),some (.int mn),some (.str tx),some (.str wd),none,none]) (by simp [sD,sQ,sIf,sRet,sAsg,sNx,gS,eV,eC,eOp,eUn,eNot,eAnd,eOr,eTup,eLst,eK,lN,lC,D.lt,D.sub,D.eqO,D.cmp,ifO_bl,seqO_nx,seqO_rt,dep_int,dep_str,eq_int,eq_str,mulA_int,fdivp,ewd]) ?_
 refine exSt (e1:=[some (.int c),some (.int kk),some (.int n),some (.int kd),some (.int sz),some (.int mn),some (.str tx),some (.str wd),some (.str (lab k)),none]) (by simp [sD,sQ,sIf,sRet,sAsg,sNx,gS,eV,eC,eOp,eUn,eNot,eAnd,eOr,eTup,eLst,eK,lN,lC,D.lt,D.sub,D.eqO,D.cmp,ifO_bl,seqO_nx,seqO_rt,dep_int,dep_str,eq_int,eq_str,mulA_int,lbe]) ?_
 refine exSt (e1:=[some (.int c),some (.int kk),some (.int n),some (.int kd),some (.int sz),some (.int mn),some (.str tx),some (.str wd),some (.str (lab k)),some (.str (lab k))]) (by simp [sD,sQ,sIf,sRet,sAsg,sNx,gS,eV,eC,eOp,eUn,eNot,eAnd,eOr,eTup,eLst,eK,lN,lC,D.lt,D.sub,D.eqO,D.cmp,ifO_bl,seqO_nx,seqO_rt,dep_int,dep_str,eq_int,eq_str,mulA_int]) ?_
 refine exSt (e1:=[some (.int c),some (.int kk),some (.int n),some (.int kd),some (.int sz),some (.int mn),some (.str tx),some (.str wd),some (.str (lab k)),some (.str nm)]) (by by_cases z:n/1009%2=0<;>simp [sD,sQ,sIf,sRet,sAsg,sNx,gS,eV,eC,eOp,eUn,eNot,eAnd,eOr,eTup,eLst,eK,lN,lC,D.lt,D.sub,D.eqO,D.cmp,ifO_bl,seqO_nx,seqO_rt,dep_int,dep_str,eq_int,eq_str,mulA_int,fdivp,modp,z,<- enm]) ?_
 clear hm etx ewd lbe mp2 mp3 enm esz emn
 have hS:tx.length<=lI:=lB (by omega)
 have hW:wd.length<=lI:=lB (by omega)
 have sT:=strip_at hS
 have sL:(Txt.strip tx).length<=40:=Nat.le_trans (PyProof.Rows.len_strip tx) (by omega)
 have o0:D.ix (.str wd) (.int 0)=some (.str (oneS wd 0)):=ixS (by decide) (by omega) hW
 have aT:D.add (.str (oneS wd 0)) (.str (Txt.strip tx))=some (.str (oneS wd 0++Txt.strip tx)):=addS (by rw [oneS_len];exact lB (by omega))
 have lT:(oneS wd 0++Txt.strip tx).length=1+(Txt.strip tx).length:=by rw [len_app,oneS_len]
 have hkd:kd=0\/kd=1\/kd=2\/kd=3\/kd=4\/(kd=5\/kd=6)\/kd=7\/(kd=8\/kd=9\/kd=10\/kd=11)\/kd=12\/(kd=13\/kd=14\/kd=15\/kd=16):=by omega
 rcases hkd with z | z | z | z | z | z | z | z | z | z
 ·refine ⟨.bk (.chapter (oneS wd 0++Txt.strip tx) nm),?_,⟨by omega,hnm⟩⟩
  subst z
  refine stR ?_
  simp [sD,sQ,sIf,sRet,sAsg,sNx,gS,eV,eC,eOp,eUn,eNot,eAnd,eOr,eTup,eLst,eK,lN,lC,D.lt,D.sub,D.eqO,D.cmp,ifO_bl,seqO_nx,seqO_rt,dep_int,dep_str,eq_int,eq_str,mulA_int,o0,sT,aT]
 ·refine ⟨.bk (.heading (oneS wd 0++Txt.strip tx) (mn-1) nm),?_,⟨by omega,by omega,hnm⟩⟩
  subst z
  refine st (by simp [sD,sQ,sIf,sRet,sAsg,sNx,gS,eV,eC,eOp,eUn,eNot,eAnd,eOr,eTup,eLst,eK,lN,lC,D.lt,D.sub,D.eqO,D.cmp,ifO_bl,seqO_nx,seqO_rt,dep_int,dep_str,eq_int,eq_str,mulA_int];rfl) ?_
  refine stR ?_
  simp [sD,sQ,sIf,sRet,sAsg,sNx,gS,eV,eC,eOp,eUn,eNot,eAnd,eOr,eTup,eLst,eK,lN,lC,D.lt,D.sub,D.eqO,D.cmp,ifO_bl,seqO_nx,seqO_rt,dep_int,dep_str,eq_int,eq_str,mulA_int,o0,sT,aT]
 ·obtain ⟨m,em⟩:∃ m:Nat,mn=m:=⟨mn.toNat,by omega⟩
  refine ⟨.bk (.table ((List.range m).map fun i:Nat=>cutS tx none (some (if (sz:Int)-(0+(i:Int)) > 0 then (sz:Int)-(0+(i:Int)) else 0))) nm),?_,⟨by simp;omega,?_,hnm⟩⟩
  ·subst z
   refine st (by simp [sD,sQ,sIf,sRet,sAsg,sNx,gS,eV,eC,eOp,eUn,eNot,eAnd,eOr,eTup,eLst,eK,lN,lC,D.lt,D.sub,D.eqO,D.cmp,ifO_bl,seqO_nx,seqO_rt,dep_int,dep_str,eq_int,eq_str,mulA_int];rfl) ?_
   refine st (by simp [sD,sQ,sIf,sRet,sAsg,sNx,gS,eV,eC,eOp,eUn,eNot,eAnd,eOr,eTup,eLst,eK,lN,lC,D.lt,D.sub,D.eqO,D.cmp,ifO_bl,seqO_nx,seqO_rt,dep_int,dep_str,eq_int,eq_str,mulA_int];rfl) ?_
   refine stR ?_
   have cc:eComp 1 [6,4] (iRng (eV 5)) (gS 0) (eC (.bl true)) (eCut (eV 1) (oNo) (oAt (eOp D.max2 (eC (.int 0)) (eOp D.sub (eV 2) (eV 0))))) [some (.int c),some (.int kk),some (.int n),some (.int 2),some (.int sz),some (.int mn),some (.str tx),some (.str wd),some (.str (lab k)),some (.str nm)]=some (.lst (((List.range m).filter fun _=>true).map fun i:Nat=>D.str (cutS tx none (some (if (sz:Int)-(0+(i:Int)) > 0 then (sz:Int)-(0+(i:Int)) else 0))))):=by
    refine comp_at (fun i:Nat=>D.int (0+(i:Int))) (List.range m) (fun e=>∃ v,e=[v,some (.str tx),some (.int sz)]) _ _ (by show D.rng (.int mn)=_;rw [em];exact rng_nat m (by omega)) (lB (by simp;omega)) ⟨none,rfl⟩ ?_
    rintro i hi e ⟨v,rfl⟩
    refine ⟨[some (.int (0+(i:Int))),some (.str tx),some (.int sz)],rfl,⟨_,rfl⟩,rfl,fun _=>?_⟩
    simp [eCut,eV,oNo,oAt,eOp,eC,D.max2,D.sub,cut_at hS]
   rw [filter_tt] at cc
   simp only [sIf,sRet,eTup,lC,lN,cc,eV,eC,eOp]
   simp [sD,sQ,sIf,sRet,sAsg,sNx,gS,eV,eC,eOp,eUn,eNot,eAnd,eOr,eTup,eLst,eK,lN,lC,D.lt,D.sub,D.eqO,D.cmp,ifO_bl,seqO_nx,seqO_rt,dep_int,dep_str,eq_int,eq_str,mulA_int,strL]
  ·intro r hr
   obtain ⟨i,_,rfl⟩:=List.mem_map.mp hr
   exact Nat.le_trans (cutS_len _ _ _) (by omega)
 ·obtain ⟨p,ep,p0,p1⟩:=plates_at c n n0
  refine ⟨.bk (.plates p nm),?_,⟨⟨p0,p1⟩,hnm⟩⟩
  subst z
  refine st (by simp [sD,sQ,sIf,sRet,sAsg,sNx,gS,eV,eC,eOp,eUn,eNot,eAnd,eOr,eTup,eLst,eK,lN,lC,D.lt,D.sub,D.eqO,D.cmp,ifO_bl,seqO_nx,seqO_rt,dep_int,dep_str,eq_int,eq_str,mulA_int];rfl) ?_
  refine st (by simp [sD,sQ,sIf,sRet,sAsg,sNx,gS,eV,eC,eOp,eUn,eNot,eAnd,eOr,eTup,eLst,eK,lN,lC,D.lt,D.sub,D.eqO,D.cmp,ifO_bl,seqO_nx,seqO_rt,dep_int,dep_str,eq_int,eq_str,mulA_int];rfl) ?_
  refine st (by simp [sD,sQ,sIf,sRet,sAsg,sNx,gS,eV,eC,eOp,eUn,eNot,eAnd,eOr,eTup,eLst,eK,lN,lC,D.lt,D.sub,D.eqO,D.cmp,ifO_bl,seqO_nx,seqO_rt,dep_int,dep_str,eq_int,eq_str,mulA_int];rfl) ?_
  refine stR ?_
  simp [sD,sQ,sIf,sRet,sAsg,sNx,gS,eV,eC,eOp,eUn,eNot,eAnd,eOr,eTup,eLst,eK,lN,lC,D.lt,D.sub,D.eqO,D.cmp,ifO_bl,seqO_nx,seqO_rt,dep_int,dep_str,eq_int,eq_str,mulA_int,ep]
 ·refine ⟨.brk,?_,trivial⟩
  subst z
  iterate 4 refine st (by simp [sD,sQ,sIf,sRet,sAsg,sNx,gS,eV,eC,eOp,eUn,eNot,eAnd,eOr,eTup,eLst,eK,lN,lC,D.lt,D.sub,D.eqO,D.cmp,ifO_bl,seqO_nx,seqO_rt,dep_int,dep_str,eq_int,eq_str,mulA_int];rfl) ?_
  refine stR ?_
  simp [sD,sQ,sIf,sRet,sAsg,sNx,gS,eV,eC,eOp,eUn,eNot,eAnd,eOr,eTup,eLst,eK,lN,lC,D.lt,D.sub,D.eqO,D.cmp,ifO_bl,seqO_nx,seqO_rt,dep_int,dep_str,eq_int,eq_str,mulA_int]
 ·refine ⟨.it (.mark (lab k)),?_,rfl⟩
  rcases z with z | z<;>subst z <;>
  ·iterate 5 refine st (by simp [sD,sQ,sIf,sRet,sAsg,sNx,gS,eV,eC,eOp,eUn,eNot,eAnd,eOr,eTup,eLst,eK,lN,lC,D.lt,D.sub,D.eqO,D.cmp,ifO_bl,seqO_nx,seqO_rt,dep_int,dep_str,eq_int,eq_str,mulA_int];rfl) ?_
   refine stR ?_
   simp [sD,sQ,sIf,sRet,sAsg,sNx,gS,eV,eC,eOp,eUn,eNot,eAnd,eOr,eTup,eLst,eK,lN,lC,D.lt,D.sub,D.eqO,D.cmp,ifO_bl,seqO_nx,seqO_rt,dep_int,dep_str,eq_int,eq_str,mulA_int]
 ·have q0:0<=n/97%80/\n/97%80<80:=by omega
  have mw:D.mulA (.str wd) (.int 9)=some (.str (mulS wd 9)):=mulS_at ⟨by decide,by decide,lB (by show wd.length*9<=_;omega)⟩
  have ml:(mulS wd 9).length=9*wd.length:=mulS_len wd 9
  have ch:=cutS_hi (mulS wd 9) (1+n/97%80) (by omega)
  have mc:=cut_at (x:=mulS wd 9) (lB (by omega)) none (some (1+n/97%80))
  refine ⟨.it (.key (cutS (mulS wd 9) none (some (1+n/97%80)))),?_,⟨by omega,by omega⟩⟩
  subst z
  iterate 6 refine st (by simp [sD,sQ,sIf,sRet,sAsg,sNx,gS,eV,eC,eOp,eUn,eNot,eAnd,eOr,eTup,eLst,eK,lN,lC,D.lt,D.sub,D.eqO,D.cmp,ifO_bl,seqO_nx,seqO_rt,dep_int,dep_str,eq_int,eq_str,mulA_int];rfl) ?_
  refine stR ?_
  simp [sIf,sRet,eTup,lC,lN,eV,eC,eOp,eCut,oNo,oAt,mw,fdivp,modp,add_int,mc,D.eqO,dep_int,D.cmp,eq_int,ifO_bl]
 ·obtain ⟨m,em,lm⟩:=emodN (n/291) (show (0:Int)<3 by decide)
  obtain ⟨w2,e2,l2⟩:∃ tx,f_Lsigns [.int (n/23),.int m,.int 0]=some (.str tx)/\tx.length=m:=⟨_,signs_at (n/23) 0 m (by omega) (.inl rfl) (by omega),signs_len _ _ _⟩
  have q0:0<=n/97%3/\n/97%3<3:=by omega
  have ch:=cutS_hi wd (n/97%3) (by omega)
  have mc:=cut_at hW none (some (n/97%3))
  refine ⟨.it (.ref "" (cutS wd none (some (n/97%3))) w2),?_,⟨rfl,by omega,by omega⟩⟩
  rcases z with z | z | z | z<;>subst z <;>
  ·iterate 7 refine st (by simp [sD,sQ,sIf,sRet,sAsg,sNx,gS,eV,eC,eOp,eUn,eNot,eAnd,eOr,eTup,eLst,eK,lN,lC,D.lt,D.sub,D.eqO,D.cmp,ifO_bl,seqO_nx,seqO_rt,dep_int,dep_str,eq_int,eq_str,mulA_int];rfl) ?_
   refine stR ?_
   simp [sIf,sRet,eTup,lC,lN,eV,eC,eOp,eCut,eK,oNo,oAt,fdivp,modp,em,e2,mc,D.lt,ifO_bl]
 ·obtain ⟨m,em⟩:∃ m:Nat,mn=m:=⟨mn.toNat,by omega⟩
  refine ⟨.it (.word wd ((List.range m).map fun i:Nat=>cutS tx (some (0+(i:Int))) none)),?_,⟨by omega,by simp;omega,?_⟩⟩
  ·subst z
   iterate 8 refine st (by simp [sD,sQ,sIf,sRet,sAsg,sNx,gS,eV,eC,eOp,eUn,eNot,eAnd,eOr,eTup,eLst,eK,lN,lC,D.lt,D.sub,D.eqO,D.cmp,ifO_bl,seqO_nx,seqO_rt,dep_int,dep_str,eq_int,eq_str,mulA_int];rfl) ?_
   refine stR ?_
   have cc:eComp 1 [6] (iRng (eV 5)) (gS 0) (eC (.bl true)) (eCut (eV 1) (oAt (eV 0)) (oNo)) [some (.int c),some (.int kk),some (.int n),some (.int 12),some (.int sz),some (.int mn),some (.str tx),some (.str wd),some (.str (lab k)),some (.str nm)]=some (.lst (((List.range m).filter fun _=>true).map fun i:Nat=>D.str (cutS tx (some (0+(i:Int))) none))):=by
    refine comp_at (fun i:Nat=>D.int (0+(i:Int))) (List.range m) (fun e=>∃ v,e=[v,some (.str tx)]) _ _ (by show D.rng (.int mn)=_;rw [em];exact rng_nat m (by omega)) (lB (by simp;omega)) ⟨none,rfl⟩ ?_
    rintro i hi e ⟨v,rfl⟩
    refine ⟨[some (.int (0+(i:Int))),some (.str tx)],rfl,⟨_,rfl⟩,rfl,fun _=>?_⟩
    simp [eCut,eV,oNo,oAt,cut_at hS]
   rw [filter_tt] at cc
   simp only [sIf,sRet,eTup,lC,lN,cc,eV,eC,eOp]
   simp [sD,sQ,sIf,sRet,sAsg,sNx,gS,eV,eC,eOp,eUn,eNot,eAnd,eOr,eTup,eLst,eK,lN,lC,D.lt,D.sub,D.eqO,D.cmp,ifO_bl,seqO_nx,seqO_rt,dep_int,dep_str,eq_int,eq_str,mulA_int,strL]
  ·intro r hr
   obtain ⟨i,_,rfl⟩:=List.mem_map.mp hr
   exact Nat.le_trans (cutS_len _ _ _) (by omega)
 ·refine ⟨.it (.word wd []),?_,⟨by omega,by simp,by simp⟩⟩
  rcases z with z | z | z | z<;>subst z <;>
  ·iterate 9 refine st (by simp [sD,sQ,sIf,sRet,sAsg,sNx,gS,eV,eC,eOp,eUn,eNot,eAnd,eOr,eTup,eLst,eK,lN,lC,D.lt,D.sub,D.eqO,D.cmp,ifO_bl,seqO_nx,seqO_rt,dep_int,dep_str,eq_int,eq_str,mulA_int];rfl) ?_
   simp [sD,sQ,sIf,sRet,sAsg,sNx,gS,eV,eC,eOp,eUn,eNot,eAnd,eOr,eTup,eLst,eK,lN,lC,D.lt,D.sub,D.eqO,D.cmp,ifO_bl,seqO_nx,seqO_rt,dep_int,dep_str,eq_int,eq_str,mulA_int,strL]
theorem depL_map {α:Type} {f:α->D} {n:Nat} (h:∀ a,(f a).dep<=n):∀ xs:List α,D.depL (xs.map f)<=n
 | []=>by rw [List.map_nil,depL_nil];exact Nat.zero_le _
 | x::xs=>by rw [List.map_cons,depL_cons];exact Nat.max_le.mpr ⟨h x,depL_map h xs⟩
theorem dep_strs (xs:List Str):(strL xs).dep<=1:=by
 unfold strL
 rw [dep_lst]
 exact Nat.succ_le_succ (depL_map (fun a=>by rw [dep_str];exact Nat.zero_le _) xs)
theorem dep_it (i:It):i.d.dep<=2:=by
 cases i with
 | word w ns=>have:=dep_strs ns;simp only [It.d,dep_tup,depL_cons,depL_nil,dep_str];omega
 | _=>simp [dep_tup,depL_cons,depL_nil,dep_str]
theorem dep_its (is:List It):(D.lst (is.map It.d)).dep<=3:=by rw [dep_lst];exact Nat.succ_le_succ (depL_map dep_it is)
theorem dep_bk (b:Bk):b.d.dep<=4:=by
 cases b with
 | para is=>have:=dep_its is;simp only [Bk.d,dep_tup,depL_cons,depL_nil,dep_str];omega
 | table rs l=>have:=dep_strs rs;simp only [Bk.d,dep_tup,depL_cons,depL_nil,dep_str];omega
 | _=>simp [dep_tup,depL_cons,depL_nil,dep_str,dep_int]
theorem dep_bks (bs:List Bk):(bks bs).dep<=5:=by unfold bks;rw [dep_lst];exact Nat.succ_le_succ (depL_map dep_bk bs)
theorem eqL_cn (x:D) (xs:List D):D.eqL (x::xs) []=some false:=by rw [D.eqL];all_goals simp
theorem eqNil {α:Type} {f:α->D} {n:Nat} (h:∀ a,(f a).dep<=n) (hn:n<=39) (xs:List α):D.eqO (.lst (xs.map f)) (.lst [])=some (.bl xs.isEmpty):=by
 unfold D.eqO
 rw [if_pos (by rw [dep_lst];have:=depL_map h xs;omega),eq_lst]
 cases xs with
 | nil=>rw [List.map_nil,eqL_nil];rfl
 | cons x xs=>rw [List.map_cons,eqL_cn];rfl
theorem neNil {α:Type} {f:α->D} {n:Nat} (h:∀ a,(f a).dep<=n) (hn:n<=39) (xs:List α):D.neO (.lst (xs.map f)) (.lst [])=some (.bl (!xs.isEmpty)):=by
 unfold D.neO
 rw [if_pos (by rw [dep_lst];have:=depL_map h xs;omega),eq_lst]
 cases xs with
 | nil=>rw [List.map_nil,eqL_nil];rfl
 | cons x xs=>rw [List.map_cons,eqL_cn];rfl
theorem app_at {α:Type} {f:α->D} {xs:List α} (x:α) (h:xs.length<lI):D.app (.lst (xs.map f)) (f x)=some (.lst ((xs++[x]).map f)):=by
 show (if (xs.map f).length<lI then some (D.lst (xs.map f++[f x])) else none)=_
 rw [if_pos (by rw [List.length_map];exact h),List.map_append];rfl
theorem ixLast (l:List D) (x:D):D.ix (.lst (l++[x])) (.int (-1))=some x:=by
 show (ixD (l++[x]).length (-1)).bind (fun k=>(l++[x])[k]?)=_
 have:ixD (l++[x]).length (-1)=some l.length:=by
  unfold ixD
  rw [if_neg (by decide),if_pos (by simp only [List.length_append,List.length_cons,List.length_nil];omega),List.length_append]
  congr 1
  show ((-1:Int)+((l.length+1:Nat):Int)).toNat=_
  omega
 rw [this]
 show (l++[x])[l.length]?=_
 simp
theorem enumD_eq {α:Type} (f:α->D):∀ (xs:List α) (n:Nat),enumD n (xs.map f)=(xs.zipIdx n).map fun p=>D.tup [.int p.2,f p.1]
 | [],n=>rfl
 | x::xs,n=>by
  show D.tup [.int n,f x]::enumD (n+1) (xs.map f)=_
  rw [enumD_eq f xs (n+1),List.zipIdx_cons,List.map_cons]
theorem lt_big {a:Nat} (h:a<=1000000):a<lI:=Nat.lt_of_le_of_lt h (by decide)
def labsOf:At->List Str
 | .it (.mark l)=>[l]
 | .bk (.chapter _ l)=>if l="" then [] else [l]
 | .bk (.heading _ _ l)=>if l="" then [] else [l]
 | .bk (.table _ l)=>if l="" then [] else [l]
 | .bk (.plates _ l)=>if l="" then [] else [l]
 | _=>[]
theorem labsOf_len (a:At):(labsOf a).length<=1:=by
 unfold labsOf
 split<;>first | (split<;>simp) | simp
def labs (as:List At):List Str:=as.flatMap labsOf
theorem labs_len (as:List At):(labs as).length<=as.length:=by
 induction as with
 | nil=>exact Nat.le_refl _
 | cons a as ih =>
  show ((a::as).flatMap labsOf).length<=_
  rw [List.flatMap_cons,List.length_append,List.length_cons]
  have:=labsOf_len a
  have:(as.flatMap labsOf).length<=as.length:=ih
  omega
theorem labs_take (as:List At) (i:Nat) (hi:i<as.length):labs (as.take (i+1))=labs (as.take i)++labsOf as[i]:=by
 unfold labs
 rw [List.take_succ_eq_append_getElem hi,List.flatMap_append]
 simp
def pt (ls:List Str) (cs:List Int) (i:Nat):At->At
 | .it (.ref l a b)=>if ls=[] then .it (.word "lost" []) else .it (.ref (ls.getD (mix (cs.getD i 0) (i+90)%ls.length).toNat "") a b)
 | a=>a
def pointed (cs:List Int) (as:List At):List At:=as.mapIdx fun i a=>pt (labs as) cs i a
def AtS:At->Prop
 | .bk (.para _)=>False
 | .fin=>False
 | _=>True
theorem ixLs {α:Type} {f:α->D} (xs:List α) (i:Int) (d:α) (h:0<=i) (h':i<xs.length):D.ix (.lst (xs.map f)) (.int i)=some (f (xs.getD i.toNat d)):=by
 show (ixD (xs.map f).length i).bind (fun k=>(xs.map f)[k]?)=_
 unfold ixD
 rw [if_pos h,if_pos (by rw [List.length_map];exact h')]
 show (xs.map f)[i.toNat]?=_
 rw [List.getElem?_map,List.getD_eq_getElem?_getD,List.getElem?_eq_getElem (by omega)]
 rfl
theorem app_str {xs:List Str} (x:Str) (h:xs.length<lI):D.app (strL xs) (.str x)=some (strL (xs++[x])):=app_at (f:=D.str) x h
theorem lenStrs (xs:List Str):D.len (strL xs)=some (.int xs.length):=by
 show some (D.int (xs.map D.str).length)=_
 rw [List.length_map]
theorem eqStrs (xs:List Str):D.eqO (strL xs) (.lst [])=some (.bl xs.isEmpty):=eqNil (f:=D.str) (n:=0) (fun a=>by rw [dep_str];exact Nat.le_refl _) (by decide) xs
theorem ixStrs (xs:List Str) (i:Int) (h:0<=i) (h':i<xs.length):D.ix (strL xs) (.int i)=some (.str (xs.getD i.toNat "")):=ixLs (f:=D.str) xs i "" h h'
theorem pointed_at (as:List At) (cs:List Int) (hl:as.length=cs.length) (h58:as.length<=100) (hs:∀ a∈as,AtS a):f_Lpointed [.lst (as.map At.d),.lst (cs.map .int)]=some (.lst ((pointed cs as).map At.d)):=by
 unfold f_Lpointed b_Lpointed
 refine stD rfl ?_
 refine st (e1:=[some (.lst (as.map At.d)),some (.lst (cs.map .int)),some (strL []),none,none,none,none]) (by simp [sD,sQ,sIf,sRet,sAsg,sNx,gS,eV,eC,eOp,eUn,eNot,eAnd,eOr,eTup,eLst,eK,lN,lC,D.lt,D.sub,D.eqO,D.cmp,ifO_bl,seqO_nx,seqO_rt,dep_int,dep_str,eq_int,eq_str,mulA_int,strL]) ?_
 refine stFor At.d as (fun i e=>∃ v,e=[some (.lst (as.map At.d)),some (.lst (cs.map .int)),some (strL (labs (as.take i))),v,none,none,none]) rfl ⟨none,rfl⟩ ?_ ?_
 ·rintro i hi e ⟨v,rfl⟩
  have hb:(labs (as.take i)).length<lI:=lt_big (Nat.le_trans (labs_len _) (by rw [List.length_take];omega))
  have ha:=hs as[i] (List.getElem_mem hi)
  rw [labs_take as i hi]
  have ap:=fun x=>app_str x hb
  generalize as[i]=a at *
  generalize labs (as.take i)=ls at *
  refine ⟨_,.inl ?_,some a.d,rfl⟩
  refine bnd (e1:=[some (.lst (as.map At.d)),some (.lst (cs.map .int)),some (strL ls),some a.d,none,none,none]) rfl ?_
  cases a with
  | bk b=>cases b with
   | para is=>exact ha.elim
   | chapter t l=>by_cases z:l=""<;>simp [sD,sQ,sIf,sRet,sAsg,sNx,gS,eV,eC,eOp,eUn,eNot,eAnd,eOr,eTup,eLst,eK,lN,lC,D.lt,D.sub,D.eqO,D.cmp,ifO_bl,seqO_nx,seqO_rt,dep_int,dep_str,eq_int,eq_str,mulA_int,D.neg,dep_lst,depL_nil,eq_lst,eqL_nil,D.add,D.len,D.neO,D.cmpN,loopD,turnO_nx,D.its,gUnp,gAll,D.notInO,flatD,inD,D.ix,sP,ap,labsOf,z,ixD]
   | heading t n l=>by_cases z:l=""<;>simp [sD,sQ,sIf,sRet,sAsg,sNx,gS,eV,eC,eOp,eUn,eNot,eAnd,eOr,eTup,eLst,eK,lN,lC,D.lt,D.sub,D.eqO,D.cmp,ifO_bl,seqO_nx,seqO_rt,dep_int,dep_str,eq_int,eq_str,mulA_int,D.neg,dep_lst,depL_nil,eq_lst,eqL_nil,D.add,D.len,D.neO,D.cmpN,loopD,turnO_nx,D.its,gUnp,gAll,D.notInO,flatD,inD,D.ix,sP,ap,labsOf,z,ixD]
   | table rs l=>by_cases z:l=""<;>simp [sD,sQ,sIf,sRet,sAsg,sNx,gS,eV,eC,eOp,eUn,eNot,eAnd,eOr,eTup,eLst,eK,lN,lC,D.lt,D.sub,D.eqO,D.cmp,ifO_bl,seqO_nx,seqO_rt,dep_int,dep_str,eq_int,eq_str,mulA_int,D.neg,dep_lst,depL_nil,eq_lst,eqL_nil,D.add,D.len,D.neO,D.cmpN,loopD,turnO_nx,D.its,gUnp,gAll,D.notInO,flatD,inD,D.ix,sP,ap,labsOf,z,ixD]
   | plates n l=>by_cases z:l=""<;>simp [sD,sQ,sIf,sRet,sAsg,sNx,gS,eV,eC,eOp,eUn,eNot,eAnd,eOr,eTup,eLst,eK,lN,lC,D.lt,D.sub,D.eqO,D.cmp,ifO_bl,seqO_nx,seqO_rt,dep_int,dep_str,eq_int,eq_str,mulA_int,D.neg,dep_lst,depL_nil,eq_lst,eqL_nil,D.add,D.len,D.neO,D.cmpN,loopD,turnO_nx,D.its,gUnp,gAll,D.notInO,flatD,inD,D.ix,sP,ap,labsOf,z,ixD]
  | it x=>cases x<;>simp [sD,sQ,sIf,sRet,sAsg,sNx,gS,eV,eC,eOp,eUn,eNot,eAnd,eOr,eTup,eLst,eK,lN,lC,D.lt,D.sub,D.eqO,D.cmp,ifO_bl,seqO_nx,seqO_rt,dep_int,dep_str,eq_int,eq_str,mulA_int,D.neg,dep_lst,depL_nil,eq_lst,eqL_nil,D.add,D.len,D.neO,D.cmpN,loopD,turnO_nx,D.its,gUnp,gAll,D.notInO,flatD,inD,D.ix,sP,ap,labsOf,ixD]
  | brk=>simp [sD,sQ,sIf,sRet,sAsg,sNx,gS,eV,eC,eOp,eUn,eNot,eAnd,eOr,eTup,eLst,eK,lN,lC,D.lt,D.sub,D.eqO,D.cmp,ifO_bl,seqO_nx,seqO_rt,dep_int,dep_str,eq_int,eq_str,mulA_int,D.neg,dep_lst,depL_nil,eq_lst,eqL_nil,D.add,D.len,D.neO,D.cmpN,loopD,turnO_nx,D.its,gUnp,gAll,D.notInO,flatD,inD,D.ix,sP,ap,labsOf,ixD]
  | fin=>exact ha.elim
 ·rintro e ⟨v,rfl⟩
  rw [List.take_length]
  have hb:(labs as).length<=as.length:=labs_len as
  have pdef:∀ i (hi:i<as.length) (hp:i<(pointed cs as).length),(pointed cs as)[i]=pt (labs as) cs i as[i]:=by
   intro i hi hp
   simp only [pointed,List.getElem_mapIdx]
  have plen:(pointed cs as).length=as.length:=by unfold pointed;simp
  generalize pointed cs as=ps at *
  generalize labs as=ls at *
  refine st (e1:=[some (.lst (as.map At.d)),some (.lst (cs.map .int)),some (strL ls),v,some (.lst []),none,none]) (by simp [sD,sQ,sIf,sRet,sAsg,sNx,gS,eV,eC,eOp,eUn,eNot,eAnd,eOr,eTup,eLst,eK,lN,lC,D.lt,D.sub,D.eqO,D.cmp,ifO_bl,seqO_nx,seqO_rt,dep_int,dep_str,eq_int,eq_str,mulA_int]) ?_
  refine stFor (fun p:At×Nat=>D.tup [.int p.2,p.1.d]) as.zipIdx (fun i e=>∃ v w x,e=[some (.lst (as.map At.d)),some (.lst (cs.map .int)),some (strL ls),v,some (.lst ((ps.take i).map At.d)),w,x]) (by show some (enumD 0 (as.map At.d))=_;rw [enumD_eq]) ⟨v,none,none,rfl⟩ ?_ ?_
  ·rintro i hi e ⟨v,w,x,rfl⟩
   have hi':i<as.length:=by simpa using hi
   have hip:i<ps.length:=by omega
   have ei:as.zipIdx[i]=(as[i],i):=by simp
   rw [ei,List.take_succ_eq_append_getElem hip,pdef i hi' hip]
   have ap:∀ x:At,D.app (.lst ((ps.take i).map At.d)) x.d=some (.lst ((ps.take i++[x]).map At.d)):=fun x=>app_at x (lt_big (by rw [List.length_take];omega))
   have mx:∃ m:Int,mix (cs.getD i 0) ((i:Int)+90)=m/\f_Lmix [.int (cs.getD i 0),.int ((i:Int)+90)]=some (.int m)/\0<=m:=⟨_,rfl,mix_at _ _ (by omega) (by omega),mix_lo _ _⟩
   have cx:D.ix (.lst (cs.map .int)) (.int i)=some (.int (cs.getD i 0)):=ixLs (f:=D.int) cs i 0 (by omega) (by omega)
   have ha:=hs as[i] (List.getElem_mem hi')
   obtain ⟨m,em,mm,m0⟩:=mx
   have hp:∀ l a b,pt ls cs i (.it (.ref l a b))=if ls=[] then .it (.word "lost" []) else .it (.ref (ls.getD (m%ls.length).toNat "") a b):=by intro l a b;rw [<- em];rfl
   have i90:(i:Int)+90=(i:Int)+90:=rfl
   generalize hq:pt ls cs i as[i]=q
   generalize as[i]=a at *
   generalize cs.getD i 0=c at *
   generalize ps.take i=qs at *
   obtain ⟨j,ej⟩:∃ j:Int,(i:Int)=j:=⟨_,rfl⟩
   rw [ej] at mm cx
   simp only []
   rw [ej]
   cases a with
   | it y=>cases y with
    | ref l a b =>
     rw [hp] at hq
     cases ls with
     | nil =>
      rw [if_pos rfl] at hq
      subst hq
      refine ⟨_,.inl ?_,some (It.ref l a b).d,some (.int j),x,rfl⟩
      have ap':=ap (.it (.word "lost" []))
      simp only [At.d,It.d,strL,List.map_nil] at ap'
      simp [sD,sQ,sIf,sRet,sAsg,sNx,gS,eV,eC,eOp,eUn,eNot,eAnd,eOr,eTup,eLst,eK,lN,lC,D.lt,D.sub,D.eqO,D.cmp,ifO_bl,seqO_nx,seqO_rt,dep_int,dep_str,eq_int,eq_str,mulA_int,D.neg,dep_lst,depL_nil,eq_lst,eqL_nil,D.add,D.len,D.neO,D.cmpN,loopD,turnO_nx,D.its,gUnp,gAll,D.ix,ixD,sP,ap',strL]
     | cons l0 ls =>
      rw [if_neg (by simp)] at hq
      subst hq
      have hn:(0:Int)<((l0::ls).length:Int):=by simp only [List.length_cons];omega
      have md:D.mod (.int m) (.int ((l0::ls).length:Int))=some (.int (m%((l0::ls).length:Int))):=mod_p hn
      have ixl:=ixStrs (l0::ls) (m%((l0::ls).length:Int)) (Int.emod_nonneg _ (by omega)) (Int.emod_lt_of_pos _ hn)
      have ln:=lenStrs (l0::ls)
      have eq:=eqStrs (l0::ls)
      have ap':=ap (.it (.ref ((l0::ls).getD (m%((l0::ls).length:Int)).toNat "") a b))
      generalize (l0::ls).getD (m%((l0::ls).length:Int)).toNat ""=lx at *
      generalize m%((l0::ls).length:Int)=mi at *
      generalize ((l0::ls).length:Int)=ll at *
      have ie:(l0::ls).isEmpty=false:=rfl
      rw [ie] at eq
      generalize strL (l0::ls)=LS at *
      simp only [At.d,It.d] at ap'
      refine ⟨_,.inl ?_,some (It.ref l a b).d,some (.int j),some (.str lx),rfl⟩
      refine bnd (e1:=[some (.lst (as.map At.d)),some (.lst (cs.map .int)),some LS,some (It.ref l a b).d,some (.lst (qs.map At.d)),some (.int j),x]) rfl ?_
      have t0:∀ z:Str,D.ix (It.ref l a b).d (.int 0)=some (.str "ref"):=fun _=>rfl
      have t2:D.ix (.tup [.str (Str.ofString "ref"),.str l,.str a,.str b]) (.int 2)=some (.str a):=rfl
      have t3:D.ix (.tup [.str (Str.ofString "ref"),.str l,.str a,.str b]) (.int 3)=some (.str b):=rfl
      have t0:D.ix (.tup [.str (Str.ofString "ref"),.str l,.str a,.str b]) (.int 0)=some (.str (Str.ofString "ref")):=rfl
      have es:D.eqO (.str (Str.ofString "ref")) (.str (Str.ofString "ref"))=some (.bl true):=by simp [D.eqO,dep_str,eq_str,D.cmp]
      simp [sIf,eAnd,eOp,eV,eC,eLst,lN,sQ,sAsg,gS,sP,eTup,lC,eK,eUn,t0,t2,t3,eq,es,ln,md,ixl,mm,cx,ap',D.add,ifO_bl,seqO_nx]
    | word w ns=>subst hq;exact ⟨_,.inl (by have ap':=ap (.it (.word w ns));simp only [At.d,It.d] at ap';simp [sD,sQ,sIf,sRet,sAsg,sNx,gS,eV,eC,eOp,eUn,eNot,eAnd,eOr,eTup,eLst,eK,lN,lC,D.lt,D.sub,D.eqO,D.cmp,ifO_bl,seqO_nx,seqO_rt,dep_int,dep_str,eq_int,eq_str,mulA_int,D.neg,dep_lst,depL_nil,eq_lst,eqL_nil,D.add,D.len,D.neO,D.cmpN,loopD,turnO_nx,D.its,gUnp,gAll,D.ix,ixD,sP,ap',pt]),some (It.word w ns).d,some (.int j),x,rfl⟩
    | mark l=>subst hq;exact ⟨_,.inl (by have ap':=ap (.it (.mark l));simp only [At.d,It.d] at ap';simp [sD,sQ,sIf,sRet,sAsg,sNx,gS,eV,eC,eOp,eUn,eNot,eAnd,eOr,eTup,eLst,eK,lN,lC,D.lt,D.sub,D.eqO,D.cmp,ifO_bl,seqO_nx,seqO_rt,dep_int,dep_str,eq_int,eq_str,mulA_int,D.neg,dep_lst,depL_nil,eq_lst,eqL_nil,D.add,D.len,D.neO,D.cmpN,loopD,turnO_nx,D.its,gUnp,gAll,D.ix,ixD,sP,ap',pt]),some (It.mark l).d,some (.int j),x,rfl⟩
    | key l=>subst hq;exact ⟨_,.inl (by have ap':=ap (.it (.key l));simp only [At.d,It.d] at ap';simp [sD,sQ,sIf,sRet,sAsg,sNx,gS,eV,eC,eOp,eUn,eNot,eAnd,eOr,eTup,eLst,eK,lN,lC,D.lt,D.sub,D.eqO,D.cmp,ifO_bl,seqO_nx,seqO_rt,dep_int,dep_str,eq_int,eq_str,mulA_int,D.neg,dep_lst,depL_nil,eq_lst,eqL_nil,D.add,D.len,D.neO,D.cmpN,loopD,turnO_nx,D.its,gUnp,gAll,D.ix,ixD,sP,ap',pt]),some (It.key l).d,some (.int j),x,rfl⟩
   | bk b =>
    have hq':q=.bk b:=hq.symm
    subst hq'
    have ap':=ap (.bk b)
    refine ⟨_,.inl ?_,some b.d,some (.int j),x,rfl⟩
    cases b with
    | para is=>exact ha.elim
    | _=>simp only [At.d,Bk.d] at ap';simp [sD,sQ,sIf,sRet,sAsg,sNx,gS,eV,eC,eOp,eUn,eNot,eAnd,eOr,eTup,eLst,eK,lN,lC,D.lt,D.sub,D.eqO,D.cmp,ifO_bl,seqO_nx,seqO_rt,dep_int,dep_str,eq_int,eq_str,mulA_int,D.neg,dep_lst,depL_nil,eq_lst,eqL_nil,D.add,D.len,D.neO,D.cmpN,loopD,turnO_nx,D.its,gUnp,gAll,D.ix,ixD,sP,ap']
   | brk =>
    have hq':q=.brk:=hq.symm
    subst hq'
    have ap':=ap .brk
    refine ⟨_,.inl ?_,some At.brk.d,some (.int j),x,rfl⟩
    simp only [At.d] at ap';simp [sD,sQ,sIf,sRet,sAsg,sNx,gS,eV,eC,eOp,eUn,eNot,eAnd,eOr,eTup,eLst,eK,lN,lC,D.lt,D.sub,D.eqO,D.cmp,ifO_bl,seqO_nx,seqO_rt,dep_int,dep_str,eq_int,eq_str,mulA_int,D.neg,dep_lst,depL_nil,eq_lst,eqL_nil,D.add,D.len,D.neO,D.cmpN,loopD,turnO_nx,D.its,gUnp,gAll,D.ix,ixD,sP,ap']
   | fin=>exact ha.elim
  ·rintro e ⟨v,w,x,rfl⟩
   have:as.zipIdx.length=ps.length:=by simp [plen]
   rw [this,List.take_length]
   exact ret rfl
def isMK:It->Bool
 | .mark _=>true
 | .key _=>true
 | _=>false
def closeRow (row:List It):List It:=match row.getLast? with
 | some x=>if isMK x then row++[.word "end" []] else row
 | none=>row
def gStep:List Bk×List It->At->List Bk×List It
 | (bs,row),.it i=>(bs,row++[i])
 | (bs,row),.bk b=>((if closeRow row=[] then bs else bs++[.para (closeRow row)])++[b],[])
 | (bs,row),.brk=>(bs++[.para (closeRow row)],[])
 | (bs,row),.fin=>(if closeRow row=[] then bs else bs++[.para (closeRow row)],[])
def grp (as:List At):List Bk×List It:=as.foldl gStep ([],[])
theorem closeRow_len (row:List It):(closeRow row).length<=row.length+1:=by
 unfold closeRow
 split
 ·split
  ·simp
  ·omega
 ·omega
theorem grp_len (as:List At):∀ s:List Bk×List It,(as.foldl gStep s).1.length<=s.1.length+2*as.length/\(as.foldl gStep s).2.length<=s.2.length+as.length:=by
 induction as with
 | nil=>intro s;simp
 | cons a as ih =>
  intro s
  obtain ⟨h1,h2⟩:=ih (gStep s a)
  rw [List.foldl_cons,List.length_cons]
  have:(gStep s a).1.length<=s.1.length+2/\(gStep s a).2.length<=s.2.length+1:=by
   obtain ⟨bs,row⟩:=s
   cases a with
   | it i=>simp [gStep]
   | bk b=>simp only [gStep];split<;>simp
   | brk=>simp [gStep]
   | fin=>simp only [gStep];split<;>simp
  omega
theorem grp_take (as:List At) (i:Nat) (hi:i<as.length):grp (as.take (i+1))=gStep (grp (as.take i)) as[i]:=by
 unfold grp
 rw [List.take_succ_eq_append_getElem hi,List.foldl_append]
 rfl
theorem row_or (row:List It):row=[]\/∃ r x,row=r++[x]:=by
 rcases List.eq_nil_or_concat row with h | ⟨r,x,h⟩
 ·exact .inl h
 ·exact .inr ⟨r,x,by rw [h,List.concat_eq_append]⟩
theorem neIts (is:List It):D.neO (.lst (is.map It.d)) (.lst [])=some (.bl (!is.isEmpty)):=neNil dep_it (by decide) is
theorem appIts {is:List It} (x:It) (h:is.length<lI):D.app (.lst (is.map It.d)) x.d=some (.lst ((is++[x]).map It.d)):=app_at x h
theorem appBks {is:List Bk} (x:Bk) (h:is.length<lI):D.app (bks is) x.d=some (bks (is++[x])):=app_at (f:=Bk.d) x h
theorem close_at (A:Option D) (bs:Option D) (row:List It) (h:row.length<lI) (d:D) :
  (sIf (eAnd (eOp D.neO (eV 2) (eLst (lN))) (eOp D.inO (eOp D.ix (eOp D.ix (eV 2) (eUn D.neg (eC (.int 1)))) (eC (.int 0))) (eLst (lC (eC (.str "mark")) (lC (eC (.str "key")) lN))))) (sP 2 (eTup (lC (eC (.str "word")) (lC (eC (.str "end")) (lC (eLst (lN)) lN))))) (sNx)) [A,bs,some (.lst (row.map It.d)),some d]=some (.nx [A,bs,some (.lst ((closeRow row).map It.d)),some d]):=by
 have ne:=neIts row
 have ap:=appIts (.word "end" []) h
 simp only [It.d,strL,List.map_nil] at ap
 rcases row_or row with z | ⟨r,x,z⟩
 ·subst z
  simp only [List.map_nil] at ne
  simp [sIf,eAnd,eOp,eV,eLst,lN,ne,ifO_bl,sNx,closeRow]
 ·have il:D.ix (.lst (row.map It.d)) (.int (-1))=some x.d:=by rw [z,List.map_append];exact ixLast _ _
  have ie:row.isEmpty=false:=by rw [z];simp
  have cl:closeRow row=if isMK x then row++[.word "end" []] else row:=by unfold closeRow;rw [z];simp
  rw [ie] at ne
  rw [cl]
  have i0:∃ t:Str,D.ix x.d (.int 0)=some (.str t)/\D.inO (.str t) (.lst [.str (Str.ofString "mark"),.str (Str.ofString "key")])=some (.bl (isMK x)):=by
   cases x<;>exact ⟨_,rfl,by simp [D.inO,flatD,inD,eq_str,isMK]⟩
  obtain ⟨t,i0,i1⟩:=i0
  generalize (row++[It.word "end" []])=row2 at *
  generalize It.d x=X at *
  cases q:isMK x with
  | true =>
   rw [q] at i1
   rw [if_pos rfl]
   generalize row2.map It.d=R2 at *
   generalize row.map It.d=R at *
   simp [sIf,eAnd,eOp,eV,eLst,lN,lC,eC,eUn,D.neg,ne,il,i0,i1,ifO_bl,sP,eTup,ap]
  | false =>
   rw [q] at i1
   rw [if_neg (by decide)]
   generalize row.map It.d=R at *
   simp [sIf,eAnd,eOp,eV,eLst,lN,lC,eC,eUn,D.neg,ne,il,i0,i1,ifO_bl,sNx]
theorem para_at (A:D) (bs:List Bk) (row:List It) (h:bs.length<lI) (d:D) (t:Str) (ht:D.ix d (.int 0)=some (.str t)) :
  (sIf (eOr (eOp D.neO (eV 2) (eLst (lN))) (eOp D.eqO (eOp D.ix (eV 3) (eC (.int 0))) (eC (.str "break")))) (sP 1 (eTup (lC (eC (.str "para")) (lC (eV 2) lN)))) (sNx)) [some A,some (bks bs),some (.lst (row.map It.d)),some d]=some (.nx [some A,some (bks (if row=[]/\t≠"break" then bs else bs++[.para row])),some (.lst (row.map It.d)),some d]):=by
 have ne:=neIts row
 have ap:=appBks (.para row) h
 simp only [Bk.d] at ap
 have eb:D.eqO (.str t) (.str (Str.ofString "break"))=some (.bl (decide (t=Str.ofString "break"))):=by simp [D.eqO,dep_str,eq_str,D.cmp]
 cases q:row.isEmpty with
 | true =>
  have z:row=[]:=List.isEmpty_iff.mp q
  rw [q] at ne
  subst z
  simp only [List.map_nil] at ne ap
  by_cases w:t=Str.ofString "break"
  ·rw [if_neg (by simp [w])]
   rw [w] at eb ht
   generalize bks bs=B at *
   generalize bks (bs++_)=B2 at *
   simp [sIf,eOr,eOp,eV,eLst,lN,lC,eC,ne,ht,eb,ifO_bl,sP,eTup,ap]
  ·rw [if_pos ⟨rfl,w⟩]
   simp [sIf,eOr,eOp,eV,eLst,lN,lC,eC,ne,ht,eb,w,ifO_bl,sNx]
 | false =>
  have z:row≠[]:=fun z=>by rw [z] at q;cases q
  rw [q] at ne
  rw [if_neg (by simp [z])]
  generalize bks bs=B at *
  generalize bks (bs++_)=B2 at *
  generalize row.map It.d=R at *
  simp [sIf,eOr,eOp,eV,eLst,lN,lC,eC,ne,ifO_bl,sP,eTup,ap]
theorem grouped_at (as:List At) (h100:as.length<=100) (hs:∀ a∈as,AtS a):f_Lgrouped [.lst (as.map At.d)]=some (bks (grp (as++[.fin])).1):=by
 have key:∀ xs:List At,xs.length<=101->(∀ a∈xs,AtS a\/a=.fin)->D.add (.lst (as.map At.d)) (.lst [At.fin.d])=some (.lst (xs.map At.d))->f_Lgrouped [.lst (as.map At.d)]=some (bks (grp xs).1):=by
  intro xs hx ha hadd
  unfold f_Lgrouped b_Lgrouped
  refine stD rfl ?_
  refine st (e1:=[some (.lst (as.map At.d)),some (bks []),none,none]) (by simp [sD,sQ,sIf,sRet,sAsg,sNx,gS,eV,eC,eOp,eUn,eNot,eAnd,eOr,eTup,eLst,eK,lN,lC,D.lt,D.sub,D.eqO,D.cmp,ifO_bl,seqO_nx,seqO_rt,dep_int,dep_str,eq_int,eq_str,mulA_int,bks]) ?_
  refine st (e1:=[some (.lst (as.map At.d)),some (bks []),some (.lst []),none]) (by simp [sD,sQ,sIf,sRet,sAsg,sNx,gS,eV,eC,eOp,eUn,eNot,eAnd,eOr,eTup,eLst,eK,lN,lC,D.lt,D.sub,D.eqO,D.cmp,ifO_bl,seqO_nx,seqO_rt,dep_int,dep_str,eq_int,eq_str,mulA_int]) ?_
  refine stFor At.d xs (fun i e=>∃ v,e=[some (.lst (as.map At.d)),some (bks (grp (xs.take i)).1),some (.lst ((grp (xs.take i)).2.map It.d)),v]) ?_ ⟨none,rfl⟩ ?_ ?_
  ·simp only [At.d] at hadd
   simp [iLst,eOp,eV,eLst,eTup,lC,lN,eC,hadd,D.its]
  ·rintro i hi e ⟨v,rfl⟩
   rw [grp_take xs i hi]
   have hl:=grp_len (xs.take i) ([],[])
   have hb:(grp (xs.take i)).1.length<lI:=lt_big (by have:=hl.1;unfold grp;simp at this;omega)
   have hr:(grp (xs.take i)).2.length<lI:=lt_big (by have:=hl.2;unfold grp;simp at this;omega)
   have hx1:(grp (xs.take i)).1.length+1<lI:=lt_big (by have:=hl.1;unfold grp;simp at this;omega)
   have hAt:=ha xs[i] (List.getElem_mem hi)
   generalize xs[i]=a at *
   generalize grp (xs.take i)=s at *
   obtain ⟨bs,row⟩:=s
   generalize D.lst (as.map At.d)=AS at *
   simp only [] at hb hr hx1 ⊢
   cases a with
   | it x =>
    have ap:=appIts x hr
    refine ⟨[some AS,some (bks bs),some (.lst ((row++[x]).map It.d)),some x.d],.inr ?_,some x.d,rfl⟩
    refine bnd (e1:=[some AS,some (bks bs),some (.lst (row.map It.d)),some x.d]) rfl ?_
    have i0:∃ t:Str,D.ix x.d (.int 0)=some (.str t)/\D.inO (.str t) (.lst [.str (Str.ofString "mark"),.str (Str.ofString "key"),.str (Str.ofString "ref"),.str (Str.ofString "word")])=some (.bl true):=by
     cases x<;>exact ⟨_,rfl,by simp [D.inO,flatD,inD,eq_str]⟩
    obtain ⟨t,i0,i1⟩:=i0
    refine stC ?_
    generalize It.d x=X at *
    generalize (row++[x]).map It.d=R2 at *
    generalize row.map It.d=R at *
    simp [sIf,eOp,eV,eLst,lN,lC,eC,i0,i1,ifO_bl,sQ,sP,ap,seqO_nx,sCnt]
   | bk b =>
    have i0:∃ t:Str,D.ix b.d (.int 0)=some (.str t)/\D.inO (.str t) (.lst [.str (Str.ofString "mark"),.str (Str.ofString "key"),.str (Str.ofString "ref"),.str (Str.ofString "word")])=some (.bl false)/\D.notInO (.str t) (.lst [.str (Str.ofString "break"),.str (Str.ofString "end")])=some (.bl true)/\t≠Str.ofString "break":=by
     cases b<;>exact ⟨_,rfl,by simp [D.inO,flatD,inD,eq_str],by simp [D.notInO,flatD,inD,eq_str],by simp⟩
    obtain ⟨t,i0,i1,i2,i3⟩:=i0
    have pa:=para_at AS bs (closeRow row) hb b.d t i0
    have gs:gStep (bs,row) (.bk b)=((if closeRow row=[]/\t≠Str.ofString "break" then bs else bs++[.para (closeRow row)])++[b],[]):=by
     show ((if closeRow row=[] then bs else bs++[.para (closeRow row)])++[b],[])=_
     by_cases w:closeRow row=[]
     ·rw [if_pos w,if_pos ⟨w,i3⟩]
     ·rw [if_neg w,if_neg (by simp [w])]
    rw [gs]
    have hl2:(if closeRow row=[]/\t≠Str.ofString "break" then bs else bs++[.para (closeRow row)]).length<lI:=by
     split
     ·exact hb
     ·rw [List.length_append];exact hx1
    generalize (if closeRow row=[]/\t≠Str.ofString "break" then bs else bs++[.para (closeRow row)])=bs2 at *
    have ap:=appBks b hl2
    refine ⟨[some AS,some (bks (bs2++[b])),some (.lst []),some b.d],.inl ?_,some b.d,rfl⟩
    refine bnd (e1:=[some AS,some (bks bs),some (.lst (row.map It.d)),some b.d]) rfl ?_
    refine st (e1:=[some AS,some (bks bs),some (.lst (row.map It.d)),some b.d]) ?_ ?_
    ·generalize Bk.d b=X at *
     simp [sIf,eOp,eV,eLst,lN,lC,eC,i0,i1,ifO_bl,sNx]
    refine st (close_at (some AS) (some (bks bs)) row hr b.d) ?_
    refine st pa ?_
    refine st (e1:=[some AS,some (bks bs2),some (.lst []),some b.d]) rfl ?_
    generalize Bk.d b=X at *
    generalize bks bs2=B at *
    generalize bks (bs2++_)=B2 at *
    simp [sIf,eOp,eV,eLst,lN,lC,eC,i0,i2,ifO_bl,sP,ap]
   | brk =>
    have pa:=para_at AS bs (closeRow row) hb At.brk.d (Str.ofString "break") rfl
    rw [if_neg (by simp)] at pa
    refine ⟨[some AS,some (bks (bs++[.para (closeRow row)])),some (.lst []),some At.brk.d],.inl ?_,some At.brk.d,rfl⟩
    refine bnd (e1:=[some AS,some (bks bs),some (.lst (row.map It.d)),some At.brk.d]) rfl ?_
    refine st (e1:=[some AS,some (bks bs),some (.lst (row.map It.d)),some At.brk.d]) (by simp [sIf,eOp,eV,eLst,lN,lC,eC,D.ix,ixD,ifO_bl,sNx,D.inO,flatD,inD,eq_str]) ?_
    refine st (close_at (some AS) (some (bks bs)) row hr At.brk.d) ?_
    refine st pa ?_
    refine st (e1:=[some AS,some (bks (bs++[.para (closeRow row)])),some (.lst []),some At.brk.d]) rfl ?_
    simp [sIf,eOp,eV,eLst,lN,lC,eC,D.ix,ixD,ifO_bl,sNx,D.notInO,flatD,inD,eq_str]
   | fin =>
    have pa:=para_at AS bs (closeRow row) hb At.fin.d (Str.ofString "end") rfl
    have gs:gStep (bs,row) .fin=((if closeRow row=[]/\Str.ofString "end"≠Str.ofString "break" then bs else bs++[.para (closeRow row)]),[]):=by
     show (if closeRow row=[] then bs else bs++[.para (closeRow row)],[])=_
     by_cases w:closeRow row=[]
     ·rw [if_pos w,if_pos ⟨w,by simp⟩]
     ·rw [if_neg w,if_neg (by simp [w])]
    rw [gs]
    generalize (if closeRow row=[]/\Str.ofString "end"≠Str.ofString "break" then bs else bs++[.para (closeRow row)])=bs2 at *
    refine ⟨[some AS,some (bks bs2),some (.lst []),some At.fin.d],.inl ?_,some At.fin.d,rfl⟩
    refine bnd (e1:=[some AS,some (bks bs),some (.lst (row.map It.d)),some At.fin.d]) rfl ?_
    refine st (e1:=[some AS,some (bks bs),some (.lst (row.map It.d)),some At.fin.d]) (by simp [sIf,eOp,eV,eLst,lN,lC,eC,D.ix,ixD,ifO_bl,sNx,D.inO,flatD,inD,eq_str]) ?_
    refine st (close_at (some AS) (some (bks bs)) row hr At.fin.d) ?_
    refine st pa ?_
    refine st (e1:=[some AS,some (bks bs2),some (.lst []),some At.fin.d]) rfl ?_
    simp [sIf,eOp,eV,eLst,lN,lC,eC,D.ix,ixD,ifO_bl,sNx,D.notInO,flatD,inD,eq_str]
  ·rintro e ⟨v,rfl⟩
   rw [List.take_length]
   exact ret rfl
 refine key (as++[.fin]) (by simp;omega) (fun a h=>?_) ?_
 ·rcases List.mem_append.mp h with z | z
  ·exact .inl (hs a z)
  ·exact .inr (by simpa using z)
 ·show (if (as.map At.d).length+1<=lI then _ else _)=_
  rw [if_pos (Nat.le_trans (by rw [List.length_map];omega) (show 101<=lI by decide)),List.map_append]
  rfl
def isRef:It->Bool
 | .ref _ _ _=>true
 | _=>false
def isWd:It->Bool
 | .word _ _=>true
 | _=>false
def isPara:Bk->Bool
 | .para _=>true
 | _=>false
def tagI:It->Str
 | .word _ _=>"word"
 | .ref _ _ _=>"ref"
 | .mark _=>"mark"
 | .key _=>"key"
def tagB:Bk->Str
 | .chapter _ _=>"chapter"
 | .heading _ _ _=>"heading"
 | .para _=>"para"
 | .table _ _=>"table"
 | .plates _ _=>"plates"
theorem ix0_it (i:It):D.ix i.d (.int 0)=some (.str (tagI i)):=by cases i<;>rfl
theorem ix0_bk (i:Bk):D.ix i.d (.int 0)=some (.str (tagB i)):=by cases i<;>rfl
theorem eqS (x y:Str):D.eqO (.str x) (.str y)=some (.bl (decide (x=y))):=by simp [D.eqO,dep_str,eq_str,D.cmp]
theorem tag_ref (i:It):decide (tagI i=Str.ofString "ref")=isRef i:=by cases i<;>simp [tagI,isRef]
theorem tag_wd (i:It):decide (tagI i=Str.ofString "word")=isWd i:=by cases i<;>simp [tagI,isWd]
theorem tag_para (i:Bk):decide (tagB i=Str.ofString "para")=isPara i:=by cases i<;>simp [tagB,isPara]
def labI:It->Str
 | .ref l _ _=>l
 | _=>""
def refsI (is:List It):List Str:=(is.filter isRef).map labI
def iO:Bk->List It
 | .para is=>is
 | _=>[]
def rO (bs:List Bk):List Str:=bs.flatMap fun b=>refsI (iO b)
theorem itemsOf_at (b:Bk):f_items_of [b.d]=some (.lst ((iO b).map It.d)):=by
 unfold f_items_of b_items_of
 cases b<;>simp [mulA_int,eCut,cutA,lI,defD,sD,sQ,sIf,sRet,sRetN,sAsg,sAug,sDrop,sNx,sBrk,sCnt,gS,gUnp,gAll,eV,eC,eOp,eUn,eNot,eAnd,eOr,eIf,eChain,eTup,eLst,eK,lN,lC,eInst,oNo,oAt,eCutL,D.len,D.lt,D.le,D.gt,D.ge,D.add,D.sub,D.ix,D.eqO,D.neO,D.cmp,D.cmpN,D.inst,tyD,D.isT,D.intB,D.min2,D.max2,D.neg,D.addI,ifO_bl,notO_bl,ifO_ite,notO_ite,seqO_nx,seqO_rt,seqO_bk,seqO_ct,seqO_none,seqO_ite,endD_rt,endD_nx,endD_ite,bind_ite,map_ite,andO_some,dep_non,dep_bl,dep_int,dep_str,dep_tup,dep_lst,depL_nil,depL_cons,D.rng,D.its,D.itsT,eq_int,eq_bl,eq_str,eq_tup,eq_lst,eqL_nil,eqL_cons,ixD,iO]
theorem refsComp {it:EvI} {e:EnvD} (is:List It) (hit:it e=some (is.map It.d)) (hl:is.length<=lI):eComp 1 [] it (gS 0) (eOp D.eqO (eOp D.ix (eV 0) (eC (.int 0))) (eC (.str "ref"))) (eOp D.ix (eV 0) (eC (.int 1))) e=some (strL (refsI is)):=by
 have:=comp_at (g:=gS 0) (n:=1) (caps:=[]) (c:=eOp D.eqO (eOp D.ix (eV 0) (eC (.int 0))) (eC (.str "ref"))) (el:=eOp D.ix (eV 0) (eC (.int 1))) It.d is (fun e=>∃ v,e=[v]) isRef (fun i=>.str (labI i)) hit hl ⟨none,rfl⟩ (by
  rintro i _ e ⟨v,rfl⟩
  refine ⟨[some i.d],rfl,⟨_,rfl⟩,?_,fun h=>?_⟩
  ·have h1:=ix0_it i
   have h2:=tag_ref i
   generalize It.d i=X at *
   simp [eOp,eV,eC,h1,eqS,h2]
  ·cases i with
   | ref l a b=>rfl
   | _=>cases h)
 rw [this]
 unfold strL refsI
 rw [List.map_map]
 rfl
theorem fT {α β:Type} (f:α->List β) (xs:List α) (i:Nat) (hi:i<xs.length):(xs.take (i+1)).flatMap f=(xs.take i).flatMap f++f xs[i]:=by
 rw [List.take_succ_eq_append_getElem hi,List.flatMap_append];simp
theorem flatMap_take_len {α β:Type} (f:α->List β) (xs:List α) (i:Nat):((xs.take i).flatMap f).length<=(xs.flatMap f).length:=by
 conv=>rhs;rw [<- List.take_append_drop i xs,List.flatMap_append,List.length_append]
 omega
theorem ext_at {α:Type} {f:α->D} {xs ys:List α} (h:xs.length+ys.length<=lI):D.ext (.lst (xs.map f)) (.lst (ys.map f))=some (.lst ((xs++ys).map f)):=by
 show (if (xs.map f).length+(ys.map f).length<=lI then some (D.lst (xs.map f++ys.map f)) else none)=_
 rw [if_pos (by rw [List.length_map,List.length_map];exact h),List.map_append]
theorem addL {α:Type} {f:α->D} {xs ys:List α} (h:xs.length+ys.length<=lI):D.add (.lst (xs.map f)) (.lst (ys.map f))=some (.lst ((xs++ys).map f)):=by
 show (if (xs.map f).length+(ys.map f).length<=lI then some (D.lst (xs.map f++ys.map f)) else none)=_
 rw [if_pos (by rw [List.length_map,List.length_map];exact h),List.map_append]
def Few (bs:List Bk):Prop:=bs.length<=100000/\(bs.flatMap iO).length<=100000
theorem refsI_len (is:List It):(refsI is).length<=is.length:=by unfold refsI;rw [List.length_map];exact List.length_filter_le _ _
theorem refsOf_len (bs:List Bk):(rO bs).length<=(bs.flatMap iO).length:=by
 induction bs with
 | nil=>exact Nat.le_refl _
 | cons b bs ih =>
  have:=refsI_len (iO b)
  have ih':(bs.flatMap fun b=>refsI (iO b)).length<=(bs.flatMap iO).length:=ih
  show ((b::bs).flatMap fun b=>refsI (iO b)).length<=_
  rw [List.flatMap_cons,List.flatMap_cons,List.length_append,List.length_append]
  omega
theorem items_le {bs:List Bk} (h:Few bs) (b:Bk) (hb:b∈bs):(iO b).length<=100000:=by
 refine Nat.le_trans ?_ h.2
 obtain ⟨s,t,rfl⟩:=List.append_of_mem hb
 rw [List.flatMap_append,List.flatMap_cons]
 simp only [List.length_append]
 omega
theorem refs_at (bs:List Bk) (h:Few bs):f_refs [bks bs]=some (strL (rO bs)):=by
 have hr:=refsOf_len bs
 unfold f_refs b_refs
 refine stD rfl ?_
 refine st (e1:=[some (bks bs),some (strL []),none]) rfl ?_
 refine stFor Bk.d bs (fun i e=>∃ v,e=[some (bks bs),some (strL (rO (bs.take i))),v]) rfl ⟨none,rfl⟩ ?_ ?_
 ·rintro i hi e ⟨v,rfl⟩
  have t1:rO (bs.take (i+1))=rO (bs.take i)++refsI (iO bs[i]):=fT _ bs i hi
  have t2:=flatMap_take_len (fun b=>refsI (iO b)) bs (i+1)
  have t3:(rO (bs.take (i+1))).length<=(rO bs).length:=t2
  rw [t1,List.length_append] at t3
  rw [t1]
  refine ⟨[some (bks bs),some (strL (rO (bs.take i)++refsI (iO bs[i]))),some bs[i].d],.inl ?_,_,rfl⟩
  refine bnd (e1:=[some (bks bs),some (strL (rO (bs.take i))),some bs[i].d]) rfl ?_
  have hc:=refsComp (it:=iLst (eK f_items_of (lC (eV 2) lN))) (e:=[some (bks bs),some (strL (rO (bs.take i))),some bs[i].d]) (iO bs[i]) (by
   show ((f_items_of [bs[i].d]).bind fun d=>D.its d)=_
   rw [itemsOf_at];rfl) (lB (Nat.le_trans (items_le h bs[i] (List.getElem_mem hi)) (by decide)))
  have hx:D.ext (strL (rO (bs.take i))) (strL (refsI (iO bs[i])))=some (strL (rO (bs.take i)++refsI (iO bs[i]))):=ext_at (f:=D.str) (lB (by have:=h.2;omega))
  generalize strL (rO (bs.take i)++refsI (iO bs[i]))=Z at *
  generalize strL (refsI (iO bs[i]))=Y at *
  generalize strL (rO (bs.take i))=X at *
  simp only [sExt,hc]
  simp [eV,hx]
 ·rintro e ⟨v,rfl⟩
  rw [List.take_length]
  exact ret rfl
theorem listStrs (xs:List Str):D.listOf (strL xs)=some (strL xs):=rfl
theorem copyRow_at (bs:Option D) (fo:Option D) (b:D) (is:List It) (hit:D.ix b (.int 1)=some (.lst (is.map It.d))) (hl:is.length<=100000) (v:Option D):∃ v',sFor (iLst (eOp D.ix (eV 2) (eC (.int 1)))) (gS 4) (sIf (eOp D.eqO (eOp D.ix (eV 4) (eC (.int 0))) (eC (.str "word"))) (sP 3 (eTup (lC (eC (.str "word")) (lC (eOp D.ix (eV 4) (eC (.int 1))) (lC (eUn D.listOf (eOp D.ix (eV 4) (eC (.int 2)))) lN))))) (sP 3 (eV 4))) [bs,fo,some b,some (.lst []),v]=some (.nx [bs,fo,some b,some (.lst (is.map It.d)),v']):=by
 obtain ⟨e',h1,v',h2⟩:=loopN (g:=gS 4) (b:=sIf (eOp D.eqO (eOp D.ix (eV 4) (eC (.int 0))) (eC (.str "word"))) (sP 3 (eTup (lC (eC (.str "word")) (lC (eOp D.ix (eV 4) (eC (.int 1))) (lC (eUn D.listOf (eOp D.ix (eV 4) (eC (.int 2)))) lN))))) (sP 3 (eV 4))) It.d is (fun i e=>∃ v,e=[bs,fo,some b,some (.lst ((is.take i).map It.d)),v]) (by
  rintro i hi e ⟨v,rfl⟩
  have ap:D.app (.lst ((is.take i).map It.d)) is[i].d=some (.lst ((is.take (i+1)).map It.d)):=by
   rw [List.take_succ_eq_append_getElem hi]
   exact appIts _ (lt_big (by rw [List.length_take];omega))
  generalize is[i]=x at *
  generalize (is.take (i+1)).map It.d=Z at *
  generalize (is.take i).map It.d=Y at *
  refine ⟨[bs,fo,some b,some (.lst Z),some x.d],.inl ?_,_,rfl⟩
  refine bnd (e1:=[bs,fo,some b,some (.lst Y),some x.d]) rfl ?_
  cases x with
  | word w ns =>
   have ls:=listStrs ns
   simp only [It.d] at ap ⊢
   generalize strL ns=N at *
   simp [sIf,eOp,eV,eC,D.ix,ixD,eqS,ifO_bl,sP,eTup,lC,lN,eUn,ls,ap]
  | _ =>
   simp only [It.d] at ap
   simp [sIf,eOp,eV,eC,D.ix,ixD,eqS,ifO_bl,sP,ap]) [bs,fo,some b,some (.lst []),v] ⟨v,rfl⟩
 subst h2
 rw [List.take_length] at h1
 refine ⟨v',?_⟩
 simp only [sFor,iLst,eOp,eV,eC,List.getElem?_cons_zero,List.getElem?_cons_succ,Option.join_some,Option.bind_some,hit,D.its]
 exact h1
theorem copy_at (bs:List Bk) (h:Few bs):f_Lcopy [bks bs]=some (bks bs):=by
 unfold f_Lcopy b_Lcopy
 refine stD rfl ?_
 refine st (e1:=[some (bks bs),some (bks []),none,none,none]) rfl ?_
 refine stFor Bk.d bs (fun i e=>∃ u v w,e=[some (bks bs),some (bks (bs.take i)),u,v,w]) rfl ⟨none,none,none,rfl⟩ ?_ ?_
 ·rintro i hi e ⟨u,v,w,rfl⟩
  have ap:D.app (bks (bs.take i)) bs[i].d=some (bks (bs.take (i+1))):=by
   rw [List.take_succ_eq_append_getElem hi]
   exact appBks _ (lt_big (by rw [List.length_take];have:=h.1;omega))
  have hl:=items_le h bs[i] (List.getElem_mem hi)
  generalize bs[i]=x at *
  generalize bks (bs.take (i+1))=Z at *
  generalize bks (bs.take i)=Y at *
  generalize bks bs=B at *
  cases x with
  | para is =>
   obtain ⟨w',hc⟩:=copyRow_at (some B) (some Y) (Bk.para is).d is rfl hl w
   refine ⟨[some B,some Z,some (Bk.para is).d,some (.lst (is.map It.d)),w'],.inl ?_,_,_,_,rfl⟩
   refine bnd (e1:=[some B,some Y,some (Bk.para is).d,v,w]) rfl ?_
   have c:eOp D.eqO (eOp D.ix (eV 2) (eC (.int 0))) (eC (.str "para")) [some B,some Y,some (Bk.para is).d,v,w]=some (.bl true):=by simp [eOp,eV,eC,D.ix,ixD,eqS]
   unfold sIf
   rw [c,ifO_bl,if_pos rfl]
   refine st (e1:=[some B,some Y,some (Bk.para is).d,some (.lst []),w]) rfl ?_
   refine st hc ?_
   simp only [Bk.d] at ap
   simp [sP,eV,eTup,lC,lN,eC,ap]
  | table rs l =>
   refine ⟨[some B,some Z,some (Bk.table rs l).d,v,w],.inl ?_,_,_,_,rfl⟩
   refine bnd (e1:=[some B,some Y,some (Bk.table rs l).d,v,w]) rfl ?_
   have ls:=listStrs rs
   simp only [Bk.d] at ap ⊢
   generalize strL rs=N at *
   simp [sIf,eOp,eV,eC,D.ix,ixD,eqS,ifO_bl,sP,eTup,lC,lN,eUn,ls,ap]
  | chapter t l =>
   refine ⟨[some B,some Z,some (Bk.chapter t l).d,v,w],.inl ?_,_,_,_,rfl⟩
   simp only [Bk.d] at ap
   simp [gS,sIf,eOp,eV,eC,D.ix,ixD,eqS,ifO_bl,sP,ap]
  | heading t n l =>
   refine ⟨[some B,some Z,some (Bk.heading t n l).d,v,w],.inl ?_,_,_,_,rfl⟩
   simp only [Bk.d] at ap
   simp [gS,sIf,eOp,eV,eC,D.ix,ixD,eqS,ifO_bl,sP,ap]
  | plates n l =>
   refine ⟨[some B,some Z,some (Bk.plates n l).d,v,w],.inl ?_,_,_,_,rfl⟩
   simp only [Bk.d] at ap
   simp [gS,sIf,eOp,eV,eC,D.ix,ixD,eqS,ifO_bl,sP,ap]
 ·rintro e ⟨u,v,w,rfl⟩
  rw [List.take_length]
  exact ret rfl
def ItB:It->Prop
 | .word w ns=>(1<=w.length/\w.length<=40)/\ns.length<=30/\∀ r∈ns,r.length<=40
 | .ref _ a b=>a.length<=2/\b.length<=2
 | .mark _=>True
 | .key w=>1<=w.length/\w.length<=80
def BkB:Bk->Prop
 | .chapter t _=>1<=t.length/\t.length<=41
 | .heading t n _=>(1<=t.length/\t.length<=41)/\(0<=n/\n<=29)
 | .table rs _=>(1<=rs.length/\rs.length<=30)/\(∀ r∈rs,r.length<=40)
 | .plates n _=>1<=n/\n<=10^39
 | .para is=>∀ i∈is,ItB i
theorem lenS {x:Str} (h:x.length<=1000000):D.len (.str x)=some (.int x.length):=if_pos (lB h)
theorem intsOf_map:∀ xs:List Int,intsOf (xs.map .int)=some xs
 | []=>rfl
 | x::xs=>by
  show (intsOf (xs.map .int)).map (x::·)=_
  rw [intsOf_map xs];rfl
theorem maxL_at (w:Int) (xs:List Int):D.maxL (.lst ((w::xs).map .int))=some (.int (maxI w xs)):=by
 show (match intsOf ((w::xs).map .int) with
  | some (m::ns)=>some (D.int (maxI m ns))
  | _=>none)=_
 rw [intsOf_map]
def lens (rs:List Str):List Int:=rs.map fun r=>(r.length:Int)
theorem lensComp {it:EvI} {e:EnvD} (rs:List Str) (hit:it e=some (rs.map .str)) (hl:rs.length<=1000000) (hr:∀ r∈rs,r.length<=1000000):eComp 1 [] it (gS 0) (eC (.bl true)) (eUn D.len (eV 0)) e=some (.lst ((lens rs).map .int)):=by
 rw [comp_at (g:=gS 0) (n:=1) (caps:=[]) (c:=eC (.bl true)) (el:=eUn D.len (eV 0)) D.str rs (fun e=>∃ v,e=[v]) (fun _=>true) (fun r=>.int r.length) hit (lB hl) ⟨none,rfl⟩ (by
  rintro r hr' e ⟨v,rfl⟩
  refine ⟨[some (.str r)],rfl,⟨_,rfl⟩,rfl,fun _=>?_⟩
  simp [eUn,eV,lenS (hr r hr')])]
 rw [filter_tt]
 unfold lens
 rw [List.map_map]
 rfl
theorem maxComp {a:EvE} {e:EnvD} {i:Nat} {w:Int} (xs:List Int) (hv:eV i e=some (.int w)) (ha:a e=some (.lst (xs.map .int))) (hl:xs.length<=1000000):eUn D.maxL (eOp D.add (eLst (lC (eV i) lN)) a) e=some (.int (maxI w xs)):=by
 have h1:D.add (.lst [.int w]) (.lst (xs.map .int))=some (.lst ((w::xs).map .int)):=addL (f:=D.int) (xs:=[w]) (ys:=xs) (lineN_big' hl)
 have h2:=maxL_at w xs
 generalize (w::xs).map D.int=Z at *
 simp only [eUn,eOp,eLst,lC,lN,hv,ha,Option.bind_some,Option.map_some,h1,h2]
def wlen:It->Int
 | .word w _=>w.length
 | _=>0
def rlen (room:Int):It->Int
 | .ref _ a b=>a.length+room+b.length
 | _=>0
def notesI:It->List Str
 | .word _ ns=>ns
 | _=>[]
def notes (is:List It):List (List Str):=(is.filter isWd).map notesI
def needW (room w:Int):Bk->Int
 | .chapter t _=>if (t.length:Int)+2+room > w then (t.length:Int)+2+room else w
 | .heading t _ _=>if (t.length:Int)+2+room > w then (t.length:Int)+2+room else w
 | .table rs _=>maxI w (lens rs)
 | .plates _ _=>w
 | .para is=>(notes is).foldl (fun w ns=>maxI w (lens ns)) (maxI (maxI w ((is.filter isRef).map (rlen room))) ((is.filter isWd).map wlen))
def needH (h:Int):Bk->Int
 | .heading _ k _=>if k+1 > h then k+1 else h
 | .table rs _=>if (rs.length:Int) > h then (rs.length:Int) else h
 | .para is=>maxI h ((notes is).map fun ns=>1+(ns.length:Int))
 | _=>h
theorem wordComp {it:EvI} {e:EnvD} (is:List It) (hit:it e=some (is.map It.d)) (hl:is.length<=1000000) (hi:∀ i∈is,ItB i):eComp 1 [] it (gS 0) (eOp D.eqO (eOp D.ix (eV 0) (eC (.int 0))) (eC (.str "word"))) (eUn D.len (eOp D.ix (eV 0) (eC (.int 1)))) e=some (.lst (((is.filter isWd).map wlen).map .int)):=by
 rw [comp_at (g:=gS 0) (n:=1) (caps:=[]) (c:=eOp D.eqO (eOp D.ix (eV 0) (eC (.int 0))) (eC (.str "word"))) (el:=eUn D.len (eOp D.ix (eV 0) (eC (.int 1)))) It.d is (fun e=>∃ v,e=[v]) isWd (fun i=>.int (wlen i)) hit (lB hl) ⟨none,rfl⟩ (by
  rintro i hm e ⟨v,rfl⟩
  refine ⟨[some i.d],rfl,⟨_,rfl⟩,?_,fun h=>?_⟩
  ·have h1:=ix0_it i
   have h2:=tag_wd i
   generalize It.d i=X at *
   simp [eOp,eV,eC,h1,eqS,h2]
  ·cases i with
   | word w ns =>
    have hb:=(hi _ hm).1.2
    have ln:=lenS (x:=w) (by omega)
    simp [eUn,eOp,eV,eC,D.ix,ixD,ln,wlen]
   | _=>cases h)]
 rw [List.map_map]
 rfl
theorem refComp {it:EvI} {e:EnvD} (room:Int) (is:List It) (hc:capE 1 [1] e=[none,some (.int room)]) (hit:it e=some (is.map It.d)) (hl:is.length<=1000000) (hi:∀ i∈is,ItB i):eComp 1 [1] it (gS 0) (eOp D.eqO (eOp D.ix (eV 0) (eC (.int 0))) (eC (.str "ref"))) (eOp D.add (eOp D.add (eUn D.len (eOp D.ix (eV 0) (eC (.int 2)))) (eV 1)) (eUn D.len (eOp D.ix (eV 0) (eC (.int 3))))) e=some (.lst (((is.filter isRef).map (rlen room)).map .int)):=by
 rw [comp_at (g:=gS 0) (n:=1) (caps:=[1]) (c:=eOp D.eqO (eOp D.ix (eV 0) (eC (.int 0))) (eC (.str "ref"))) (el:=eOp D.add (eOp D.add (eUn D.len (eOp D.ix (eV 0) (eC (.int 2)))) (eV 1)) (eUn D.len (eOp D.ix (eV 0) (eC (.int 3))))) It.d is (fun e=>∃ v,e=[v,some (.int room)]) isRef (fun i=>.int (rlen room i)) hit (lB hl) ⟨none,hc⟩ (by
  rintro i hm e ⟨v,rfl⟩
  refine ⟨[some i.d,some (.int room)],rfl,⟨_,rfl⟩,?_,fun h=>?_⟩
  ·have h1:=ix0_it i
   have h2:=tag_ref i
   generalize It.d i=X at *
   simp [eOp,eV,eC,h1,eqS,h2]
  ·cases i with
   | ref l a b =>
    have hb:=hi _ hm
    have l1:=lenS (x:=a) (by have:=hb.1;omega)
    have l2:=lenS (x:=b) (by have:=hb.2;omega)
    simp [eUn,eOp,eV,eC,D.ix,ixD,l1,l2,rlen,add_int]
   | _=>cases h)]
 rw [List.map_map]
 rfl
theorem notesComp {it:EvI} {e:EnvD} (is:List It) (hit:it e=some (is.map It.d)) (hl:is.length<=1000000):eComp 1 [] it (gS 0) (eOp D.eqO (eOp D.ix (eV 0) (eC (.int 0))) (eC (.str "word"))) (eOp D.ix (eV 0) (eC (.int 2))) e=some (.lst ((notes is).map strL)):=by
 rw [comp_at (g:=gS 0) (n:=1) (caps:=[]) (c:=eOp D.eqO (eOp D.ix (eV 0) (eC (.int 0))) (eC (.str "word"))) (el:=eOp D.ix (eV 0) (eC (.int 2))) It.d is (fun e=>∃ v,e=[v]) isWd (fun i=>strL (notesI i)) hit (lB hl) ⟨none,rfl⟩ (by
  rintro i hm e ⟨v,rfl⟩
  refine ⟨[some i.d],rfl,⟨_,rfl⟩,?_,fun h=>?_⟩
  ·have h1:=ix0_it i
   have h2:=tag_wd i
   generalize It.d i=X at *
   simp [eOp,eV,eC,h1,eqS,h2]
  ·cases i with
   | word w ns=>rfl
   | _=>cases h)]
 unfold notes
 rw [List.map_map]
 rfl
theorem onesComp {it:EvI} {e:EnvD} (nss:List (List Str)) (hit:it e=some (nss.map strL)) (hl:nss.length<=1000000):eComp 1 [] it (gS 0) (eC (.bl true)) (eOp D.add (eC (.int 1)) (eUn D.len (eV 0))) e=some (.lst ((nss.map fun ns=>1+(ns.length:Int)).map .int)):=by
 rw [comp_at (g:=gS 0) (n:=1) (caps:=[]) (c:=eC (.bl true)) (el:=eOp D.add (eC (.int 1)) (eUn D.len (eV 0))) strL nss (fun e=>∃ v,e=[v]) (fun _=>true) (fun ns=>.int (1+(ns.length:Int))) hit (lB hl) ⟨none,rfl⟩ (by
  rintro r hr' e ⟨v,rfl⟩
  refine ⟨[some (strL r)],rfl,⟨_,rfl⟩,rfl,fun _=>?_⟩
  have ln:=lenStrs r
  generalize strL r=N at *
  simp [eUn,eV,eOp,eC,ln,add_int])]
 rw [filter_tt,List.map_map]
 rfl
theorem notes_b {is:List It} (hi:∀ i∈is,ItB i):∀ ns∈notes is,ns.length<=30/\∀ r∈ns,r.length<=40:=by
 intro ns h
 unfold notes at h
 obtain ⟨i,h1,rfl⟩:=List.mem_map.mp h
 obtain ⟨h2,h3⟩:=List.mem_filter.mp h1
 cases i with
 | word w ns=>exact ⟨(hi _ h2).2.1,(hi _ h2).2.2⟩
 | _=>cases h3
theorem notesLoop (B R H b nt:Option D) (nss:List (List Str)) (hn:∀ ns∈nss,ns.length<=30/\∀ r∈ns,r.length<=40) (w:Int) (v:Option D) (hl:nt=some (.lst (nss.map strL))):∃ v',sFor (iLst (eV 5)) (gS 6) (sAsg (eUn D.maxL (eOp D.add (eLst (lC (eV 2) lN)) (eComp 1 [] (iLst (eV 6)) (gS 0) (eC (.bl true)) (eUn D.len (eV 0))))) (gS 2)) [B,R,some (.int w),H,b,nt,v]=some (.nx [B,R,some (.int (nss.foldl (fun w ns=>maxI w (lens ns)) w)),H,b,nt,v']):=by
 obtain ⟨e',h1,v',h2⟩:=fFold (it:=iLst (eV 5)) (g:=gS 6) (b:=sAsg (eUn D.maxL (eOp D.add (eLst (lC (eV 2) lN)) (eComp 1 [] (iLst (eV 6)) (gS 0) (eC (.bl true)) (eUn D.len (eV 0))))) (gS 2)) (e:=[B,R,some (.int w),H,b,nt,v]) strL nss (fun (w:Int) e=>∃ v,e=[B,R,some (.int w),H,b,nt,v]) (fun w ns=>maxI w (lens ns)) w (by rw [hl];rfl) ⟨v,rfl⟩ (by
  rintro ns hm w e ⟨v,rfl⟩
  refine ⟨[B,R,some (.int (maxI w (lens ns))),H,b,nt,some (strL ns)],.inl ?_,_,rfl⟩
  refine bnd (e1:=[B,R,some (.int w),H,b,nt,some (strL ns)]) rfl ?_
  have hc:=lensComp (it:=iLst (eV 6)) (e:=[B,R,some (.int w),H,b,nt,some (strL ns)]) ns rfl (by have:=(hn ns hm).1;omega) (fun r hr=>by have:=(hn ns hm).2 r hr;omega)
  have hx:=maxComp (i:=2) (e:=[B,R,some (.int w),H,b,nt,some (strL ns)]) (lens ns) rfl hc (by unfold lens;rw [List.length_map];have:=(hn ns hm).1;omega)
  unfold sAsg
  rw [hx]
  rfl)
 exact ⟨v',h2▸h1⟩
theorem notes_len (is:List It):(notes is).length<=is.length:=by unfold notes;rw [List.length_map];exact List.length_filter_le _ _
def nBody:EvS:=sQ (sIf (eOr (eOp D.eqO (eOp D.ix (eV 4) (eC (.int 0))) (eC (.str "chapter"))) (eOp D.eqO (eOp D.ix (eV 4) (eC (.int 0))) (eC (.str "heading")))) (sAsg (eOp D.max2 (eV 2) (eOp D.add (eOp D.add (eUn D.len (eOp D.ix (eV 4) (eC (.int 1)))) (eC (.int 2))) (eV 1))) (gS 2)) (sNx)) (sQ (sIf (eOp D.eqO (eOp D.ix (eV 4) (eC (.int 0))) (eC (.str "heading"))) (sAsg (eOp D.max2 (eV 3) (eOp D.add (eOp D.ix (eV 4) (eC (.int 2))) (eC (.int 1)))) (gS 3)) (sNx)) (sQ (sIf (eOp D.eqO (eOp D.ix (eV 4) (eC (.int 0))) (eC (.str "table"))) (sQ (sAsg (eOp D.max2 (eV 3) (eUn D.len (eOp D.ix (eV 4) (eC (.int 1))))) (gS 3)) (sAsg (eUn D.maxL (eOp D.add (eLst (lC (eV 2) lN)) (eComp 1 [] (iLst (eOp D.ix (eV 4) (eC (.int 1)))) (gS 0) (eC (.bl true)) (eUn D.len (eV 0))))) (gS 2))) (sNx)) (sIf (eOp D.eqO (eOp D.ix (eV 4) (eC (.int 0))) (eC (.str "para"))) (sQ (sAsg (eUn D.maxL (eOp D.add (eLst (lC (eV 2) lN)) (eComp 1 [1] (iLst (eOp D.ix (eV 4) (eC (.int 1)))) (gS 0) (eOp D.eqO (eOp D.ix (eV 0) (eC (.int 0))) (eC (.str "ref"))) (eOp D.add (eOp D.add (eUn D.len (eOp D.ix (eV 0) (eC (.int 2)))) (eV 1)) (eUn D.len (eOp D.ix (eV 0) (eC (.int 3)))))))) (gS 2)) (sQ (sAsg (eUn D.maxL (eOp D.add (eLst (lC (eV 2) lN)) (eComp 1 [] (iLst (eOp D.ix (eV 4) (eC (.int 1)))) (gS 0) (eOp D.eqO (eOp D.ix (eV 0) (eC (.int 0))) (eC (.str "word"))) (eUn D.len (eOp D.ix (eV 0) (eC (.int 1))))))) (gS 2)) (sQ (sAsg (eComp 1 [] (iLst (eOp D.ix (eV 4) (eC (.int 1)))) (gS 0) (eOp D.eqO (eOp D.ix (eV 0) (eC (.int 0))) (eC (.str "word"))) (eOp D.ix (eV 0) (eC (.int 2)))) (gS 5)) (sQ (sAsg (eUn D.maxL (eOp D.add (eLst (lC (eV 3) lN)) (eComp 1 [] (iLst (eV 5)) (gS 0) (eC (.bl true)) (eOp D.add (eC (.int 1)) (eUn D.len (eV 0)))))) (gS 3)) (sFor (iLst (eV 5)) (gS 6) (sAsg (eUn D.maxL (eOp D.add (eLst (lC (eV 2) lN)) (eComp 1 [] (iLst (eV 6)) (gS 0) (eC (.bl true)) (eUn D.len (eV 0))))) (gS 2))))))) (sNx))))
theorem asg {a:EvE} {g:EvG} {e e1:EnvD} {d:D} (h:a e=some d) (hg:g d e=some e1):sAsg a g e=some (.nx e1):=by unfold sAsg;rw [h];show (g d e).map _=_;rw [hg];rfl
theorem ifT {c:EvE} {a b:EvS} {e:EnvD} {r:Option Fl} (h:c e=some (.bl true)) (ha:a e=r):sIf c a b e=r:=by unfold sIf;rw [h];exact ha
theorem ifF {c:EvE} {a b:EvS} {e:EnvD} {r:Option Fl} (h:c e=some (.bl false)) (ha:b e=r):sIf c a b e=r:=by unfold sIf;rw [h];exact ha
theorem nBody_at (B:D) (room w h:Int) (b:Bk) (hb:BkB b) (hl:(iO b).length<=100000) (u v:Option D):∃ u' v',nBody [some B,some (.int room),some (.int w),some (.int h),some b.d,u,v]=some (.nx [some B,some (.int room),some (.int (needW room w b)),some (.int (needH h b)),some b.d,u',v']):=by
 have tg:∀ (e:EnvD),eV 4 e=some b.d->∀ t:Str,eOp D.eqO (eOp D.ix (eV 4) (eC (.int 0))) (eC (.str t)) e=some (.bl (decide (tagB b=t))):=by
  intro e he t
  have i0:=ix0_bk b
  generalize Bk.d b=X at *
  simp only [eOp,eC,he,Option.bind_some,i0,eqS]
 unfold nBody
 cases b with
 | chapter t l =>
  have ln:=lenS (x:=t) (by have:=hb.2;omega)
  refine ⟨u,v,?_⟩
  refine st (e1:=[some B,some (.int room),some (.int (needW room w (.chapter t l))),some (.int h),some (Bk.chapter t l).d,u,v]) (by simp [sIf,eOr,eOp,eV,eC,D.ix,ixD,eqS,ifO_bl,sAsg,gS,eUn,ln,add_int,D.max2,needW]) ?_
  simp [sQ,seqO_nx,sIf,eOr,eOp,eV,eC,D.ix,ixD,eqS,ifO_bl,sNx,needH]
 | heading t k l =>
  have ln:=lenS (x:=t) (by have:=hb.1.2;omega)
  refine ⟨u,v,?_⟩
  refine st (e1:=[some B,some (.int room),some (.int (needW room w (.heading t k l))),some (.int h),some (Bk.heading t k l).d,u,v]) (by simp [sIf,eOr,eOp,eV,eC,D.ix,ixD,eqS,ifO_bl,sAsg,gS,eUn,ln,add_int,D.max2,needW]) ?_
  simp [sQ,seqO_nx,sIf,eOr,eOp,eV,eC,D.ix,ixD,eqS,ifO_bl,sNx,sAsg,gS,D.max2,add_int,needH]
 | plates n l =>
  refine ⟨u,v,?_⟩
  simp [sQ,seqO_nx,sIf,eOr,eOp,eV,eC,D.ix,ixD,eqS,ifO_bl,sNx,needH,needW]
 | table rs l =>
  refine ⟨u,v,?_⟩
  refine st (e1:=[some B,some (.int room),some (.int w),some (.int h),some (Bk.table rs l).d,u,v]) (by simp [sIf,eOr,eOp,eV,eC,D.ix,ixD,eqS,ifO_bl,sNx]) ?_
  refine st (e1:=[some B,some (.int room),some (.int w),some (.int h),some (Bk.table rs l).d,u,v]) (by simp [sIf,eOr,eOp,eV,eC,D.ix,ixD,eqS,ifO_bl,sNx]) ?_
  refine st (e1:=[some B,some (.int room),some (.int (needW room w (.table rs l))),some (.int (needH h (.table rs l))),some (Bk.table rs l).d,u,v]) ?_ (by simp [sIf,eOp,eV,eC,D.ix,ixD,eqS,ifO_bl,sNx])
  refine ifT (by rw [tg _ rfl];simp [tagB]) ?_
  refine st (e1:=[some B,some (.int room),some (.int w),some (.int (needH h (.table rs l))),some (Bk.table rs l).d,u,v]) ?_ ?_
  ·have ln:=lenStrs rs
   simp only [Bk.d]
   generalize strL rs=N at *
   simp [sAsg,eOp,eV,eC,eUn,D.ix,ixD,ln,D.max2,gS,needH]
  ·refine asg (maxComp (lens rs) rfl (lensComp rs rfl (by have:=hb.1.2;omega) (fun r hr=>by have:=hb.2 r hr;omega)) (by unfold lens;rw [List.length_map];have:=hb.1.2;omega)) rfl
 | para is =>
  have hl':is.length<=100000:=hl
  have hi:∀ i∈is,ItB i:=hb
  obtain ⟨W1,e1⟩:∃ W1,maxI w ((is.filter isRef).map (rlen room))=W1:=⟨_,rfl⟩
  obtain ⟨W2,e2⟩:∃ W2,maxI W1 ((is.filter isWd).map wlen)=W2:=⟨_,rfl⟩
  obtain ⟨v',hv⟩:=notesLoop (some B) (some (.int room)) (some (.int (needH h (.para is)))) (some (Bk.para is).d) (some (.lst ((notes is).map strL))) (notes is) (notes_b hi) W2 v rfl
  have l1:((is.filter isRef).map (rlen room)).length<=1000000:=by rw [List.length_map];have:=List.length_filter_le isRef is;omega
  have l2:((is.filter isWd).map wlen).length<=1000000:=by rw [List.length_map];have:=List.length_filter_le isWd is;omega
  have l3:=notes_len is
  refine ⟨some (.lst ((notes is).map strL)),v',?_⟩
  refine st (e1:=[some B,some (.int room),some (.int w),some (.int h),some (Bk.para is).d,u,v]) (by simp [sIf,eOr,eOp,eV,eC,D.ix,ixD,eqS,ifO_bl,sNx]) ?_
  refine st (e1:=[some B,some (.int room),some (.int w),some (.int h),some (Bk.para is).d,u,v]) (by simp [sIf,eOr,eOp,eV,eC,D.ix,ixD,eqS,ifO_bl,sNx]) ?_
  refine st (e1:=[some B,some (.int room),some (.int w),some (.int h),some (Bk.para is).d,u,v]) (by simp [sIf,eOr,eOp,eV,eC,D.ix,ixD,eqS,ifO_bl,sNx]) ?_
  refine ifT (by rw [tg _ rfl];simp [tagB]) ?_
  refine st (e1:=[some B,some (.int room),some (.int W1),some (.int h),some (Bk.para is).d,u,v]) (by rw [<- e1];exact asg (maxComp _ rfl (refComp room is rfl rfl (by omega) hi) l1) rfl) ?_
  refine st (e1:=[some B,some (.int room),some (.int W2),some (.int h),some (Bk.para is).d,u,v]) (by rw [<- e2];exact asg (maxComp _ rfl (wordComp is rfl (by omega) hi) l2) rfl) ?_
  refine st (e1:=[some B,some (.int room),some (.int W2),some (.int h),some (Bk.para is).d,some (.lst ((notes is).map strL)),v]) (asg (notesComp is rfl (by omega)) rfl) ?_
  refine st (e1:=[some B,some (.int room),some (.int W2),some (.int (needH h (.para is))),some (Bk.para is).d,some (.lst ((notes is).map strL)),v]) (asg (maxComp _ rfl (onesComp (notes is) rfl (by omega)) (by rw [List.length_map];omega)) rfl) ?_
  have fin:needW room w (.para is)=(notes is).foldl (fun w ns=>maxI w (lens ns)) W2:=by rw [<- e2,<- e1];rfl
  rw [fin]
  exact hv
def needs (room:Int) (bs:List Bk):Int×Int:=bs.foldl (fun s b=>(needW room s.1 b,needH s.2 b)) (4,2)
theorem needs_at (bs:List Bk) (room:Int) (hf:Few bs) (hb:∀ b∈bs,BkB b):f_Lneeds [bks bs,.int room]=some (.tup [.int (needs room bs).1,.int (needs room bs).2]):=by
 unfold f_Lneeds b_Lneeds
 refine stD rfl ?_
 refine st (e1:=[some (bks bs),some (.int room),some (.int 4),none,none,none,none]) rfl ?_
 refine st (e1:=[some (bks bs),some (.int room),some (.int 4),some (.int 2),none,none,none]) rfl ?_
 refine stFold (b:=nBody) Bk.d bs (fun (s:Int×Int) e=>∃ a u v,e=[some (bks bs),some (.int room),some (.int s.1),some (.int s.2),a,u,v]) (fun s b=>(needW room s.1 b,needH s.2 b)) (4,2) rfl ⟨none,none,none,rfl⟩ ?_ ?_
 ·rintro b hm s e ⟨a,u,v,rfl⟩
  obtain ⟨u',v',h⟩:=nBody_at (bks bs) room s.1 s.2 b (hb b hm) (items_le hf b hm) u v
  exact ⟨_,.inl (bnd (e1:=[some (bks bs),some (.int room),some (.int s.1),some (.int s.2),some b.d,u,v]) rfl h),_,_,_,rfl⟩
 ·rintro e ⟨a,u,v,rfl⟩
  exact ret rfl
theorem ofString_len (s:String):(Str.ofString s).length=s.toList.length:=by
 show (cpsOfBytes 0 0 s.toByteArray.data.toList).toArray.size=_
 rw [cpsOfBytes_string]
 simp
def digs (n:Nat):Nat:=(Nat.toDigits 10 n).length
theorem str_len (n:Nat):(Str.ofString (toString (n:Int))).length=digs n:=by
 rw [ofString_len]
 show (Nat.repr n).toList.length=_
 rw [Nat.toList_repr]
 rfl
theorem digs_pos (n:Nat):1<=digs n:=Nat.length_toDigits_pos
theorem digs_hi (n:Nat):n<10^digs n:=(Nat.length_toDigits_le_iff (by decide) (digs_pos n)).mp (Nat.le_refl _)
theorem digs_le (n:Nat) (h:n<10^60):digs n<=60:=(Nat.length_toDigits_le_iff (by decide) (by decide)).mpr h
def isSet (i:It):Bool:=isWd i||isRef i
def bkMost (li:Bool):Bk->Int
 | .chapter _ _=>2+(if li then 2 else 0)
 | .heading _ _ _=>2+(if li then 2 else 0)
 | .table _ _=>2
 | .plates n _=>2+n
 | .para is=>2+2*((is.filter isSet).length:Int)
def most (li:Bool) (bs:List Bk):Int:=bs.foldl (fun s b=>s+bkMost li b) 3
theorem setComp {it:EvI} {e:EnvD} (is:List It) (hit:it e=some (is.map It.d)) (hl:is.length<=1000000):eComp 1 [] it (gS 0) (eOr (eOp D.eqO (eOp D.ix (eV 0) (eC (.int 0))) (eC (.str "word"))) (eOp D.eqO (eOp D.ix (eV 0) (eC (.int 0))) (eC (.str "ref")))) (eV 0) e=some (.lst ((is.filter isSet).map It.d)):=by
 rw [comp_at (g:=gS 0) (n:=1) (caps:=[]) (c:=eOr (eOp D.eqO (eOp D.ix (eV 0) (eC (.int 0))) (eC (.str "word"))) (eOp D.eqO (eOp D.ix (eV 0) (eC (.int 0))) (eC (.str "ref")))) (el:=eV 0) It.d is (fun e=>∃ v,e=[v]) isSet It.d hit (lB hl) ⟨none,rfl⟩ (by
  rintro i hm e ⟨v,rfl⟩
  refine ⟨[some i.d],rfl,⟨_,rfl⟩,?_,fun h=>rfl⟩
  have h1:=ix0_it i
  have h2:=tag_wd i
  have h3:=tag_ref i
  unfold isSet
  generalize It.d i=X at *
  cases q:isWd i<;>rw [q] at h2<;>simp [eOr,eOp,eV,eC,h1,eqS,h2,h3,ifO_bl])]
theorem mul2 (m:Int):D.mulA (.int 2) (.int m)=some (.int (2*m)):=(mulA_int 2 m).trans (mul_l (by decide))
theorem most_at (bs:List Bk) (li:Bool) (hf:Few bs):f_Lmost [bks bs,.bl li]=some (.int (most li bs)):=by
 unfold f_Lmost b_Lmost
 refine stD rfl ?_
 refine st (e1:=[some (bks bs),some (.bl li),some (.int 3),none]) rfl ?_
 refine stFold Bk.d bs (fun (s:Int) e=>∃ a,e=[some (bks bs),some (.bl li),some (.int s),a]) (fun s b=>s+bkMost li b) 3 rfl ⟨none,rfl⟩ ?_ ?_
 ·rintro b hm s e ⟨a,rfl⟩
  refine ⟨[some (bks bs),some (.bl li),some (.int (s+bkMost li b)),some b.d],.inl (bnd (e1:=[some (bks bs),some (.bl li),some (.int s),some b.d]) rfl ?_),_,rfl⟩
  have hl:=items_le hf b hm
  generalize bks bs=B at *
  refine st (e1:=[some B,some (.bl li),some (.int (s+2)),some b.d]) rfl ?_
  cases b with
  | para is =>
   have hl':is.length<=1000000:=Nat.le_trans (show is.length<=100000 from hl) (by decide)
   refine st (e1:=[some B,some (.bl li),some (.int (s+2)),some (Bk.para is).d]) (by cases li<;>simp [sIf,eAnd,eOr,eOp,eV,eC,D.ix,ixD,eqS,ifO_bl,sNx]) ?_
   refine st (e1:=[some B,some (.bl li),some (.int (s+2)),some (Bk.para is).d]) (by simp [sIf,eOp,eV,eC,D.ix,ixD,eqS,ifO_bl,sNx]) ?_
   refine ifT (by simp [eOp,eV,eC,D.ix,ixD,eqS]) ?_
   have hc:=setComp (it:=iLst (eOp D.ix (eV 3) (eC (.int 1)))) (e:=[some B,some (.bl li),some (.int (s+2)),some (Bk.para is).d]) is rfl hl'
   have ln:D.len (.lst ((is.filter isSet).map It.d))=some (.int (is.filter isSet).length):=by
    show some (D.int ((is.filter isSet).map It.d).length)=_
    rw [List.length_map]
   have fin:s+bkMost li (.para is)=s+2+2*((is.filter isSet).length:Int):=by show s+(2+2*((is.filter isSet).length:Int))=_;omega
   rw [fin]
   generalize ((is.filter isSet).length:Int)=m at *
   refine asg ?_ rfl
   simp only [eOp,eUn,hc,Option.bind_some,ln,eC,mul2,eV,List.getElem?_cons_zero,List.getElem?_cons_succ,Option.join_some,add_int]
  | chapter t l=>cases li<;>simp [sQ,seqO_nx,sIf,eAnd,eOr,eOp,eV,eC,D.ix,ixD,eqS,ifO_bl,sNx,sAsg,gS,add_int,bkMost]<;>omega
  | heading t k l=>cases li<;>simp [sQ,seqO_nx,sIf,eAnd,eOr,eOp,eV,eC,D.ix,ixD,eqS,ifO_bl,sNx,sAsg,gS,add_int,bkMost]<;>omega
  | table rs l=>cases li<;>simp [sQ,seqO_nx,sIf,eAnd,eOr,eOp,eV,eC,D.ix,ixD,eqS,ifO_bl,sNx,sAsg,gS,add_int,bkMost]
  | plates n l=>cases li<;>simp [sQ,seqO_nx,sIf,eAnd,eOr,eOp,eV,eC,D.ix,ixD,eqS,ifO_bl,sNx,sAsg,gS,add_int,bkMost]<;>omega
 ·rintro e ⟨a,rfl⟩
  exact ret rfl
def edgeN (ns:List Int):Int:=1+mix (cell ns 4) 19%6
def edge (ns:List Int) (w h:Int) (li:Bool):List Bk:=if li=true\/cell ns 4%3≠1 then [] else
 [.plates (10^(edgeN ns).toNat-2) "",.table (List.replicate (h-1).toNat "") "",.para [.word (mulS "w" (if w-1-edgeN ns > 1 then w-1-edgeN ns else 1)) [],.mark "z",.ref "z" "" ""]]
theorem edgeN_b (ns:List Int):1<=edgeN ns/\edgeN ns<=6:=by unfold edgeN;omega
theorem edge_at (ns:List Int) (w h:Int) (o li:Bool) (hw:4<=w/\w<=1000) (hh:2<=h/\h<=1000):f_Ledge [.scr ns,.tup [.int w,.int h,.bl o,.bl li]]=some (bks (edge ns w h li)):=by
 have c4:f_Lcell_at [.scr ns,.int 4]=some (.int (cell ns 4)):=cell_at ns 4
 have m19:=mix_at (cell ns 4) 19 (by decide) (by decide)
 unfold f_Ledge b_Ledge edge
 by_cases z:li=true\/cell ns 4%3≠1
 ·rw [if_pos z]
  refine stD rfl ?_
  refine stR ?_
  rcases z with z | z
  ·subst z
   simp [sIf,eOr,eOp,eV,eC,D.ix,ixD,ifO_bl,sRet,eLst,lN,bks,sD]
  ·cases li<;>simp [sIf,eOr,eOp,eV,eC,D.ix,ixD,ifO_bl,sRet,eLst,lN,lC,eK,c4,modp,D.neO,dep_int,D.cmpN,eq_int,z,bks,sD]
 ·rw [if_neg z]
  have z1:li=false:=by cases li<;>simp_all
  have z2:cell ns 4%3=1:=by simp_all
  subst z1
  obtain ⟨eb0,eb1⟩:=edgeN_b ns
  have en:1+mix (cell ns 4) 19%6=edgeN ns:=rfl
  generalize edgeN ns=N at *
  refine stD rfl ?_
  refine st (e1:=[some (.scr ns),some (.tup [.int w,.int h,.bl o,.bl false]),none,none,none,none]) (by simp [sIf,eOr,eOp,eV,eC,D.ix,ixD,ifO_bl,sRet,eLst,lN,lC,eK,c4,modp,D.neO,dep_int,D.cmpN,eq_int,z2,sD,sNx]) ?_
  refine st (e1:=[some (.scr ns),some (.tup [.int w,.int h,.bl o,.bl false]),some (.int N),none,none,none]) (by simp [sAsg,eOp,eV,eC,lN,lC,eK,c4,m19,modp,add_int,en,gS]) ?_
  refine st (e1:=[some (.scr ns),some (.tup [.int w,.int h,.bl o,.bl false]),some (.int N),some (.int 1),none,none]) rfl ?_
  obtain ⟨v,el⟩:=tenE 1 (some (.scr ns)) (some (.tup [.int w,.int h,.bl o,.bl false])) (some (.int N)) none none (rD 0 N.toNat)
  rw [rngD_len,Int.one_mul] at el
  have p39:(10:Int)^N.toNat<=10^6:=by
   have:N=1\/N=2\/N=3\/N=4\/N=5\/N=6:=by omega
   rcases this with q | q | q | q | q | q<;>subst q<;>decide
  refine st (e1:=[some (.scr ns),some (.tup [.int w,.int h,.bl o,.bl false]),some (.int N),some (.int (10^N.toNat)),v,none]) (by unfold sFor iRng;simp only [eV,List.getElem?_cons_zero,List.getElem?_cons_succ,Option.join_some,Option.bind_some,rng_at N (by omega)];exact el) ?_
  generalize (10:Int)^N.toNat=T at *
  have mx:D.max2 (.int 1) (.int (w-1-N))=some (.int (if w-1-N > 1 then w-1-N else 1)):=rfl
  obtain ⟨M,eM,M0,M1⟩:∃ M:Int,(if w-1-N > 1 then w-1-N else 1)=M/\1<=M/\M<=1000:=⟨_,rfl,by split<;>omega,by split<;>omega⟩
  rw [eM] at mx ⊢
  have wl:(Str.ofString "w").length=1:=by decide +kernel
  have mw:D.mulA (.str (Str.ofString "w")) (.int M)=some (.str (mulS (Str.ofString "w") M)):=mulS_at ⟨by omega,by omega,lB (by rw [wl];omega)⟩
  generalize mulS (Str.ofString "w") M=WW at *
  refine st (e1:=[some (.scr ns),some (.tup [.int w,.int h,.bl o,.bl false]),some (.int N),some (.int T),v,some (.lst ([It.word WW [],.mark "z",.ref "z" "" ""].map It.d))]) (by simp [sAsg,eLst,lC,lN,eTup,eC,eOp,eV,D.ix,ixD,D.sub,mx,mw,gS,strL]) ?_
  have hc:eComp 1 [] (iRng (eOp D.sub (eOp D.ix (eV 1) (eC (.int 1))) (eC (.int 1)))) (gS 0) (eC (.bl true)) (eC (.str "")) [some (.scr ns),some (.tup [.int w,.int h,.bl o,.bl false]),some (.int N),some (.int T),v,some (.lst ([It.word WW [],.mark "z",.ref "z" "" ""].map It.d))]=some (strL (List.replicate (h-1).toNat "")):=by
   obtain ⟨m,em⟩:∃ m:Nat,h-1=m:=⟨(h-1).toNat,by omega⟩
   rw [comp_at (fun i:Nat=>D.int (0+(i:Int))) (List.range m) (fun e=>∃ v,e=[v]) (fun _=>true) (fun _=>.str "") (by show D.rng (.int (h-1))=_;rw [em];exact rng_nat m (by omega)) (lB (by simp;omega)) ⟨none,rfl⟩ (by
    rintro i hi e ⟨v,rfl⟩
    exact ⟨[some (.int (0+(i:Int)))],rfl,⟨_,rfl⟩,rfl,fun _=>rfl⟩)]
   rw [filter_tt,em]
   unfold strL
   simp [List.map_const']
  have ds:D.sub (.int T) (.int 2)=some (.int (T-2)):=rfl
  refine ret ?_
  simp only [eLst,lC,eTup,lN,hc,eOp,eC,eV,List.getElem?_cons_zero,List.getElem?_cons_succ,Option.join_some,Option.bind_some,Option.map_some,ds]
  rfl
noncomputable def atomOf (c:Int) (k:Nat):At:=if h:k<58 then Classical.choose (atom_at c k h) else .brk
theorem atomOf_at (c:Int) (k:Nat) (h:k<58):f_Latom [.int c,.int k]=some (atomOf c k).d/\AtOk k (atomOf c k):=by
 unfold atomOf
 rw [dif_pos h]
 exact Classical.choose_spec (atom_at c k h)
def every (ns:List Int):List Int:=cutD ns none (some 63)++[7]
theorem cut63_len (ns:List Int):(cutD ns none (some 63)).length<=63:=by
 unfold cutD sIxD
 rw [List.length_take]
 simp only []
 rw [if_neg (by decide)]
 omega
def drawnN:Nat:=58
def dCells (ns:List Int):List Int:=(List.range (mix (cell ns 5) 29%drawnN).toNat).map fun k:Nat=>(every ns).getD ((k:Int)%((every ns).length:Int)).toNat 0
theorem dCells_len (ns:List Int):(dCells ns).length<drawnN:=by
 unfold dCells
 rw [List.length_map,List.length_range]
 have h1:=Int.emod_lt_of_pos (mix (cell ns 5) 29) (show (0:Int)<drawnN by decide)
 have h2:=Int.emod_nonneg (mix (cell ns 5) 29) (show (drawnN:Int)≠0 by decide)
 omega
theorem drawnN_le:drawnN<=58:=by decide
noncomputable def dAtoms (cs:List Int):List At:=cs.zipIdx.map fun p=>atomOf p.1 p.2
theorem dAtoms_len (cs:List Int):(dAtoms cs).length=cs.length:=by unfold dAtoms;simp
noncomputable def dBook (cs:List Int):List Bk:=(grp (pointed cs (dAtoms cs)++[.fin])).1
def AtB:At->Prop
 | .bk (.para _)=>False
 | .bk b=>BkB b
 | .it i=>ItB i
 | .brk=>True
 | .fin=>False
theorem atOk_B {k:Nat}:∀ {a:At},AtOk k a->AtB a
 | .brk,h=>trivial
 | .bk (.chapter t l),h=>h.1
 | .bk (.heading t n l),h=>⟨h.1,h.2.1⟩
 | .bk (.table rs l),h=>⟨h.1,h.2.1⟩
 | .bk (.plates n l),h=>h.1
 | .it (.mark l),h=>trivial
 | .it (.key w),h=>h
 | .it (.ref l a b),h=>h.2
 | .it (.word w ns),h=>h
 | .bk (.para _),h=>h.elim
 | .fin,h=>h.elim
theorem atB_S:∀ {a:At},AtB a->AtS a
 | .brk,h=>trivial
 | .bk (.chapter t l),h=>trivial
 | .bk (.heading t n l),h=>trivial
 | .bk (.table rs l),h=>trivial
 | .bk (.plates n l),h=>trivial
 | .it _,h=>trivial
 | .bk (.para _),h=>h.elim
 | .fin,h=>h.elim
theorem lost_b:ItB (.word (Str.ofString "lost") []):=⟨by decide +kernel,by simp,by simp⟩
theorem end_b:ItB (.word (Str.ofString "end") []):=⟨by decide +kernel,by simp,by simp⟩
theorem pt_B (ls:List Str) (cs:List Int) (i:Nat) (a:At) (h:AtB a):AtB (pt ls cs i a):=by
 unfold pt
 split
 ·split
  ·exact lost_b
  ·exact h
 ·exact h
theorem mem_zip {α:Type} {xs:List α} {p:α×Nat} (h:p∈xs.zipIdx):p.2<xs.length:=by
 obtain ⟨x,i⟩:=p
 exact (List.mem_zipIdx' h).1
theorem dAtoms_B (cs:List Int) (h:cs.length<=58):∀ a∈dAtoms cs,AtB a:=by
 intro a ha
 obtain ⟨p,hp,rfl⟩:=List.mem_map.mp ha
 exact atOk_B (atomOf_at p.1 p.2 (by have:=mem_zip hp;omega)).2
theorem pointed_B (cs:List Int) (as:List At) (h:∀ a∈as,AtB a):∀ a∈pointed cs as,AtB a:=by
 intro a ha
 unfold pointed at ha
 obtain ⟨i,hi,rfl⟩:=List.mem_mapIdx.mp ha
 exact pt_B _ _ _ _ (h _ (List.getElem_mem hi))
theorem pointed_len (cs:List Int) (as:List At):(pointed cs as).length=as.length:=by unfold pointed;simp
theorem closeRow_B {row:List It} (h:∀ i∈row,ItB i):∀ i∈closeRow row,ItB i:=by
 intro i hi
 unfold closeRow at hi
 split at hi
 ·split at hi
  ·rcases List.mem_append.mp hi with z | z
   ·exact h i z
   ·rw [List.mem_singleton.mp z];exact end_b
  ·exact h i hi
 ·exact h i hi
def GB (s:List Bk×List It):Prop:=(∀ b∈s.1,BkB b)/\(∀ i∈s.2,ItB i)
theorem gStep_B {s:List Bk×List It} {a:At} (hs:GB s) (ha:AtB a\/a=.fin):GB (gStep s a):=by
 obtain ⟨bs,row⟩:=s
 have hp:BkB (.para (closeRow row)):=closeRow_B hs.2
 have h1:∀ b∈bs++[.para (closeRow row)],BkB b:=by
  intro b hb
  rcases List.mem_append.mp hb with z | z
  ·exact hs.1 b z
  ·rw [List.mem_singleton.mp z];exact hp
 have h2:∀ b∈(if closeRow row=[] then bs else bs++[.para (closeRow row)]),BkB b:=by
  intro b hb
  split at hb
  ·exact hs.1 b hb
  ·exact h1 b hb
 cases a with
 | it i =>
  refine ⟨hs.1,fun j hj=>?_⟩
  rcases List.mem_append.mp hj with z | z
  ·exact hs.2 j z
  ·rw [List.mem_singleton.mp z]
   rcases ha with q | q
   ·exact q
   ·cases q
 | bk b =>
  refine ⟨fun j hj=>?_,fun j hj=>by cases hj⟩
  rcases List.mem_append.mp hj with z | z
  ·exact h2 j z
  ·rw [List.mem_singleton.mp z]
   rcases ha with q | q
   ·cases b<;>first | exact q | exact q.elim
   ·cases q
 | brk=>exact ⟨h1,fun j hj=>by cases hj⟩
 | fin=>exact ⟨h2,fun j hj=>by cases hj⟩
theorem fold_B (as:List At):∀ s,GB s->(∀ a∈as,AtB a\/a=.fin)->GB (as.foldl gStep s):=by
 induction as with
 | nil=>intro s h _;exact h
 | cons a as ih=>intro s h ha;exact ih _ (gStep_B h (ha a List.mem_cons_self)) (fun x hx=>ha x (List.mem_cons_of_mem _ hx))
def tot (s:List Bk×List It):Nat:=(s.1.flatMap iO).length+s.2.length
theorem gStep_tot (s:List Bk×List It) (a:At) (ha:AtS a\/a=.fin):tot (gStep s a)<=tot s+1:=by
 obtain ⟨bs,row⟩:=s
 have hc:=closeRow_len row
 have h1:((bs++[Bk.para (closeRow row)]).flatMap iO).length=(bs.flatMap iO).length+(closeRow row).length:=by
  rw [List.flatMap_append,List.length_append];simp [iO]
 have h2:((if closeRow row=[] then bs else bs++[Bk.para (closeRow row)]).flatMap iO).length<=(bs.flatMap iO).length+(closeRow row).length:=by
  split
  ·omega
  ·rw [h1];omega
 unfold tot
 cases a with
 | it i=>simp only [gStep,List.length_append,List.length_cons,List.length_nil];omega
 | bk b =>
  have hb:iO b=[]:=by
   rcases ha with q | q
   ·cases b<;>first | rfl | exact q.elim
   ·cases q
  simp only [gStep,List.flatMap_append,List.length_append,List.length_nil,List.flatMap_cons,List.flatMap_nil,hb,List.append_nil]
  omega
 | brk=>simp only [gStep,h1,List.length_nil];omega
 | fin=>simp only [gStep,List.length_nil];omega
theorem fold_tot (as:List At):∀ s,(∀ a∈as,AtS a\/a=.fin)->tot (as.foldl gStep s)<=tot s+as.length:=by
 induction as with
 | nil=>intro s _;exact Nat.le_refl _
 | cons a as ih =>
  intro s ha
  have h1:=gStep_tot s a (ha a List.mem_cons_self)
  have h2:=ih (gStep s a) (fun x hx=>ha x (List.mem_cons_of_mem _ hx))
  rw [List.foldl_cons,List.length_cons];omega
theorem dPt_B (cs:List Int) (h:cs.length<58):∀ a∈pointed cs (dAtoms cs)++[At.fin],AtB a\/a=.fin:=by
 intro a ha
 rcases List.mem_append.mp ha with z | z
 ·exact .inl (pointed_B cs _ (dAtoms_B cs (by omega)) a z)
 ·exact .inr (List.mem_singleton.mp z)
theorem dBook_B (cs:List Int) (h:cs.length<58):∀ b∈dBook cs,BkB b :=
 (fold_B _ ([],[]) (by simp [GB]) (dPt_B cs h)).1
theorem dBook_len (cs:List Int) (h:cs.length<58):(dBook cs).length<=116/\((dBook cs).flatMap iO).length<=58:=by
 have h1:=(grp_len (pointed cs (dAtoms cs)++[At.fin]) ([],[])).1
 have h2:=fold_tot (pointed cs (dAtoms cs)++[At.fin]) ([],[]) (fun a ha=>by
  rcases dPt_B cs h a ha with z | z
  ·exact .inl (atB_S z)
  ·exact .inr z)
 have hl:(pointed cs (dAtoms cs)++[At.fin]).length<=58:=by rw [List.length_append,pointed_len,dAtoms_len];simp;omega
 unfold tot at h2
 unfold dBook grp
 simp at h1 h2 hl ⊢
 omega
theorem dBook_at (cs:List Int) (h:cs.length<58):f_Lgrouped [.lst ((pointed cs (dAtoms cs)).map At.d)]=some (bks (dBook cs)) :=
 grouped_at _ (by rw [pointed_len,dAtoms_len];omega) (fun a ha=>atB_S (pointed_B cs _ (dAtoms_B cs (by omega)) a ha))
theorem maxI_le {m M:Int} {xs:List Int} (h:m<=M) (hx:∀ x∈xs,x<=M):maxI m xs<=M:=by
 rcases (maxI_spec xs m).1 with z | z
 ·rw [z];exact h
 ·exact hx _ z
theorem maxI_ge (m:Int) (xs:List Int):m<=maxI m xs:=(maxI_spec xs m).2.1
theorem maxI_mem {m x:Int} {xs:List Int} (h:x∈xs):x<=maxI m xs:=(maxI_spec xs m).2.2 x h
theorem foldMax_ge (nss:List (List Str)):∀ w,w<=nss.foldl (fun w ns=>maxI w (lens ns)) w:=by
 induction nss with
 | nil=>intro w;exact Int.le_refl _
 | cons ns nss ih=>intro w;exact Int.le_trans (maxI_ge w _) (ih _)
theorem foldMax_le {M:Int} (nss:List (List Str)) (h:∀ ns∈nss,∀ r∈ns,(r.length:Int)<=M):∀ w,w<=M->nss.foldl (fun w ns=>maxI w (lens ns)) w<=M:=by
 induction nss with
 | nil=>intro w hw;exact hw
 | cons ns nss ih =>
  intro w hw
  refine ih (fun x hx=>h x (List.mem_cons_of_mem _ hx)) _ (maxI_le hw fun x hx=>?_)
  obtain ⟨r,hr,rfl⟩:=List.mem_map.mp hx
  exact h ns List.mem_cons_self r hr
theorem foldMax_mem (nss:List (List Str)):∀ w,∀ ns∈nss,∀ r∈ns,(r.length:Int)<=nss.foldl (fun w ns=>maxI w (lens ns)) w:=by
 induction nss with
 | nil=>intro w ns h;cases h
 | cons n0 nss ih =>
  intro w ns h r hr
  rcases List.mem_cons.mp h with z | z
  ·subst z
   exact Int.le_trans (maxI_mem (m:=w) (List.mem_map.mpr ⟨r,hr,rfl⟩)) (foldMax_ge nss _)
  ·exact ih _ ns z r hr
theorem mem_notes {is:List It} {w:Str} {ns:List Str} (h:It.word w ns∈is):ns∈notes is:=List.mem_map.mpr ⟨_,List.mem_filter.mpr ⟨h,rfl⟩,rfl⟩
theorem needW_le {room w M:Int} {b:Bk} (hb:BkB b) (h0:0<=room) (hM:43+room<=M) (hw:w<=M):needW room w b<=M:=by
 cases b with
 | chapter t l=>have:=hb.2;simp only [needW];split<;>omega
 | heading t k l=>have:=hb.1.2;simp only [needW];split<;>omega
 | plates n l=>exact hw
 | table rs l =>
  refine maxI_le hw fun x hx=>?_
  obtain ⟨r,hr,rfl⟩:=List.mem_map.mp hx
  have:=hb.2 r hr
  omega
 | para is =>
  have hi:∀ i∈is,ItB i:=hb
  refine foldMax_le _ (fun ns hn r hr=>?_) _ (maxI_le (maxI_le hw fun x hx=>?_) fun x hx=>?_)
  ·have:=(notes_b hi ns hn).2 r hr;omega
  ·obtain ⟨i,hr,rfl⟩:=List.mem_map.mp hx
   have h1:=hi i (List.mem_filter.mp hr).1
   cases i with
   | ref l a b=>have:=h1.1;have:=h1.2;simp only [rlen];omega
   | _=>simp only [rlen];omega
  ·obtain ⟨i,hr,rfl⟩:=List.mem_map.mp hx
   have h1:=hi i (List.mem_filter.mp hr).1
   cases i with
   | word w ns=>have:=h1.1.2;simp only [wlen];omega
   | _=>simp only [wlen];omega
theorem needH_le {h M:Int} {b:Bk} (hb:BkB b) (hM:31<=M) (hh:h<=M):needH h b<=M:=by
 cases b with
 | heading t k l=>have:=hb.2;simp only [needH];split<;>omega
 | table rs l=>have:=hb.1;simp only [needH];split<;>omega
 | para is =>
  refine maxI_le hh fun x hx=>?_
  obtain ⟨ns,hn,rfl⟩:=List.mem_map.mp hx
  have:=(notes_b (show ∀ i∈is,ItB i from hb) ns hn).1
  omega
 | _=>exact hh
theorem needW_ge (room w:Int) (b:Bk):w<=needW room w b:=by
 cases b with
 | chapter t l=>simp only [needW];split<;>omega
 | heading t k l=>simp only [needW];split<;>omega
 | plates n l=>exact Int.le_refl _
 | table rs l=>exact maxI_ge _ _
 | para is=>exact Int.le_trans (Int.le_trans (maxI_ge _ _) (maxI_ge _ _)) (foldMax_ge _ _)
theorem needH_ge (h:Int) (b:Bk):h<=needH h b:=by
 cases b with
 | heading t k l=>simp only [needH];split<;>omega
 | table rs l=>simp only [needH];split<;>omega
 | para is=>exact maxI_ge _ _
 | _=>exact Int.le_refl _
def FitI (room w h:Int):It->Prop
 | .word x ns=>(x.length:Int)<=w/\1+(ns.length:Int)<=h/\∀ r∈ns,(r.length:Int)<=w
 | .ref _ a b=>(a.length:Int)+room+b.length<=w
 | _=>True
def FitB (room w h:Int):Bk->Prop
 | .chapter t _=>(t.length:Int)+2+room<=w
 | .heading t k _=>(t.length:Int)+2+room<=w/\k+1<=h
 | .table rs _=>(rs.length:Int)<=h/\∀ r∈rs,(r.length:Int)<=w
 | .para is=>∀ i∈is,FitI room w h i
 | .plates _ _=>True
theorem fitI_mono {room w h w' h':Int} {i:It} (hw:w<=w') (hh:h<=h') (f:FitI room w h i):FitI room w' h' i:=by
 cases i with
 | word x ns=>exact ⟨Int.le_trans f.1 hw,Int.le_trans f.2.1 hh,fun r hr=>Int.le_trans (f.2.2 r hr) hw⟩
 | ref l a b=>exact Int.le_trans f hw
 | _=>trivial
theorem fitB_mono {room w h w' h':Int} {b:Bk} (hw:w<=w') (hh:h<=h') (f:FitB room w h b):FitB room w' h' b:=by
 cases b with
 | chapter t l=>exact Int.le_trans f hw
 | heading t k l=>exact ⟨Int.le_trans f.1 hw,Int.le_trans f.2 hh⟩
 | table rs l=>exact ⟨Int.le_trans f.1 hh,fun r hr=>Int.le_trans (f.2 r hr) hw⟩
 | para is=>exact fun i hi=>fitI_mono hw hh (f i hi)
 | plates n l=>trivial
theorem need_fit (room w h:Int) (b:Bk):FitB room (needW room w b) (needH h b) b:=by
 cases b with
 | chapter t l=>show _<=needW _ _ _;simp only [needW];split<;>omega
 | heading t k l =>
  refine ⟨?_,?_⟩
  ·simp only [needW];split<;>omega
  ·simp only [needH];split<;>omega
 | plates n l=>trivial
 | table rs l =>
  refine ⟨?_,fun r hr=>maxI_mem (List.mem_map.mpr ⟨r,hr,rfl⟩)⟩
  simp only [needH];split<;>omega
 | para is =>
  intro i hi
  cases i with
  | word x ns =>
   refine ⟨Int.le_trans (maxI_mem (List.mem_map.mpr ⟨It.word x ns,List.mem_filter.mpr ⟨hi,rfl⟩,rfl⟩)) (foldMax_ge _ _),?_,fun r hr=>?_⟩
   ·exact maxI_mem (List.mem_map.mpr ⟨ns,mem_notes hi,rfl⟩)
   ·exact foldMax_mem _ _ ns (mem_notes hi) r hr
  | ref l a b=>exact Int.le_trans (Int.le_trans (maxI_mem (List.mem_map.mpr ⟨It.ref l a b,List.mem_filter.mpr ⟨hi,rfl⟩,rfl⟩)) (maxI_ge _ _)) (foldMax_ge _ _)
  | _=>trivial
theorem needs_all (room M H:Int) (h0:0<=room) (hM:43+room<=M) (hH:31<=H):∀ (bs:List Bk) (s:Int×Int),(∀ b∈bs,BkB b)->s.1<=M->s.2<=H ->
  let r:=bs.foldl (fun s b=>(needW room s.1 b,needH s.2 b)) s
  s.1<=r.1/\r.1<=M/\s.2<=r.2/\r.2<=H/\∀ b∈bs,FitB room r.1 r.2 b
 | [],s,_,h1,h2=>⟨Int.le_refl _,h1,Int.le_refl _,h2,fun _ h=>by cases h⟩
 | b::bs,s,hb,h1,h2=>by
  obtain ⟨a1,a2,a3,a4,a5⟩:=needs_all room M H h0 hM hH bs (needW room s.1 b,needH s.2 b) (fun x hx=>hb x (List.mem_cons_of_mem _ hx)) (needW_le (hb b List.mem_cons_self) h0 hM h1) (needH_le (hb b List.mem_cons_self) hH h2)
  refine ⟨Int.le_trans (needW_ge _ _ _) a1,a2,Int.le_trans (needH_ge _ _) a3,a4,fun x hx=>?_⟩
  rcases List.mem_cons.mp hx with z | z
  ·subst z;exact fitB_mono a1 a3 (need_fit room s.1 s.2 x)
  ·exact a5 x z
theorem bkMost_b {li:Bool} {b:Bk} (hb:BkB b) (hl:(iO b).length<=1000):2<=bkMost li b/\bkMost li b<=10^39+3000:=by
 have:(3000:Int)<=10^39:=by decide
 cases b with
 | chapter t l=>simp only [bkMost];split<;>omega
 | heading t k l=>simp only [bkMost];split<;>omega
 | table rs l=>simp only [bkMost];omega
 | plates n l=>have h1:=hb.1;have h2:=hb.2;simp only [bkMost];omega
 | para is =>
  have h1:=List.length_filter_le isSet is
  have h2:is.length<=1000:=hl
  simp only [bkMost];omega
theorem most_b (li:Bool):∀ (bs:List Bk) (s:Int),(∀ b∈bs,BkB b/\(iO b).length<=1000)->s<=bs.foldl (fun s b=>s+bkMost li b) s/\bs.foldl (fun s b=>s+bkMost li b) s<=s+bs.length*(10^39+3000)
 | [],s,_=>by simp
 | b::bs,s,h=>by
  have h1:=bkMost_b (li:=li) (h b List.mem_cons_self).1 (h b List.mem_cons_self).2
  have h2:=most_b li bs (s+bkMost li b) (fun x hx=>h x (List.mem_cons_of_mem _ hx))
  rw [List.foldl_cons,List.length_cons]
  refine ⟨by omega,Int.le_trans h2.2 ?_⟩
  have:((bs.length+1:Nat):Int)*(10^39+3000)=bs.length*(10^39+3000)+(10^39+3000):=by
   rw [show ((bs.length+1:Nat):Int)=(bs.length:Int)+1 from by omega,Int.add_mul,Int.one_mul]
  omega
def dLi (ns:List Int):Bool:=decide (cell ns 3%2=1)
def dO (ns:List Int):Bool:=decide (cell ns 2%2=1)
def dE0 (ns:List Int):List Bk:=edge ns 4 2 (dLi ns)
noncomputable def dBk (ns:List Int):List Bk:=dBook (dCells ns)
noncomputable def dMost (ns:List Int):Int:=most (dLi ns) (dE0 ns++dBk ns)
noncomputable def dR (ns:List Int):Int:=digs (dMost ns).toNat
noncomputable def dNeed (ns:List Int):Int×Int:=needs (dR ns) (dBk ns++dE0 ns)
noncomputable def dWide (ns:List Int):Int:=if (dE0 ns).isEmpty then (dNeed ns).1 else if dR ns+2 > (dNeed ns).1 then dR ns+2 else (dNeed ns).1
noncomputable def dW (ns:List Int):Int:=if 4+mix (cell ns 0) 1%30 > dWide ns then 4+mix (cell ns 0) 1%30 else dWide ns
noncomputable def dH (ns:List Int):Int:=if cell ns 1%5=1 then (if 2+mix (cell ns 1) 4%59 > (dNeed ns).2 then 2+mix (cell ns 1) 4%59 else (dNeed ns).2) else (if 2+mix (cell ns 1) 2%5 > (dNeed ns).2 then 2+mix (cell ns 1) 2%5 else (dNeed ns).2)
noncomputable def dAll (ns:List Int):List Bk:=edge ns (dW ns) (dH ns) (dLi ns)++dBk ns
theorem empty_len:(Str.ofString "").length=0:=by decide +kernel
theorem w_len (n:Int):(mulS (Str.ofString "w") n).length=n.toNat:=by
 rw [mulS_len,show (Str.ofString "w").length=1 from by decide +kernel];omega
theorem edge_few (ns:List Int) (w h:Int) (li:Bool):(edge ns w h li).length<=3/\((edge ns w h li).flatMap iO).length<=3:=by
 unfold edge
 split
 ·simp
 ·simp [iO]
theorem ten6 {n:Int} (h:1<=n/\n<=6):(10:Int)<=10^n.toNat/\(10:Int)^n.toNat<=10^6:=by
 have:n=1\/n=2\/n=3\/n=4\/n=5\/n=6:=by omega
 rcases this with q | q | q | q | q | q<;>subst q<;>decide
theorem dE0_B (ns:List Int):∀ b∈dE0 ns,BkB b:=by
 intro b hb
 unfold dE0 edge at hb
 have h6:=ten6 (edgeN_b ns)
 have hN:=edgeN_b ns
 split at hb
 ·cases hb
 ·simp only [List.mem_cons,List.not_mem_nil,or_false] at hb
  rcases hb with z | z | z
  ·subst z
   have:(10:Int)^6<=10^39:=by decide
   exact ⟨by omega,by omega⟩
  ·subst z
   refine ⟨by simp,fun r hr=>?_⟩
   rw [List.eq_of_mem_replicate hr,empty_len];omega
  ·subst z
   intro i hi
   simp only [List.mem_cons,List.not_mem_nil,or_false] at hi
   rcases hi with z | z | z<;>subst z
   ·refine ⟨?_,by simp,by simp⟩
    rw [w_len]
    split<;>omega
   ·trivial
   ·exact ⟨by rw [empty_len];omega,by rw [empty_len];omega⟩
theorem few_app {xs ys:List Bk} {a b:Nat} (h1:xs.length<=a/\(xs.flatMap iO).length<=a) (h2:ys.length<=b/\(ys.flatMap iO).length<=b) (h:a+b<=100000):Few (xs++ys):=by
 refine ⟨?_,?_⟩
 ·rw [List.length_append];omega
 ·rw [List.flatMap_append,List.length_append];omega
theorem dCells_lt (ns:List Int):(dCells ns).length<58:=Nat.lt_of_lt_of_le (dCells_len ns) drawnN_le
theorem dBk_few (ns:List Int):(dBk ns).length<=116/\((dBk ns).flatMap iO).length<=116:=by
 have:=dBook_len (dCells ns) (dCells_lt ns)
 exact ⟨this.1,by have:=this.2;unfold dBk;omega⟩
theorem dBk_B (ns:List Int):∀ b∈dBk ns,BkB b:=dBook_B _ (dCells_lt ns)
theorem dMost_b (ns:List Int):3<=dMost ns/\dMost ns<10^42:=by
 have h:=most_b (dLi ns) (dE0 ns++dBk ns) 3 (fun b hb=>by
  have h1:BkB b:=by
   rcases List.mem_append.mp hb with z | z
   ·exact dE0_B ns b z
   ·exact dBk_B ns b z
  refine ⟨h1,?_⟩
  have hf:((dE0 ns++dBk ns).flatMap iO).length<=119:=by
   rw [List.flatMap_append,List.length_append]
   have h1:=(edge_few ns 4 2 (dLi ns)).2
   have h2:=(dBk_few ns).2
   unfold dE0;omega
  obtain ⟨s,t,e⟩:=List.append_of_mem hb
  rw [e,List.flatMap_append,List.flatMap_cons] at hf
  simp only [List.length_append] at hf
  omega)
 have hl:((dE0 ns++dBk ns).length:Int)<=119:=by
  rw [List.length_append]
  have h1:=(edge_few ns 4 2 (dLi ns)).1
  have h2:=(dBk_few ns).1
  unfold dE0;omega
 refine ⟨h.1,?_⟩
 have h2:dMost ns<=3+((dE0 ns++dBk ns).length:Int)*(10^39+3000):=h.2
 have h3:((dE0 ns++dBk ns).length:Int)*(10^39+3000)<=119*(10^39+3000):=Int.mul_le_mul_of_nonneg_right hl (by decide)
 have h4:(3:Int)+119*(10^39+3000)<10^42:=by decide
 omega
theorem dRoom_b (ns:List Int):1<=dR ns/\dR ns<=42:=by
 have h:=dMost_b ns
 have h1:=digs_pos (dMost ns).toNat
 have h2:digs (dMost ns).toNat<=42:=(Nat.length_toDigits_le_iff (by decide) (by decide)).mpr (by
  have:((10^42:Nat):Int)=10^42:=by decide
  omega)
 unfold dR
 omega
theorem dNeed_all (ns:List Int):4<=(dNeed ns).1/\(dNeed ns).1<=85/\2<=(dNeed ns).2/\(dNeed ns).2<=31/\∀ b∈dBk ns++dE0 ns,FitB (dR ns) (dNeed ns).1 (dNeed ns).2 b:=by
 have hr:=dRoom_b ns
 exact needs_all (dR ns) 85 31 (by omega) (by omega) (by decide) (dBk ns++dE0 ns) (4,2) (fun b hb=>by
  rcases List.mem_append.mp hb with z | z
  ·exact dBk_B ns b z
  ·exact dE0_B ns b z) (by decide) (by decide)
theorem dWide_b (ns:List Int):(dNeed ns).1<=dWide ns/\dWide ns<=85:=by
 have h1:=dNeed_all ns
 have h2:=dRoom_b ns
 unfold dWide
 split
 ·omega
 ·split<;>omega
theorem dW_b (ns:List Int):dWide ns<=dW ns/\4<=dW ns/\dW ns<=90:=by
 have h1:=dNeed_all ns
 have h2:=dWide_b ns
 unfold dW
 split<;>omega
theorem dH_b (ns:List Int):(dNeed ns).2<=dH ns/\2<=dH ns/\dH ns<=60:=by
 have h1:=dNeed_all ns
 unfold dH
 split
 ·split<;>omega
 ·split<;>omega
theorem addBks {xs ys:List Bk} (h:xs.length+ys.length<=lI):D.add (bks xs) (bks ys)=some (bks (xs++ys)):=addL (f:=Bk.d) h
theorem neBks (xs:List Bk):D.neO (bks xs) (.lst [])=some (.bl (!xs.isEmpty)):=neNil dep_bk (by decide) xs
theorem cellsComp (ns:List Int) (e:EnvD) (hc:capE 1 [1] e=[none,some (.lst ((every ns).map .int))]) (a:EvE) (ha:a e=some (.int (mix (cell ns 5) 29%drawnN))):eComp 1 [1] (iRng a) (gS 0) (eC (.bl true)) (eOp D.ix (eV 1) (eOp D.mod (eV 0) (eUn D.len (eV 1)))) e=some (.lst ((dCells ns).map .int)):=by
 obtain ⟨m,em⟩:∃ m:Nat,mix (cell ns 5) 29%drawnN=m:=⟨(mix (cell ns 5) 29%drawnN).toNat,by have:=Int.emod_nonneg (mix (cell ns 5) 29) (show (drawnN:Int)≠0 by decide);omega⟩
 have hm:m<=58:=by
  have h1:=Int.emod_lt_of_pos (mix (cell ns 5) 29) (show (0:Int)<drawnN by decide)
  have:=drawnN_le
  omega
 rw [comp_at (fun i:Nat=>D.int (0+(i:Int))) (List.range m) (fun e=>∃ v,e=[v,some (.lst ((every ns).map .int))]) (fun _=>true) (fun i:Nat=>.int ((every ns).getD ((i:Int)%((every ns).length:Int)).toNat 0)) (by unfold iRng;rw [ha,em];exact rng_nat m (by omega)) (lB (by simp;omega)) ⟨none,hc⟩ (by
  rintro i hi e ⟨v,rfl⟩
  refine ⟨[some (.int (0+(i:Int))),some (.lst ((every ns).map .int))],rfl,⟨_,rfl⟩,rfl,fun _=>?_⟩
  have hn:(0:Int)<((every ns).length:Int):=by unfold every;simp only [List.length_append,List.length_cons,List.length_nil];omega
  have ln:D.len (.lst ((every ns).map .int))=some (.int (every ns).length):=by
   show some (D.int ((every ns).map D.int).length)=_
   rw [List.length_map]
  have md:D.mod (.int (i:Int)) (.int ((every ns).length:Int))=some (.int ((i:Int)%((every ns).length:Int))):=mod_p hn
  have ixl:=ixLs (f:=D.int) (every ns) ((i:Int)%((every ns).length:Int)) 0 (Int.emod_nonneg _ (by omega)) (Int.emod_lt_of_pos _ hn)
  generalize (every ns).map D.int=EV at *
  simp [eOp,eV,eUn,ln,md,ixl])]
 rw [filter_tt]
 unfold dCells
 rw [em,List.map_map]
 rfl
theorem atomsCompG (cs:List Int) (A:Int×Nat->At) (hl:cs.length<=58) (e:EnvD) (h2:eV 2 e=some (.lst (cs.map .int))) (hA:∀ p∈cs.zipIdx,∀ j:Int,j=p.2->f_Latom [.int p.1,.int j]=some (A p).d):eComp 2 [] (iEnum (eV 2)) (gUnp [gS 0,gS 1]) (eC (.bl true)) (eK f_Latom (lC (eV 1) (lC (eV 0) lN))) e=some (.lst ((cs.zipIdx.map A).map At.d)):=by
 rw [comp_at (fun p:Int×Nat=>D.tup [.int p.2,.int p.1]) cs.zipIdx (fun e=>∃ u v,e=[u,v]) (fun _=>true) (fun p:Int×Nat=>(A p).d) (by unfold iEnum;rw [h2];show some (enumD 0 (cs.map .int))=_;rw [enumD_eq]) (lB (by simp;omega)) ⟨none,none,rfl⟩ (by
  rintro p hp e ⟨u,v,rfl⟩
  obtain ⟨j,ej⟩:∃ j:Int,(p.2:Int)=j:=⟨_,rfl⟩
  have h:=hA p hp j ej.symm
  rw [ej]
  refine ⟨[some (.int j),some (.int p.1)],rfl,⟨_,_,rfl⟩,rfl,fun _=>?_⟩
  generalize (A p).d=X at *
  simp only [eK,lC,lN,eV,List.getElem?_cons_zero,List.getElem?_cons_succ,Option.join_some,Option.bind_some,Option.map_some,h])]
 rw [filter_tt,List.map_map]
 rfl
theorem atomsComp (ns:List Int) (e:EnvD) (h2:eV 2 e=some (.lst ((dCells ns).map .int))):eComp 2 [] (iEnum (eV 2)) (gUnp [gS 0,gS 1]) (eC (.bl true)) (eK f_Latom (lC (eV 1) (lC (eV 0) lN))) e=some (.lst ((dAtoms (dCells ns)).map At.d)):=by
 have hl:=dCells_lt ns
 exact atomsCompG (dCells ns) (fun p=>atomOf p.1 p.2) (by omega) e h2 (fun p hp j ej=>by
  rw [ej]
  exact (atomOf_at p.1 p.2 (by have:=mem_zip hp;omega)).1)
theorem drawn_at (ns:List Int):f_Ldrawn [.scr ns]=some (.tup [bks (dAll ns),.tup [.int (dW ns),.int (dH ns),.bl (dO ns),.bl (dLi ns)],.int (dR ns)]):=by
 have cl:=dCells_lt ns
 have hB:=dBk_few ns
 have hE:=edge_few ns 4 2 (dLi ns)
 have hE2:=edge_few ns (dW ns) (dH ns) (dLi ns)
 have hm:=dMost_b ns
 have hn:=dNeed_all ns
 have hw:=dW_b ns
 have hh:=dH_b ns
 have eE:edge ns 4 2 (dLi ns)=dE0 ns:=rfl
 rw [eE] at hE
 have c0:f_Lcell_at [.scr ns,.int 0]=some (.int (cell ns 0)):=cell_at ns 0
 have c1:f_Lcell_at [.scr ns,.int 1]=some (.int (cell ns 1)):=cell_at ns 1
 have c2:f_Lcell_at [.scr ns,.int 2]=some (.int (cell ns 2)):=cell_at ns 2
 have c3:f_Lcell_at [.scr ns,.int 3]=some (.int (cell ns 3)):=cell_at ns 3
 have c5:f_Lcell_at [.scr ns,.int 5]=some (.int (cell ns 5)):=cell_at ns 5
 have m29:=mix_at (cell ns 5) 29 (by decide) (by decide)
 have m1:=mix_at (cell ns 0) 1 (by decide) (by decide)
 have m2:=mix_at (cell ns 1) 2 (by decide) (by decide)
 have m4:=mix_at (cell ns 1) 4 (by decide) (by decide)
 have cu:cutA (.scr ns) none (some 63)=some (.lst ((cutD ns none (some 63)).map .int)):=rfl
 have ev:D.add (.lst ((cutD ns none (some 63)).map .int)) (.lst [.int 7])=some (.lst ((every ns).map .int)):=addL (f:=D.int) (ys:=[7]) (lB (by have:=cut63_len ns;simp;omega))
 have pe:=pointed_at (dAtoms (dCells ns)) (dCells ns) (dAtoms_len _) (by rw [dAtoms_len];omega) (fun a ha=>atB_S (dAtoms_B _ (by omega) a ha))
 have ge:=dBook_at (dCells ns) cl
 have ee:=edge_at ns 4 2 false (dLi ns) (by decide) (by decide)
 have ee2:=edge_at ns (dW ns) (dH ns) (dO ns) (dLi ns) (by omega) (by omega)
 have fw:Few (dE0 ns++dBk ns):=few_app hE hB (by decide)
 have fw2:Few (dBk ns++dE0 ns):=few_app hB hE (by decide)
 have a1:D.add (bks (dE0 ns)) (bks (dBk ns))=some (bks (dE0 ns++dBk ns)):=addBks (lB (by omega))
 have a2:D.add (bks (dBk ns)) (bks (dE0 ns))=some (bks (dBk ns++dE0 ns)):=addBks (lB (by omega))
 have a3:D.add (bks (edge ns (dW ns) (dH ns) (dLi ns))) (bks (dBk ns))=some (bks (dAll ns)):=addBks (lB (by omega))
 have mo:f_Lmost [bks (dE0 ns++dBk ns),.bl (dLi ns)]=some (.int (dMost ns)):=most_at _ _ fw
 have ne:f_Lneeds [bks (dBk ns++dE0 ns),.int (dR ns)]=some (.tup [.int (dNeed ns).1,.int (dNeed ns).2]):=needs_at _ _ fw2 (fun b hb=>by
  rcases List.mem_append.mp hb with z | z
  ·exact dBk_B ns b z
  ·exact dE0_B ns b z)
 have nb:=neBks (dE0 ns)
 have st1:D.strI (.int (dMost ns))=some (.str (Str.ofString (toString (dMost ns)))):=if_pos (by
  have:(10:Nat)^42<2^1900:=by decide +kernel
  have:((10^42:Nat):Int)=10^42:=by decide
  omega)
 have st2:(Str.ofString (toString (dMost ns))).length=digs (dMost ns).toNat:=by
  have:dMost ns=((dMost ns).toNat:Int):=by omega
  conv=>lhs;rw [this]
  exact str_len _
 have hr:=dRoom_b ns
 have st3:D.len (.str (Str.ofString (toString (dMost ns))))=some (.int (dR ns)):=by
  rw [lenS (by rw [st2];have:dR ns=digs (dMost ns).toNat:=rfl;omega),st2];rfl
 have eWd:(if (!(dE0 ns).isEmpty)=true then (if dR ns+2 > (dNeed ns).1 then dR ns+2 else (dNeed ns).1) else (dNeed ns).1)=dWide ns:=by
  unfold dWide
  cases (dE0 ns).isEmpty<;>rfl
 have dli:D.eqO (.int (cell ns 3%2)) (.int 1)=some (.bl (dLi ns)):=by simp [D.eqO,dep_int,eq_int,D.cmp,dLi]
 have dlo:D.eqO (.int (cell ns 2%2)) (.int 1)=some (.bl (dO ns)):=by simp [D.eqO,dep_int,eq_int,D.cmp,dO]
 have ddh:D.eqO (.int (cell ns 1%5)) (.int 1)=some (.bl (decide (cell ns 1%5=1))):=by simp [D.eqO,dep_int,eq_int,D.cmp]
 unfold f_Ldrawn b_Ldrawn
 refine stD rfl ?_
 refine st (e1:=[some (.scr ns),some (.lst ((every ns).map .int)),none,none,none,none,none,none,none,none,none,none]) (asg (by simp only [eOp,eCut,eV,sD,List.map_cons,List.map_nil,List.cons_append,List.nil_append,List.getElem?_cons_zero,Option.join_some,Option.bind_some,oNo,oAt,eC,cu,eLst,lC,lN,Option.map_some,ev]) rfl) ?_
 refine st (e1:=[some (.scr ns),some (.lst ((every ns).map .int)),some (.lst ((dCells ns).map .int)),none,none,none,none,none,none,none,none,none]) (asg (cellsComp ns _ rfl _ (by simp [eOp,eK,lC,lN,eV,eC,c5,m29,modp,drawnN])) rfl) ?_
 have ac:=atomsComp ns [some (.scr ns),some (.lst ((every ns).map .int)),some (.lst ((dCells ns).map .int)),none,none,none,none,none,none,none,none,none] rfl
 generalize hCE:(dCells ns).map D.int=CE at *
 generalize hEV:(every ns).map D.int=EV at *
 refine st (e1:=[some (.scr ns),some (.lst EV),some (.lst CE),some (bks (dBk ns)),none,none,none,none,none,none,none,none]) (asg (by
  have ge':f_Lgrouped [.lst ((pointed (dCells ns) (dAtoms (dCells ns))).map At.d)]=some (bks (dBk ns)):=ge
  generalize (pointed (dCells ns) (dAtoms (dCells ns))).map At.d=P at *
  generalize (dAtoms (dCells ns)).map At.d=A at *
  simp only [eK,lC,lN,ac,eV,List.getElem?_cons_zero,List.getElem?_cons_succ,Option.join_some,Option.bind_some,Option.map_some,pe,ge']) rfl) ?_
 refine st (e1:=[some (.scr ns),some (.lst EV),some (.lst CE),some (bks (dBk ns)),some (.bl (dLi ns)),none,none,none,none,none,none,none]) (asg (by simp [eOp,eK,lC,lN,eV,eC,c3,modp,dli]) rfl) ?_
 rw [eE] at ee
 generalize Str.ofString (toString (dMost ns))=SM at *
 generalize bks (dAll ns)=ALL at *
 generalize bks (edge ns (dW ns) (dH ns) (dLi ns))=ED at *
 generalize bks (dE0 ns++dBk ns)=EB at *
 generalize bks (dBk ns++dE0 ns)=BE at *
 generalize bks (dE0 ns)=E0 at *
 generalize bks (dBk ns)=BK at *
 refine st (e1:=[some (.scr ns),some (.lst EV),some (.lst CE),some BK,some (.bl (dLi ns)),some E0,none,none,none,none,none,none]) (asg (by simp [eK,eTup,lC,lN,eV,eC,ee]) rfl) ?_
 refine st (e1:=[some (.scr ns),some (.lst EV),some (.lst CE),some BK,some (.bl (dLi ns)),some E0,some (.int (dR ns)),none,none,none,none,none]) (asg (by simp [eUn,eOp,eK,lC,lN,eV,a1,mo,st1,st3]) rfl) ?_
 refine st (e1:=[some (.scr ns),some (.lst EV),some (.lst CE),some BK,some (.bl (dLi ns)),some E0,some (.int (dR ns)),some (.int (dNeed ns).1),some (.int (dNeed ns).2),none,none,none]) (asg (d:=.tup [.int (dNeed ns).1,.int (dNeed ns).2]) (by simp only [eOp,eK,lC,lN,eV,List.getElem?_cons_zero,List.getElem?_cons_succ,Option.join_some,Option.bind_some,Option.map_some,a2,ne]) rfl) ?_
 refine st (e1:=[some (.scr ns),some (.lst EV),some (.lst CE),some BK,some (.bl (dLi ns)),some E0,some (.int (dR ns)),some (.int (dWide ns)),some (.int (dNeed ns).2),none,none,none]) (by
  rw [<- eWd]
  cases q:(dE0 ns).isEmpty<;>rw [q] at nb<;>simp [sIf,eOp,eV,eLst,lN,nb,ifO_bl,sAsg,gS,eC,add_int,D.max2,sNx]) ?_
 refine st (e1:=[some (.scr ns),some (.lst EV),some (.lst CE),some BK,some (.bl (dLi ns)),some E0,some (.int (dR ns)),some (.int (dWide ns)),some (.int (dNeed ns).2),some (.int (dW ns)),none,none]) (asg (by unfold dW;simp [eOp,eV,eC,eK,lC,lN,c0,m1,modp,add_int,D.max2]) rfl) ?_
 obtain ⟨H0,eH0⟩:∃ H0:Int,(if 2+mix (cell ns 1) 2%5 > (dNeed ns).2 then 2+mix (cell ns 1) 2%5 else (dNeed ns).2)=H0:=⟨_,rfl⟩
 refine st (e1:=[some (.scr ns),some (.lst EV),some (.lst CE),some BK,some (.bl (dLi ns)),some E0,some (.int (dR ns)),some (.int (dWide ns)),some (.int (dNeed ns).2),some (.int (dW ns)),some (.int H0),none]) (asg (by rw [<- eH0];simp [eOp,eV,eC,eK,lC,lN,c1,m2,modp,add_int,D.max2]) rfl) ?_
 refine st (e1:=[some (.scr ns),some (.lst EV),some (.lst CE),some BK,some (.bl (dLi ns)),some E0,some (.int (dR ns)),some (.int (dWide ns)),some (.int (dNeed ns).2),some (.int (dW ns)),some (.int (dH ns)),none]) (by
  unfold dH
  by_cases z:cell ns 1%5=1
  ·rw [if_pos z]
   rw [z] at ddh
   simp [sIf,eOp,eV,eC,eK,lC,lN,c1,m4,modp,ddh,z,ifO_bl,sAsg,gS,add_int,D.max2]
  ·rw [if_neg z,eH0]
   simp [sIf,eOp,eV,eC,eK,lC,lN,c1,modp,ddh,z,ifO_bl,sNx]) ?_
 refine st (e1:=[some (.scr ns),some (.lst EV),some (.lst CE),some BK,some (.bl (dLi ns)),some E0,some (.int (dR ns)),some (.int (dWide ns)),some (.int (dNeed ns).2),some (.int (dW ns)),some (.int (dH ns)),some (.tup [.int (dW ns),.int (dH ns),.bl (dO ns),.bl (dLi ns)])]) (asg (by simp [eTup,eOp,eV,eC,eK,lC,lN,c2,modp,dlo]) rfl) ?_
 refine ret ?_
 simp [eTup,eOp,eV,eK,lC,lN,ee2,a3]
theorem eqL_refl:∀ xs:List D,(∀ x∈xs,D.eq x x=some true)->D.eqL xs xs=some true
 | [],_=>eqL_nil
 | x::xs,h=>by rw [eqL_cons,h x List.mem_cons_self,eqL_refl xs (fun y hy=>h y (List.mem_cons_of_mem _ hy))];rfl
theorem eq_str_r (x:Str):D.eq (.str x) (.str x)=some true:=by rw [eq_str];simp
theorem eq_int_r (x:Int):D.eq (.int x) (.int x)=some true:=by rw [eq_int];simp
theorem eq_map_r {α:Type} {f:α->D} (h:∀ a,D.eq (f a) (f a)=some true) (xs:List α):D.eq (.lst (xs.map f)) (.lst (xs.map f))=some true:=by
 rw [eq_lst]
 refine eqL_refl _ fun x hx=>?_
 obtain ⟨a,_,rfl⟩:=List.mem_map.mp hx
 exact h a
theorem eq_strs_r (xs:List Str):D.eq (strL xs) (strL xs)=some true:=eq_map_r eq_str_r xs
theorem eq_it_r (i:It):D.eq i.d i.d=some true:=by
 cases i with
 | word w ns=>simp only [It.d];rw [eq_tup];refine eqL_refl _ fun x hx=>?_;simp only [List.mem_cons,List.not_mem_nil,or_false] at hx;rcases hx with z | z | z<;>subst z<;>first | exact eq_str_r _ | exact eq_strs_r _
 | ref l a b=>simp only [It.d];rw [eq_tup];refine eqL_refl _ fun x hx=>?_;simp only [List.mem_cons,List.not_mem_nil,or_false] at hx;rcases hx with z | z | z | z<;>subst z<;>exact eq_str_r _
 | mark l=>simp only [It.d];rw [eq_tup];refine eqL_refl _ fun x hx=>?_;simp only [List.mem_cons,List.not_mem_nil,or_false] at hx;rcases hx with z | z<;>subst z<;>exact eq_str_r _
 | key l=>simp only [It.d];rw [eq_tup];refine eqL_refl _ fun x hx=>?_;simp only [List.mem_cons,List.not_mem_nil,or_false] at hx;rcases hx with z | z<;>subst z<;>exact eq_str_r _
theorem eq_bk_r (b:Bk):D.eq b.d b.d=some true:=by
 cases b with
 | chapter t l=>simp only [Bk.d];rw [eq_tup];refine eqL_refl _ fun x hx=>?_;simp only [List.mem_cons,List.not_mem_nil,or_false] at hx;rcases hx with z | z | z<;>subst z<;>exact eq_str_r _
 | heading t k l=>simp only [Bk.d];rw [eq_tup];refine eqL_refl _ fun x hx=>?_;simp only [List.mem_cons,List.not_mem_nil,or_false] at hx;rcases hx with z | z | z | z<;>subst z<;>first | exact eq_str_r _ | exact eq_int_r _
 | para is=>simp only [Bk.d];rw [eq_tup];refine eqL_refl _ fun x hx=>?_;simp only [List.mem_cons,List.not_mem_nil,or_false] at hx;rcases hx with z | z<;>subst z<;>first | exact eq_str_r _ | exact eq_map_r eq_it_r _
 | table rs l=>simp only [Bk.d];rw [eq_tup];refine eqL_refl _ fun x hx=>?_;simp only [List.mem_cons,List.not_mem_nil,or_false] at hx;rcases hx with z | z | z<;>subst z<;>first | exact eq_str_r _ | exact eq_strs_r _
 | plates n l=>simp only [Bk.d];rw [eq_tup];refine eqL_refl _ fun x hx=>?_;simp only [List.mem_cons,List.not_mem_nil,or_false] at hx;rcases hx with z | z | z<;>subst z<;>first | exact eq_str_r _ | exact eq_int_r _
theorem eqBks (bs:List Bk):D.eqO (bks bs) (bks bs)=some (.bl true):=by
 unfold D.eqO
 rw [if_pos (by have:=dep_bks bs;omega),show D.eq (bks bs) (bks bs)=some true from eq_map_r eq_bk_r bs];rfl
theorem neBks_r (bs:List Bk):D.neO (bks bs) (bks bs)=some (.bl false):=by
 unfold D.neO
 rw [if_pos (by have:=dep_bks bs;omega),show D.eq (bks bs) (bks bs)=some true from eq_map_r eq_bk_r bs];rfl
theorem dAll_few (ns:List Int):Few (dAll ns):=few_app (edge_few ns _ _ _) (dBk_few ns) (by decide)
theorem orF {a b:EvE} {e:EnvD} {r:Option D} (ha:a e=some (.bl false)) (hb:b e=r):eOr a b e=r:=by unfold eOr;rw [ha];exact hb
theorem orT {a b:EvE} {e:EnvD} (ha:a e=some (.bl true)):eOr a b e=some (.bl true):=by unfold eOr;rw [ha];rfl
theorem andT {a b:EvE} {e:EnvD} {r:Option D} (ha:a e=some (.bl true)) (hb:b e=r):eAnd a b e=r:=by unfold eAnd;rw [ha];exact hb
theorem andF {a b:EvE} {e:EnvD} (ha:a e=some (.bl false)):eAnd a b e=some (.bl false):=by unfold eAnd;rw [ha];rfl
theorem opE {g:D->D->Option D} {a b:EvE} {e:EnvD} {x y:D} {r:Option D} (ha:a e=some x) (hb:b e=some y) (h:g x y=r):eOp g a b e=r:=by unfold eOp;rw [ha,hb];exact h
theorem unE {g:D->Option D} {a:EvE} {e:EnvD} {x:D} {r:Option D} (ha:a e=some x) (h:g x=r):eUn g a e=r:=by unfold eUn;rw [ha];exact h
theorem notE {a:EvE} {e:EnvD} {b:Bool} (ha:a e=some (.bl b)):eNot a e=some (.bl (!b)):=by unfold eNot;rw [ha];rfl
theorem instE {t:String} {a:EvE} {e:EnvD} {x:D} {r:Option D} (ha:a e=some x) (h:D.inst t x=r):eInst t a e=r:=by unfold eInst;rw [ha];exact h
theorem call1 {f:List D->Option D} {a:EvE} {e:EnvD} {x:D} {r:Option D} (ha:a e=some x) (h:f [x]=r):eK f (lC a lN) e=r:=by unfold eK lC lN;rw [ha];exact h
theorem call2 {f:List D->Option D} {a b:EvE} {e:EnvD} {x y:D} {r:Option D} (ha:a e=some x) (hb:b e=some y) (h:f [x,y]=r):eK f (lC a (lC b lN)) e=r:=by unfold eK lC lN;rw [ha,hb];exact h
theorem call3 {f:List D->Option D} {a b c:EvE} {e:EnvD} {x y z:D} {r:Option D} (ha:a e=some x) (hb:b e=some y) (hc:c e=some z) (h:f [x,y,z]=r):eK f (lC a (lC b (lC c lN))) e=r:=by unfold eK lC lN;rw [ha,hb,hc];exact h
theorem call4 {f:List D->Option D} {a b c d:EvE} {e:EnvD} {x y z u:D} {r:Option D} (ha:a e=some x) (hb:b e=some y) (hc:c e=some z) (hd:d e=some u) (h:f [x,y,z,u]=r):eK f (lC a (lC b (lC c (lC d lN)))) e=r:=by unfold eK lC lN;rw [ha,hb,hc,hd];exact h
theorem appS {i:Nat} {a:EvE} {e:EnvD} {x d z:D} (hx:eV i e=some x) (ha:a e=some d) (h:D.app x d=some z):sP i a e=some (.nx (e.set i (some z))):=by unfold sP;rw [hx,ha];show (D.app x d).map _=_;rw [h];rfl
structure Sta where
 p:Int
 l:Int
 u:Int
 f:Int
structure Plc where
 p:Int
 l:Int
 c:Int
def Sta.d (s:Sta):D:=.tup [.int s.p,.int s.l,.int s.u,.int s.f]
def Plc.d (s:Plc):D:=.tup [.int s.p,.int s.l,.int s.c]
def sty (w h:Int) (o li:Bool):D:=.tup [.int w,.int h,.bl o,.bl li]
def pair (x:Plc×Sta):D:=.tup [x.1.d,x.2.d]
theorem p0 (x:Plc×Sta):D.ix (pair x) (.int 0)=some x.1.d:=rfl
theorem p1 (x:Plc×Sta):D.ix (pair x) (.int 1)=some x.2.d:=rfl
def putWord (w h:Int) (s:Sta) (n r:Int):Plc×Sta :=
 if (s.u=0\/s.u+1+n<=w)/\s.l+s.f+(1+r)<=h then (⟨s.p,s.l,if s.u=0 then 0 else s.u+1⟩,⟨s.p,s.l,(if s.u=0 then 0 else s.u+1)+n,s.f+r⟩)
 else if 0<s.u/\s.l+s.f+(2+r)<=h then (⟨s.p,s.l+1,0⟩,⟨s.p,s.l+1,0+n,s.f+r⟩)
 else (⟨s.p+1,0,0⟩,⟨s.p+1,0,0+n,r⟩)
theorem hw_at (w h:Int) (o li:Bool) (s:Sta) (n:Int):f_has_width [sty w h o li,s.d,.int n]=some (.bl (decide (s.u=0\/s.u+1+n<=w))):=by
 unfold f_has_width b_has_width sty Sta.d
 by_cases h1:s.u=0<;>by_cases h2:s.u+1+n<=w<;>simp [mulA_int,eCut,cutA,lI,defD,sD,sQ,sIf,sRet,sRetN,sAsg,sAug,sDrop,sNx,sBrk,sCnt,gS,gUnp,gAll,eV,eC,eOp,eUn,eNot,eAnd,eOr,eIf,eChain,eTup,eLst,eK,lN,lC,eInst,oNo,oAt,eCutL,D.len,D.lt,D.le,D.gt,D.ge,D.add,D.sub,D.ix,D.eqO,D.neO,D.cmp,D.cmpN,D.inst,tyD,D.isT,D.intB,D.min2,D.max2,D.neg,D.addI,ifO_bl,notO_bl,ifO_ite,notO_ite,seqO_nx,seqO_rt,seqO_bk,seqO_ct,seqO_none,seqO_ite,endD_rt,endD_nx,endD_ite,bind_ite,map_ite,andO_some,dep_non,dep_bl,dep_int,dep_str,dep_tup,dep_lst,depL_nil,depL_cons,D.rng,D.its,D.itsT,eq_int,eq_bl,eq_str,eq_tup,eq_lst,eqL_nil,eqL_cons,ixD,h1,h2]
theorem hh_at (w h:Int) (o li:Bool) (s:Sta) (n:Int):f_has_height [sty w h o li,s.d,.int n]=some (.bl (decide (s.l+s.f+n<=h))):=by
 unfold f_has_height b_has_height sty Sta.d
 simp [mulA_int,eCut,cutA,lI,defD,sD,sQ,sIf,sRet,sRetN,sAsg,sAug,sDrop,sNx,sBrk,sCnt,gS,gUnp,gAll,eV,eC,eOp,eUn,eNot,eAnd,eOr,eIf,eChain,eTup,eLst,eK,lN,lC,eInst,oNo,oAt,eCutL,D.len,D.lt,D.le,D.gt,D.ge,D.add,D.sub,D.ix,D.eqO,D.neO,D.cmp,D.cmpN,D.inst,tyD,D.isT,D.intB,D.min2,D.max2,D.neg,D.addI,ifO_bl,notO_bl,ifO_ite,notO_ite,seqO_nx,seqO_rt,seqO_bk,seqO_ct,seqO_none,seqO_ite,endD_rt,endD_nx,endD_ite,bind_ite,map_ite,andO_some,dep_non,dep_bl,dep_int,dep_str,dep_tup,dep_lst,depL_nil,depL_cons,D.rng,D.its,D.itsT,eq_int,eq_bl,eq_str,eq_tup,eq_lst,eqL_nil,eqL_cons,ixD]
theorem putWord_at (w h:Int) (o li:Bool) (s:Sta) (n r:Int):f_put_word [sty w h o li,s.d,.int n,.int r]=some (pair (putWord w h s n r)):=by
 have a1:=hw_at w h o li s n
 have a2:=hh_at w h o li s (1+r)
 have a3:=hh_at w h o li s (2+r)
 have i0:D.ix s.d (.int 0)=some (.int s.p):=rfl
 have i1:D.ix s.d (.int 1)=some (.int s.l):=rfl
 have i2:D.ix s.d (.int 2)=some (.int s.u):=rfl
 have i3:D.ix s.d (.int 3)=some (.int s.f):=rfl
 have wa:∀ a b c d e:Int,f_word_at [.int a,.int b,.int c,.int d,.int e]=some (pair (⟨a,b,c⟩,⟨a,b,c+d,e⟩)):=fun a b c d e=>by
  unfold f_word_at b_word_at pair Plc.d Sta.d
  simp [mulA_int,eCut,cutA,lI,defD,sD,sQ,sIf,sRet,sRetN,sAsg,sAug,sDrop,sNx,sBrk,sCnt,gS,gUnp,gAll,eV,eC,eOp,eUn,eNot,eAnd,eOr,eIf,eChain,eTup,eLst,eK,lN,lC,eInst,oNo,oAt,eCutL,D.len,D.lt,D.le,D.gt,D.ge,D.add,D.sub,D.ix,D.eqO,D.neO,D.cmp,D.cmpN,D.inst,tyD,D.isT,D.intB,D.min2,D.max2,D.neg,D.addI,ifO_bl,notO_bl,ifO_ite,notO_ite,seqO_nx,seqO_rt,seqO_bk,seqO_ct,seqO_none,seqO_ite,endD_rt,endD_nx,endD_ite,bind_ite,map_ite,andO_some,dep_non,dep_bl,dep_int,dep_str,dep_tup,dep_lst,depL_nil,depL_cons,D.rng,D.its,D.itsT,eq_int,eq_bl,eq_str,eq_tup,eq_lst,eqL_nil,eqL_cons]
 have eu:D.eqO (.int s.u) (.int 0)=some (.bl (decide (s.u=0))):=by simp [D.eqO,dep_int,eq_int,D.cmp]
 have gu:D.gt (.int s.u) (.int 0)=some (.bl (decide (0<s.u))):=rfl
 unfold f_put_word b_put_word putWord
 generalize Sta.d s=σ at *
 generalize sty w h o li=S at *
 refine stD rfl ?_
 refine st (e1:=[some S,some σ,some (.int n),some (.int r),some (.int s.p),none,none,none,none]) (asg (opE rfl rfl i0) rfl) ?_
 refine st (e1:=[some S,some σ,some (.int n),some (.int r),some (.int s.p),some (.int s.l),none,none,none]) (asg (opE rfl rfl i1) rfl) ?_
 refine st (e1:=[some S,some σ,some (.int n),some (.int r),some (.int s.p),some (.int s.l),some (.int s.u),none,none]) (asg (opE rfl rfl i2) rfl) ?_
 refine st (e1:=[some S,some σ,some (.int n),some (.int r),some (.int s.p),some (.int s.l),some (.int s.u),some (.int (s.f+r)),none]) (asg (opE (opE rfl rfl i3) rfl rfl) rfl) ?_
 by_cases h1:(s.u=0\/s.u+1+n<=w)/\s.l+s.f+(1+r)<=h
 ·rw [if_pos h1]
  refine stR (ifT (andT (call3 rfl rfl rfl (by rw [a1,decide_eq_true h1.1])) (call3 rfl rfl (opE rfl rfl rfl) (by rw [a2,decide_eq_true h1.2]))) ?_)
  refine st (e1:=[some S,some σ,some (.int n),some (.int r),some (.int s.p),some (.int s.l),some (.int s.u),some (.int (s.f+r)),some (.int (if s.u=0 then 0 else s.u+1))]) ?_ ?_
  ·refine asg ?_ rfl
   unfold eIf
   rw [show eOp D.eqO (eV 6) (eC (.int 0)) [some S,some σ,some (.int n),some (.int r),some (.int s.p),some (.int s.l),some (.int s.u),some (.int (s.f+r)),none]=some (.bl (decide (s.u=0))) from opE rfl rfl eu,ifO_bl]
   by_cases z:s.u=0
   ·rw [decide_eq_true z,if_pos rfl,if_pos z];rfl
   ·rw [decide_eq_false z,if_neg (by decide),if_neg z];rfl
  ·refine ret ?_
   simp only [eK,lC,lN,eV,List.getElem?_cons_zero,List.getElem?_cons_succ,Option.join_some,Option.bind_some,Option.map_some,wa]
 ·rw [if_neg h1]
  refine st (e1:=[some S,some σ,some (.int n),some (.int r),some (.int s.p),some (.int s.l),some (.int s.u),some (.int (s.f+r)),none]) ?_ ?_
  ·refine ifF ?_ rfl
   by_cases z:s.u=0\/s.u+1+n<=w
   ·exact andT (call3 rfl rfl rfl (by rw [a1,decide_eq_true z])) (call3 rfl rfl (opE rfl rfl rfl) (by rw [a2,decide_eq_false fun q=>h1 ⟨z,q⟩]))
   ·exact andF (call3 rfl rfl rfl (by rw [a1,decide_eq_false z]))
  ·by_cases h2:0<s.u/\s.l+s.f+(2+r)<=h
   ·rw [if_pos h2]
    refine stR (ifT (andT (opE rfl rfl (by rw [gu,decide_eq_true h2.1])) (call3 rfl rfl (opE rfl rfl rfl) (by rw [a3,decide_eq_true h2.2]))) (ret ?_))
    simp only [eK,eOp,eC,lC,lN,eV,List.getElem?_cons_zero,List.getElem?_cons_succ,Option.join_some,Option.bind_some,Option.map_some,add_int,wa]
   ·rw [if_neg h2]
    refine st (e1:=[some S,some σ,some (.int n),some (.int r),some (.int s.p),some (.int s.l),some (.int s.u),some (.int (s.f+r)),none]) ?_ ?_
    ·refine ifF ?_ rfl
     by_cases z:0<s.u
     ·exact andT (opE rfl rfl (by rw [gu,decide_eq_true z])) (call3 rfl rfl (opE rfl rfl rfl) (by rw [a3,decide_eq_false fun q=>h2 ⟨z,q⟩]))
     ·exact andF (opE rfl rfl (by rw [gu,decide_eq_false z]))
    ·refine ret ?_
     simp only [eK,eOp,eC,lC,lN,eV,List.getElem?_cons_zero,List.getElem?_cons_succ,Option.join_some,Option.bind_some,Option.map_some,add_int,wa]
def endLine (s:Sta):Sta:=if s.u=0 then s else ⟨s.p,s.l+1,0,s.f⟩
theorem endLine_at (s:Sta):f_end_line [s.d]=some (endLine s).d:=by
 unfold f_end_line b_end_line endLine
 by_cases z:s.u=0<;>simp [mulA_int,eCut,cutA,lI,defD,sD,sQ,sIf,sRet,sRetN,sAsg,sAug,sDrop,sNx,sBrk,sCnt,gS,gUnp,gAll,eV,eC,eOp,eUn,eNot,eAnd,eOr,eIf,eChain,eTup,eLst,eK,lN,lC,eInst,oNo,oAt,eCutL,D.len,D.lt,D.le,D.gt,D.ge,D.add,D.sub,D.ix,D.eqO,D.neO,D.cmp,D.cmpN,D.inst,tyD,D.isT,D.intB,D.min2,D.max2,D.neg,D.addI,ifO_bl,notO_bl,ifO_ite,notO_ite,seqO_nx,seqO_rt,seqO_bk,seqO_ct,seqO_none,seqO_ite,endD_rt,endD_nx,endD_ite,bind_ite,map_ite,andO_some,dep_non,dep_bl,dep_int,dep_str,dep_tup,dep_lst,depL_nil,depL_cons,D.rng,D.its,D.itsT,eq_int,eq_bl,eq_str,eq_tup,eq_lst,eqL_nil,eqL_cons,Sta.d,ixD,z]
def bareS (p:Int):Sta:=⟨p,0,0,0⟩
theorem bare_at (p:Int):f_bare [.int p]=some (bareS p).d:=by
 unfold f_bare b_bare
 simp [mulA_int,eCut,cutA,lI,defD,sD,sQ,sIf,sRet,sRetN,sAsg,sAug,sDrop,sNx,sBrk,sCnt,gS,gUnp,gAll,eV,eC,eOp,eUn,eNot,eAnd,eOr,eIf,eChain,eTup,eLst,eK,lN,lC,eInst,oNo,oAt,eCutL,D.len,D.lt,D.le,D.gt,D.ge,D.add,D.sub,D.ix,D.eqO,D.neO,D.cmp,D.cmpN,D.inst,tyD,D.isT,D.intB,D.min2,D.max2,D.neg,D.addI,ifO_bl,notO_bl,ifO_ite,notO_ite,seqO_nx,seqO_rt,seqO_bk,seqO_ct,seqO_none,seqO_ite,endD_rt,endD_nx,endD_ite,bind_ite,map_ite,andO_some,dep_non,dep_bl,dep_int,dep_str,dep_tup,dep_lst,depL_nil,depL_cons,D.rng,D.its,D.itsT,eq_int,eq_bl,eq_str,eq_tup,eq_lst,eqL_nil,eqL_cons,Sta.d,bareS]
def putBlock (h:Int) (s:Sta) (rows keep:Int):Plc×Sta :=
 let t:=if (endLine s).l+(endLine s).f+(rows+keep)<=h then endLine s else bareS ((endLine s).p+1)
 (⟨t.p,t.l,0⟩,⟨t.p,t.l+rows,0,t.f⟩)
theorem putBlock_at (w h:Int) (o li:Bool) (s:Sta) (rows keep:Int):f_put_block [sty w h o li,s.d,.int rows,.int keep]=some (pair (putBlock h s rows keep)):=by
 have a1:=endLine_at s
 have a2:=hh_at w h o li (endLine s) (rows+keep)
 have a3:=bare_at ((endLine s).p+1)
 unfold f_put_block b_put_block putBlock
 generalize endLine s=t at *
 generalize Sta.d s=σ at *
 have i0:D.ix t.d (.int 0)=some (.int t.p):=rfl
 generalize sty w h o li=S at *
 refine stD rfl ?_
 refine st (e1:=[some S,some σ,some (.int rows),some (.int keep),some t.d,none]) (asg (call1 rfl a1) rfl) ?_
 obtain ⟨t2,e2⟩:∃ t2,(if t.l+t.f+(rows+keep)<=h then t else bareS (t.p+1))=t2:=⟨_,rfl⟩
 refine st (e1:=[some S,some σ,some (.int rows),some (.int keep),some t2.d,none]) ?_ ?_
 ·by_cases z:t.l+t.f+(rows+keep)<=h
  ·rw [if_pos z] at e2
   subst e2
   exact ifF (notE (b:=true) (call3 rfl rfl (opE rfl rfl rfl) (by rw [a2,decide_eq_true z]))) rfl
  ·rw [if_neg z] at e2
   subst e2
   exact ifT (notE (b:=false) (call3 rfl rfl (opE rfl rfl rfl) (by rw [a2,decide_eq_false z]))) (asg (call1 (opE (opE rfl rfl i0) rfl rfl) a3) rfl)
 ·simp only [e2]
  simp [mulA_int,eCut,cutA,lI,defD,sD,sQ,sIf,sRet,sRetN,sAsg,sAug,sDrop,sNx,sBrk,sCnt,gS,gUnp,gAll,eV,eC,eOp,eUn,eNot,eAnd,eOr,eIf,eChain,eTup,eLst,eK,lN,lC,eInst,oNo,oAt,eCutL,D.len,D.lt,D.le,D.gt,D.ge,D.add,D.sub,D.ix,D.eqO,D.neO,D.cmp,D.cmpN,D.inst,tyD,D.isT,D.intB,D.min2,D.max2,D.neg,D.addI,ifO_bl,notO_bl,ifO_ite,notO_ite,seqO_nx,seqO_rt,seqO_bk,seqO_ct,seqO_none,seqO_ite,endD_rt,endD_nx,endD_ite,bind_ite,map_ite,andO_some,dep_non,dep_bl,dep_int,dep_str,dep_tup,dep_lst,depL_nil,depL_cons,D.rng,D.its,D.itsT,eq_int,eq_bl,eq_str,eq_tup,eq_lst,eqL_nil,eqL_cons,Sta.d,Plc.d,pair,ixD]
def newPage (s:Sta):Sta:=if s.l=0/\s.u=0/\s.f=0 then s else bareS (s.p+1)
theorem newPage_at (s:Sta):f_new_page [s.d]=some (newPage s).d:=by
 have b0:=bare_at s.p
 have b1:=bare_at (s.p+1)
 unfold f_new_page b_new_page newPage
 have i0:D.ix s.d (.int 0)=some (.int s.p):=rfl
 have eq:D.eqO s.d (bareS s.p).d=some (.bl (decide (s.l=0/\s.u=0/\s.f=0))):=by
  unfold Sta.d bareS
  by_cases h1:s.l=0<;>by_cases h2:s.u=0<;>by_cases h3:s.f=0<;>simp [D.eqO,dep_tup,depL_cons,depL_nil,dep_int,eq_tup,eqL_cons,eqL_nil,eq_int,D.cmp,andO,h1,h2,h3]
 refine stD rfl ?_
 by_cases z:s.l=0/\s.u=0/\s.f=0
 ·rw [if_pos z]
  exact stR (ifT (opE (x:=s.d) rfl (call1 (opE (x:=s.d) rfl rfl i0) b0) (by rw [eq,decide_eq_true z])) (ret rfl))
 ·rw [if_neg z]
  exact st (e1:=[some s.d]) (ifF (opE (x:=s.d) rfl (call1 (opE (x:=s.d) rfl rfl i0) b0) (by rw [eq,decide_eq_false z])) rfl) (ret (call1 (opE (opE (x:=s.d) rfl rfl i0) rfl rfl) b1))
def newChapter (o:Bool) (s:Sta):Sta:=if o=true/\(newPage s).p%2=0 then bareS ((newPage s).p+1) else newPage s
theorem newChapter_at (w h:Int) (o li:Bool) (s:Sta):f_new_chapter [sty w h o li,s.d]=some (newChapter o s).d:=by
 have a1:=newPage_at s
 have b1:=bare_at ((newPage s).p+1)
 unfold f_new_chapter b_new_chapter newChapter
 generalize newPage s=t at *
 have i0:D.ix t.d (.int 0)=some (.int t.p):=rfl
 have io:D.ix (sty w h o li) (.int 2)=some (.bl o):=rfl
 have em:D.eqO (.int (t.p%2)) (.int 0)=some (.bl (decide (t.p%2=0))):=by simp [D.eqO,dep_int,eq_int,D.cmp]
 generalize sty w h o li=S at *
 refine stD rfl ?_
 refine st (e1:=[some S,some s.d,some t.d]) (asg (call1 rfl a1) rfl) ?_
 by_cases z:o=true/\t.p%2=0
 ·rw [if_pos z]
  exact stR (ifT (andT (opE rfl rfl (by rw [io,z.1])) (opE (opE (opE (x:=t.d) rfl rfl i0) rfl (modp _ (by decide))) rfl (by rw [em,decide_eq_true z.2]))) (ret (call1 (opE (opE (x:=t.d) rfl rfl i0) rfl rfl) b1)))
 ·rw [if_neg z]
  refine st (e1:=[some S,some s.d,some t.d]) (ifF ?_ rfl) (ret rfl)
  cases o with
  | false=>exact andF (opE rfl rfl io)
  | true=>exact andT (opE rfl rfl io) (opE (opE (opE (x:=t.d) rfl rfl i0) rfl (modp _ (by decide))) rfl (by rw [em,decide_eq_false fun q=>z ⟨rfl,q⟩]))
def putPlates (s:Sta) (n:Int):Plc×Sta:=(⟨(newPage s).p,0,0⟩,bareS ((newPage s).p+n))
theorem putPlates_at (s:Sta) (n:Int):f_put_plates [s.d,.int n]=some (pair (putPlates s n)):=by
 have a1:=newPage_at s
 have b1:=bare_at ((newPage s).p+n)
 unfold f_put_plates b_put_plates putPlates
 generalize newPage s=t at *
 have i0:D.ix t.d (.int 0)=some (.int t.p):=rfl
 refine stD rfl ?_
 refine st (e1:=[some s.d,some (.int n),some (.int t.p)]) (asg (opE (call1 rfl a1) rfl i0) rfl) (ret ?_)
 simp only [eTup,lC,lN,eV,eC,eK,eOp,List.getElem?_cons_zero,List.getElem?_cons_succ,Option.join_some,Option.bind_some,Option.map_some,add_int,b1,pair,Plc.d]
def isTit:Bk->Bool
 | .chapter _ _=>true
 | .heading _ _ _=>true
 | _=>false
theorem isTit_at (b:Bk):f_is_titled [b.d]=some (.bl (isTit b)):=by
 unfold f_is_titled b_is_titled
 cases b<;>simp [mulA_int,eCut,cutA,lI,defD,sD,sQ,sIf,sRet,sRetN,sAsg,sAug,sDrop,sNx,sBrk,sCnt,gS,gUnp,gAll,eV,eC,eOp,eUn,eNot,eAnd,eOr,eIf,eChain,eTup,eLst,eK,lN,lC,eInst,oNo,oAt,eCutL,D.len,D.lt,D.le,D.gt,D.ge,D.add,D.sub,D.ix,D.eqO,D.neO,D.cmp,D.cmpN,D.inst,tyD,D.isT,D.intB,D.min2,D.max2,D.neg,D.addI,ifO_bl,notO_bl,ifO_ite,notO_ite,seqO_nx,seqO_rt,seqO_bk,seqO_ct,seqO_none,seqO_ite,endD_rt,endD_nx,endD_ite,bind_ite,map_ite,andO_some,dep_non,dep_bl,dep_int,dep_str,dep_tup,dep_lst,depL_nil,depL_cons,D.rng,D.its,D.itsT,eq_int,eq_bl,eq_str,eq_tup,eq_lst,eqL_nil,eqL_cons,ixD,D.inO,flatD,inD,isTit]
theorem isSet_at (i:It):f_is_set [i.d]=some (.bl (isSet i)):=by
 unfold f_is_set b_is_set
 cases i<;>simp [mulA_int,eCut,cutA,lI,defD,sD,sQ,sIf,sRet,sRetN,sAsg,sAug,sDrop,sNx,sBrk,sCnt,gS,gUnp,gAll,eV,eC,eOp,eUn,eNot,eAnd,eOr,eIf,eChain,eTup,eLst,eK,lN,lC,eInst,oNo,oAt,eCutL,D.len,D.lt,D.le,D.gt,D.ge,D.add,D.sub,D.ix,D.eqO,D.neO,D.cmp,D.cmpN,D.inst,tyD,D.isT,D.intB,D.min2,D.max2,D.neg,D.addI,ifO_bl,notO_bl,ifO_ite,notO_ite,seqO_nx,seqO_rt,seqO_bk,seqO_ct,seqO_none,seqO_ite,endD_rt,endD_nx,endD_ite,bind_ite,map_ite,andO_some,dep_non,dep_bl,dep_int,dep_str,dep_tup,dep_lst,depL_nil,depL_cons,D.rng,D.its,D.itsT,eq_int,eq_bl,eq_str,eq_tup,eq_lst,eqL_nil,eqL_cons,ixD,D.inO,flatD,inD,isSet,isWd,isRef]
def plcs (xs:List Plc):D:=.lst (xs.map Plc.d)
theorem appPlc {xs:List Plc} (x:Plc) (h:xs.length<lI):D.app (plcs xs) x.d=some (plcs (xs++[x])):=app_at (f:=Plc.d) x h
def itemStep (w h:Int) (rooms:List Int) (s:List Plc×Nat×Sta):It->List Plc×Nat×Sta
 | .word x ns=>(s.1++[(putWord w h s.2.2 x.length ns.length).1],s.2.1,(putWord w h s.2.2 x.length ns.length).2)
 | .ref _ a b=>(s.1++[(putWord w h s.2.2 ((a.length:Int)+rooms.getD s.2.1 0+b.length) 0).1],s.2.1+1,(putWord w h s.2.2 ((a.length:Int)+rooms.getD s.2.1 0+b.length) 0).2)
 | _=>s
def setItems (w h:Int) (s:Sta) (rooms:List Int) (is:List It):List Plc×Nat×Sta:=is.foldl (itemStep w h rooms) ([],0,s)
theorem fold_take {α σ:Type} (f:σ->α->σ) (s:σ) (xs:List α) (i:Nat) (hi:i<xs.length):(xs.take (i+1)).foldl f s=f ((xs.take i).foldl f s) xs[i]:=by
 rw [List.take_succ_eq_append_getElem hi,List.foldl_append];rfl
theorem refsI_take (is:List It) (i:Nat) (hi:i<is.length):(refsI (is.take (i+1))).length=(refsI (is.take i)).length+(if isRef is[i] then 1 else 0):=by
 unfold refsI
 rw [List.take_succ_eq_append_getElem hi,List.filter_append,List.map_append,List.length_append]
 congr 1
 cases q:isRef is[i]<;>simp [q]
theorem refsI_take_le (is:List It) (i:Nat):(refsI (is.take i)).length<=(refsI is).length:=by
 unfold refsI
 rw [List.length_map,List.length_map]
 exact ((List.take_sublist i is).filter _).length_le
theorem itemStep_len (w h:Int) (rooms:List Int):∀ (is:List It) (s:List Plc×Nat×Sta),(is.foldl (itemStep w h rooms) s).1.length<=s.1.length+is.length/\(is.foldl (itemStep w h rooms) s).2.1=s.2.1+(refsI is).length
 | [],s=>⟨Nat.le_refl _,rfl⟩
 | i::is,s=>by
  obtain ⟨h1,h2⟩:=itemStep_len w h rooms is (itemStep w h rooms s i)
  rw [List.foldl_cons,List.length_cons]
  unfold refsI at h2 ⊢
  cases i<;>simp [itemStep,List.filter_cons,isRef] at h1 h2 ⊢<;>omega
def ItT:It->Prop
 | .word x ns=>x.length<=1000/\ns.length<=1000/\∀ r∈ns,r.length<=1000
 | .ref _ a b=>a.length<=1000/\b.length<=1000
 | _=>True
theorem setItems_at (w h:Int) (o li:Bool) (s:Sta) (rooms:List Int) (is:List It) (hl:is.length<=100000) (hr:(refsI is).length<=rooms.length) (ht:∀ i∈is,ItT i) :
  f_set_items [.lst (is.map It.d),sty w h o li,s.d,.lst (rooms.map .int)]=some (.tup [plcs (setItems w h s rooms is).1,(endLine (setItems w h s rooms is).2.2).d]):=by
 unfold f_set_items b_set_items
 refine stD rfl ?_
 refine st (e1:=[some (.lst (is.map It.d)),some (sty w h o li),some s.d,some (.lst (rooms.map .int)),some (plcs []),none,none,none,none]) rfl ?_
 refine st (e1:=[some (.lst (is.map It.d)),some (sty w h o li),some s.d,some (.lst (rooms.map .int)),some (plcs []),some (.int 0),none,none,none]) rfl ?_
 refine stFor It.d is (fun i e=>∃ a b c,e=[some (.lst (is.map It.d)),some (sty w h o li),some ((is.take i).foldl (itemStep w h rooms) ([],0,s)).2.2.d,some (.lst (rooms.map .int)),some (plcs ((is.take i).foldl (itemStep w h rooms) ([],0,s)).1),some (.int ((is.take i).foldl (itemStep w h rooms) ([],0,s)).2.1),a,b,c]) rfl ⟨none,none,none,rfl⟩ ?_ ?_
 ·rintro i hi e ⟨a,b,c,rfl⟩
  rw [fold_take _ _ _ _ hi]
  have hb:=(itemStep_len w h rooms (is.take i) ([],0,s))
  have hlt:((is.take i).foldl (itemStep w h rooms) ([],0,s)).1.length<lI:=lt_big (by have:=hb.1;rw [List.length_take] at this;simp at this;omega)
  have h2:=hb.2
  have h3:=refsI_take is i hi
  have h4:=refsI_take_le is (i+1)
  have hT:=ht is[i] (List.getElem_mem hi)
  have iset:=isSet_at is[i]
  generalize is[i]=x at *
  generalize (is.take i).foldl (itemStep w h rooms) ([],0,s)=z at *
  obtain ⟨pl,k,t⟩:=z
  simp only [] at hlt h2 ⊢
  simp at h2
  have ap:=fun y=>appPlc (xs:=pl) y hlt
  generalize D.lst (is.map It.d)=IS at *
  cases x with
  | word wd ns =>
   refine ⟨_,.inl ?_,some (It.word wd ns).d,b,some (pair (putWord w h t wd.length ns.length)),rfl⟩
   refine bnd (e1:=[some IS,some (sty w h o li),some t.d,some (.lst (rooms.map .int)),some (plcs pl),some (.int k),some (It.word wd ns).d,b,c]) rfl ?_
   refine ifT (call1 rfl iset) ?_
   have l1:=lenS (x:=wd) (by have:=hT.1;omega)
   have l2:=lenStrs ns
   have pw:=putWord_at w h o li t wd.length ns.length
   refine st (e1:=[some IS,some (sty w h o li),some t.d,some (.lst (rooms.map .int)),some (plcs pl),some (.int k),some (It.word wd ns).d,b,some (pair (putWord w h t wd.length ns.length))]) ?_ ?_
   ·refine ifF (opE (x:=.str "word") (opE (x:=(It.word wd ns).d) rfl rfl rfl) rfl (by rw [eqS];simp)) ?_
    exact asg (call4 rfl rfl (unE (opE (x:=(It.word wd ns).d) rfl rfl rfl) l1) (unE (opE (x:=(It.word wd ns).d) rfl rfl rfl) l2) pw) rfl
   ·refine st (e1:=[some IS,some (sty w h o li),some t.d,some (.lst (rooms.map .int)),some (plcs (pl++[(putWord w h t wd.length ns.length).1])),some (.int k),some (It.word wd ns).d,b,some (pair (putWord w h t wd.length ns.length))]) (appS rfl (opE (x:=pair (putWord w h t wd.length ns.length)) rfl rfl (p0 _)) (ap _)) ?_
    exact asg (opE (x:=pair (putWord w h t wd.length ns.length)) rfl rfl (p1 _)) rfl
  | ref l x1 x2 =>
   have hk:k<rooms.length:=by
    have e1:isRef (It.ref l x1 x2)=true:=rfl
    rw [e1,if_pos rfl] at h3
    omega
   have rx:D.ix (.lst (rooms.map .int)) (.int k)=some (.int (rooms.getD k 0)):=ixLs (f:=D.int) rooms k 0 (by omega) (by omega)
   obtain ⟨sz,esz⟩:∃ sz:Int,(x1.length:Int)+rooms.getD k 0+x2.length=sz:=⟨_,rfl⟩
   have pw:=putWord_at w h o li t sz 0
   have e1:itemStep w h rooms (pl,k,t) (.ref l x1 x2)=(pl++[(putWord w h t sz 0).1],k+1,(putWord w h t sz 0).2):=by rw [<- esz];rfl
   rw [e1]
   refine ⟨_,.inl ?_,some (It.ref l x1 x2).d,some (.int sz),some (pair (putWord w h t sz 0)),rfl⟩
   refine bnd (e1:=[some IS,some (sty w h o li),some t.d,some (.lst (rooms.map .int)),some (plcs pl),some (.int k),some (It.ref l x1 x2).d,b,c]) rfl ?_
   refine ifT (call1 rfl iset) ?_
   have l1:=lenS (x:=x1) (by have:=hT.1;omega)
   have l2:=lenS (x:=x2) (by have:=hT.2;omega)
   refine st (e1:=[some IS,some (sty w h o li),some t.d,some (.lst (rooms.map .int)),some (plcs pl),some (.int (k+1:Nat)),some (It.ref l x1 x2).d,some (.int sz),some (pair (putWord w h t sz 0))]) ?_ ?_
   ·refine ifT (opE (x:=.str "ref") (opE (x:=(It.ref l x1 x2).d) rfl rfl rfl) rfl (by rw [eqS];simp)) ?_
    refine st (e1:=[some IS,some (sty w h o li),some t.d,some (.lst (rooms.map .int)),some (plcs pl),some (.int k),some (It.ref l x1 x2).d,some (.int sz),c]) (asg (opE (opE (unE (opE (x:=(It.ref l x1 x2).d) rfl rfl rfl) l1) (opE (x:=.lst (rooms.map .int)) rfl rfl rx) rfl) (unE (opE (x:=(It.ref l x1 x2).d) rfl rfl rfl) l2) (by rw [add_int,esz])) rfl) ?_
    refine st (e1:=[some IS,some (sty w h o li),some t.d,some (.lst (rooms.map .int)),some (plcs pl),some (.int k),some (It.ref l x1 x2).d,some (.int sz),some (pair (putWord w h t sz 0))]) (asg (call4 rfl rfl rfl rfl pw) rfl) ?_
    rfl
   ·refine st (e1:=[some IS,some (sty w h o li),some t.d,some (.lst (rooms.map .int)),some (plcs (pl++[(putWord w h t sz 0).1])),some (.int (k+1:Nat)),some (It.ref l x1 x2).d,some (.int sz),some (pair (putWord w h t sz 0))]) (appS rfl (opE (x:=pair (putWord w h t sz 0)) rfl rfl (p0 _)) (ap _)) ?_
    exact asg (opE (x:=pair (putWord w h t sz 0)) rfl rfl (p1 _)) rfl
  | mark l=>exact ⟨_,.inl (bnd (e1:=[some IS,some (sty w h o li),some t.d,some (.lst (rooms.map .int)),some (plcs pl),some (.int k),some (It.mark l).d,b,c]) rfl (ifF (call1 rfl iset) rfl)),some (It.mark l).d,b,c,rfl⟩
  | key l=>exact ⟨_,.inl (bnd (e1:=[some IS,some (sty w h o li),some t.d,some (.lst (rooms.map .int)),some (plcs pl),some (.int k),some (It.key l).d,b,c]) rfl (ifF (call1 rfl iset) rfl)),some (It.key l).d,b,c,rfl⟩
 ·rintro e ⟨a,b,c,rfl⟩
  rw [List.take_length]
  refine ret ?_
  have:=endLine_at (setItems w h s rooms is).2.2
  simp only [eTup,lC,lN,eV,eK,List.getElem?_cons_zero,List.getElem?_cons_succ,Option.join_some,Option.bind_some,Option.map_some]
  rw [show (is.foldl (itemStep w h rooms) ([],0,s)).2.2=(setItems w h s rooms is).2.2 from rfl,this]
  rfl
def contStep (h:Int) (s:List Plc×Sta) (b:Bk):List Plc×Sta:=if isTit b then (s.1++[(putBlock h s.2 1 0).1],(putBlock h s.2 1 0).2) else s
def contF (h:Int) (bs:List Bk):List Plc×Sta:=bs.foldl (contStep h) ([],bareS 1)
def setContents (h:Int) (o li:Bool) (bs:List Bk):List Plc×Sta :=
 if li=true then ((contF h bs).1,if (contF h bs).1.length > 0 then newChapter o (contF h bs).2 else (contF h bs).2) else ([],bareS 1)
theorem contStep_len (h:Int):∀ (bs:List Bk) (s:List Plc×Sta),(bs.foldl (contStep h) s).1.length<=s.1.length+bs.length
 | [],s=>Nat.le_refl _
 | b::bs,s=>by
  have:=contStep_len h bs (contStep h s b)
  rw [List.foldl_cons,List.length_cons]
  have:(contStep h s b).1.length<=s.1.length+1:=by unfold contStep;split<;>simp
  omega
theorem lenPlcs (xs:List Plc):D.len (plcs xs)=some (.int xs.length):=by
 show some (D.int (xs.map Plc.d).length)=_
 rw [List.length_map]
theorem setContents_at (w h:Int) (o li:Bool) (bs:List Bk) (hl:bs.length<=100000):f_set_contents [bks bs,sty w h o li]=some (.tup [plcs (setContents h o li bs).1,(setContents h o li bs).2.d]):=by
 have b1:=bare_at 1
 have io:D.ix (sty w h o li) (.int 3)=some (.bl li):=rfl
 unfold f_set_contents b_set_contents setContents
 refine stD rfl ?_
 refine st (e1:=[some (bks bs),some (sty w h o li),some (plcs []),none,none,none]) rfl ?_
 refine st (e1:=[some (bks bs),some (sty w h o li),some (plcs []),some (bareS 1).d,none,none]) (asg (call1 rfl b1) rfl) ?_
 cases li with
 | false =>
  rw [if_neg (by decide)]
  exact stR (ifT (notE (b:=false) (opE rfl rfl io)) (ret rfl))
 | true =>
  rw [if_pos rfl]
  refine st (e1:=[some (bks bs),some (sty w h o true),some (plcs []),some (bareS 1).d,none,none]) (ifF (notE (b:=true) (opE rfl rfl io)) rfl) ?_
  refine stFor Bk.d bs (fun i e=>∃ a b,e=[some (bks bs),some (sty w h o true),some (plcs ((bs.take i).foldl (contStep h) ([],bareS 1)).1),some ((bs.take i).foldl (contStep h) ([],bareS 1)).2.d,a,b]) rfl ⟨none,none,rfl⟩ ?_ ?_
  ·rintro i hi e ⟨a,b,rfl⟩
   rw [fold_take _ _ _ _ hi]
   have hb:=contStep_len h (bs.take i) ([],bareS 1)
   have hlt:((bs.take i).foldl (contStep h) ([],bareS 1)).1.length<lI:=lt_big (by rw [List.length_take] at hb;simp at hb;omega)
   have it:=isTit_at bs[i]
   generalize bs[i]=x at *
   generalize (bs.take i).foldl (contStep h) ([],bareS 1)=z at *
   obtain ⟨pl,t⟩:=z
   simp only [] at hlt ⊢
   have ap:=fun y=>appPlc (xs:=pl) y hlt
   have pb:=putBlock_at w h o true t 1 0
   unfold contStep
   cases q:isTit x with
   | true =>
    rw [if_pos rfl]
    rw [q] at it
    refine ⟨_,.inl ?_,some x.d,some (pair (putBlock h t 1 0)),rfl⟩
    refine bnd (e1:=[some (bks bs),some (sty w h o true),some (plcs pl),some t.d,some x.d,b]) rfl (ifT (call1 rfl it) ?_)
    refine st (e1:=[some (bks bs),some (sty w h o true),some (plcs pl),some t.d,some x.d,some (pair (putBlock h t 1 0))]) (asg (call4 rfl rfl rfl rfl pb) rfl) ?_
    refine st (e1:=[some (bks bs),some (sty w h o true),some (plcs (pl++[(putBlock h t 1 0).1])),some t.d,some x.d,some (pair (putBlock h t 1 0))]) (appS rfl (opE (x:=pair (putBlock h t 1 0)) rfl rfl (p0 _)) (ap _)) ?_
    exact asg (opE (x:=pair (putBlock h t 1 0)) rfl rfl (p1 _)) rfl
   | false =>
    rw [if_neg (by decide)]
    rw [q] at it
    exact ⟨_,.inl (bnd (e1:=[some (bks bs),some (sty w h o true),some (plcs pl),some t.d,some x.d,b]) rfl (ifF (call1 rfl it) rfl)),some x.d,b,rfl⟩
  ·rintro e ⟨a,b,rfl⟩
   rw [List.take_length]
   have nc:=newChapter_at w h o true (contF h bs).2
   have ln:=lenPlcs (contF h bs).1
   have cf:bs.foldl (contStep h) ([],bareS 1)=contF h bs:=rfl
   rw [cf]
   generalize contF h bs=z at *
   obtain ⟨pl,t⟩:=z
   simp only [] at nc ln ⊢
   refine st (e1:=[some (bks bs),some (sty w h o true),some (plcs pl),some (if pl.length > 0 then newChapter o t else t).d,a,b]) ?_ (ret rfl)
   by_cases z:pl.length > 0
   ·rw [if_pos z]
    exact ifT (opE (unE (x:=plcs pl) rfl ln) rfl (by show some (D.bl (decide ((0:Int)<pl.length)))=_;rw [decide_eq_true (by omega)])) (asg (call2 rfl rfl nc) rfl)
   ·rw [if_neg z]
    exact ifF (opE (unE (x:=plcs pl) rfl ln) rfl (by show some (D.bl (decide ((0:Int)<pl.length)))=_;rw [decide_eq_false (by omega)])) rfl
def setBlock (h:Int) (o:Bool) (s:Sta):Bk->Plc×Sta
 | .plates n _=>putPlates s n
 | .table rs _=>putBlock h s rs.length 0
 | .heading _ k _=>putBlock h s 1 k
 | _=>putBlock h (newChapter o s) 1 0
theorem setBlock_at (w h:Int) (o li:Bool) (s:Sta) (b:Bk) (hb:isPara b=false):f_set_block [b.d,sty w h o li,s.d]=some (pair (setBlock h o s b)):=by
 unfold f_set_block b_set_block
 cases b with
 | para is=>cases hb
 | plates n l =>
  have pp:=putPlates_at s n
  exact stD rfl (stR (ifT (opE (x:=.str "plates") (opE (x:=(Bk.plates n l).d) rfl rfl rfl) rfl (by rw [eqS];simp)) (ret (call2 rfl (opE (x:=(Bk.plates n l).d) rfl rfl rfl) pp))))
 | table rs l =>
  have pb:=putBlock_at w h o li s rs.length 0
  refine stD rfl ?_
  refine st (e1:=[some (Bk.table rs l).d,some (sty w h o li),some s.d]) (ifF (opE (x:=.str "table") (opE (x:=(Bk.table rs l).d) rfl rfl rfl) rfl (by rw [eqS];simp)) rfl) ?_
  exact stR (ifT (opE (x:=.str "table") (opE (x:=(Bk.table rs l).d) rfl rfl rfl) rfl (by rw [eqS];simp)) (ret (call4 rfl rfl (unE (opE (x:=(Bk.table rs l).d) rfl rfl rfl) (lenStrs rs)) rfl pb)))
 | heading t k l =>
  have pb:=putBlock_at w h o li s 1 k
  refine stD rfl ?_
  refine st (e1:=[some (Bk.heading t k l).d,some (sty w h o li),some s.d]) (ifF (opE (x:=.str "heading") (opE (x:=(Bk.heading t k l).d) rfl rfl rfl) rfl (by rw [eqS];simp)) rfl) ?_
  refine st (e1:=[some (Bk.heading t k l).d,some (sty w h o li),some s.d]) (ifF (opE (x:=.str "heading") (opE (x:=(Bk.heading t k l).d) rfl rfl rfl) rfl (by rw [eqS];simp)) rfl) ?_
  exact stR (ifT (opE (x:=.str "heading") (opE (x:=(Bk.heading t k l).d) rfl rfl rfl) rfl (by rw [eqS];simp)) (ret (call4 rfl rfl rfl (opE (x:=(Bk.heading t k l).d) rfl rfl rfl) pb)))
 | chapter t l =>
  have nc:=newChapter_at w h o li s
  have pb:=putBlock_at w h o li (newChapter o s) 1 0
  refine stD rfl ?_
  refine st (e1:=[some (Bk.chapter t l).d,some (sty w h o li),some s.d]) (ifF (opE (x:=.str "chapter") (opE (x:=(Bk.chapter t l).d) rfl rfl rfl) rfl (by rw [eqS];simp)) rfl) ?_
  refine st (e1:=[some (Bk.chapter t l).d,some (sty w h o li),some s.d]) (ifF (opE (x:=.str "chapter") (opE (x:=(Bk.chapter t l).d) rfl rfl rfl) rfl (by rw [eqS];simp)) rfl) ?_
  refine st (e1:=[some (Bk.chapter t l).d,some (sty w h o li),some s.d]) (ifF (opE (x:=.str "chapter") (opE (x:=(Bk.chapter t l).d) rfl rfl rfl) rfl (by rw [eqS];simp)) rfl) ?_
  exact ret (call4 rfl (call2 rfl rfl nc) rfl rfl pb)
def bookStep (w h:Int) (o:Bool) (rooms:List Int) (s:List (List Plc)×Sta×Nat) (b:Bk):List (List Plc)×Sta×Nat:=match b with
 | .para is=>(s.1++[(setItems w h s.2.1 (rooms.drop s.2.2) is).1],endLine (setItems w h s.2.1 (rooms.drop s.2.2) is).2.2,s.2.2+(refsI is).length)
 | b=>(s.1++[[(setBlock h o s.2.1 b).1]],(setBlock h o s.2.1 b).2,s.2.2)
def setBook (w h:Int) (o li:Bool) (rooms:List Int) (bs:List Bk):List (List Plc)×Sta×Nat:=bs.foldl (bookStep w h o rooms) ([(setContents h o li bs).1],(setContents h o li bs).2,0)
theorem bookStep_len (w h:Int) (o:Bool) (rooms:List Int):∀ (bs:List Bk) (s:List (List Plc)×Sta×Nat),(bs.foldl (bookStep w h o rooms) s).1.length=s.1.length+bs.length/\(bs.foldl (bookStep w h o rooms) s).2.2=s.2.2+(rO bs).length
 | [],s=>⟨rfl,rfl⟩
 | b::bs,s=>by
  obtain ⟨h1,h2⟩:=bookStep_len w h o rooms bs (bookStep w h o rooms s b)
  rw [List.foldl_cons,List.length_cons,h1,h2]
  have e:(rO (b::bs)).length=(refsI (iO b)).length+(rO bs).length:=by unfold rO;rw [List.flatMap_cons,List.length_append]
  rw [e]
  cases b<;>simp [bookStep,iO,refsI]<;>omega
def told (xs:List (List Plc)):D:=.lst (xs.map plcs)
theorem appTold {xs:List (List Plc)} (x:List Plc) (h:xs.length<lI):D.app (told xs) (plcs x)=some (told (xs++[x])):=app_at (f:=plcs) x h
theorem cut_drop (xs:List Int) (k:Nat) (h:k<=xs.length):cutA (.lst (xs.map .int)) (some (k:Int)) none=some (.lst ((xs.drop k).map .int)):=by
 show some (D.lst (cutD (xs.map D.int) (some (k:Int)) none))=_
 congr 1
 unfold cutD sIxD
 simp only []
 rw [if_neg (by omega),List.length_map,show min (k:Int).toNat xs.length=k from by omega,List.map_drop,List.take_of_length_le (by rw [List.length_drop,List.length_map];omega)]
def BkT (b:Bk):Prop:=∀ i∈iO b,ItT i
theorem few_one {bs:List Bk} (hf:Few bs) (b:Bk) (hb:b∈bs):Few [b]:=⟨by simp,by have:=items_le hf b hb;simpa using this⟩
theorem refsOf_one (b:Bk):rO [b]=refsI (iO b):=by unfold rO;simp
theorem setBook_at (w h:Int) (o li:Bool) (rooms:List Int) (bs:List Bk) (hf:Few bs) (hr:(rO bs).length<=rooms.length) (ht:∀ b∈bs,BkT b) :
  f_set_book [bks bs,sty w h o li,.lst (rooms.map .int)]=some (told (setBook w h o li rooms bs).1):=by
 have sc:=setContents_at w h o li bs hf.1
 unfold f_set_book b_set_book setBook
 generalize setContents h o li bs=c0 at *
 obtain ⟨pl0,s0⟩:=c0
 simp only [] at sc ⊢
 refine stD rfl ?_
 refine st (e1:=[some (bks bs),some (sty w h o li),some (.lst (rooms.map .int)),some (.tup [plcs pl0,s0.d]),none,none,none,none]) (asg (call2 rfl rfl sc) rfl) ?_
 refine st (e1:=[some (bks bs),some (sty w h o li),some (.lst (rooms.map .int)),some (.tup [plcs pl0,s0.d]),some (told [pl0]),none,none,none]) rfl ?_
 refine st (e1:=[some (bks bs),some (sty w h o li),some (.lst (rooms.map .int)),some (.tup [plcs pl0,s0.d]),some (told [pl0]),some s0.d,none,none]) rfl ?_
 refine st (e1:=[some (bks bs),some (sty w h o li),some (.lst (rooms.map .int)),some (.tup [plcs pl0,s0.d]),some (told [pl0]),some s0.d,some (.int 0),none]) rfl ?_
 refine stFor Bk.d bs (fun i e=>∃ a b,e=[some (bks bs),some (sty w h o li),some (.lst (rooms.map .int)),a,some (told ((bs.take i).foldl (bookStep w h o rooms) ([pl0],s0,0)).1),some ((bs.take i).foldl (bookStep w h o rooms) ([pl0],s0,0)).2.1.d,some (.int ((bs.take i).foldl (bookStep w h o rooms) ([pl0],s0,0)).2.2),b]) rfl ⟨_,none,rfl⟩ ?_ ?_
 ·rintro i hi e ⟨a,b,rfl⟩
  rw [fold_take _ _ _ _ hi]
  have hb:=bookStep_len w h o rooms (bs.take i) ([pl0],s0,0)
  have h1:=hb.1
  have h2:=hb.2
  rw [List.length_take] at h1
  simp at h1 h2
  have hlt:((bs.take i).foldl (bookStep w h o rooms) ([pl0],s0,0)).1.length<lI:=lt_big (by have:=hf.1;omega)
  have t1:rO (bs.take (i+1))=rO (bs.take i)++refsI (iO bs[i]):=fT _ bs i hi
  have t3:(rO (bs.take (i+1))).length<=(rO bs).length:=flatMap_take_len (fun b=>refsI (iO b)) bs (i+1)
  rw [t1,List.length_append] at t3
  have hil:=items_le hf bs[i] (List.getElem_mem hi)
  have hT:=ht bs[i] (List.getElem_mem hi)
  have f1:=few_one hf bs[i] (List.getElem_mem hi)
  generalize bs[i]=x at *
  generalize (bs.take i).foldl (bookStep w h o rooms) ([pl0],s0,0)=z at *
  obtain ⟨tl,s,k⟩:=z
  simp only [] at h1 h2 hlt ⊢
  have ap:=fun y=>appTold (xs:=tl) y hlt
  generalize bks bs=BS at *
  have rest:isPara x=false->∃ e',((gS 7 x.d [some BS,some (sty w h o li),some (.lst (rooms.map .int)),a,some (told tl),some s.d,some (.int k),b]).bind (sQ (sIf (eOp D.eqO (eOp D.ix (eV 7) (eC (.int 0))) (eC (.str "para"))) (sQ (sAsg (eK f_set_items (lC (eOp D.ix (eV 7) (eC (.int 1))) (lC (eV 1) (lC (eV 5) (lC (eCut (eV 2) (oAt (eV 6)) (oNo)) lN))))) (gS 3)) (sQ (sP 4 (eOp D.ix (eV 3) (eC (.int 0)))) (sAug 6 D.addI (eUn D.len (eK f_refs (lC (eLst (lC (eV 7) lN)) lN)))))) (sQ (sAsg (eK f_set_block (lC (eV 7) (lC (eV 1) (lC (eV 5) lN)))) (gS 3)) (sP 4 (eLst (lC (eOp D.ix (eV 3) (eC (.int 0))) lN))))) (sAsg (eOp D.ix (eV 3) (eC (.int 1))) (gS 5)))=some (.nx e')) /\
    ∃ a b,e'=[some BS,some (sty w h o li),some (.lst (rooms.map .int)),a,some (told (tl++[[(setBlock h o s x).1]])),some (setBlock h o s x).2.d,some (.int k),b]:=by
   intro hp
   have sb:=setBlock_at w h o li s x hp
   have tg:=tag_para x
   rw [hp] at tg
   refine ⟨_,bnd (e1:=[some BS,some (sty w h o li),some (.lst (rooms.map .int)),a,some (told tl),some s.d,some (.int k),some x.d]) rfl ?_,some (pair (setBlock h o s x)),some x.d,rfl⟩
   refine st (e1:=[some BS,some (sty w h o li),some (.lst (rooms.map .int)),some (pair (setBlock h o s x)),some (told (tl++[[(setBlock h o s x).1]])),some s.d,some (.int k),some x.d]) ?_ (asg (opE (x:=pair (setBlock h o s x)) rfl rfl (p1 _)) rfl)
   refine ifF (opE (x:=.str (tagB x)) (opE (x:=x.d) rfl rfl (ix0_bk x)) rfl (by rw [eqS,tg])) ?_
   refine st (e1:=[some BS,some (sty w h o li),some (.lst (rooms.map .int)),some (pair (setBlock h o s x)),some (told tl),some s.d,some (.int k),some x.d]) (asg (call3 rfl rfl rfl sb) rfl) ?_
   exact appS rfl (d:=plcs [(setBlock h o s x).1]) rfl (ap _)
  cases x with
  | para is =>
   have hk:k<=rooms.length:=by omega
   have hr2:(refsI is).length<=(rooms.drop k).length:=by rw [List.length_drop];have:(refsI (iO (.para is))).length=(refsI is).length:=rfl;omega
   have si:=setItems_at w h o li s (rooms.drop k) is hil hr2 hT
   have rf:=refs_at [.para is] f1
   rw [refsOf_one] at rf
   have cu:=cut_drop rooms k hk
   generalize hz:setItems w h s (rooms.drop k) is=z at *
   have e1:bookStep w h o rooms (tl,s,k) (.para is)=(tl++[z.1],endLine z.2.2,k+(refsI is).length):=by show (tl++[(setItems w h s (rooms.drop k) is).1],_,_)=_;rw [hz]
   rw [e1]
   refine ⟨_,.inl ?_,some (.tup [plcs z.1,(endLine z.2.2).d]),some (Bk.para is).d,rfl⟩
   refine bnd (e1:=[some BS,some (sty w h o li),some (.lst (rooms.map .int)),a,some (told tl),some s.d,some (.int k),some (Bk.para is).d]) rfl ?_
   refine st (e1:=[some BS,some (sty w h o li),some (.lst (rooms.map .int)),some (.tup [plcs z.1,(endLine z.2.2).d]),some (told (tl++[z.1])),some s.d,some (.int (k+(refsI is).length:Nat)),some (Bk.para is).d]) ?_ rfl
   refine ifT (opE (x:=.str "para") (opE (x:=(Bk.para is).d) rfl rfl rfl) rfl (by rw [eqS];simp)) ?_
   refine st (e1:=[some BS,some (sty w h o li),some (.lst (rooms.map .int)),some (.tup [plcs z.1,(endLine z.2.2).d]),some (told tl),some s.d,some (.int k),some (Bk.para is).d]) (asg (call4 (opE (x:=(Bk.para is).d) rfl rfl rfl) rfl rfl (by show cutA (.lst (rooms.map .int)) (some (k:Int)) none=_;exact cu) si) rfl) ?_
   refine st (e1:=[some BS,some (sty w h o li),some (.lst (rooms.map .int)),some (.tup [plcs z.1,(endLine z.2.2).d]),some (told (tl++[z.1])),some s.d,some (.int k),some (Bk.para is).d]) (appS rfl (d:=plcs z.1) rfl (ap _)) ?_
   have ln:=lenStrs (refsI is)
   have rf':f_refs [.lst [(Bk.para is).d]]=some (strL (refsI is)):=rf
   have hA:eUn D.len (eK f_refs (lC (eLst (lC (eV 7) lN)) lN)) [some BS,some (sty w h o li),some (.lst (rooms.map .int)),some (.tup [plcs z.1,(endLine z.2.2).d]),some (told (tl++[z.1])),some s.d,some (.int k),some (Bk.para is).d]=some (.int (refsI is).length):=unE (call1 (x:=.lst [(Bk.para is).d]) rfl rf') ln
   unfold sAug
   rw [hA]
   rfl
  | chapter t l =>
   obtain ⟨e',h5,h6⟩:=rest rfl
   exact ⟨e',.inl h5,h6⟩
  | heading t n l =>
   obtain ⟨e',h5,h6⟩:=rest rfl
   exact ⟨e',.inl h5,h6⟩
  | table rs l =>
   obtain ⟨e',h5,h6⟩:=rest rfl
   exact ⟨e',.inl h5,h6⟩
  | plates n l =>
   obtain ⟨e',h5,h6⟩:=rest rfl
   exact ⟨e',.inl h5,h6⟩
 ·rintro e ⟨a,b,rfl⟩
  rw [List.take_length]
  exact ret rfl
theorem putWord_p (w h:Int) (s:Sta) (n r:Int):s.p<=(putWord w h s n r).1.p/\(putWord w h s n r).2.p=(putWord w h s n r).1.p/\(putWord w h s n r).1.p<=s.p+1:=by
 unfold putWord
 split
 ·exact ⟨Int.le_refl _,rfl,by show s.p<=s.p+1;omega⟩
 ·split
  ·exact ⟨Int.le_refl _,rfl,by show s.p<=s.p+1;omega⟩
  ·exact ⟨by show s.p<=s.p+1;omega,rfl,Int.le_refl _⟩
theorem endLine_p (s:Sta):(endLine s).p=s.p:=by unfold endLine;split<;>rfl
theorem putBlock_p (h:Int) (s:Sta) (a b:Int):s.p<=(putBlock h s a b).1.p/\(putBlock h s a b).2.p=(putBlock h s a b).1.p/\(putBlock h s a b).1.p<=s.p+1:=by
 have e:=endLine_p s
 unfold putBlock
 refine ⟨?_,rfl,?_⟩
 ·show s.p<=(if _ then _ else _:Sta).p
  split
  ·omega
  ·show s.p<=(endLine s).p+1;omega
 ·show (if _ then _ else _:Sta).p<=s.p+1
  split
  ·omega
  ·show (endLine s).p+1<=s.p+1;omega
theorem newPage_p (s:Sta):s.p<=(newPage s).p/\(newPage s).p<=s.p+1/\(newPage s).l=0/\(newPage s).u=0/\(newPage s).f=0:=by
 unfold newPage
 split
 ·rename_i z;exact ⟨Int.le_refl _,by omega,z⟩
 ·exact ⟨by show s.p<=s.p+1;omega,Int.le_refl _,rfl,rfl,rfl⟩
theorem newChapter_p (o:Bool) (s:Sta):s.p<=(newChapter o s).p/\(newChapter o s).p<=s.p+2/\(newChapter o s).l=0/\(newChapter o s).u=0/\(newChapter o s).f=0:=by
 obtain ⟨h1,h2,h3⟩:=newPage_p s
 unfold newChapter
 split
 ·exact ⟨by show s.p<=(newPage s).p+1;omega,by show (newPage s).p+1<=s.p+2;omega,rfl,rfl,rfl⟩
 ·exact ⟨h1,by omega,h3⟩
theorem putBlock_bare (h:Int) (s:Sta) (hh:1<=h) (z:s.l=0/\s.u=0/\s.f=0):(putBlock h s 1 0).1.p=s.p:=by
 have e:endLine s=s:=by unfold endLine;rw [if_pos z.2.1]
 unfold putBlock
 rw [e]
 show (if s.l+s.f+(1+0)<=h then s else _:Sta).p=s.p
 rw [if_pos (by rw [z.1,z.2.2];omega)]
def cost:Bk->Int
 | .plates n _=>2+n
 | .para is=>2+2*((is.filter isSet).length:Int)
 | _=>2
theorem setBlock_p (h:Int) (o:Bool) (s:Sta) (b:Bk) (hh:1<=h) (hp:isPara b=false) (hn:∀ n l,b=.plates n l->1<=n):s.p<=(setBlock h o s b).1.p/\(setBlock h o s b).1.p<=(setBlock h o s b).2.p/\(setBlock h o s b).2.p<=s.p+cost b:=by
 cases b with
 | para is=>cases hp
 | plates n l =>
  have h1:=newPage_p s
  have h2:=hn n l rfl
  refine ⟨h1.1,?_,?_⟩
  ·show (newPage s).p<=(newPage s).p+n;omega
  ·show (newPage s).p+n<=s.p+(2+n);omega
 | table rs l =>
  obtain ⟨a,b,c⟩:=putBlock_p h s rs.length 0
  exact ⟨a,Int.le_of_eq b.symm,by show (putBlock h s rs.length 0).2.p<=s.p+2;omega⟩
 | heading t k l =>
  obtain ⟨a,b,c⟩:=putBlock_p h s 1 k
  exact ⟨a,Int.le_of_eq b.symm,by show (putBlock h s 1 k).2.p<=s.p+2;omega⟩
 | chapter t l =>
  have h1:=newChapter_p o s
  have h2:=putBlock_bare h (newChapter o s) hh h1.2.2
  obtain ⟨a,b,c⟩:=putBlock_p h (newChapter o s) 1 0
  refine ⟨?_,Int.le_of_eq b.symm,?_⟩
  ·show s.p<=(putBlock h (newChapter o s) 1 0).1.p;omega
  ·show (putBlock h (newChapter o s) 1 0).2.p<=s.p+2;omega
def nSet (is:List It):Nat:=(is.filter isSet).length
theorem nSet_cons (i:It) (is:List It):nSet (i::is)=(if isSet i then 1 else 0)+nSet is:=by
 unfold nSet
 rw [List.filter_cons]
 split<;>simp<;>omega
theorem items_p (w h:Int) (rooms:List Int) (lo:Int):∀ (is:List It) (s:List Plc×Nat×Sta),(∀ x∈s.1,lo<=x.p/\x.p<=s.2.2.p)->lo<=s.2.2.p ->
  let r:=is.foldl (itemStep w h rooms) s
  (∀ x∈r.1,lo<=x.p/\x.p<=r.2.2.p)/\s.2.2.p<=r.2.2.p/\r.2.2.p<=s.2.2.p+nSet is/\r.1.length=s.1.length+nSet is
 | [],s,h1,h2=>⟨h1,Int.le_refl _,by simp [nSet],by simp [nSet]⟩
 | i::is,s,h1,h2=>by
  have key:(∀ x∈(itemStep w h rooms s i).1,lo<=x.p/\x.p<=(itemStep w h rooms s i).2.2.p)/\s.2.2.p<=(itemStep w h rooms s i).2.2.p/\(itemStep w h rooms s i).2.2.p<=s.2.2.p+(if isSet i then 1 else 0:Nat)/\(itemStep w h rooms s i).1.length=s.1.length+(if isSet i then 1 else 0:Nat):=by
   have wd:∀ n r,(∀ x∈s.1++[(putWord w h s.2.2 n r).1],lo<=x.p/\x.p<=(putWord w h s.2.2 n r).2.p):=fun n r x hx=>by
    obtain ⟨a,b,c⟩:=putWord_p w h s.2.2 n r
    rcases List.mem_append.mp hx with z | z
    ·have:=h1 x z;omega
    ·rw [List.mem_singleton.mp z];omega
   cases i with
   | word x ns =>
    obtain ⟨a,b,c⟩:=putWord_p w h s.2.2 x.length ns.length
    refine ⟨wd _ _,?_,?_,by simp [itemStep,isSet,isWd]⟩
    ·show s.2.2.p<=(putWord w h s.2.2 x.length ns.length).2.p;omega
    ·show (putWord w h s.2.2 x.length ns.length).2.p<=s.2.2.p+1;omega
   | ref l x y =>
    obtain ⟨a,b,c⟩:=putWord_p w h s.2.2 ((x.length:Int)+rooms.getD s.2.1 0+y.length) 0
    refine ⟨wd _ _,?_,?_,by simp [itemStep,isSet,isWd,isRef]⟩
    ·show s.2.2.p<=(putWord w h s.2.2 _ 0).2.p;omega
    ·show (putWord w h s.2.2 _ 0).2.p<=s.2.2.p+1;omega
   | mark l=>exact ⟨h1,Int.le_refl _,by show s.2.2.p<=s.2.2.p+0;omega,by simp [itemStep,isSet,isWd,isRef]⟩
   | key l=>exact ⟨h1,Int.le_refl _,by show s.2.2.p<=s.2.2.p+0;omega,by simp [itemStep,isSet,isWd,isRef]⟩
  obtain ⟨k1,k2,k3,k4⟩:=key
  obtain ⟨r1,r2,r3,r4⟩:=items_p w h rooms lo is (itemStep w h rooms s i) k1 (by omega)
  refine ⟨r1,Int.le_trans k2 r2,?_,?_⟩
  ·have:=nSet_cons i is
   show (is.foldl (itemStep w h rooms) (itemStep w h rooms s i)).2.2.p<=_
   rw [this]
   omega
  ·have:=nSet_cons i is
   show (is.foldl (itemStep w h rooms) (itemStep w h rooms s i)).1.length=_
   rw [this,r4,k4]
   omega
def nPl:Bk->Nat
 | .para is=>nSet is
 | _=>1
def PlatesOk (b:Bk):Prop:=∀ n l,b=.plates n l->1<=n
theorem book_p (w h:Int) (o:Bool) (rooms:List Int) (hh:1<=h):∀ (bs:List Bk) (s:List (List Plc)×Sta×Nat),(∀ b∈bs,PlatesOk b) ->
  let r:=bs.foldl (bookStep w h o rooms) s
  s.2.1.p<=r.2.1.p/\r.2.1.p<=s.2.1.p+(bs.map cost).sum/\∃ rows,r.1=s.1++rows/\rows.length=bs.length/\∀ q∈bs.zip rows,q.2.length=nPl q.1/\∀ x∈q.2,s.2.1.p<=x.p/\x.p<=r.2.1.p
 | [],s,_=>⟨Int.le_refl _,by simp,[],by simp,rfl,by simp⟩
 | b::bs,s,hb=>by
  have hbp:=hb b List.mem_cons_self
  have key:∃ row,(bookStep w h o rooms s b).1=s.1++[row]/\row.length=nPl b/\(∀ x∈row,s.2.1.p<=x.p/\x.p<=(bookStep w h o rooms s b).2.1.p)/\s.2.1.p<=(bookStep w h o rooms s b).2.1.p/\(bookStep w h o rooms s b).2.1.p<=s.2.1.p+cost b:=by
   have other:isPara b=false->bookStep w h o rooms s b=(s.1++[[(setBlock h o s.2.1 b).1]],(setBlock h o s.2.1 b).2,s.2.2)->nPl b=1->∃ row,(bookStep w h o rooms s b).1=s.1++[row]/\row.length=nPl b/\(∀ x∈row,s.2.1.p<=x.p/\x.p<=(bookStep w h o rooms s b).2.1.p)/\s.2.1.p<=(bookStep w h o rooms s b).2.1.p/\(bookStep w h o rooms s b).2.1.p<=s.2.1.p+cost b:=by
    intro hp e hn
    obtain ⟨a1,a2,a3⟩:=setBlock_p h o s.2.1 b hh hp hbp
    rw [e]
    refine ⟨[(setBlock h o s.2.1 b).1],rfl,by rw [hn];rfl,fun x hx=>?_,?_,a3⟩
    ·rw [List.mem_singleton.mp hx];exact ⟨a1,a2⟩
    ·show s.2.1.p<=(setBlock h o s.2.1 b).2.p;omega
   cases b with
   | para is =>
    obtain ⟨a1,a2,a3,a4⟩:=items_p w h (rooms.drop s.2.2) s.2.1.p is ([],0,s.2.1) (by simp) (Int.le_refl _)
    have e:=endLine_p (setItems w h s.2.1 (rooms.drop s.2.2) is).2.2
    refine ⟨(setItems w h s.2.1 (rooms.drop s.2.2) is).1,rfl,by unfold nPl setItems;simpa using a4,fun x hx=>?_,?_,?_⟩
    ·show _/\x.p<=(endLine (setItems w h s.2.1 (rooms.drop s.2.2) is).2.2).p
     rw [e];exact a1 x hx
    ·show _<=(endLine (setItems w h s.2.1 (rooms.drop s.2.2) is).2.2).p
     rw [e];exact a2
    ·show (endLine (setItems w h s.2.1 (rooms.drop s.2.2) is).2.2).p<=s.2.1.p+(2+2*((is.filter isSet).length:Int))
     rw [e]
     have a3':(setItems w h s.2.1 (rooms.drop s.2.2) is).2.2.p<=s.2.1.p+(nSet is:Int):=a3
     have:nSet is=(is.filter isSet).length:=rfl
     omega
   | chapter t l=>exact other rfl rfl rfl
   | heading t k l=>exact other rfl rfl rfl
   | table rs l=>exact other rfl rfl rfl
   | plates n l=>exact other rfl rfl rfl
  obtain ⟨row,k1,k2,k3,k4,k5⟩:=key
  obtain ⟨r1,r2,rows,r3,r4,r5⟩:=book_p w h o rooms hh bs (bookStep w h o rooms s b) (fun x hx=>hb x (List.mem_cons_of_mem _ hx))
  refine ⟨Int.le_trans k4 r1,?_,row::rows,?_,by simp [r4],?_⟩
  ·rw [List.map_cons,List.sum_cons]
   show (bs.foldl (bookStep w h o rooms) (bookStep w h o rooms s b)).2.1.p<=_
   omega
  ·show (bs.foldl (bookStep w h o rooms) (bookStep w h o rooms s b)).1=_
   rw [r3,k1];simp
  ·intro q hq
   rw [List.zip_cons_cons] at hq
   rcases List.mem_cons.mp hq with z | z
   ·rw [z]
    refine ⟨k2,fun x hx=>?_⟩
    have:=k3 x hx
    exact ⟨this.1,Int.le_trans this.2 r1⟩
   ·obtain ⟨a,b'⟩:=r5 q z
    exact ⟨a,fun x hx=>⟨Int.le_trans k4 (b' x hx).1,(b' x hx).2⟩⟩
def bonus (li:Bool) (b:Bk):Int:=if li=true/\isTit b=true then 2 else 0
theorem cont_p (h:Int):∀ (bs:List Bk) (s:List Plc×Sta),s.2.p<=(bs.foldl (contStep h) s).2.p/\(bs.foldl (contStep h) s).2.p+((bs.foldl (contStep h) s).1.length:Int)<=s.2.p+(s.1.length:Int)+(bs.map (bonus true)).sum
 | [],s=>⟨Int.le_refl _,by simp⟩
 | b::bs,s=>by
  obtain ⟨h1,h2⟩:=cont_p h bs (contStep h s b)
  rw [List.foldl_cons,List.map_cons,List.sum_cons]
  have key:s.2.p<=(contStep h s b).2.p/\(contStep h s b).2.p+((contStep h s b).1.length:Int)<=s.2.p+(s.1.length:Int)+bonus true b:=by
   unfold contStep bonus
   cases q:isTit b with
   | true =>
    obtain ⟨a,b',c⟩:=putBlock_p h s.2 1 0
    simp
    omega
   | false=>simp
  omega
theorem contents_p (h:Int) (o li:Bool) (bs:List Bk):1<=(setContents h o li bs).2.p/\(setContents h o li bs).2.p<=3+(bs.map (bonus li)).sum:=by
 have nn:0<=(bs.map (bonus li)).sum:=by
  induction bs with
  | nil=>simp
  | cons b bs ih =>
   rw [List.map_cons,List.sum_cons]
   have:0<=bonus li b:=by unfold bonus;split<;>omega
   omega
 unfold setContents
 cases li with
 | false=>rw [if_neg (by decide)];exact ⟨by decide,by show (1:Int)<=_;omega⟩
 | true =>
  rw [if_pos rfl]
  obtain ⟨h1,h2⟩:=cont_p h bs ([],bareS 1)
  have h1':(1:Int)<=(contF h bs).2.p:=h1
  have h2':(contF h bs).2.p+((contF h bs).1.length:Int)<=1+0+(bs.map (bonus true)).sum:=h2
  show 1<=(if _ then _ else _:Sta).p/\(if _ then _ else _:Sta).p<=_
  split
  ·have:=newChapter_p o (contF h bs).2
   omega
  ·omega
theorem foldl_sum {f:Bk->Int}:∀ (bs:List Bk) (s:Int),bs.foldl (fun s b=>s+f b) s=s+(bs.map f).sum
 | [],s=>by simp
 | b::bs,s=>by rw [List.foldl_cons,foldl_sum bs,List.map_cons,List.sum_cons];omega
theorem most_eq (li:Bool) (bs:List Bk):most li bs=3+(bs.map (bonus li)).sum+(bs.map cost).sum:=by
 unfold most
 rw [foldl_sum]
 have:(bs.map (bkMost li)).sum=(bs.map (bonus li)).sum+(bs.map cost).sum:=by
  induction bs with
  | nil=>rfl
  | cons b bs ih =>
   simp only [List.map_cons,List.sum_cons,ih]
   have:bkMost li b=bonus li b+cost b:=by
    cases b<;>cases li<;>simp [bkMost,bonus,cost,isTit]
   omega
 omega
theorem setBook_p (w h:Int) (o li:Bool) (rooms:List Int) (bs:List Bk) (hh:1<=h) (hp:∀ b∈bs,PlatesOk b):∃ c rows,(setBook w h o li rooms bs).1=c::rows/\rows.length=bs.length/\∀ q∈bs.zip rows,q.2.length=nPl q.1/\∀ x∈q.2,1<=x.p/\x.p<=most li bs:=by
 obtain ⟨c1,c2⟩:=contents_p h o li bs
 obtain ⟨r1,r2,rows,r3,r4,r5⟩:=book_p w h o rooms hh bs ([(setContents h o li bs).1],(setContents h o li bs).2,0) hp
 have me:=most_eq li bs
 refine ⟨(setContents h o li bs).1,rows,r3,r4,fun q hq=>?_⟩
 obtain ⟨a,b⟩:=r5 q hq
 refine ⟨a,fun x hx=>?_⟩
 obtain ⟨b1,b2⟩:=b x hx
 have r2':(bs.foldl (bookStep w h o rooms) ([(setContents h o li bs).1],(setContents h o li bs).2,0)).2.1.p<=(setContents h o li bs).2.p+(bs.map cost).sum:=r2
 have b1':(setContents h o li bs).2.p<=x.p:=b1
 omega
def labB:Bk->Str
 | .chapter _ l=>l
 | .heading _ _ l=>l
 | .para _=>""
 | .table _ l=>l
 | .plates _ l=>l
theorem labB_at (b:Bk):f_label_of [b.d]=some (.str (labB b)):=by
 unfold f_label_of b_label_of
 cases b<;>simp [mulA_int,eCut,cutA,lI,defD,sD,sQ,sIf,sRet,sRetN,sAsg,sAug,sDrop,sNx,sBrk,sCnt,gS,gUnp,gAll,eV,eC,eOp,eUn,eNot,eAnd,eOr,eIf,eChain,eTup,eLst,eK,lN,lC,eInst,oNo,oAt,eCutL,D.len,D.lt,D.le,D.gt,D.ge,D.add,D.sub,D.ix,D.eqO,D.neO,D.cmp,D.cmpN,D.inst,tyD,D.isT,D.intB,D.min2,D.max2,D.neg,D.addI,ifO_bl,notO_bl,ifO_ite,notO_ite,seqO_nx,seqO_rt,seqO_bk,seqO_ct,seqO_none,seqO_ite,endD_rt,endD_nx,endD_ite,bind_ite,map_ite,andO_some,dep_non,dep_bl,dep_int,dep_str,dep_tup,dep_lst,depL_nil,depL_cons,D.rng,D.its,D.itsT,eq_int,eq_bl,eq_str,eq_tup,eq_lst,eqL_nil,eqL_cons,ixD,labB]
def prs (x:Str×Int):D:=.tup [.str x.1,.int x.2]
def mkStep (pls:List Plc) (s:List (Str×Int)×Nat) (i:It):List (Str×Int)×Nat:=match i with
 | .mark l=>(s.1++[(l,(pls.getD s.2 ⟨0,0,0⟩).p)],s.2)
 | .key _=>s
 | _=>(s.1,s.2+1)
def marksP (pls:List Plc) (is:List It):List (Str×Int):=(is.foldl (mkStep pls) ([],0)).1
theorem mkStep_len (pls:List Plc):∀ (is:List It) (s:List (Str×Int)×Nat),(is.foldl (mkStep pls) s).1.length<=s.1.length+is.length/\(is.foldl (mkStep pls) s).2=s.2+nSet is
 | [],s=>⟨Nat.le_refl _,rfl⟩
 | i::is,s=>by
  obtain ⟨h1,h2⟩:=mkStep_len pls is (mkStep pls s i)
  rw [List.foldl_cons,List.length_cons,h2,nSet_cons]
  cases i<;>simp [mkStep,isSet,isWd,isRef] at h1 ⊢<;>omega
def Tight (is:List It):Prop:=∀ i (hi:i<is.length),isSet is[i]=false->nSet (is.take i)<nSet is
theorem pagesWith_at (is:List It) (pls:List Plc) (hl:is.length<=100000) (hp:nSet is<=pls.length) (ht:Tight is):f_pages_with [.lst (is.map It.d),plcs pls,.str "mark"]=some (.lst ((marksP pls is).map prs)):=by
 unfold f_pages_with b_pages_with marksP
 refine stD rfl ?_
 refine st (e1:=[some (.lst (is.map It.d)),some (plcs pls),some (.str "mark"),some (.lst (([]:List (Str×Int)).map prs)),none,none]) rfl ?_
 refine st (e1:=[some (.lst (is.map It.d)),some (plcs pls),some (.str "mark"),some (.lst (([]:List (Str×Int)).map prs)),some (.int 0),none]) rfl ?_
 refine stFor It.d is (fun i e=>∃ a,e=[some (.lst (is.map It.d)),some (plcs pls),some (.str "mark"),some (.lst (((is.take i).foldl (mkStep pls) ([],0)).1.map prs)),some (.int ((is.take i).foldl (mkStep pls) ([],0)).2),a]) rfl ⟨none,rfl⟩ ?_ ?_
 ·rintro i hi e ⟨a,rfl⟩
  rw [fold_take _ _ _ _ hi]
  obtain ⟨h1,h2⟩:=mkStep_len pls (is.take i) ([],0)
  rw [List.length_take] at h1
  simp at h1 h2
  have hT:=ht i hi
  have iset:=isSet_at is[i]
  generalize is[i]=x at *
  generalize (is.take i).foldl (mkStep pls) ([],0)=z at *
  obtain ⟨kv,k⟩:=z
  simp only [] at h1 h2 ⊢
  have hlt:kv.length<lI:=lt_big (by omega)
  have ap:=fun y=>app_at (f:=prs) (xs:=kv) y hlt
  generalize D.lst (is.map It.d)=IS at *
  cases x with
  | mark l =>
   have hk:k<pls.length:=by have:=hT rfl;omega
   have px:D.ix (plcs pls) (.int k)=some (pls.getD k ⟨0,0,0⟩).d:=ixLs (f:=Plc.d) pls k ⟨0,0,0⟩ (by omega) (by omega)
   obtain ⟨q,eq⟩:∃ q,pls.getD k ⟨0,0,0⟩=q:=⟨_,rfl⟩
   have e1:mkStep pls (kv,k) (.mark l)=(kv++[(l,q.p)],k):=by rw [<- eq];rfl
   rw [eq] at px
   rw [e1]
   refine ⟨[some IS,some (plcs pls),some (.str "mark"),some (.lst ((kv++[(l,q.p)]).map prs)),some (.int k),some (It.mark l).d],.inl ?_,some (It.mark l).d,rfl⟩
   ·refine bnd (e1:=[some IS,some (plcs pls),some (.str "mark"),some (.lst (kv.map prs)),some (.int k),some (It.mark l).d]) rfl ?_
    refine ifF (call1 rfl iset) ?_
    refine ifT (opE (x:=.str "mark") (opE (x:=(It.mark l).d) rfl rfl rfl) rfl (by rw [eqS];simp)) ?_
    refine appS (d:=prs (l,q.p)) rfl ?_ (ap _)
    have hq:D.ix q.d (.int 0)=some (.int q.p):=rfl
    have hA:eOp D.ix (eOp D.ix (eV 1) (eV 4)) (eC (.int 0)) [some IS,some (plcs pls),some (.str "mark"),some (.lst (kv.map prs)),some (.int k),some (It.mark l).d]=some (.int q.p):=opE (opE rfl rfl px) rfl hq
    simp only [eTup,lC,lN,hA]
    rfl
  | key l =>
   refine ⟨_,.inl (bnd (e1:=[some IS,some (plcs pls),some (.str "mark"),some (.lst (kv.map prs)),some (.int k),some (It.key l).d]) rfl (ifF (call1 rfl iset) (ifF (opE (x:=.str "key") (opE (x:=(It.key l).d) rfl rfl rfl) rfl (by rw [eqS];simp)) rfl))),some (It.key l).d,rfl⟩
  | word x ns=>exact ⟨_,.inl (bnd (e1:=[some IS,some (plcs pls),some (.str "mark"),some (.lst (kv.map prs)),some (.int k),some (It.word x ns).d]) rfl (ifT (call1 rfl iset) rfl)),some (It.word x ns).d,rfl⟩
  | ref l x y=>exact ⟨_,.inl (bnd (e1:=[some IS,some (plcs pls),some (.str "mark"),some (.lst (kv.map prs)),some (.int k),some (It.ref l x y).d]) rfl (ifT (call1 rfl iset) rfl)),some (It.ref l x y).d,rfl⟩
 ·rintro e ⟨a,rfl⟩
  rw [List.take_length]
  exact ret rfl
def dicL (kv:List (Str×Int)):D:=.dic (kv.map fun x=>Sum.inr x.1) (kv.map fun x=>.int x.2)
theorem hasK_map {β:Type} (l:Str) (kv:List (Str×β)):hasK (.inr l) (kv.map fun x=>Sum.inr x.1)=true↔l∈kv.map (·.1):=by
 unfold hasK
 rw [List.any_eq_true]
 constructor
 ·rintro ⟨c,hc,e⟩
  obtain ⟨x,hx,rfl⟩:=List.mem_map.mp hc
  have:x.1=l:=by simpa using e
  exact List.mem_map.mpr ⟨x,hx,this⟩
 ·intro h
  obtain ⟨x,hx,rfl⟩:=List.mem_map.mp h
  exact ⟨.inr x.1,List.mem_map.mpr ⟨x,hx,rfl⟩,by simp⟩
theorem put_dicL {kv:List (Str×Int)} {l:Str} {p:Int} (h:l∉kv.map (·.1)) (hl:kv.length<lI):D.put (dicL kv) (.str l) (.int p)=some (dicL (kv++[(l,p)])):=by
 show (if (kv.map fun x=>(Sum.inr x.1:Kd)).length<lI then some (dPut _ _ (.inr l) (.int p)) else none)=_
 rw [if_pos (by rw [List.length_map];exact hl)]
 unfold dPut
 rw [if_neg (fun z=>h ((hasK_map l kv).mp z))]
 unfold dicL
 rw [List.map_append,List.map_append]
 rfl
def headsP (q:Bk×List Plc):List (Str×Int):=(if labB q.1="" then [] else [(labB q.1,(q.2.getD 0 ⟨0,0,0⟩).p)])++marksP q.2 (iO q.1)
def mkL:It->List Str
 | .mark l=>[l]
 | _=>[]
def marksL (is:List It):List Str:=is.flatMap mkL
def labsB (b:Bk):List Str:=(if labB b="" then [] else [labB b])++marksL (iO b)
def bookLabs (bs:List Bk):List Str:=bs.flatMap labsB
theorem marksP_keys (pls:List Plc):∀ (is:List It) (s:List (Str×Int)×Nat),(is.foldl (mkStep pls) s).1.map (·.1)=s.1.map (·.1)++marksL is
 | [],s=>by simp [marksL]
 | i::is,s=>by
  rw [List.foldl_cons,marksP_keys pls is]
  cases i<;>simp [mkStep,marksL,mkL]
theorem headsP_keys (q:Bk×List Plc):(headsP q).map (·.1)=labsB q.1:=by
 unfold headsP labsB
 rw [List.map_append]
 congr 1
 ·split<;>rfl
 ·exact marksP_keys q.2 (iO q.1) ([],0)
theorem zipD_map {α β:Type} (f:α->D) (g:β->D):∀ (xs:List α) (ys:List β),zipD (xs.map f) (ys.map g)=(xs.zip ys).map fun q=>D.tup [f q.1,g q.2]
 | [],_=>by simp [zipD]
 | _::_,[]=>by simp [zipD]
 | x::xs,y::ys=>by
  show D.tup [f x,g y]::zipD (xs.map f) (ys.map g)=_
  rw [zipD_map f g xs ys];rfl
theorem cut_tail (c:List Plc) (rows:List (List Plc)):cutA (told (c::rows)) (some 1) none=some (told rows):=by
 show some (D.lst (cutD ((c::rows).map plcs) (some 1) none))=_
 unfold cutD sIxD told
 simp only []
 rw [if_neg (by decide),List.map_cons,List.length_cons]
 show some (D.lst (((plcs c::rows.map plcs).drop (min 1 ((rows.map plcs).length+1))).take _))=_
 rw [show min 1 ((rows.map plcs).length+1)=1 from by omega,List.drop_succ_cons,List.drop_zero,List.take_of_length_le (by omega)]
theorem marksL_len (is:List It):(marksL is).length<=is.length:=by
 unfold marksL
 induction is with
 | nil=>exact Nat.le_refl _
 | cons i is ih =>
  rw [List.flatMap_cons,List.length_append,List.length_cons]
  have:(mkL i).length<=1:=by cases i<;>simp [mkL]
  omega
theorem bookLabs_len (bs:List Bk):(bookLabs bs).length<=bs.length+(bs.flatMap iO).length:=by
 unfold bookLabs
 induction bs with
 | nil=>exact Nat.le_refl _
 | cons b bs ih =>
  rw [List.flatMap_cons,List.flatMap_cons,List.length_append,List.length_append,List.length_cons]
  have h1:=marksL_len (iO b)
  have h2:(labsB b).length<=1+(iO b).length:=by unfold labsB;rw [List.length_append];split<;>simp<;>omega
  omega
theorem zip_fst {α β:Type}:∀ (xs:List α) (ys:List β),ys.length=xs.length->(xs.zip ys).map (·.1)=xs
 | [],_,_=>by simp
 | x::xs,[],h=>by simp at h
 | x::xs,y::ys,h=>by simp at h ⊢;exact zip_fst xs ys h
theorem flatMap_map_fst {α β γ:Type} (f:α->List γ) (g:α×β->List (γ×Int)) (hg:∀ q,(g q).map (·.1)=f q.1):∀ qs:List (α×β),(qs.flatMap g).map (·.1)=(qs.map (·.1)).flatMap f
 | []=>rfl
 | q::qs=>by rw [List.flatMap_cons,List.map_append,hg,flatMap_map_fst f g hg qs];simp
theorem putMarks (B T P Q:Option D) (u v:Option D) (kv mk:List (Str×Int)) (hn:(kv++mk).map (·.1) |>.Nodup) (hl:(kv++mk).length<lI) (it:EvI) (hit:it [B,T,some (dicL kv),P,Q,u,v]=some (mk.map prs)):∃ u' v',sFor it (gUnp [gS 5,gS 6]) (sDput 2 (eV 5) (eV 6)) [B,T,some (dicL kv),P,Q,u,v]=some (.nx [B,T,some (dicL (kv++mk)),P,Q,u',v']):=by
 obtain ⟨e',h1,u',v',h2⟩:=loopN (g:=gUnp [gS 5,gS 6]) (b:=sDput 2 (eV 5) (eV 6)) prs mk (fun i e=>∃ u v,e=[B,T,some (dicL (kv++mk.take i)),P,Q,u,v]) (by
  rintro i hi e ⟨u,v,rfl⟩
  obtain ⟨⟨l,p⟩,hm⟩:∃ q,mk[i]=q:=⟨_,rfl⟩
  have hnot:l∉(kv++mk.take i).map (·.1):=by
   have e1:kv++mk=(kv++mk.take i)++(mk[i]::mk.drop (i+1)):=by rw [List.append_assoc,<- List.drop_eq_getElem_cons hi,List.take_append_drop]
   rw [e1,List.map_append,List.map_cons,hm] at hn
   intro z
   exact (List.nodup_append.mp hn).2.2 l z l List.mem_cons_self rfl
  have hlt:(kv++mk.take i).length<lI:=by
   refine Nat.lt_of_le_of_lt ?_ hl
   rw [List.length_append,List.length_append,List.length_take];omega
  have pd:=put_dicL (p:=p) hnot hlt
  rw [List.take_succ_eq_append_getElem hi,hm,<- List.append_assoc]
  refine ⟨[B,T,some (dicL (kv++mk.take i++[(l,p)])),P,Q,some (.str l),some (.int p)],.inl ?_,_,_,rfl⟩
  refine bnd (e1:=[B,T,some (dicL (kv++mk.take i)),P,Q,some (.str l),some (.int p)]) rfl ?_
  show (D.put (dicL (kv++mk.take i)) (.str l) (.int p)).map _=_
  rw [pd];rfl) [B,T,some (dicL kv),P,Q,u,v] ⟨u,v,by rw [List.take_zero,List.append_nil]⟩
 subst h2
 rw [List.take_length] at h1
 refine ⟨u',v',?_⟩
 unfold sFor
 rw [hit]
 exact h1
theorem labelPages_at (bs:List Bk) (c:List Plc) (rows:List (List Plc)) (hf:Few bs) (hr:rows.length=bs.length) (hn:(bookLabs bs).Nodup) (hs:∀ q∈bs.zip rows,q.2.length=nPl q.1) (ht:∀ b∈bs,Tight (iO b)) :
  f_label_pages [bks bs,told (c::rows)]=some (dicL ((bs.zip rows).flatMap headsP)):=by
 unfold f_label_pages b_label_pages
 refine stD rfl ?_
 refine st (e1:=[some (bks bs),some (told (c::rows)),some (dicL []),none,none,none,none]) rfl ?_
 have keys:∀ qs:List (Bk×List Plc),(qs.flatMap headsP).map (·.1)=(qs.map (·.1)).flatMap labsB:=flatMap_map_fst labsB headsP headsP_keys
 have kall:((bs.zip rows).flatMap headsP).map (·.1)=bookLabs bs:=by rw [keys,zip_fst bs rows hr];rfl
 have klen:((bs.zip rows).flatMap headsP).length<=200000:=by
  have e:((bs.zip rows).flatMap headsP).length=(bookLabs bs).length:=by rw [<- kall,List.length_map]
  have:=bookLabs_len bs
  have:=hf.1
  have:=hf.2
  omega
 refine stFor (fun q:Bk×List Plc=>D.tup [q.1.d,plcs q.2]) (bs.zip rows) (fun i e=>∃ a b u v,e=[some (bks bs),some (told (c::rows)),some (dicL (((bs.zip rows).take i).flatMap headsP)),a,b,u,v]) ?_ ⟨none,none,none,none,rfl⟩ ?_ ?_
 ·have hc:eCut (eV 1) (oAt (eC (.int 1))) oNo [some (bks bs),some (told (c::rows)),some (dicL []),none,none,none,none]=some (told rows):=cut_tail c rows
  unfold iZip
  rw [hc]
  show some (zipD (bs.map Bk.d) (rows.map plcs))=_
  rw [zipD_map]
 ·rintro i hi e ⟨a,b,u,v,rfl⟩
  rw [fT _ _ _ hi]
  have hle:=flatMap_take_len headsP (bs.zip rows) (i+1)
  rw [fT _ _ _ hi] at hle
  have hnd:(((bs.zip rows).take i).flatMap headsP++headsP (bs.zip rows)[i]).map (·.1) |>.Nodup:=by
   rw [<- fT _ _ _ hi]
   refine List.Nodup.sublist ?_ (kall▸hn)
   refine List.Sublist.map _ ?_
   conv=>rhs;rw [<- List.take_append_drop (i+1) (bs.zip rows),List.flatMap_append]
   exact List.sublist_append_left _ _
  have hq:=hs (bs.zip rows)[i] (List.getElem_mem hi)
  have hb:(bs.zip rows)[i].1∈bs:=(List.of_mem_zip (List.getElem_mem hi)).1
  generalize (bs.zip rows)[i]=q at *
  generalize ((bs.zip rows).take i).flatMap headsP=kv at *
  obtain ⟨x,pls⟩:=q
  simp only [] at hq hb ⊢
  have tx:=ht x hb
  have il:=items_le hf x hb
  have lb:=labB_at x
  have io:=itemsOf_at x
  have pw:f_pages_with [.lst ((iO x).map It.d),plcs pls,.str "mark"]=some (.lst ((marksP pls (iO x)).map prs)):=by
   refine pagesWith_at _ _ il ?_ tx
   cases x with
   | para is=>exact Nat.le_of_eq hq.symm
   | _=>exact Nat.zero_le _
  obtain ⟨kv2,e2⟩:∃ kv2,kv++(if labB x="" then [] else [(labB x,(pls.getD 0 ⟨0,0,0⟩).p)])=kv2:=⟨_,rfl⟩
  have e3:kv++headsP (x,pls)=kv2++marksP pls (iO x):=by rw [<- e2];unfold headsP;rw [List.append_assoc]
  rw [e3] at hnd hle ⊢
  have hlt:(kv2++marksP pls (iO x)).length<lI:=lt_big (by omega)
  generalize bks bs=BS at *
  generalize told (c::rows)=TT at *
  obtain ⟨u',v',hm⟩:=putMarks (some BS) (some TT) (some x.d) (some (plcs pls)) u v kv2 (marksP pls (iO x)) hnd hlt (iLst (eK f_pages_with (lC (eK f_items_of (lC (eV 3) lN)) (lC (eV 4) (lC (eC (.str "mark")) lN))))) (by
   unfold iLst
   rw [call3 (call1 rfl io) rfl rfl pw]
   rfl)
  refine ⟨_,.inl ?_,some x.d,some (plcs pls),u',v',rfl⟩
  refine bnd (e1:=[some BS,some TT,some (dicL kv),some x.d,some (plcs pls),u,v]) rfl ?_
  refine st (e1:=[some BS,some TT,some (dicL kv2),some x.d,some (plcs pls),u,v]) ?_ hm
  have ne:D.neO (.str (labB x)) (.str (Str.ofString ""))=some (.bl (!decide (labB x=Str.ofString ""))):=by simp [D.neO,dep_str,eq_str,D.cmpN]
  by_cases z:labB x=""
  ·rw [if_pos z,List.append_nil] at e2
   subst e2
   exact ifF (opE (call1 rfl lb) rfl (by rw [ne,decide_eq_true z];rfl)) rfl
  ·rw [if_neg z] at e2
   subst e2
   refine ifT (opE (call1 rfl lb) rfl (by rw [ne,decide_eq_false z];rfl)) ?_
   have np:pls.length=1:=by cases x<;>first | exact hq | exact absurd rfl z
   obtain ⟨q0,rfl⟩:∃ q0,pls=[q0]:=by
    match pls,np with
    | [q0],_=>exact ⟨q0,rfl⟩
   have hnot:labB x∉kv.map (·.1):=by
    rw [List.append_assoc,List.map_append] at hnd
    intro w
    exact (List.nodup_append.mp hnd).2.2 _ w (labB x) (by simp) rfl
   have pd:=put_dicL (p:=q0.p) hnot (Nat.lt_of_le_of_lt (by simp only [List.length_append];omega) hlt)
   unfold sDput
   have hA:eOp D.ix (eOp D.ix (eV 4) (eC (.int 0))) (eC (.int 0)) [some BS,some TT,some (dicL kv),some x.d,some (plcs [q0]),u,v]=some (.int q0.p):=rfl
   have hB:eK f_label_of (lC (eV 3) lN) [some BS,some TT,some (dicL kv),some x.d,some (plcs [q0]),u,v]=some (.str (labB x)):=call1 rfl lb
   rw [hA,hB]
   show (D.put (dicL kv) (.str (labB x)) (.int q0.p)).map _=_
   rw [pd]
   rfl
 ·rintro e ⟨a,b,u,v,rfl⟩
  rw [List.take_length]
  exact ret rfl
theorem figures_at (n:Int) (h0:0<=n) (h:n<10^60):f_figures [.int n]=some (.int (digs n.toNat)):=by
 obtain ⟨m,rfl⟩:∃ m:Nat,n=m:=⟨n.toNat,by omega⟩
 have h':m<10^60:=by
  have:((10^60:Nat):Int)=10^60:=by decide
  omega
 have h2:m<2^1900:=Nat.lt_trans h' (by decide +kernel)
 have e1:D.strI (.int m)=some (.str (Str.ofString (toString (m:Int)))):=if_pos h2
 have hs:=str_len m
 have hd:=digs_le m h'
 have ln:=lenS (x:=Str.ofString (toString (m:Int))) (by omega)
 rw [hs] at ln
 unfold f_figures b_figures
 exact stD rfl (ret (unE (unE rfl e1) ln))
theorem setComp2 {it:EvI} {e:EnvD} (is:List It) (hit:it e=some (is.map It.d)) (hl:is.length<=1000000):eComp 1 [] it (gS 0) (eK f_is_set (lC (eV 0) lN)) (eV 0) e=some (.lst ((is.filter isSet).map It.d)) :=
 comp_at (g:=gS 0) (n:=1) (caps:=[]) It.d is (fun e=>∃ v,e=[v]) isSet It.d hit (lB hl) ⟨none,rfl⟩ (by
  rintro i hm e ⟨v,rfl⟩
  exact ⟨[some i.d],rfl,⟨_,rfl⟩,call1 rfl (isSet_at i),fun h=>rfl⟩)
theorem lenIts (is:List It):D.len (.lst (is.map It.d))=some (.int is.length):=by
 show some (D.int (is.map It.d).length)=_
 rw [List.length_map]
theorem pagesFor_at (w h:Int) (o li:Bool) (b:Bk) (hl:(iO b).length<=100000):f_pages_for [b.d,sty w h o li]=some (.int (bkMost li b)):=by
 have it:=isTit_at b
 have io:=itemsOf_at b
 have ix3:D.ix (sty w h o li) (.int 3)=some (.bl li):=rfl
 have plain:∀ m:Int,((iO b).filter isSet).length=m->(sRet (eOp D.add (eC (.int 2)) (eOp D.mulA (eC (.int 2)) (eUn D.len (eComp 1 [] (iLst (eK f_items_of (lC (eV 0) lN))) (gS 0) (eK f_is_set (lC (eV 0) lN)) (eV 0)))))) [some b.d,some (sty w h o li)]=some (.rt (.int (2+2*m))):=by
  intro m em
  have hc:=setComp2 (it:=iLst (eK f_items_of (lC (eV 0) lN))) (e:=[some b.d,some (sty w h o li)]) (iO b) (by unfold iLst;rw [call1 rfl io];rfl) (by omega)
  have ln:=lenIts ((iO b).filter isSet)
  rw [em] at ln
  exact ret (opE rfl (opE rfl (unE hc ln) (mul2 m)) rfl)
 unfold f_pages_for b_pages_for
 refine stD rfl ?_
 cases b with
 | plates n l=>exact stR (ifT (opE (x:=.str "plates") (opE (x:=(Bk.plates n l).d) rfl rfl rfl) rfl (by rw [eqS];simp)) (ret (opE rfl (opE (x:=(Bk.plates n l).d) rfl rfl rfl) rfl)))
 | para is =>
  refine st (e1:=[some (Bk.para is).d,some (sty w h o li)]) (ifF (opE (x:=.str "para") (opE (x:=(Bk.para is).d) rfl rfl rfl) rfl (by rw [eqS];simp)) rfl) ?_
  refine st (e1:=[some (Bk.para is).d,some (sty w h o li)]) (ifF (andF (call1 rfl it)) rfl) ?_
  exact plain _ rfl
 | table rs l =>
  refine st (e1:=[some (Bk.table rs l).d,some (sty w h o li)]) (ifF (opE (x:=.str "table") (opE (x:=(Bk.table rs l).d) rfl rfl rfl) rfl (by rw [eqS];simp)) rfl) ?_
  refine st (e1:=[some (Bk.table rs l).d,some (sty w h o li)]) (ifF (andF (call1 rfl it)) rfl) ?_
  exact plain 0 rfl
 | chapter t l =>
  refine st (e1:=[some (Bk.chapter t l).d,some (sty w h o li)]) (ifF (opE (x:=.str "chapter") (opE (x:=(Bk.chapter t l).d) rfl rfl rfl) rfl (by rw [eqS];simp)) rfl) ?_
  cases li with
  | true=>exact stR (ifT (andT (call1 rfl it) (opE rfl rfl ix3)) (ret rfl))
  | false =>
   refine st (e1:=[some (Bk.chapter t l).d,some (sty w h o false)]) (ifF (andT (call1 rfl it) (opE rfl rfl ix3)) rfl) ?_
   exact plain 0 rfl
 | heading t k l =>
  refine st (e1:=[some (Bk.heading t k l).d,some (sty w h o li)]) (ifF (opE (x:=.str "heading") (opE (x:=(Bk.heading t k l).d) rfl rfl rfl) rfl (by rw [eqS];simp)) rfl) ?_
  cases li with
  | true=>exact stR (ifT (andT (call1 rfl it) (opE rfl rfl ix3)) (ret rfl))
  | false =>
   refine st (e1:=[some (Bk.heading t k l).d,some (sty w h o false)]) (ifF (andT (call1 rfl it) (opE rfl rfl ix3)) rfl) ?_
   exact plain 0 rfl
theorem pagesAtMost_at (w h:Int) (o li:Bool) (bs:List Bk) (hf:Few bs):f_pages_at_most [bks bs,sty w h o li]=some (.int (most li bs)):=by
 have hc:eComp 1 [1] (iLst (eV 0)) (gS 0) (eC (.bl true)) (eK f_pages_for (lC (eV 0) (lC (eV 1) lN))) [some (bks bs),some (sty w h o li)]=some (.lst ((bs.map (bkMost li)).map .int)):=by
  rw [comp_at (g:=gS 0) (n:=1) (caps:=[1]) (c:=eC (.bl true)) (el:=eK f_pages_for (lC (eV 0) (lC (eV 1) lN))) Bk.d bs (fun e=>∃ v,e=[v,some (sty w h o li)]) (fun _=>true) (fun b=>.int (bkMost li b)) rfl (lB (Nat.le_trans hf.1 (by decide))) ⟨none,rfl⟩ (by
   rintro b hb e ⟨v,rfl⟩
   exact ⟨[some b.d,some (sty w h o li)],rfl,⟨_,rfl⟩,rfl,fun _=>call2 rfl rfl (pagesFor_at w h o li b (items_le hf b hb))⟩)]
  rw [filter_tt,List.map_map]
  rfl
 have sm:D.sumL (.lst ((bs.map (bkMost li)).map .int))=some (.int (bs.map (bkMost li)).sum):=by
  show (intsOf ((bs.map (bkMost li)).map .int)).map _=_
  rw [intsOf_map];rfl
 have me:most li bs=3+(bs.map (bkMost li)).sum:=by unfold most;rw [foldl_sum]
 rw [me]
 unfold f_pages_at_most b_pages_at_most
 exact stD rfl (ret (opE rfl (unE hc sm) rfl))
theorem roomAtMost_at (w h:Int) (o li:Bool) (bs:List Bk) (hf:Few bs) (h0:0<=most li bs) (h1:most li bs<10^60):f_room_at_most [bks bs,sty w h o li]=some (.int (digs (most li bs).toNat)):=by
 unfold f_room_at_most b_room_at_most
 exact stD rfl (ret (call1 (call2 rfl rfl (pagesAtMost_at w h o li bs hf)) (figures_at _ h0 h1)))
theorem anyLonger_at (xs:List Str) (w:Int) (hl:xs.length<=1000000) (hx:∀ x∈xs,x.length<=1000000) (hw:∀ x∈xs,(x.length:Int)<=w):f_any_longer [strL xs,.int w]=some (.bl false):=by
 have hc:eComp 1 [1] (iLst (eV 0)) (gS 0) (eC (.bl true)) (eOp D.gt (eUn D.len (eV 0)) (eV 1)) [some (strL xs),some (.int w)]=some (.lst (xs.map fun _=>.bl false)):=by
  rw [comp_at (g:=gS 0) (n:=1) (caps:=[1]) (c:=eC (.bl true)) (el:=eOp D.gt (eUn D.len (eV 0)) (eV 1)) D.str xs (fun e=>∃ v,e=[v,some (.int w)]) (fun _=>true) (fun _=>.bl false) rfl (lB hl) ⟨none,rfl⟩ (by
   rintro x hb e ⟨v,rfl⟩
   refine ⟨[some (.str x),some (.int w)],rfl,⟨_,rfl⟩,rfl,fun _=>opE (unE rfl (lenS (hx x hb))) rfl ?_⟩
   have:=hw x hb
   show some (D.bl (decide (w<(x.length:Int))))=_
   rw [decide_eq_false (by omega)])]
  rw [filter_tt]
 have ay:∀ xs:List Str,D.anyL (.lst (xs.map fun _=>.bl false))=some (.bl false):=by
  intro xs
  have:boolsOf (xs.map fun _=>D.bl false)=some (xs.map fun _=>false):=by
   induction xs with
   | nil=>rfl
   | cons x xs ih =>
    show (boolsOf (xs.map fun _=>D.bl false)).map _=_
    rw [ih];rfl
  show (boolsOf (xs.map fun _=>D.bl false)).map _=_
  rw [this]
  show some (D.bl ((xs.map fun _=>false).any id))=_
  simp
 unfold f_any_longer b_any_longer
 exact stD rfl (ret (unE hc (ay xs)))
def BkS:Bk->Prop
 | .chapter t _=>t.length<=1000
 | .heading t _ _=>t.length<=1000
 | .table rs _=>rs.length<=1000/\∀ r∈rs,r.length<=1000
 | .para is=>∀ i∈is,ItT i
 | .plates _ _=>True
theorem wideBlock_at (w h:Int) (o li:Bool) (room:Int) (b:Bk) (h0:0<=room) (hs:BkS b) (hf:FitB room w h b):f_is_wide_block [b.d,sty w h o li,.int room]=some (.bl false):=by
 have it:=isTit_at b
 have ix3:D.ix (sty w h o li) (.int 3)=some (.bl li):=rfl
 have ix0:D.ix (sty w h o li) (.int 0)=some (.int w):=rfl
 have tit:∀ (t:Str),D.ix b.d (.int 1)=some (.str t)->t.length<=1000->(t.length:Int)+2+room<=w->isTit b=true->f_is_wide_block [b.d,sty w h o li,.int room]=some (.bl false):=by
  intro t i1 tl tw tt
  rw [tt] at it
  unfold f_is_wide_block b_is_wide_block
  refine stD rfl (stR (ifT (call1 rfl it) ?_))
  refine st (e1:=[some b.d,some (sty w h o li),some (.int room),some (.int (if li then 2+room else 0))]) ?_ ?_
  ·refine asg ?_ rfl
   unfold eIf
   have hX:eOp D.ix (eV 1) (eC (.int 3)) (sD 4 [b.d,sty w h o li,.int room])=some (.bl li):=opE (x:=sty w h o li) rfl rfl ix3
   rw [hX,ifO_bl]
   cases li<;>rfl
  ·refine ret (opE (opE (unE (opE (x:=b.d) rfl rfl i1) (lenS (by omega))) rfl rfl) (opE rfl rfl ix0) ?_)
   show some (D.bl (decide (w<(t.length:Int)+_)))=_
   rw [decide_eq_false (by cases li<;>simp<;>omega)]
 cases b with
 | chapter t l=>exact tit t rfl hs hf rfl
 | heading t k l=>exact tit t rfl hs hf.1 rfl
 | table rs l =>
  have al:=anyLonger_at rs w (by have:=hs.1;omega) (fun x hx=>by have:=hs.2 x hx;omega) hf.2
  unfold f_is_wide_block b_is_wide_block
  refine stD rfl (st (e1:=[some (Bk.table rs l).d,some (sty w h o li),some (.int room),none]) (ifF (call1 rfl it) rfl) (ret ?_))
  exact andT (opE (x:=.str "table") (opE (x:=(Bk.table rs l).d) rfl rfl rfl) rfl (by rw [eqS];simp)) (call2 (opE (x:=(Bk.table rs l).d) rfl rfl rfl) (opE rfl rfl ix0) al)
 | para is =>
  unfold f_is_wide_block b_is_wide_block
  exact stD rfl (st (e1:=[some (Bk.para is).d,some (sty w h o li),some (.int room),none]) (ifF (call1 rfl it) rfl) (ret (andF (opE (x:=.str "para") (opE (x:=(Bk.para is).d) rfl rfl rfl) rfl (by rw [eqS];simp)))))
 | plates n l =>
  unfold f_is_wide_block b_is_wide_block
  exact stD rfl (st (e1:=[some (Bk.plates n l).d,some (sty w h o li),some (.int room),none]) (ifF (call1 rfl it) rfl) (ret (andF (opE (x:=.str "plates") (opE (x:=(Bk.plates n l).d) rfl rfl rfl) rfl (by rw [eqS];simp)))))
theorem highBlock_at (w h:Int) (o li:Bool) (room:Int) (b:Bk) (hf:FitB room w h b):f_is_high_block [b.d,sty w h o li]=some (.bl false):=by
 have ix1:D.ix (sty w h o li) (.int 1)=some (.int h):=rfl
 unfold f_is_high_block b_is_high_block
 refine stD rfl ?_
 cases b with
 | heading t k l =>
  refine stR (ifT (opE (x:=.str "heading") (opE (x:=(Bk.heading t k l).d) rfl rfl rfl) rfl (by rw [eqS];simp)) (ret (opE (opE (opE (x:=(Bk.heading t k l).d) rfl rfl rfl) rfl rfl) (opE rfl rfl ix1) ?_)))
  have:=hf.2
  show some (D.bl (decide (h<k+1)))=_
  rw [decide_eq_false (by omega)]
 | table rs l =>
  refine st (e1:=[some (Bk.table rs l).d,some (sty w h o li)]) (ifF (opE (x:=.str "table") (opE (x:=(Bk.table rs l).d) rfl rfl rfl) rfl (by rw [eqS];simp)) rfl) (ret ?_)
  refine andT (opE (x:=.str "table") (opE (x:=(Bk.table rs l).d) rfl rfl rfl) rfl (by rw [eqS];simp)) (opE (unE (opE (x:=(Bk.table rs l).d) rfl rfl rfl) (lenStrs rs)) (opE rfl rfl ix1) ?_)
  have:=hf.1
  show some (D.bl (decide (h<(rs.length:Int))))=_
  rw [decide_eq_false (by omega)]
 | chapter t l=>exact st (e1:=[some (Bk.chapter t l).d,some (sty w h o li)]) (ifF (opE (x:=.str "chapter") (opE (x:=(Bk.chapter t l).d) rfl rfl rfl) rfl (by rw [eqS];simp)) rfl) (ret (andF (opE (x:=.str "chapter") (opE (x:=(Bk.chapter t l).d) rfl rfl rfl) rfl (by rw [eqS];simp))))
 | para is=>exact st (e1:=[some (Bk.para is).d,some (sty w h o li)]) (ifF (opE (x:=.str "para") (opE (x:=(Bk.para is).d) rfl rfl rfl) rfl (by rw [eqS];simp)) rfl) (ret (andF (opE (x:=.str "para") (opE (x:=(Bk.para is).d) rfl rfl rfl) rfl (by rw [eqS];simp))))
 | plates n l=>exact st (e1:=[some (Bk.plates n l).d,some (sty w h o li)]) (ifF (opE (x:=.str "plates") (opE (x:=(Bk.plates n l).d) rfl rfl rfl) rfl (by rw [eqS];simp)) rfl) (ret (andF (opE (x:=.str "plates") (opE (x:=(Bk.plates n l).d) rfl rfl rfl) rfl (by rw [eqS];simp))))
theorem wideItem_at (w h:Int) (o li:Bool) (room:Int) (i:It) (hs:ItT i) (hf:FitI room w h i):f_is_wide_item [i.d,sty w h o li,.int room]=some (.bl false):=by
 have ix0:D.ix (sty w h o li) (.int 0)=some (.int w):=rfl
 unfold f_is_wide_item b_is_wide_item
 refine stD rfl ?_
 cases i with
 | word x ns =>
  have ad:D.add (.lst [.str x]) (strL ns)=some (strL (x::ns)):=addL (f:=D.str) (xs:=[x]) (ys:=ns) (lineN_big' (by have:=hs.2.1;omega))
  have al:=anyLonger_at (x::ns) w (by have:=hs.2.1;simp;omega) (fun y hy=>by rcases List.mem_cons.mp hy with z | z;rw [z];have:=hs.1;omega;have:=hs.2.2 y z;omega) (fun y hy=>by rcases List.mem_cons.mp hy with z | z;rw [z];exact hf.1;exact hf.2.2 y z)
  exact stR (ifT (opE (x:=.str "word") (opE (x:=(It.word x ns).d) rfl rfl rfl) rfl (by rw [eqS];simp)) (ret (call2 (opE (x:=.lst [.str x]) (y:=strL ns) rfl rfl ad) (opE rfl rfl ix0) al)))
 | ref l a b =>
  refine st (e1:=[some (It.ref l a b).d,some (sty w h o li),some (.int room)]) (ifF (opE (x:=.str "ref") (opE (x:=(It.ref l a b).d) rfl rfl rfl) rfl (by rw [eqS];simp)) rfl) (ret ?_)
  refine andT (opE (x:=.str "ref") (opE (x:=(It.ref l a b).d) rfl rfl rfl) rfl (by rw [eqS];simp)) (opE (opE (opE (unE (opE (x:=(It.ref l a b).d) rfl rfl rfl) (lenS (by have:=hs.1;omega))) rfl rfl) (unE (opE (x:=(It.ref l a b).d) rfl rfl rfl) (lenS (by have:=hs.2;omega))) rfl) (opE rfl rfl ix0) ?_)
  have hf':(a.length:Int)+room+b.length<=w:=hf
  show some (D.bl (decide (w<(a.length:Int)+room+b.length)))=_
  rw [decide_eq_false (by omega)]
 | mark l=>exact st (e1:=[some (It.mark l).d,some (sty w h o li),some (.int room)]) (ifF (opE (x:=.str "mark") (opE (x:=(It.mark l).d) rfl rfl rfl) rfl (by rw [eqS];simp)) rfl) (ret (andF (opE (x:=.str "mark") (opE (x:=(It.mark l).d) rfl rfl rfl) rfl (by rw [eqS];simp))))
 | key l=>exact st (e1:=[some (It.key l).d,some (sty w h o li),some (.int room)]) (ifF (opE (x:=.str "key") (opE (x:=(It.key l).d) rfl rfl rfl) rfl (by rw [eqS];simp)) rfl) (ret (andF (opE (x:=.str "key") (opE (x:=(It.key l).d) rfl rfl rfl) rfl (by rw [eqS];simp))))
theorem highItem_at (w h:Int) (o li:Bool) (room:Int) (i:It) (hf:FitI room w h i):f_is_high_item [i.d,sty w h o li]=some (.bl false):=by
 have ix1:D.ix (sty w h o li) (.int 1)=some (.int h):=rfl
 unfold f_is_high_item b_is_high_item
 refine stD rfl (ret ?_)
 cases i with
 | word x ns =>
  refine andT (opE (x:=.str "word") (opE (x:=(It.word x ns).d) rfl rfl rfl) rfl (by rw [eqS];simp)) (opE (opE (unE (opE (x:=(It.word x ns).d) rfl rfl rfl) (lenStrs ns)) rfl rfl) (opE rfl rfl ix1) ?_)
  have:=hf.2.1
  show some (D.bl (decide (h<(ns.length:Int)+1)))=_
  rw [decide_eq_false (by omega)]
 | ref l a b=>exact andF (opE (x:=.str "ref") (opE (x:=(It.ref l a b).d) rfl rfl rfl) rfl (by rw [eqS];simp))
 | mark l=>exact andF (opE (x:=.str "mark") (opE (x:=(It.mark l).d) rfl rfl rfl) rfl (by rw [eqS];simp))
 | key l=>exact andF (opE (x:=.str "key") (opE (x:=(It.key l).d) rfl rfl rfl) rfl (by rw [eqS];simp))
theorem lc {a:EvE} {l:EvL} {e:EnvD} {x:D} {xs:List D} (ha:a e=some x) (hl:l e=some xs):lC a l e=some (x::xs):=by unfold lC;rw [ha,hl];rfl
theorem stM {n k:Nat} {b:EvS} {ds:List D} {e:EnvD} {d:D} (hl:ds.length=k) (h:b (sD n ds)=some (.nx e)) (he:(e[k-1]?).join=some d):defM n k b ds=some d:=by
 unfold defM
 rw [if_pos hl,h]
 exact he
theorem callM {i:Nat} {f:List D->Option D} {l:EvL} {e:EnvD} {ds:List D} {d z:D} (hl:l e=some ds) (hd:eV i e=some d) (hf:f (ds++[d])=some z):sCallM i f l e=some (.nx (e.set i (some z))):=by
 unfold sCallM
 rw [hl,hd]
 show (f (ds++[d])).map _=_
 rw [hf];rfl
def dicT (ls:List Str):D:=.dic (ls.map Sum.inr) (ls.map fun _=>.bl true)
theorem hasK_T (l:Str) (ls:List Str):hasK (.inr l) (ls.map Sum.inr)=decide (l∈ls):=by
 unfold hasK
 induction ls with
 | nil=>simp
 | cons a ls ih =>
  rw [List.map_cons,List.any_cons,ih]
  by_cases z:a=l
  ·subst z;simp
  ·have:¬ l=a:=fun q=>z q.symm
   simp [z,this]
theorem addLabel_at (l:Str) (n:Int) (ls:List Str) (h:l∉ls) (hl:ls.length<lI):f_add_label [.str l,.int n,dicT ls]=some (dicT (ls++[l])):=by
 have hi:D.dIn (.str l) (dicT ls)=some (.bl false):=by
  show some (D.bl (hasK (.inr l) (ls.map Sum.inr)))=_
  rw [hasK_T,decide_eq_false h]
 have pd:D.put (dicT ls) (.str l) (.bl true)=some (dicT (ls++[l])):=by
  show (if (ls.map Sum.inr:List Kd).length<lI then some (dPut _ _ (.inr l) (.bl true)) else none)=_
  rw [if_pos (by rw [List.length_map];exact hl)]
  unfold dPut
  rw [hasK_T,if_neg (by simpa using h)]
  unfold dicT
  rw [List.map_append,List.map_append];rfl
 unfold f_add_label b_add_label
 refine stM (e:=[some (.str l),some (.int n),some (dicT (ls++[l]))]) rfl ?_ rfl
 refine st (e1:=[some (.str l),some (.int n),some (dicT ls)]) (ifF (opE rfl rfl hi) rfl) ?_
 show (D.put (dicT ls) (.str l) (.bl true)).map _=_
 rw [pd];rfl
def labL (b:Bk):List Str:=if labB b="" then [] else [labB b]
theorem lookBlock_at (w h:Int) (o li:Bool) (room:Int) (b:Bk) (n:Int) (ls:List Str) (h0:0<=room) (hs:BkS b) (hf:FitB room w h b) (hn:∀ l∈labL b,l∉ls) (hl:ls.length<lI):f_look_at_block [b.d,.int n,sty w h o li,.int room,dicT ls]=some (dicT (ls++labL b)):=by
 have a1:=wideBlock_at w h o li room b h0 hs hf
 have a2:=highBlock_at w h o li room b hf
 have a3:=labB_at b
 have ne:D.neO (.str (labB b)) (.str (Str.ofString ""))=some (.bl (!decide (labB b=Str.ofString ""))):=by simp [D.neO,dep_str,eq_str,D.cmpN]
 unfold f_look_at_block b_look_at_block
 refine stM (e:=[some b.d,some (.int n),some (sty w h o li),some (.int room),some (dicT (ls++labL b))]) rfl ?_ rfl
 refine st (e1:=[some b.d,some (.int n),some (sty w h o li),some (.int room),some (dicT ls)]) (ifF (call3 rfl rfl rfl a1) rfl) ?_
 refine st (e1:=[some b.d,some (.int n),some (sty w h o li),some (.int room),some (dicT ls)]) (ifF (call2 rfl rfl a2) rfl) ?_
 unfold labL at hn ⊢
 by_cases z:labB b=""
 ·rw [if_pos z,List.append_nil]
  exact ifF (opE (call1 rfl a3) rfl (by rw [ne,decide_eq_true z];rfl)) rfl
 ·rw [if_neg z] at hn ⊢
  have al:=addLabel_at (labB b) n ls (hn _ (by simp)) hl
  refine ifT (opE (call1 rfl a3) rfl (by rw [ne,decide_eq_false z];rfl)) ?_
  exact callM (ds:=[.str (labB b),.int n]) (lc (call1 rfl a3) rfl) rfl al
theorem lookItem_at (w h:Int) (o li:Bool) (room:Int) (i:It) (n:Int) (ls:List Str) (hs:ItT i) (hf:FitI room w h i) (hn:∀ l∈mkL i,l∉ls) (hl:ls.length<lI):f_look_at_item [i.d,.int n,sty w h o li,.int room,dicT ls]=some (dicT (ls++mkL i)):=by
 have a1:=wideItem_at w h o li room i hs hf
 have a2:=highItem_at w h o li room i hf
 unfold f_look_at_item b_look_at_item
 refine stM (e:=[some i.d,some (.int n),some (sty w h o li),some (.int room),some (dicT (ls++mkL i))]) rfl ?_ rfl
 refine st (e1:=[some i.d,some (.int n),some (sty w h o li),some (.int room),some (dicT ls)]) (ifF (call3 rfl rfl rfl a1) rfl) ?_
 refine st (e1:=[some i.d,some (.int n),some (sty w h o li),some (.int room),some (dicT ls)]) (ifF (call2 rfl rfl a2) rfl) ?_
 cases i with
 | mark l =>
  have al:=addLabel_at l n ls (hn l (by simp [mkL])) hl
  exact ifT (opE (x:=.str "mark") (opE (x:=(It.mark l).d) rfl rfl rfl) rfl (by rw [eqS];simp)) (callM (ds:=[.str l,.int n]) rfl rfl al)
 | word x ns =>
  have e:mkL (.word x ns)=[]:=rfl
  rw [e,List.append_nil]
  exact ifF (opE (x:=.str "word") (opE (x:=(It.word x ns).d) rfl rfl rfl) rfl (by rw [eqS];simp)) rfl
 | ref l x y =>
  have e:mkL (.ref l x y)=[]:=rfl
  rw [e,List.append_nil]
  exact ifF (opE (x:=.str "ref") (opE (x:=(It.ref l x y).d) rfl rfl rfl) rfl (by rw [eqS];simp)) rfl
 | key x =>
  have e:mkL (.key x)=[]:=rfl
  rw [e,List.append_nil]
  exact ifF (opE (x:=.str "key") (opE (x:=(It.key x).d) rfl rfl rfl) rfl (by rw [eqS];simp)) rfl
theorem nSet_take (is:List It) (i:Nat) (hi:i<is.length):nSet (is.take (i+1))=nSet (is.take i)+(if isSet is[i] then 1 else 0):=by
 unfold nSet
 rw [List.take_succ_eq_append_getElem hi,List.filter_append,List.length_append]
 congr 1
 cases q:isSet is[i]<;>simp [q]
theorem nSet_le (is:List It) (i:Nat):nSet (is.take i)<=nSet is:=((List.take_sublist i is).filter _).length_le
theorem lookItems_at (w h:Int) (o li:Bool) (room:Int) (is:List It) (n:Int) (ls:List Str) (hl:is.length<=100000) (hs:∀ i∈is,ItT i) (hf:∀ i∈is,FitI room w h i) (ht:Tight is) (hn:(ls++marksL is).Nodup) (hll:(ls++marksL is).length<lI) :
  f_look_at_items [.lst (is.map It.d),.int n,sty w h o li,.int room,dicT ls]=some (dicT (ls++marksL is)):=by
 have body:∃ e,b_look_at_items (sD 7 [.lst (is.map It.d),.int n,sty w h o li,.int room,dicT ls])=some (.nx e)/\∃ a b,e=[some (.lst (is.map It.d)),some (.int n),some (sty w h o li),some (.int room),some (dicT (ls++marksL is)),a,b]:=by
  unfold b_look_at_items
  have hc:=setComp2 (it:=iLst (eV 0)) (e:=sD 7 [.lst (is.map It.d),.int n,sty w h o li,.int room,dicT ls]) is rfl (by omega)
  have ln:=lenIts (is.filter isSet)
  have e1:((is.filter isSet).length:Int)=(nSet is:Int):=rfl
  rw [e1] at ln
  obtain ⟨e',h1,a,b,h2⟩:=loopN (g:=gS 6) (b:=sQ (sCallM 4 f_look_at_item (lC (eV 6) (lC (eV 1) (lC (eV 2) (lC (eV 3) lN))))) (sIf (eK f_is_set (lC (eV 6) lN)) (sAug 5 D.sub (eC (.int 1))) (sIf (eOp D.eqO (eV 5) (eC (.int 0))) (sNever) (sNx)))) It.d is (fun i e=>∃ a b,e=[some (.lst (is.map It.d)),some (.int n),some (sty w h o li),some (.int room),some (dicT (ls++marksL (is.take i))),a,b]/\a=some (.int ((nSet is:Int)-nSet (is.take i)))) (by
   rintro i hi e ⟨a,b,rfl,rfl⟩
   have tk:marksL (is.take (i+1))=marksL (is.take i)++mkL is[i]:=fT mkL is i hi
   have hm:is[i]∈is:=List.getElem_mem hi
   have iset:=isSet_at is[i]
   have nt:=nSet_take is i hi
   have nl:=nSet_le is (i+1)
   have hT:=ht i hi
   have split:ls++marksL is=(ls++marksL (is.take i))++(mkL is[i]++marksL (is.drop (i+1))):=by
    have:marksL is=marksL (is.take (i+1))++marksL (is.drop (i+1)):=by
     unfold marksL
     rw [<- List.flatMap_append,List.take_append_drop]
    rw [this,tk];simp [List.append_assoc]
   have hnot:∀ l∈mkL is[i],l∉ls++marksL (is.take i):=fun l h1 h2=>by
    rw [split] at hn
    exact (List.nodup_append.mp hn).2.2 l h2 l (List.mem_append_left _ h1) rfl
   have hlt:(ls++marksL (is.take i)).length<lI:=by
    rw [split,List.length_append] at hll
    omega
   have li':=lookItem_at w h o li room is[i] n (ls++marksL (is.take i)) (hs _ hm) (hf _ hm) hnot hlt
   rw [tk,<- List.append_assoc]
   generalize is[i]=x at *
   refine ⟨[some (.lst (is.map It.d)),some (.int n),some (sty w h o li),some (.int room),some (dicT (ls++marksL (is.take i)++mkL x)),some (.int ((nSet is:Int)-nSet (is.take (i+1)))),some x.d],.inl ?_,_,_,rfl,rfl⟩
   refine bnd (e1:=[some (.lst (is.map It.d)),some (.int n),some (sty w h o li),some (.int room),some (dicT (ls++marksL (is.take i))),some (.int ((nSet is:Int)-nSet (is.take i))),some x.d]) rfl ?_
   refine st (e1:=[some (.lst (is.map It.d)),some (.int n),some (sty w h o li),some (.int room),some (dicT (ls++marksL (is.take i)++mkL x)),some (.int ((nSet is:Int)-nSet (is.take i))),some x.d]) (callM (ds:=[x.d,.int n,sty w h o li,.int room]) rfl rfl li') ?_
   cases q:isSet x with
   | true =>
    rw [q] at iset nt
    refine ifT (call1 rfl iset) ?_
    rw [nt,if_pos rfl,show ((nSet is:Int)-((nSet (is.take i)+1:Nat):Int))=(nSet is:Int)-nSet (is.take i)-1 from by omega]
    rfl
   | false =>
    rw [q] at iset nt
    have:=hT q
    refine ifF (call1 rfl iset) (ifF (opE rfl rfl ?_) ?_)
    ·simp [D.eqO,dep_int,eq_int,D.cmp];omega
    ·rw [nt,if_neg (by decide),Nat.add_zero];rfl) [some (.lst (is.map It.d)),some (.int n),some (sty w h o li),some (.int room),some (dicT ls),some (.int (nSet is)),none] ⟨some (.int (nSet is)),none,by rw [List.take_zero];simp [marksL],by rw [List.take_zero];simp [nSet]⟩
  obtain ⟨h2,h3⟩:=h2
  rw [List.take_length] at h2
  refine ⟨e',?_,a,b,h2⟩
  refine st (e1:=[some (.lst (is.map It.d)),some (.int n),some (sty w h o li),some (.int room),some (dicT ls),some (.int (nSet is)),none]) (asg (unE hc ln) rfl) ?_
  unfold sFor
  exact h1
 obtain ⟨e,h1,a,b,rfl⟩:=body
 unfold f_look_at_items
 exact stM rfl h1 rfl
theorem stN {n k:Nat} {b:EvS} {ds:List D} {e:EnvD} (hl:ds.length=k) (h:b (sD n ds)=some (.nx e)):defD n k b ds=some .non:=by unfold defD;rw [if_pos hl,h];rfl
theorem notInT (l:Str) (ls:List Str) (h:l∈ls):D.dNotIn (.str l) (dicT ls)=some (.bl false):=by
 show some (D.bl (!hasK (.inr l) (ls.map Sum.inr)))=_
 rw [hasK_T,decide_eq_true h];rfl
theorem lookRefs_at (bs:List Bk) (ls:List Str) (hf:Few bs) (hr:∀ l∈rO bs,l∈ls):f_look_at_refs [bks bs,dicT ls]=some .non:=by
 obtain ⟨e',h1,_⟩:=loopN (g:=gUnp [gS 2,gS 3]) (b:=sFor (iLst (eK f_refs (lC (eLst (lC (eV 3) lN)) lN))) (gS 4) (sIf (eOp D.dNotIn (eV 4) (eV 1)) (sNever) (sNx))) (fun p:Bk×Nat=>D.tup [.int p.2,p.1.d]) bs.zipIdx (fun i e=>∃ a b c,e=[some (bks bs),some (dicT ls),a,b,c]) (by
  rintro i hi e ⟨a,b,c,rfl⟩
  have hi':i<bs.length:=by simpa using hi
  have ei:bs.zipIdx[i]=(bs[i],i):=by simp
  rw [ei]
  have hm:bs[i]∈bs:=List.getElem_mem hi'
  have f1:=few_one hf _ hm
  have rf:=refs_at [bs[i]] f1
  rw [refsOf_one] at rf
  have rf':f_refs [.lst [bs[i].d]]=some (strL (refsI (iO bs[i]))):=rf
  have hin:∀ l∈refsI (iO bs[i]),l∈ls:=fun l hl=>hr l (List.mem_flatMap.mpr ⟨bs[i],hm,hl⟩)
  generalize refsI (iO bs[i])=rs at *
  generalize bs[i]=x at *
  obtain ⟨e2,g1,c',g2⟩:=loopN (g:=gS 4) (b:=sIf (eOp D.dNotIn (eV 4) (eV 1)) (sNever) (sNx)) D.str rs (fun _ e=>∃ c,e=[some (bks bs),some (dicT ls),some (.int i),some x.d,c]) (by
   rintro j hj e ⟨c,rfl⟩
   have nn:=notInT rs[j] ls (hin _ (List.getElem_mem hj))
   exact ⟨_,.inl (bnd (e1:=[some (bks bs),some (dicT ls),some (.int i),some x.d,some (.str rs[j])]) rfl (ifF (opE rfl rfl nn) rfl)),_,rfl⟩) [some (bks bs),some (dicT ls),some (.int i),some x.d,c] ⟨c,rfl⟩
  subst g2
  refine ⟨[some (bks bs),some (dicT ls),some (.int i),some x.d,c'],.inl (bnd (e1:=[some (bks bs),some (dicT ls),some (.int i),some x.d,c]) rfl ?_),some (.int i),some x.d,c',rfl⟩
  ·unfold sFor iLst
   have hR:eK f_refs (lC (eLst (lC (eV 3) lN)) lN) [some (bks bs),some (dicT ls),some (.int i),some x.d,c]=some (strL rs):=call1 (x:=.lst [x.d]) rfl rf'
   rw [hR]
   exact g1) [some (bks bs),some (dicT ls),none,none,none] ⟨none,none,none,rfl⟩
 unfold f_look_at_refs b_look_at_refs
 refine stN (e:=e') rfl ?_
 unfold sFor iEnum
 show (some (enumD 0 (bs.map Bk.d))).bind _=_
 rw [enumD_eq]
 exact h1
theorem look_at (w h:Int) (o li:Bool) (bs:List Bk) (hf:Few bs) (hw:4<=w/\w<=90/\2<=h/\h<=60) (h0:0<=most li bs) (h1:most li bs<10^60) (hs:∀ b∈bs,BkS b) (ht:∀ b∈bs,BkT b) (hfit:∀ b∈bs,FitB (digs (most li bs).toNat) w h b) (htt:∀ b∈bs,Tight (iO b))
  (hn:(bookLabs bs).Nodup) (hr:∀ l∈rO bs,l∈bookLabs bs):f_look [bks bs,sty w h o li]=some .non:=by
 have si:f_is_style [sty w h o li]=some (.bl true):=by
  unfold f_is_style b_is_style sty
  simp [mulA_int,eCut,cutA,lI,defD,sD,sQ,sIf,sRet,sRetN,sAsg,sAug,sDrop,sNx,sBrk,sCnt,gS,gUnp,gAll,eV,eC,eOp,eUn,eNot,eAnd,eOr,eIf,eChain,eTup,eLst,eK,lN,lC,eInst,oNo,oAt,eCutL,D.len,D.lt,D.le,D.gt,D.ge,D.add,D.sub,D.ix,D.eqO,D.neO,D.cmp,D.cmpN,D.inst,tyD,D.isT,D.intB,D.min2,D.max2,D.neg,D.addI,ifO_bl,notO_bl,ifO_ite,notO_ite,seqO_nx,seqO_rt,seqO_bk,seqO_ct,seqO_none,seqO_ite,endD_rt,endD_nx,endD_ite,bind_ite,map_ite,andO_some,dep_non,dep_bl,dep_int,dep_str,dep_tup,dep_lst,depL_nil,depL_cons,D.rng,D.its,D.itsT,eq_int,eq_bl,eq_str,eq_tup,eq_lst,eqL_nil,eqL_cons,ixD,hw.1,hw.2.1,hw.2.2.1,hw.2.2.2]
 have ra:=roomAtMost_at w h o li bs hf h0 h1
 have lr:=lookRefs_at bs (bookLabs bs) hf hr
 have hbl:=bookLabs_len bs
 obtain ⟨room,er⟩:∃ room:Int,(digs (most li bs).toNat:Int)=room:=⟨_,rfl⟩
 rw [er] at ra hfit
 have r0:0<=room:=by omega
 obtain ⟨e',g1,g2⟩:=loopN (g:=gUnp [gS 4,gS 5]) (b:=sQ (sCallM 3 f_look_at_block (lC (eV 5) (lC (eV 4) (lC (eV 1) (lC (eV 2) lN))))) (sCallM 3 f_look_at_items (lC (eK f_items_of (lC (eV 5) lN)) (lC (eV 4) (lC (eV 1) (lC (eV 2) lN)))))) (fun p:Bk×Nat=>D.tup [.int p.2,p.1.d]) bs.zipIdx (fun i e=>∃ a b,e=[some (bks bs),some (sty w h o li),some (.int room),some (dicT (bookLabs (bs.take i))),a,b]) (by
  rintro i hi e ⟨a,b,rfl⟩
  have hi':i<bs.length:=by simpa using hi
  have ei:bs.zipIdx[i]=(bs[i],i):=by simp
  rw [ei]
  have hm:bs[i]∈bs:=List.getElem_mem hi'
  have tk:bookLabs (bs.take (i+1))=bookLabs (bs.take i)++labsB bs[i]:=fT labsB bs i hi'
  have lb:labsB bs[i]=labL bs[i]++marksL (iO bs[i]):=rfl
  have sub:(bookLabs (bs.take (i+1))).Nodup:=by
   refine List.Nodup.sublist ?_ hn
   unfold bookLabs
   conv=>rhs;rw [<- List.take_append_drop (i+1) bs,List.flatMap_append]
   exact List.sublist_append_left _ _
  have len:(bookLabs (bs.take (i+1))).length<=(bookLabs bs).length:=flatMap_take_len labsB bs (i+1)
  have hlen:(bookLabs bs).length<=200000:=by have:=hf.1;have:=hf.2;omega
  have io:=itemsOf_at bs[i]
  have il:=items_le hf _ hm
  rw [tk,lb,<- List.append_assoc] at sub len
  rw [tk,lb,<- List.append_assoc]
  have sN:=sub
  rw [List.append_assoc] at sN
  have lk1:=lookBlock_at w h o li room bs[i] i (bookLabs (bs.take i)) r0 (hs _ hm) (hfit _ hm) (fun l h1 h2=>(List.nodup_append.mp sN).2.2 l h2 l (List.mem_append_left _ h1) rfl) (lt_big (by rw [List.length_append,List.length_append] at len;omega))
  have lk2:=lookItems_at w h o li room (iO bs[i]) i (bookLabs (bs.take i)++labL bs[i]) il (ht _ hm) (by
   have:=hfit _ hm
   intro j hj
   cases q:bs[i] with
   | para is=>rw [q] at this hj;exact this j hj
   | _=>rw [q] at hj;cases hj) (htt _ hm) sub (lt_big (by omega))
  generalize bs[i]=x at *
  refine ⟨[some (bks bs),some (sty w h o li),some (.int room),some (dicT (bookLabs (bs.take i)++labL x++marksL (iO x))),some (.int i),some x.d],.inl ?_,_,_,rfl⟩
  refine bnd (e1:=[some (bks bs),some (sty w h o li),some (.int room),some (dicT (bookLabs (bs.take i))),some (.int i),some x.d]) rfl ?_
  refine st (e1:=[some (bks bs),some (sty w h o li),some (.int room),some (dicT (bookLabs (bs.take i)++labL x)),some (.int i),some x.d]) (callM (ds:=[x.d,.int i,sty w h o li,.int room]) rfl rfl lk1) ?_
  exact callM (ds:=[.lst ((iO x).map It.d),.int i,sty w h o li,.int room]) (lc (call1 rfl io) rfl) rfl lk2) [some (bks bs),some (sty w h o li),some (.int room),some (dicT []),none,none] ⟨none,none,rfl⟩
 obtain ⟨a,b,rfl⟩:=g2
 have zl:bs.zipIdx.length=bs.length:=by simp
 rw [zl,List.take_length] at g1
 unfold f_look b_look
 refine stN (e:=[some (bks bs),some (sty w h o li),some (.int room),some (dicT (bookLabs bs)),a,b]) rfl ?_
 refine st (e1:=[some (bks bs),some (sty w h o li),none,none,none,none]) (ifF (notE (b:=true) (call1 rfl si)) rfl) ?_
 refine st (e1:=[some (bks bs),some (sty w h o li),some (.int room),none,none,none]) (asg (call2 rfl rfl ra) rfl) ?_
 refine st (e1:=[some (bks bs),some (sty w h o li),some (.int room),some (dicT []),none,none]) rfl ?_
 refine st (e1:=[some (bks bs),some (sty w h o li),some (.int room),some (dicT (bookLabs bs)),a,b]) ?_ ?_
 ·unfold sFor iEnum
  show (some (enumD 0 (bs.map Bk.d))).bind _=_
  rw [enumD_eq]
  exact g1
 ·unfold sDrop
  have hR:eK f_look_at_refs (lC (eV 0) (lC (eV 3) lN)) [some (bks bs),some (sty w h o li),some (.int room),some (dicT (bookLabs bs)),a,b]=some .non:=call2 rfl rfl lr
  rw [hR]
  rfl
theorem isSet_MK (i:It):isSet i=!isMK i:=by cases i<;>rfl
theorem tight_last {r:List It} {x:It} (hx:isSet x=true):Tight (r++[x]):=by
 intro i hi h
 have hl:(r++[x]).length=r.length+1:=by simp
 have hir:i<r.length:=by
  rcases Nat.lt_or_ge i r.length with z | z
  ·exact z
  ·have e:i=r.length:=by omega
   subst e
   have:(r++[x])[r.length]=x:=by simp
   rw [this,hx] at h;cases h
 have e1:(r++[x]).take i=r.take i:=by rw [List.take_append_of_le_length (by omega)]
 have e2:nSet (r++[x])=nSet r+1:=by unfold nSet;rw [List.filter_append,List.length_append];simp [hx]
 rw [e1,e2]
 have:=nSet_le r i
 omega
theorem tight_nil:Tight []:=fun i hi=>by simp at hi
theorem tight_close (row:List It):Tight (closeRow row):=by
 rcases row_or row with z | ⟨r,x,z⟩
 ·subst z;exact tight_nil
 ·have cl:closeRow row=if isMK x then row++[.word "end" []] else row:=by unfold closeRow;rw [z];simp
  rw [cl]
  cases q:isMK x with
  | true=>rw [if_pos rfl];exact tight_last rfl
  | false=>rw [if_neg (by decide),z];exact tight_last (by rw [isSet_MK,q];rfl)
theorem grp_tight:∀ (as:List At) (s:List Bk×List It),(∀ a∈as,AtS a\/a=.fin)->(∀ b∈s.1,Tight (iO b))->∀ b∈(as.foldl gStep s).1,Tight (iO b)
 | [],s,_,h=>h
 | a::as,s,ha,h=>by
  refine grp_tight as (gStep s a) (fun x hx=>ha x (List.mem_cons_of_mem _ hx)) fun b hb=>?_
  obtain ⟨bs,row⟩:=s
  have tc:Tight (iO (.para (closeRow row))):=tight_close row
  have h1:∀ b∈bs++[Bk.para (closeRow row)],Tight (iO b):=fun b hb=>by
   rcases List.mem_append.mp hb with z | z
   ·exact h b z
   ·rw [List.mem_singleton.mp z];exact tc
  have h2:∀ b∈(if closeRow row=[] then bs else bs++[.para (closeRow row)]),Tight (iO b):=fun b hb=>by
   split at hb
   ·exact h b hb
   ·exact h1 b hb
  cases a with
  | it i=>exact h b hb
  | bk x =>
   rcases List.mem_append.mp hb with z | z
   ·exact h2 b z
   ·rw [List.mem_singleton.mp z]
    rcases ha (.bk x) List.mem_cons_self with q | q
    ·cases x<;>first | exact tight_nil | exact q.elim
    ·cases q
  | brk=>exact h1 b hb
  | fin=>exact h2 b hb
theorem grp_items (P:It->Prop) (he:P (.word "end" [])):∀ (as:List At) (s:List Bk×List It),(∀ a∈as,AtS a\/a=.fin)->(∀ i,At.it i∈as->P i)->(∀ b∈s.1,∀ i∈iO b,P i)->(∀ i∈s.2,P i)->∀ b∈(as.foldl gStep s).1,∀ i∈iO b,P i
 | [],s,_,_,h,_=>h
 | a::as,s,ha,hi,h,hrow=>by
  obtain ⟨bs,row⟩:=s
  have hc:∀ i∈closeRow row,P i:=fun i hi=>by
   unfold closeRow at hi
   split at hi
   ·split at hi
    ·rcases List.mem_append.mp hi with z | z
     ·exact hrow i z
     ·rw [List.mem_singleton.mp z];exact he
    ·exact hrow i hi
   ·exact hrow i hi
  have h1:∀ b∈bs++[Bk.para (closeRow row)],∀ i∈iO b,P i:=fun b hb=>by
   rcases List.mem_append.mp hb with z | z
   ·exact h b z
   ·rw [List.mem_singleton.mp z];exact hc
  have h2:∀ b∈(if closeRow row=[] then bs else bs++[.para (closeRow row)]),∀ i∈iO b,P i:=fun b hb=>by
   split at hb
   ·exact h b hb
   ·exact h1 b hb
  have ha':∀ x∈as,AtS x\/x=.fin:=fun x hx=>ha x (List.mem_cons_of_mem _ hx)
  have hi':∀ i,At.it i∈as->P i:=fun i hx=>hi i (List.mem_cons_of_mem _ hx)
  have nil:∀ i∈([]:List It),P i:=fun i h=>by cases h
  cases a with
  | it x =>
   refine grp_items P he as _ ha' hi' h fun i hx=>?_
   rcases List.mem_append.mp hx with z | z
   ·exact hrow i z
   ·rw [List.mem_singleton.mp z];exact hi x List.mem_cons_self
  | bk x =>
   refine grp_items P he as _ ha' hi' (fun b hb=>?_) nil
   rcases List.mem_append.mp hb with z | z
   ·exact h2 b z
   ·rw [List.mem_singleton.mp z]
    rcases ha (.bk x) List.mem_cons_self with q | q
    ·cases x<;>first | exact nil | exact q.elim
    ·cases q
  | brk=>exact grp_items P he as _ ha' hi' h1 nil
  | fin=>exact grp_items P he as _ ha' hi' h2 nil
theorem marks_close (row:List It):marksL (closeRow row)=marksL row:=by
 unfold closeRow
 split
 ·split
  ·unfold marksL;rw [List.flatMap_append];simp [mkL]
  ·rfl
 ·rfl
theorem grp_labs:∀ (as:List At) (s:List Bk×List It),(∀ a∈as,AtS a\/a=.fin)->bookLabs (as.foldl gStep s).1++marksL (as.foldl gStep s).2=bookLabs s.1++marksL s.2++as.flatMap labsOf
 | [],s,_=>by simp
 | a::as,s,ha=>by
  rw [List.foldl_cons,grp_labs as _ (fun x hx=>ha x (List.mem_cons_of_mem _ hx)),List.flatMap_cons,<- List.append_assoc]
  congr 1
  obtain ⟨bs,row⟩:=s
  have e1:bookLabs (bs++[.para (closeRow row)])=bookLabs bs++marksL row:=by
   unfold bookLabs
   rw [List.flatMap_append]
   simp [labsB,labB,iO,marks_close]
  have e2:bookLabs (if closeRow row=[] then bs else bs++[.para (closeRow row)])=bookLabs bs++marksL row:=by
   split
   ·rename_i z
    rw [<- marks_close row,z];simp [marksL]
   ·exact e1
  have app:∀ (xs:List Bk) (b:Bk),bookLabs (xs++[b])=bookLabs xs++labsB b:=fun xs b=>by unfold bookLabs;rw [List.flatMap_append];simp
  cases a with
  | it i =>
   show bookLabs bs++marksL (row++[i])=bookLabs bs++marksL row++labsOf (.it i)
   unfold marksL
   rw [List.flatMap_append,<- List.append_assoc]
   congr 1
   cases i<;>simp [mkL,labsOf]
  | bk x =>
   show bookLabs ((if closeRow row=[] then bs else bs++[.para (closeRow row)])++[x])++marksL []=_
   rw [app,e2]
   have:labsB x=labsOf (.bk x):=by
    rcases ha (.bk x) List.mem_cons_self with q | q
    ·cases x with
     | para is=>exact q.elim
     | chapter t l=>by_cases z:l=""<;>simp [labsB,labB,labsOf,iO,marksL,z]
     | heading t k l=>by_cases z:l=""<;>simp [labsB,labB,labsOf,iO,marksL,z]
     | table rs l=>by_cases z:l=""<;>simp [labsB,labB,labsOf,iO,marksL,z]
     | plates n l=>by_cases z:l=""<;>simp [labsB,labB,labsOf,iO,marksL,z]
    ·cases q
   rw [this];simp [marksL]
  | brk =>
   show bookLabs (bs++[.para (closeRow row)])++marksL []=_
   rw [e1];simp [marksL,labsOf]
  | fin =>
   show bookLabs (if closeRow row=[] then bs else bs++[.para (closeRow row)])++marksL []=_
   rw [e2];simp [marksL,labsOf]
theorem labs_pt (ls:List Str) (cs:List Int) (i:Nat) (a:At):labsOf (pt ls cs i a)=labsOf a:=by
 unfold pt
 split
 ·split<;>rfl
 ·rfl
theorem flatMap_mapIdx {α β γ:Type} (f:β->List γ) (h:α->List γ):∀ (g:Nat->α->β) (xs:List α),(∀ i a,f (g i a)=h a)->(xs.mapIdx g).flatMap f=xs.flatMap h
 | g,[],_=>rfl
 | g,x::xs,hg=>by
  rw [List.mapIdx_cons,List.flatMap_cons,List.flatMap_cons,hg,flatMap_mapIdx f h _ xs (fun i a=>hg _ a)]
theorem labs_pointed (cs:List Int) (as:List At):labs (pointed cs as)=labs as:=flatMap_mapIdx labsOf labsOf _ as (fun i a=>labs_pt _ _ i a)
theorem labs_sub:∀ (cs:List Int) (n:Nat),n+cs.length<=58->((cs.zipIdx n).flatMap fun p=>labsOf (atomOf p.1 p.2)).Sublist ((List.range' n cs.length).map lab)
 | [],n,_=>by simp
 | c::cs,n,h=>by
  rw [List.length_cons] at h
  have ih:=labs_sub cs (n+1) (by omega)
  have ok:=(atomOf_at c n (by omega)).2
  rw [List.zipIdx_cons,List.flatMap_cons,List.length_cons,List.range'_succ,List.map_cons]
  have key:labsOf (atomOf c n)=[]\/labsOf (atomOf c n)=[lab n]:=by
   have lb:∀ l,LbOk n l->(if l=Str.ofString "" then [] else [l])=[]\/(if l=Str.ofString "" then [] else [l])=[lab n]:=fun l hl=>by
    by_cases z:l=Str.ofString ""
    ·left;rw [if_pos z]
    ·right
     rw [if_neg z]
     rcases hl with q | q
     ·exact absurd q z
     ·rw [q]
   cases q:atomOf c n with
   | brk=>exact .inl rfl
   | fin=>exact .inl rfl
   | it i =>
    rw [q] at ok
    cases i with
    | mark l=>right;show [l]=_;rw [show l=lab n from ok]
    | _=>exact .inl rfl
   | bk b =>
    rw [q] at ok
    cases b with
    | chapter t l=>exact lb l ok.2
    | heading t k l=>exact lb l ok.2.2
    | table rs l=>exact lb l ok.2.2
    | plates m l=>exact lb l ok.2
    | para is=>exact ok.elim
  rcases key with z | z
  ·have z':labsOf (atomOf (c,n).1 (c,n).2)=[]:=z
   rw [z',List.nil_append];exact ih.cons _
  ·have z':labsOf (atomOf (c,n).1 (c,n).2)=[lab n]:=z
   rw [z'];exact ih.cons_cons _
theorem noTwo_nodup:∀ xs:List Str,noTwo xs=true->xs.Nodup
 | [],_=>List.nodup_nil
 | x::xs,h=>by
  simp only [noTwo,Bool.and_eq_true,List.all_eq_true,decide_eq_true_eq] at h
  exact List.nodup_cons.mpr ⟨fun z=>h.1 x z rfl,noTwo_nodup xs h.2⟩
theorem dLabs_sub (cs:List Int) (h:cs.length<=58):(labs (dAtoms cs)).Sublist ((List.range 58).map lab):=by
 have h1:=labs_sub cs 0 (by omega)
 have e:labs (dAtoms cs)=(cs.zipIdx 0).flatMap fun p=>labsOf (atomOf p.1 p.2):=by
  unfold labs dAtoms
  rw [List.flatMap_map]
 rw [e]
 refine h1.trans (List.Sublist.map _ ?_)
 have e2:List.range' 0 cs.length++List.range' (0+cs.length) (58-cs.length)=List.range' 0 (cs.length+(58-cs.length)):=List.range'_append_1
 rw [List.range_eq_range',show 58=cs.length+(58-cs.length) from by omega,<- e2]
 exact List.sublist_append_left _ _
theorem app_labs (xs ys:List Bk):bookLabs (xs++ys)=bookLabs xs++bookLabs ys:=by unfold bookLabs;rw [List.flatMap_append]
theorem dBook_labs (cs:List Int) (h:cs.length<58):bookLabs (dBook cs)=labs (dAtoms cs):=by
 have hB:=dPt_B cs h
 have g:=grp_labs (pointed cs (dAtoms cs)++[.fin]) ([],[]) (fun a ha=>by
  rcases hB a ha with z | z
  ·exact .inl (atB_S z)
  ·exact .inr z)
 have e2:((pointed cs (dAtoms cs)++[At.fin]).foldl gStep ([],[])).2=[]:=by
  rw [List.foldl_append]
  show (gStep _ .fin).2=[]
  rfl
 rw [e2] at g
 have e3:(pointed cs (dAtoms cs)++[At.fin]).flatMap labsOf=labs (dAtoms cs):=by
  rw [List.flatMap_append]
  show labs (pointed cs (dAtoms cs))++_=_
  rw [labs_pointed];simp [labsOf]
 rw [e3] at g
 have e4:bookLabs (dBook cs)=bookLabs ((pointed cs (dAtoms cs)++[At.fin]).foldl gStep ([],[])).1:=rfl
 rw [e4]
 simpa [marksL,bookLabs] using g
theorem edge_labs (ns:List Int) (w h:Int) (li:Bool):bookLabs (edge ns w h li)=[]\/bookLabs (edge ns w h li)=[Str.ofString "z"]:=by
 unfold edge
 split
 ·exact .inl rfl
 ·right;simp [bookLabs,labsB,labB,iO,marksL,mkL]
theorem lab_nodup:((List.range 58).map lab).Nodup:=noTwo_nodup _ lab_two
theorem dAll_labs (ns:List Int):(bookLabs (dAll ns)).Nodup:=by
 have hl:=dCells_lt ns
 have sub:=dLabs_sub (dCells ns) (by omega)
 unfold dAll dBk
 rw [app_labs,dBook_labs _ hl]
 have nd:(labs (dAtoms (dCells ns))).Nodup:=sub.nodup lab_nodup
 rcases edge_labs ns (dW ns) (dH ns) (dLi ns) with z | z
 ·rw [z];exact nd
 ·rw [z]
  refine List.nodup_cons.mpr ⟨fun q=>?_,nd⟩
  obtain ⟨k,hk,e⟩:=List.mem_map.mp (sub.subset q)
  exact lab_z k (List.mem_range.mp hk) e
theorem mem_refsOf {bs:List Bk} {l:Str} (h:l∈rO bs):∃ b∈bs,∃ x y,It.ref l x y∈iO b:=by
 obtain ⟨b,hb,h1⟩:=List.mem_flatMap.mp h
 unfold refsI at h1
 obtain ⟨i,hi,e⟩:=List.mem_map.mp h1
 obtain ⟨h2,h3⟩:=List.mem_filter.mp hi
 cases i with
 | ref l' x y=>cases e;exact ⟨b,hb,x,y,h2⟩
 | _=>cases h3
def RefIn (L:List Str):It->Prop
 | .ref l _ _=>l∈L
 | _=>True
theorem pt_ref (ls:List Str) (cs:List Int) (k:Nat) (a:At):∀ i,pt ls cs k a=.it i->(∀ j,a=.it j->(∃ l x y,j=.ref l x y)\/RefIn ls j)->RefIn ls i:=by
 intro i e h
 unfold pt at e
 split at e
 ·split at e
  ·cases e;trivial
  ·rename_i ne
   cases e
   show List.getD _ _ _∈ls
   have hp:(0:Int)<ls.length:=by
    cases ls with
    | nil=>exact absurd rfl ne
    | cons a b=>simp only [List.length_cons];omega
   have h1:=Int.emod_nonneg (mix (cs.getD k 0) (k+90)) (show (ls.length:Int)≠0 by omega)
   have h2:=Int.emod_lt_of_pos (mix (cs.getD k 0) (k+90)) hp
   rw [List.getD_eq_getElem?_getD,List.getElem?_eq_getElem (by omega)]
   exact List.getElem_mem _
 ·rename_i nr
  subst e
  rcases h i rfl with ⟨l,x,y,rfl⟩ | q
  ·exact absurd rfl (nr l x y)
  ·exact q
theorem dBook_refs (cs:List Int) (h:cs.length<58):∀ l∈rO (dBook cs),l∈labs (dAtoms cs):=by
 intro l hl
 obtain ⟨b,hb,x,y,hi⟩:=mem_refsOf hl
 have hB:=dPt_B cs h
 have g:=grp_items (RefIn (labs (dAtoms cs))) trivial (pointed cs (dAtoms cs)++[At.fin]) ([],[]) (fun a ha=>by
  rcases hB a ha with z | z
  ·exact .inl (atB_S z)
  ·exact .inr z) (fun i hm=>by
   rcases List.mem_append.mp hm with z | z
   ·unfold pointed at z
    obtain ⟨k,hk,e⟩:=List.mem_mapIdx.mp z
    refine pt_ref _ _ _ _ i e fun j _=>?_
    cases j with
    | ref l x y=>exact .inl ⟨l,x,y,rfl⟩
    | _=>exact .inr trivial
   ·cases List.mem_singleton.mp z) (by simp) (by simp) b hb (.ref l x y) hi
 exact g
theorem refsOf_app (xs ys:List Bk):rO (xs++ys)=rO xs++rO ys:=by unfold rO;rw [List.flatMap_append]
theorem dAll_refs (ns:List Int):∀ l∈rO (dAll ns),l∈bookLabs (dAll ns):=by
 intro l hl
 have hc:=dCells_lt ns
 unfold dAll dBk at *
 rw [refsOf_app] at hl
 rw [app_labs]
 rcases List.mem_append.mp hl with z | z
 ·refine List.mem_append_left _ ?_
  unfold edge at z ⊢
  split at z
  ·cases z
  ·rename_i ne
   rw [if_neg ne]
   obtain ⟨b,hb,x,y,hi⟩:=mem_refsOf z
   simp only [List.mem_cons,List.not_mem_nil,or_false] at hb
   rcases hb with q | q | q<;>subst q
   ·cases hi
   ·cases hi
   ·simp only [iO,List.mem_cons,List.not_mem_nil,or_false] at hi
    rcases hi with q | q | q
    ·cases q
    ·cases q
    ·cases q
     simp [bookLabs,labsB,labB,iO,marksL,mkL]
 ·refine List.mem_append_right _ ?_
  rw [dBook_labs _ hc]
  exact dBook_refs _ hc l z
theorem dAll_tight (ns:List Int):∀ b∈dAll ns,Tight (iO b):=by
 intro b hb
 unfold dAll dBk at hb
 rcases List.mem_append.mp hb with z | z
 ·unfold edge at z
  split at z
  ·cases z
  ·simp only [List.mem_cons,List.not_mem_nil,or_false] at z
   rcases z with q | q | q<;>subst q
   ·exact tight_nil
   ·exact tight_nil
   ·exact tight_last (r:=[_,_]) rfl
 ·exact grp_tight _ ([],[]) (fun a ha=>by
   rcases dPt_B _ (dCells_lt ns) a ha with z | z
   ·exact .inl (atB_S z)
   ·exact .inr z) (by simp) b z
theorem edge_S (ns:List Int) (w h:Int) (li:Bool) (hw:4<=w/\w<=90) (hh:2<=h/\h<=60):∀ b∈edge ns w h li,BkS b/\BkT b/\PlatesOk b:=by
 intro b hb
 have h6:=ten6 (edgeN_b ns)
 have hN:=edgeN_b ns
 unfold edge at hb
 split at hb
 ·cases hb
 ·simp only [List.mem_cons,List.not_mem_nil,or_false] at hb
  have it:∀ i∈[It.word (mulS (Str.ofString "w") (if w-1-edgeN ns > 1 then w-1-edgeN ns else 1)) [],It.mark "z",It.ref "z" "" ""],ItT i:=fun i hi=>by
   simp only [List.mem_cons,List.not_mem_nil,or_false] at hi
   rcases hi with q | q | q<;>subst q
   ·refine ⟨?_,by simp,by simp⟩
    rw [w_len];split<;>omega
   ·trivial
   ·exact ⟨by rw [empty_len];omega,by rw [empty_len];omega⟩
  rcases hb with q | q | q<;>subst q
  ·refine ⟨trivial,fun i hi=>(by cases hi),fun n l e=>?_⟩
   cases e;omega
  ·refine ⟨⟨by simp;omega,fun r hr=>?_⟩,fun i hi=>(by cases hi),fun n l e=>(by cases e)⟩
   rw [List.eq_of_mem_replicate hr,empty_len];omega
  ·exact ⟨it,it,fun n l e=>(by cases e)⟩
theorem BkB_S:∀ {b:Bk},BkB b->BkS b/\BkT b/\PlatesOk b:=by
 intro b h
 have itT:∀ i,ItB i->ItT i:=fun i hi=>by
  cases i with
  | word x ns=>exact ⟨by have:=hi.1.2;omega,by have:=hi.2.1;omega,fun r hr=>by have:=hi.2.2 r hr;omega⟩
  | ref l x y=>exact ⟨by have:=hi.1;omega,by have:=hi.2;omega⟩
  | _=>trivial
 cases b with
 | chapter t l=>exact ⟨by have:=h.2;show t.length<=1000;omega,fun i hi=>(by cases hi),fun n l e=>(by cases e)⟩
 | heading t k l=>exact ⟨by have:=h.1.2;show t.length<=1000;omega,fun i hi=>(by cases hi),fun n l e=>(by cases e)⟩
 | table rs l=>exact ⟨⟨by have:=h.1.2;omega,fun r hr=>by have:=h.2 r hr;omega⟩,fun i hi=>(by cases hi),fun n l e=>(by cases e)⟩
 | plates n l=>exact ⟨trivial,fun i hi=>(by cases hi),fun m l' e=>(by cases e;exact h.1)⟩
 | para is=>exact ⟨fun i hi=>itT i (h i hi),fun i hi=>itT i (h i hi),fun n l e=>(by cases e)⟩
theorem dAll_S (ns:List Int):∀ b∈dAll ns,BkS b/\BkT b/\PlatesOk b:=by
 intro b hb
 have hw:=dW_b ns
 have hh:=dH_b ns
 unfold dAll at hb
 rcases List.mem_append.mp hb with z | z
 ·exact edge_S ns _ _ _ ⟨hw.2.1,hw.2.2⟩ ⟨hh.2.1,hh.2.2⟩ b z
 ·exact BkB_S (dBk_B ns b z)
theorem edge_most (ns:List Int) (w h w' h':Int) (li li':Bool):(edge ns w h li).map (bkMost li')=(edge ns w' h' li).map (bkMost li'):=by
 unfold edge
 split
 ·rfl
 ·simp [bkMost,isSet,isWd,isRef]
theorem dAll_most (ns:List Int):most (dLi ns) (dAll ns)=dMost ns:=by
 unfold dMost dAll dE0 most
 rw [foldl_sum,foldl_sum,List.map_append,List.map_append,edge_most ns _ _ 4 2]
theorem dAll_fit (ns:List Int):∀ b∈dAll ns,FitB (dR ns) (dW ns) (dH ns) b:=by
 intro b hb
 have hn:=dNeed_all ns
 have hw:=dW_b ns
 have hwd:=dWide_b ns
 have hh:=dH_b ns
 have hr:=dRoom_b ns
 have hN:=edgeN_b ns
 unfold dAll at hb
 rcases List.mem_append.mp hb with z | z
 ·have fe:∀ b∈dE0 ns,FitB (dR ns) (dNeed ns).1 (dNeed ns).2 b:=fun b hb=>hn.2.2.2.2 b (List.mem_append_right _ hb)
  have ne:¬ (dLi ns=true\/cell ns 4%3≠1):=fun q=>by
   unfold edge at z
   rw [if_pos q] at z;cases z
  unfold edge at z
  rw [if_neg ne] at z
  have rm:dR ns<=(dNeed ns).1:=by
   have:=fe (.para [.word (mulS "w" (if (4:Int)-1-edgeN ns > 1 then 4-1-edgeN ns else 1)) [],.mark "z",.ref "z" "" ""]) (by unfold dE0 edge;rw [if_neg ne];simp) (.ref "z" "" "") (by simp)
   have e:((Str.ofString "").length:Int)+dR ns+((Str.ofString "").length:Int)<=(dNeed ns).1:=this
   rw [empty_len] at e
   omega
  simp only [List.mem_cons,List.not_mem_nil,or_false] at z
  rcases z with q | q | q<;>subst q
  ·trivial
  ·refine ⟨by simp;omega,fun r hr=>?_⟩
   rw [List.eq_of_mem_replicate hr,empty_len];omega
  ·intro i hi
   simp only [List.mem_cons,List.not_mem_nil,or_false] at hi
   rcases hi with q | q | q<;>subst q
   ·refine ⟨?_,by simp;omega,by simp⟩
    rw [w_len];split<;>omega
   ·trivial
   ·show ((Str.ofString "").length:Int)+dR ns+((Str.ofString "").length:Int)<=_
    rw [empty_len];omega
 ·exact fitB_mono (by omega) hh.1 (hn.2.2.2.2 b (List.mem_append_left _ z))
theorem dLook (ns:List Int):f_look [bks (dAll ns),sty (dW ns) (dH ns) (dO ns) (dLi ns)]=some .non:=by
 have hw:=dW_b ns
 have hh:=dH_b ns
 have hm:=dMost_b ns
 have e:=dAll_most ns
 have:(10:Int)^42<10^60:=by decide
 refine look_at _ _ _ _ _ (dAll_few ns) ⟨hw.2.1,hw.2.2,hh.2.1,hh.2.2⟩ (by omega) (by omega) (fun b hb=>(dAll_S ns b hb).1) (fun b hb=>(dAll_S ns b hb).2.1) (fun b hb=>?_) (dAll_tight ns) (dAll_labs ns) (dAll_refs ns)
 rw [e]
 exact dAll_fit ns b hb
theorem cells_at (ns:List Int) (t:Int):D.add (.lst ((cutD ns none (some 63)).map .int)) (.lst [.int t])=some (.lst ((cutD ns none (some 63)++[t]).map .int)):=addL (f:=D.int) (ys:=[t]) (lB (by have:=cut63_len ns;simp;omega))
def rowRooms (room:Int) (rs:List Int):Prop:=∀ r∈rs,1<=r/\r<=room
theorem roomsRow (room t:Int) (cs:List Int) (S B b:Option D) (is:List It) (rs:List Int) (hc:0<cs.length) (ht:0<=t) (hrm:0<room) (ok:rowRooms room rs) (hlen:t+(rs.length:Int)+is.length<=1000) (u v:Option D) (hb:∀ e0,b=some e0->D.ix e0 (.int 1)=some (.lst (is.map It.d))) (hbs:∃ e0,b=some e0) :
  ∃ rs' u' v',sFor (iLst (eOp D.ix (eV 6) (eC (.int 1)))) (gS 7) (sIf (eOp D.eqO (eOp D.ix (eV 7) (eC (.int 0))) (eC (.str "ref"))) (sQ (sAsg (eOp D.ix (eV 5) (eOp D.mod (eUn D.len (eV 4)) (eUn D.len (eV 5)))) (gS 8)) (sP 4 (eOp D.add (eC (.int 1)) (eOp D.mod (eK f_Lmix (lC (eV 8) (lC (eOp D.add (eV 3) (eUn D.len (eV 4))) lN))) (eV 2))))) (sNx)) [S,B,some (.int room),some (.int t),some (.lst (rs.map .int)),some (.lst (cs.map .int)),b,u,v]=some (.nx [S,B,some (.int room),some (.int t),some (.lst (rs'.map .int)),some (.lst (cs.map .int)),b,u',v'])/\rowRooms room rs'/\rs'.length=rs.length+(refsI is).length:=by
 obtain ⟨e',h1,rs',u',v',h2,h3,h4⟩:=loopN (g:=gS 7) (b:=sIf (eOp D.eqO (eOp D.ix (eV 7) (eC (.int 0))) (eC (.str "ref"))) (sQ (sAsg (eOp D.ix (eV 5) (eOp D.mod (eUn D.len (eV 4)) (eUn D.len (eV 5)))) (gS 8)) (sP 4 (eOp D.add (eC (.int 1)) (eOp D.mod (eK f_Lmix (lC (eV 8) (lC (eOp D.add (eV 3) (eUn D.len (eV 4))) lN))) (eV 2))))) (sNx)) It.d is (fun i e=>∃ rs' u v,e=[S,B,some (.int room),some (.int t),some (.lst (rs'.map .int)),some (.lst (cs.map .int)),b,u,v]/\rowRooms room rs'/\rs'.length=rs.length+(refsI (is.take i)).length) (by
  rintro i hi e ⟨rs,u,v,rfl,ok',hl⟩
  have rt:=refsI_take is i hi
  have rl:=refsI_len (is.take i)
  rw [List.length_take] at rl
  have i0:=ix0_it is[i]
  have tg:=tag_ref is[i]
  generalize is[i]=x at *
  cases q:isRef x with
  | false =>
   rw [q] at tg rt
   refine ⟨_,.inl (bnd (e1:=[S,B,some (.int room),some (.int t),some (.lst (rs.map .int)),some (.lst (cs.map .int)),b,some x.d,v]) rfl (ifF (opE (x:=.str (tagI x)) (opE (x:=x.d) rfl rfl i0) rfl (by rw [eqS,tg])) rfl)),rs,_,_,rfl,ok',?_⟩
   rw [rt,hl];rfl
  | true =>
   rw [q] at tg rt
   obtain ⟨L,eL⟩:∃ L:Int,(rs.length:Int)=L:=⟨_,rfl⟩
   have lnr:D.len (.lst (rs.map .int))=some (.int L):=by
    show some (D.int (rs.map D.int).length)=_
    rw [List.length_map,eL]
   have lnc:D.len (.lst (cs.map .int))=some (.int cs.length):=by
    show some (D.int (cs.map D.int).length)=_
    rw [List.length_map]
   have hcp:(0:Int)<(cs.length:Int):=by omega
   have md:D.mod (.int L) (.int cs.length)=some (.int (L%(cs.length:Int))):=mod_p hcp
   have ixc:=ixLs (f:=D.int) cs (L%(cs.length:Int)) 0 (Int.emod_nonneg _ (by omega)) (Int.emod_lt_of_pos _ hcp)
   generalize cs.getD (L%(cs.length:Int)).toNat 0=c at *
   have mx:=mix_at c (t+L) (by omega) (by omega)
   have m0:=mix_lo c (t+L)
   generalize mix c (t+L)=m at *
   have mm:D.mod (.int m) (.int room)=some (.int (m%room)):=mod_p hrm
   have b0:=Int.emod_nonneg m (show room≠0 by omega)
   have b1:=Int.emod_lt_of_pos m hrm
   have ap:=app_at (f:=D.int) (xs:=rs) (1+m%room) (lt_big (by omega))
   refine ⟨[S,B,some (.int room),some (.int t),some (.lst ((rs++[1+m%room]).map .int)),some (.lst (cs.map .int)),b,some x.d,some (.int c)],.inl ?_,rs++[1+m%room],_,_,rfl,fun r hr=>?_,?_⟩
   ·refine bnd (e1:=[S,B,some (.int room),some (.int t),some (.lst (rs.map .int)),some (.lst (cs.map .int)),b,some x.d,v]) rfl ?_
    refine ifT (opE (x:=.str (tagI x)) (opE (x:=x.d) rfl rfl i0) rfl (by rw [eqS,tg])) ?_
    refine st (e1:=[S,B,some (.int room),some (.int t),some (.lst (rs.map .int)),some (.lst (cs.map .int)),b,some x.d,some (.int c)]) (asg (opE (x:=.lst (cs.map .int)) rfl (opE (unE (x:=.lst (rs.map .int)) rfl lnr) (unE (x:=.lst (cs.map .int)) rfl lnc) md) ixc) rfl) ?_
    exact appS rfl (opE rfl (opE (call2 rfl (opE rfl (unE (x:=.lst (rs.map .int)) rfl lnr) rfl) mx) rfl mm) rfl) ap
   ·rcases List.mem_append.mp hr with z | z
    ·exact ok' r z
    ·rw [List.mem_singleton.mp z];omega
   ·rw [rt,List.length_append,hl];rfl) [S,B,some (.int room),some (.int t),some (.lst (rs.map .int)),some (.lst (cs.map .int)),b,u,v] ⟨rs,u,v,rfl,ok,by simp [refsI]⟩
 subst h2
 rw [List.take_length] at h4
 refine ⟨rs',u',v',?_,h3,h4⟩
 obtain ⟨e0,rfl⟩:=hbs
 have hx:eOp D.ix (eV 6) (eC (.int 1)) [S,B,some (.int room),some (.int t),some (.lst (rs.map .int)),some (.lst (cs.map .int)),some e0,u,v]=some (.lst (is.map It.d)):=opE rfl rfl (hb e0 rfl)
 unfold sFor iLst
 rw [hx]
 exact h1
theorem items_tot {bs:List Bk} (i:Nat) (hi:i<bs.length):((bs.take i).flatMap iO).length+(iO bs[i]).length<=(bs.flatMap iO).length:=by
 have:=flatMap_take_len iO bs (i+1)
 rw [fT iO bs i hi,List.length_append] at this
 exact this
theorem rooms_at (ns:List Int) (bs:List Bk) (room t:Int) (hf:(bs.flatMap iO).length<=200) (ht:0<=t/\t<=500) (hrm:0<room):∃ rs,f_Lrooms [.scr ns,bks bs,.int room,.int t]=some (.lst (rs.map .int))/\rowRooms room rs/\rs.length=(rO bs).length:=by
 obtain ⟨cs,ec⟩:∃ cs,cutD ns none (some 63)++[t]=cs:=⟨_,rfl⟩
 have ca:=cells_at ns t
 rw [ec] at ca
 have hc:0<cs.length:=by rw [<- ec];simp
 obtain ⟨e',h1,rs,a,b,c,h2,h3,h4⟩:=loopN (g:=gS 6) (b:=sIf (eOp D.eqO (eOp D.ix (eV 6) (eC (.int 0))) (eC (.str "para"))) (sFor (iLst (eOp D.ix (eV 6) (eC (.int 1)))) (gS 7) (sIf (eOp D.eqO (eOp D.ix (eV 7) (eC (.int 0))) (eC (.str "ref"))) (sQ (sAsg (eOp D.ix (eV 5) (eOp D.mod (eUn D.len (eV 4)) (eUn D.len (eV 5)))) (gS 8)) (sP 4 (eOp D.add (eC (.int 1)) (eOp D.mod (eK f_Lmix (lC (eV 8) (lC (eOp D.add (eV 3) (eUn D.len (eV 4))) lN))) (eV 2))))) (sNx))) (sNx)) Bk.d bs (fun i e=>∃ rs a b c,e=[some (.scr ns),some (bks bs),some (.int room),some (.int t),some (.lst (rs.map .int)),some (.lst (cs.map .int)),a,b,c]/\rowRooms room rs/\rs.length=(rO (bs.take i)).length) (by
  rintro i hi e ⟨rs,a,b,c,rfl,ok,hl⟩
  have t1:rO (bs.take (i+1))=rO (bs.take i)++refsI (iO bs[i]):=fT _ bs i hi
  have tt:=items_tot i hi
  have rl:=refsOf_len (bs.take i)
  rw [t1,List.length_append,<- hl]
  generalize bs[i]=x at *
  have tg:=tag_para x
  have i0:=ix0_bk x
  cases q:isPara x with
  | true =>
   rw [q] at tg
   cases x with
   | para is =>
    have tt':((bs.take i).flatMap iO).length+is.length<=(bs.flatMap iO).length:=tt
    obtain ⟨rs',u',v',g1,g2,g3⟩:=roomsRow room t cs (some (.scr ns)) (some (bks bs)) (some (Bk.para is).d) is rs hc ht.1 hrm ok (by omega) b c (fun e0 h=>by cases h;rfl) ⟨_,rfl⟩
    exact ⟨_,.inl (bnd (e1:=[some (.scr ns),some (bks bs),some (.int room),some (.int t),some (.lst (rs.map .int)),some (.lst (cs.map .int)),some (Bk.para is).d,b,c]) rfl (ifT (opE (x:=.str "para") (opE (x:=(Bk.para is).d) rfl rfl rfl) rfl (by rw [eqS];simp)) g1)),rs',_,_,_,rfl,g2,g3⟩
   | _=>cases q
  | false =>
   rw [q] at tg
   have e0:iO x=[]:=by cases x<;>first | rfl | cases q
   refine ⟨_,.inl (bnd (e1:=[some (.scr ns),some (bks bs),some (.int room),some (.int t),some (.lst (rs.map .int)),some (.lst (cs.map .int)),some x.d,b,c]) rfl (ifF (opE (x:=.str (tagB x)) (opE (x:=x.d) rfl rfl i0) rfl (by rw [eqS,tg])) rfl)),rs,_,_,_,rfl,ok,?_⟩
   rw [e0];rfl) [some (.scr ns),some (bks bs),some (.int room),some (.int t),some (.lst (([]:List Int).map .int)),some (.lst (cs.map .int)),none,none,none] ⟨[],none,none,none,rfl,fun r h=>(by cases h),rfl⟩
 subst h2
 rw [List.take_length] at h4
 refine ⟨rs,?_,h3,h4⟩
 unfold f_Lrooms b_Lrooms
 refine stD rfl ?_
 refine st (e1:=[some (.scr ns),some (bks bs),some (.int room),some (.int t),some (.lst (([]:List Int).map .int)),none,none,none,none]) rfl ?_
 refine st (e1:=[some (.scr ns),some (bks bs),some (.int room),some (.int t),some (.lst (([]:List Int).map .int)),some (.lst (cs.map .int)),none,none,none]) (asg (opE (x:=.lst ((cutD ns none (some 63)).map .int)) (y:=.lst [.int t]) rfl rfl ca) rfl) ?_
 refine st (e1:=[some (.scr ns),some (bks bs),some (.int room),some (.int t),some (.lst (rs.map .int)),some (.lst (cs.map .int)),a,b,c]) ?_ (ret rfl)
 ·unfold sFor
  exact h1
theorem marks_val (pls:List Plc) (M:Int) (hb:∀ x∈pls,1<=x.p/\x.p<=M):∀ (is:List It) (s:List (Str×Int)×Nat),(∀ x∈s.1,1<=x.2/\x.2<=M)->(∀ i (hi:i<is.length),isSet is[i]=false->s.2+nSet (is.take i)<pls.length)->∀ x∈(is.foldl (mkStep pls) s).1,1<=x.2/\x.2<=M
 | [],s,h,_=>h
 | i::is,s,h,ht=>by
  have nx:∀ j (hj:j<is.length),isSet is[j]=false->(mkStep pls s i).2+nSet (is.take j)<pls.length:=fun j hj hs=>by
   have:=ht (j+1) (by simpa using hj) (by simpa using hs)
   rw [List.take_succ_cons,nSet_cons] at this
   have e:(mkStep pls s i).2=s.2+(if isSet i then 1 else 0):=by cases i<;>simp [mkStep,isSet,isWd,isRef]
   rw [e]
   omega
  refine marks_val pls M hb is (mkStep pls s i) ?_ nx
  cases i with
  | mark l =>
   have hk:=ht 0 (by simp) rfl
   simp [nSet] at hk
   intro x hx
   rcases List.mem_append.mp hx with z | z
   ·exact h x z
   ·rw [List.mem_singleton.mp z]
    show 1<=(pls.getD s.2 ⟨0,0,0⟩).p/\_
    rw [List.getD_eq_getElem?_getD,List.getElem?_eq_getElem hk]
    exact hb _ (List.getElem_mem hk)
  | _=>exact h
theorem heads_val (M:Int) (q:Bk×List Plc) (hq:q.2.length=nPl q.1) (hb:∀ x∈q.2,1<=x.p/\x.p<=M) (ht:Tight (iO q.1)):∀ x∈headsP q,1<=x.2/\x.2<=M:=by
 obtain ⟨b,pls⟩:=q
 simp only [] at hq hb ht
 intro x hx
 unfold headsP at hx
 rcases List.mem_append.mp hx with z | z
 ·split at z
  ·cases z
  ·rename_i ne
   rw [List.mem_singleton.mp z]
   have np:pls.length=1:=by cases b<;>first | exact hq | exact absurd rfl ne
   match pls,np with
   | [p0],_=>exact hb p0 (by simp)
 ·refine marks_val pls M hb (iO b) ([],0) (fun y hy=>by cases hy) (fun i hi hs=>?_) x z
  have:=ht i hi hs
  have le:nSet (iO b)<=pls.length:=by
   cases b with
   | para is=>exact Nat.le_of_eq hq.symm
   | _=>exact Nat.zero_le _
  simp only []
  omega
def pgOf (kv:List (Str×Int)) (l:Str):Int:=match D.dget (dicL kv) (.str l) with
 | some (.int p)=>p
 | _=>0
theorem dPages (ns:List Int) (rooms:List Int) (hr:rooms.length=(rO (dAll ns)).length):∃ T kv,f_set_book [bks (dAll ns),sty (dW ns) (dH ns) (dO ns) (dLi ns),.lst (rooms.map .int)]=some T/\f_label_pages [bks (dAll ns),T]=some (dicL kv)/\kv.map (·.1)=bookLabs (dAll ns)/\∀ x∈kv,1<=x.2/\x.2<=dMost ns:=by
 have hh:=dH_b ns
 have sb:=setBook_at (dW ns) (dH ns) (dO ns) (dLi ns) rooms (dAll ns) (dAll_few ns) (by omega) (fun b hb=>(dAll_S ns b hb).2.1)
 obtain ⟨c,rows,e1,e2,e3⟩:=setBook_p (dW ns) (dH ns) (dO ns) (dLi ns) rooms (dAll ns) (by omega) (fun b hb=>(dAll_S ns b hb).2.2)
 rw [dAll_most] at e3
 rw [e1] at sb
 have lp:=labelPages_at (dAll ns) c rows (dAll_few ns) e2 (dAll_labs ns) (fun q hq=>(e3 q hq).1) (dAll_tight ns)
 refine ⟨_,_,sb,lp,?_,fun x hx=>?_⟩
 ·rw [flatMap_map_fst labsB headsP headsP_keys,zip_fst _ _ e2];rfl
 ·obtain ⟨q,hq,hx'⟩:=List.mem_flatMap.mp hx
  exact heads_val (dMost ns) q (e3 q hq).1 (e3 q hq).2 (dAll_tight ns q.1 (List.of_mem_zip hq).1) x hx'
theorem neInts (xs:List Int):D.neO (.lst (xs.map .int)) (.lst (xs.map .int))=some (.bl false):=by
 unfold D.neO
 rw [if_pos (by rw [dep_lst];have:=depL_map (f:=D.int) (n:=0) (fun a=>by rw [dep_int];exact Nat.le_refl _) xs;omega),eq_map_r eq_int_r];rfl
def StOk (w h:Int) (s:Sta):Prop:=0<=s.l/\0<=s.u/\s.u<=w/\0<=s.f/\s.l+s.f<=h/\(0<s.u->s.l+s.f<h)
def noLater (s t:Sta):Prop:=s.p<t.p\/(s.p=t.p/\(s.l<t.l\/(s.l=t.l/\s.u<=t.u))/\s.f<=t.f)
def plLe (a b:Plc):Prop:=a.p<b.p\/(a.p=b.p/\(a.l<b.l\/(a.l=b.l/\a.c<=b.c)))
theorem plLe_refl (a:Plc):plLe a a:=.inr ⟨rfl,.inr ⟨rfl,Int.le_refl _⟩⟩
theorem noLater_refl (a:Sta):noLater a a:=.inr ⟨rfl,.inr ⟨rfl,Int.le_refl _⟩,Int.le_refl _⟩
theorem putWord_ok {w h:Int} {s:Sta} {n r:Int} (hs:StOk w h s) (hn:1<=n/\n<=w) (hr:0<=r/\r<h):StOk w h (putWord w h s n r).2:=by
 obtain ⟨a1,a2,a3,a4,a5,a6⟩:=hs
 unfold putWord StOk
 split
 ·rename_i z
  by_cases u0:s.u=0
  ·simp only [u0,if_true];omega
  ·have:=z.1
   simp only [u0,if_false];omega
 ·split
  ·dsimp only;omega
  ·dsimp only;omega
theorem putWord_mono {w h:Int} {s t:Sta} {n m r:Int} (hs:StOk w h s) (ht:StOk w h t) (hl:noLater s t) (hn:1<=n/\n<=m/\m<=w) (hr:0<=r/\r<h):plLe (putWord w h s n r).1 (putWord w h t m r).1/\noLater (putWord w h s n r).2 (putWord w h t m r).2:=by
 obtain ⟨a1,a2,a3,a4,a5,a6⟩:=hs
 obtain ⟨b1,b2,b3,b4,b5,b6⟩:=ht
 unfold noLater at hl
 unfold putWord plLe noLater
 by_cases x1:(s.u=0\/s.u+1+n<=w)/\s.l+s.f+(1+r)<=h
 ·rw [if_pos x1]
  by_cases y1:(t.u=0\/t.u+1+m<=w)/\t.l+t.f+(1+r)<=h
  ·rw [if_pos y1]
   by_cases u0:s.u=0<;>by_cases v0:t.u=0<;>simp only [u0,v0,if_true,if_false]<;>omega
  ·rw [if_neg y1]
   by_cases y2:0<t.u/\t.l+t.f+(2+r)<=h
   ·rw [if_pos y2]
    by_cases u0:s.u=0<;>simp only [u0,if_true,if_false]<;>omega
   ·rw [if_neg y2]
    by_cases u0:s.u=0<;>simp only [u0,if_true,if_false]<;>omega
 ·rw [if_neg x1]
  by_cases x2:0<s.u/\s.l+s.f+(2+r)<=h
  ·rw [if_pos x2]
   by_cases y1:(t.u=0\/t.u+1+m<=w)/\t.l+t.f+(1+r)<=h
   ·rw [if_pos y1]
    by_cases v0:t.u=0<;>simp only [v0,if_true,if_false]<;>omega
   ·rw [if_neg y1]
    by_cases y2:0<t.u/\t.l+t.f+(2+r)<=h
    ·rw [if_pos y2];dsimp only;omega
    ·rw [if_neg y2];dsimp only;omega
  ·rw [if_neg x2]
   by_cases y1:(t.u=0\/t.u+1+m<=w)/\t.l+t.f+(1+r)<=h
   ·rw [if_pos y1]
    by_cases v0:t.u=0<;>simp only [v0,if_true,if_false]<;>omega
   ·rw [if_neg y1]
    by_cases y2:0<t.u/\t.l+t.f+(2+r)<=h
    ·rw [if_pos y2];dsimp only;omega
    ·rw [if_neg y2];dsimp only;omega
theorem endLine_ok {w h:Int} {s:Sta} (hs:StOk w h s):StOk w h (endLine s)/\(endLine s).u=0:=by
 obtain ⟨a1,a2,a3,a4,a5,a6⟩:=hs
 unfold endLine
 split
 ·rename_i z;exact ⟨⟨a1,a2,a3,a4,a5,a6⟩,z⟩
 ·unfold StOk;dsimp only;omega
theorem endLine_mono {w h:Int} {s t:Sta} (hs:StOk w h s) (ht:StOk w h t) (hl:noLater s t):noLater (endLine s) (endLine t):=by
 obtain ⟨a1,a2,a3,a4,a5,a6⟩:=hs
 obtain ⟨b1,b2,b3,b4,b5,b6⟩:=ht
 unfold noLater at *
 unfold endLine
 by_cases u0:s.u=0<;>by_cases v0:t.u=0<;>simp only [u0,v0,if_true,if_false]<;>omega
theorem putBlock_ok {w h:Int} {s:Sta} {a b:Int} (hs:StOk w h s) (ha:1<=a) (hb:0<=b) (hab:a+b<=h):StOk w h (putBlock h s a b).2:=by
 obtain ⟨⟨a1,a2,a3,a4,a5,a6⟩,z⟩:=endLine_ok hs
 unfold putBlock StOk bareS
 split
 ·dsimp only;omega
 ·dsimp only;omega
theorem putBlock_mono {w h:Int} {s t:Sta} {a b:Int} (hs:StOk w h s) (ht:StOk w h t) (hl:noLater s t) (ha:1<=a) (hb:0<=b) (hab:a+b<=h):plLe (putBlock h s a b).1 (putBlock h t a b).1/\noLater (putBlock h s a b).2 (putBlock h t a b).2:=by
 have hm:=endLine_mono hs ht hl
 obtain ⟨⟨a1,a2,a3,a4,a5,a6⟩,z⟩:=endLine_ok hs
 obtain ⟨⟨b1,b2,b3,b4,b5,b6⟩,y⟩:=endLine_ok ht
 unfold noLater at hm
 have e1:∀ s:Sta,(endLine s).l+(endLine s).f+(a+b)<=h->putBlock h s a b=(⟨(endLine s).p,(endLine s).l,0⟩,⟨(endLine s).p,(endLine s).l+a,0,(endLine s).f⟩):=fun s x=>by unfold putBlock;rw [if_pos x]
 have e2:∀ s:Sta,¬ (endLine s).l+(endLine s).f+(a+b)<=h->putBlock h s a b=(⟨(endLine s).p+1,0,0⟩,⟨(endLine s).p+1,0+a,0,0⟩):=fun s x=>by unfold putBlock;rw [if_neg x];rfl
 unfold plLe noLater
 by_cases x:(endLine s).l+(endLine s).f+(a+b)<=h<;>by_cases v:(endLine t).l+(endLine t).f+(a+b)<=h
 ·rw [e1 s x,e1 t v];dsimp only;omega
 ·rw [e1 s x,e2 t v];dsimp only;omega
 ·rw [e2 s x,e1 t v];dsimp only;omega
 ·rw [e2 s x,e2 t v];dsimp only;omega
theorem newPage_mono {w h:Int} {s t:Sta} (hs:StOk w h s) (ht:StOk w h t) (hl:noLater s t):(newPage s).p<=(newPage t).p:=by
 obtain ⟨a1,a2,a3,a4,a5,a6⟩:=hs
 obtain ⟨b1,b2,b3,b4,b5,b6⟩:=ht
 unfold noLater at hl
 have e1:∀ s:Sta,(s.l=0/\s.u=0/\s.f=0)->(newPage s).p=s.p:=fun s x=>by unfold newPage;rw [if_pos x]
 have e2:∀ s:Sta,¬ (s.l=0/\s.u=0/\s.f=0)->(newPage s).p=s.p+1:=fun s x=>by unfold newPage;rw [if_neg x];rfl
 by_cases x:s.l=0/\s.u=0/\s.f=0<;>by_cases v:t.l=0/\t.u=0/\t.f=0
 ·rw [e1 s x,e1 t v];omega
 ·rw [e1 s x,e2 t v];omega
 ·rw [e2 s x,e1 t v];omega
 ·rw [e2 s x,e2 t v];omega
theorem newChapter_mono {w h:Int} {s t:Sta} (o:Bool) (hs:StOk w h s) (ht:StOk w h t) (hl:noLater s t):(newChapter o s).p<=(newChapter o t).p:=by
 have:=newPage_mono hs ht hl
 unfold newChapter bareS
 by_cases x:o=true/\(newPage s).p%2=0<;>by_cases v:o=true/\(newPage t).p%2=0
 ·rw [if_pos x,if_pos v];dsimp only;omega
 ·rw [if_pos x,if_neg v]
  have:¬ (newPage t).p%2=0:=fun q=>v ⟨x.1,q⟩
  dsimp only;omega
 ·rw [if_neg x,if_pos v];dsimp only;omega
 ·rw [if_neg x,if_neg v];omega
def all2 {α β:Type} (r:α->β->Prop):List α->List β->Prop
 | [],[]=>True
 | a::as,b::bs=>r a b/\all2 r as bs
 | _,_=>False
theorem all2_len {α β:Type} {r:α->β->Prop}:∀ {as:List α} {bs:List β},all2 r as bs->as.length=bs.length
 | [],[],_=>rfl
 | _::_,_::_,h=>by rw [List.length_cons,List.length_cons,all2_len h.2]
 | [],_::_,h=>h.elim
 | _::_,[],h=>h.elim
theorem all2_snoc {α β:Type} {r:α->β->Prop} {a:α} {b:β} (hr:r a b):∀ {as:List α} {bs:List β},all2 r as bs->all2 r (as++[a]) (bs++[b])
 | [],[],_=>⟨hr,trivial⟩
 | _::_,_::_,h=>⟨h.1,all2_snoc hr h.2⟩
 | [],_::_,h=>h.elim
 | _::_,[],h=>h.elim
theorem all2_get {α β:Type} {r:α->β->Prop}:∀ {as:List α} {bs:List β} (i:Nat) {a:α} {b:β},all2 r as bs->as[i]?=some a->bs[i]?=some b->r a b
 | [],[],i,a,b,_,h,_=>by simp at h
 | x::as,y::bs,0,a,b,h,h1,h2=>by simp at h1 h2;subst h1 h2;exact h.1
 | x::as,y::bs,i+1,a,b,h,h1,h2=>all2_get i h.2 (by simpa using h1) (by simpa using h2)
 | [],_::_,_,_,_,h,_,_=>h.elim
 | _::_,[],_,_,_,h,_,_=>h.elim
def RmLe (room:Int) (r1 r2:List Int):Prop:=all2 (fun a b=>1<=a/\a<=b/\b<=room) r1 r2
theorem RmLe_get {room:Int} {r1 r2:List Int} (h:RmLe room r1 r2) (k:Nat) (hk:k<r1.length):1<=r1.getD k 0/\r1.getD k 0<=r2.getD k 0/\r2.getD k 0<=room:=by
 have hl:=all2_len h
 rw [List.getD_eq_getElem?_getD,List.getD_eq_getElem?_getD,List.getElem?_eq_getElem hk,List.getElem?_eq_getElem (by omega)]
 exact all2_get (r:=fun a b=>1<=a/\a<=b/\b<=room) k h (List.getElem?_eq_getElem hk) (List.getElem?_eq_getElem (by omega))
theorem all2_drop {α β:Type} {r:α->β->Prop}:∀ (k:Nat) {as:List α} {bs:List β},all2 r as bs->all2 r (as.drop k) (bs.drop k)
 | 0,_,_,h=>h
 | k+1,[],[],_=>trivial
 | k+1,_::_,_::_,h=>all2_drop k h.2
 | _+1,[],_::_,h=>h.elim
 | _+1,_::_,[],h=>h.elim
def ItW:It->Prop
 | .word x _=>1<=x.length
 | _=>True
def itRel (w h:Int) (a b:List Plc×Nat×Sta):Prop:=all2 plLe a.1 b.1/\a.2.1=b.2.1/\noLater a.2.2 b.2.2/\StOk w h a.2.2/\StOk w h b.2.2
theorem items_mono (w h room:Int) (r1 r2:List Int) (hr:RmLe room r1 r2) (hh:1<=h):∀ (is:List It) (a b:List Plc×Nat×Sta),itRel w h a b->(∀ i∈is,FitI room w h i)->(∀ i∈is,ItW i)->a.2.1+(refsI is).length<=r1.length->itRel w h (is.foldl (itemStep w h r1) a) (is.foldl (itemStep w h r2) b)
 | [],a,b,hab,_,_,_=>hab
 | i::is,a,b,hab,hf,hw,hk=>by
  have key:itRel w h (itemStep w h r1 a i) (itemStep w h r2 b i):=by
   obtain ⟨h1,h2,h3,h4,h5⟩:=hab
   have fi:=hf i List.mem_cons_self
   have wi:=hw i List.mem_cons_self
   cases i with
   | word x ns =>
    have n1:1<=(x.length:Int)/\(x.length:Int)<=w:=⟨by have:1<=x.length:=wi;omega,fi.1⟩
    have nr:0<=(ns.length:Int)/\(ns.length:Int)<h:=⟨by omega,by have:=fi.2.1;omega⟩
    obtain ⟨m1,m2⟩:=putWord_mono h4 h5 h3 ⟨n1.1,Int.le_refl _,n1.2⟩ nr
    exact ⟨all2_snoc m1 h1,h2,m2,putWord_ok h4 n1 nr,putWord_ok h5 n1 nr⟩
   | ref l x y =>
    have hk':a.2.1<r1.length:=by
     have:(refsI (It.ref l x y::is)).length=1+(refsI is).length:=by unfold refsI;rw [List.filter_cons_of_pos rfl];simp;omega
     omega
    have g:=RmLe_get hr a.2.1 hk'
    have fi':(x.length:Int)+room+y.length<=w:=fi
    have e:b.2.1=a.2.1:=h2.symm
    have nr:0<=(0:Int)/\(0:Int)<h:=⟨Int.le_refl _,by omega⟩
    obtain ⟨m1,m2⟩:=putWord_mono (n:=(x.length:Int)+r1.getD a.2.1 0+y.length) (m:=(x.length:Int)+r2.getD a.2.1 0+y.length) h4 h5 h3 ⟨by omega,by omega,by omega⟩ nr
    show itRel w h (a.1++[(putWord w h a.2.2 ((x.length:Int)+r1.getD a.2.1 0+y.length) 0).1],a.2.1+1,(putWord w h a.2.2 ((x.length:Int)+r1.getD a.2.1 0+y.length) 0).2) (b.1++[(putWord w h b.2.2 ((x.length:Int)+r2.getD b.2.1 0+y.length) 0).1],b.2.1+1,(putWord w h b.2.2 ((x.length:Int)+r2.getD b.2.1 0+y.length) 0).2)
    rw [e]
    exact ⟨all2_snoc m1 h1,rfl,m2,putWord_ok h4 ⟨by omega,by omega⟩ nr,putWord_ok h5 ⟨by omega,by omega⟩ nr⟩
   | mark l=>exact ⟨h1,h2,h3,h4,h5⟩
   | key l=>exact ⟨h1,h2,h3,h4,h5⟩
  refine items_mono w h room r1 r2 hr hh is _ _ key (fun x hx=>hf x (List.mem_cons_of_mem _ hx)) (fun x hx=>hw x (List.mem_cons_of_mem _ hx)) ?_
  have e:(itemStep w h r1 a i).2.1+(refsI is).length=a.2.1+(refsI (i::is)).length:=by
   have:(refsI (i::is)).length=(if isRef i then 1 else 0)+(refsI is).length:=by
    unfold refsI
    rw [List.filter_cons]
    split<;>simp<;>omega
   rw [this]
   cases i<;>simp [itemStep,isRef]<;>omega
  omega
def BkW (h:Int):Bk->Prop
 | .heading _ k _=>0<=k/\1+k<=h
 | .table rs _=>1<=rs.length/\(rs.length:Int)<=h
 | .plates n _=>1<=n
 | .para is=>∀ i∈is,ItW i
 | _=>True
theorem bare_ok {w h p:Int} (hw:0<=w) (hh:1<=h):StOk w h (bareS p):=by unfold StOk bareS;dsimp only;omega
theorem bare_le {p q:Int} (h:p<=q):noLater (bareS p) (bareS q):=by unfold noLater bareS;dsimp only;omega
theorem newChapter_bare (o:Bool) (s:Sta):newChapter o s=bareS (newChapter o s).p:=by
 have h:=newChapter_p o s
 generalize newChapter o s=t at *
 obtain ⟨p,l,u,f⟩:=t
 obtain ⟨_,_,rfl,rfl,rfl⟩:=h
 rfl
theorem block_mono (w h:Int) (o:Bool) (b:Bk) {s t:Sta} (hw:0<=w) (hh:1<=h) (hs:StOk w h s) (ht:StOk w h t) (hl:noLater s t) (hp:isPara b=false) (hb:BkW h b):plLe (setBlock h o s b).1 (setBlock h o t b).1/\noLater (setBlock h o s b).2 (setBlock h o t b).2/\StOk w h (setBlock h o s b).2/\StOk w h (setBlock h o t b).2:=by
 cases b with
 | para is=>cases hp
 | plates n l =>
  have:=newPage_mono hs ht hl
  refine ⟨?_,bare_le (by omega),bare_ok hw hh,bare_ok hw hh⟩
  show (newPage s).p<(newPage t).p\/((newPage s).p=(newPage t).p/\((0:Int)<0\/((0:Int)=0/\(0:Int)<=0)))
  omega
 | table rs l =>
  obtain ⟨b1,b2⟩:=hb
  obtain ⟨m1,m2⟩:=putBlock_mono hs ht hl (a:=rs.length) (b:=0) (by omega) (by omega) (by omega)
  exact ⟨m1,m2,putBlock_ok hs (by omega) (by omega) (by omega),putBlock_ok ht (by omega) (by omega) (by omega)⟩
 | heading x k l =>
  obtain ⟨b1,b2⟩:=hb
  obtain ⟨m1,m2⟩:=putBlock_mono hs ht hl (a:=1) (b:=k) (by omega) (by omega) (by omega)
  exact ⟨m1,m2,putBlock_ok hs (by omega) (by omega) (by omega),putBlock_ok ht (by omega) (by omega) (by omega)⟩
 | chapter x l =>
  have nc:=newChapter_mono o hs ht hl
  have e1:=newChapter_bare o s
  have e2:=newChapter_bare o t
  have s1:StOk w h (newChapter o s):=by rw [e1];exact bare_ok hw hh
  have s2:StOk w h (newChapter o t):=by rw [e2];exact bare_ok hw hh
  have l1:noLater (newChapter o s) (newChapter o t):=by rw [e1,e2];exact bare_le nc
  obtain ⟨m1,m2⟩:=putBlock_mono s1 s2 l1 (a:=1) (b:=0) (by omega) (by omega) (by omega)
  exact ⟨m1,m2,putBlock_ok s1 (by omega) (by omega) (by omega),putBlock_ok s2 (by omega) (by omega) (by omega)⟩
def bkRel (w h:Int) (a b:List (List Plc)×Sta×Nat):Prop:=all2 (all2 plLe) a.1 b.1/\noLater a.2.1 b.2.1/\a.2.2=b.2.2/\StOk w h a.2.1/\StOk w h b.2.1
theorem book_mono (w h room:Int) (o:Bool) (r1 r2:List Int) (hr:RmLe room r1 r2) (hw:0<=w) (hh:1<=h):∀ (bs:List Bk) (a b:List (List Plc)×Sta×Nat),bkRel w h a b->(∀ x∈bs,FitB room w h x)->(∀ x∈bs,BkW h x)->a.2.2+(rO bs).length<=r1.length->bkRel w h (bs.foldl (bookStep w h o r1) a) (bs.foldl (bookStep w h o r2) b)
 | [],a,b,hab,_,_,_=>hab
 | x::bs,a,b,hab,hf,hbw,hk=>by
  have rl:(rO (x::bs)).length=(refsI (iO x)).length+(rO bs).length:=by unfold rO;rw [List.flatMap_cons,List.length_append]
  have key:bkRel w h (bookStep w h o r1 a x) (bookStep w h o r2 b x)/\(bookStep w h o r1 a x).2.2=a.2.2+(refsI (iO x)).length:=by
   obtain ⟨h1,h2,h3,h4,h5⟩:=hab
   have other:isPara x=false->bookStep w h o r1 a x=(a.1++[[(setBlock h o a.2.1 x).1]],(setBlock h o a.2.1 x).2,a.2.2)->bookStep w h o r2 b x=(b.1++[[(setBlock h o b.2.1 x).1]],(setBlock h o b.2.1 x).2,b.2.2)->iO x=[]->bkRel w h (bookStep w h o r1 a x) (bookStep w h o r2 b x)/\(bookStep w h o r1 a x).2.2=a.2.2+(refsI (iO x)).length:=by
    intro hp e1 e2 e3
    obtain ⟨m1,m2,m3,m4⟩:=block_mono w h o x hw hh h4 h5 h2 hp (hbw x List.mem_cons_self)
    rw [e1,e2,e3]
    exact ⟨⟨all2_snoc ⟨m1,trivial⟩ h1,m2,h3,m3,m4⟩,rfl⟩
   cases x with
   | para is =>
    have dl:RmLe room (r1.drop a.2.2) (r2.drop a.2.2):=all2_drop _ hr
    have im:=items_mono w h room (r1.drop a.2.2) (r2.drop a.2.2) dl hh is ([],0,a.2.1) ([],0,b.2.1) ⟨trivial,rfl,h2,h4,h5⟩ (hf _ List.mem_cons_self) (hbw _ List.mem_cons_self) (by rw [List.length_drop];have:(refsI (iO (.para is))).length=(refsI is).length:=rfl;simp only [];omega)
    obtain ⟨i1,i2,i3,i4,i5⟩:=im
    have e2:bookStep w h o r2 b (.para is)=(b.1++[(setItems w h b.2.1 (r2.drop a.2.2) is).1],endLine (setItems w h b.2.1 (r2.drop a.2.2) is).2.2,a.2.2+(refsI is).length):=by rw [h3];rfl
    rw [e2]
    exact ⟨⟨all2_snoc i1 h1,endLine_mono i4 i5 i3,rfl,(endLine_ok i4).1,(endLine_ok i5).1⟩,rfl⟩
   | chapter t l=>exact other rfl rfl rfl rfl
   | heading t k l=>exact other rfl rfl rfl rfl
   | table rs l=>exact other rfl rfl rfl rfl
   | plates n l=>exact other rfl rfl rfl rfl
  refine book_mono w h room o r1 r2 hr hw hh bs _ _ key.1 (fun y hy=>hf y (List.mem_cons_of_mem _ hy)) (fun y hy=>hbw y (List.mem_cons_of_mem _ hy)) ?_
  rw [key.2];omega
theorem all2_refl {α:Type} {r:α->α->Prop} (h:∀ a,r a a):∀ xs:List α,all2 r xs xs
 | []=>trivial
 | x::xs=>⟨h x,all2_refl h xs⟩
theorem all2_append {α β:Type} {r:α->β->Prop}:∀ {as:List α} {bs:List β} {cs:List α} {ds:List β},all2 r as bs->all2 r cs ds->all2 r (as++cs) (bs++ds)
 | [],[],_,_,_,h=>h
 | _::_,_::_,_,_,h1,h2=>⟨h1.1,all2_append h1.2 h2⟩
 | [],_::_,_,_,h,_=>h.elim
 | _::_,[],_,_,h,_=>h.elim
theorem plLe_p {a b:Plc} (h:plLe a b):a.p<=b.p:=by unfold plLe at h;omega
def kvLe (x y:Str×Int):Prop:=x.1=y.1/\x.2<=y.2
theorem getD_le {xs ys:List Plc} (h:all2 plLe xs ys) (k:Nat):(xs.getD k ⟨0,0,0⟩).p<=(ys.getD k ⟨0,0,0⟩).p:=by
 have hl:=all2_len h
 rw [List.getD_eq_getElem?_getD,List.getD_eq_getElem?_getD]
 rcases Nat.lt_or_ge k xs.length with hk | hk
 ·rw [List.getElem?_eq_getElem hk,List.getElem?_eq_getElem (by omega)]
  exact plLe_p (all2_get k h (List.getElem?_eq_getElem hk) (List.getElem?_eq_getElem (by omega)))
 ·rw [List.getElem?_eq_none hk,List.getElem?_eq_none (by omega)]
  exact Int.le_refl _
theorem marks_mono {xs ys:List Plc} (h:all2 plLe xs ys):∀ (is:List It) (s t:List (Str×Int)×Nat),all2 kvLe s.1 t.1->s.2=t.2->all2 kvLe (is.foldl (mkStep xs) s).1 (is.foldl (mkStep ys) t).1
 | [],s,t,h1,_=>h1
 | i::is,s,t,h1,h2=>by
  rw [List.foldl_cons,List.foldl_cons]
  cases i with
  | mark l =>
   refine marks_mono h is _ _ ?_ h2
   show all2 kvLe (s.1++[_]) (t.1++[(l,(ys.getD t.2 ⟨0,0,0⟩).p)])
   rw [<- h2]
   exact all2_snoc ⟨rfl,getD_le h s.2⟩ h1
  | key l=>exact marks_mono h is s t h1 h2
  | word x ns=>exact marks_mono h is (s.1,s.2+1) (t.1,t.2+1) h1 (by simp only [];omega)
  | ref l x y=>exact marks_mono h is (s.1,s.2+1) (t.1,t.2+1) h1 (by simp only [];omega)
theorem heads_mono (b:Bk) {xs ys:List Plc} (h:all2 plLe xs ys):all2 kvLe (headsP (b,xs)) (headsP (b,ys)):=by
 unfold headsP
 refine all2_append ?_ (marks_mono h (iO b) ([],0) ([],0) trivial rfl)
 show all2 kvLe (if labB b="" then [] else [(labB b,_)]) (if labB b="" then [] else [(labB b,_)])
 split
 ·trivial
 ·exact ⟨⟨rfl,getD_le h 0⟩,trivial⟩
theorem kv_mono:∀ (bs:List Bk) (r1 r2:List (List Plc)),all2 (all2 plLe) r1 r2->all2 kvLe ((bs.zip r1).flatMap headsP) ((bs.zip r2).flatMap headsP)
 | [],_,_,_=>by simp [all2]
 | b::bs,[],[],_=>by simp [all2]
 | b::bs,x::r1,y::r2,h=>by
  rw [List.zip_cons_cons,List.zip_cons_cons,List.flatMap_cons,List.flatMap_cons]
  exact all2_append (heads_mono b h.1) (kv_mono bs r1 r2 h.2)
 | _::_,[],_::_,h=>h.elim
 | _::_,_::_,[],h=>h.elim
theorem pgOf_mono:∀ {kv kv':List (Str×Int)} {l:Str},all2 kvLe kv kv'->l∈kv.map (·.1)->pgOf kv l<=pgOf kv' l
 | [],[],l,_,h=>by simp at h
 | (a,p)::kv,(b,q)::kv',l,h,hl=>by
  obtain ⟨⟨e,hpq⟩,h2⟩:=h
  have e':a=b:=e
  have hpq':p<=q:=hpq
  subst e'
  have st:∀ (a:Str) (p:Int) (kv:List (Str×Int)),D.dget (dicL ((a,p)::kv)) (.str l)=if a=l then some (.int p) else D.dget (dicL kv) (.str l):=by
   intro a p kv
   show (if (Sum.inr a:Kd)=.inr l then some (D.int p) else dVal _ _ _)=_
   by_cases z:a=l
   ·rw [if_pos z,if_pos (by rw [z])]
   ·rw [if_neg z,if_neg (by simpa using z)];rfl
  unfold pgOf
  rw [st,st]
  by_cases z:a=l
  ·rw [if_pos z,if_pos z];exact hpq'
  ·rw [if_neg z,if_neg z]
   have hl':l∈kv.map (·.1):=by
    rcases List.mem_cons.mp (show l∈a::kv.map (·.1) from hl) with w | w
    ·exact absurd w.symm z
    ·exact w
   exact pgOf_mono h2 hl'
 | [],_::_,_,h,_=>h.elim
 | _::_,[],_,h,_=>h.elim
theorem digs_mono {n m:Nat} (h:n<=m):digs n<=digs m:=(Nat.length_toDigits_le_iff (by decide) (digs_pos m)).mpr (Nat.lt_of_le_of_lt h (digs_hi m))
theorem contF_ok (w h:Int) (hw:0<=w) (hh:1<=h):∀ (bs:List Bk) (s:List Plc×Sta),StOk w h s.2->StOk w h (bs.foldl (contStep h) s).2
 | [],s,hs=>hs
 | b::bs,s,hs=>by
  rw [List.foldl_cons]
  refine contF_ok w h hw hh bs _ ?_
  unfold contStep
  split
  ·exact putBlock_ok hs (by omega) (by omega) (by omega)
  ·exact hs
theorem contents_ok (w h:Int) (o li:Bool) (bs:List Bk) (hw:0<=w) (hh:1<=h):StOk w h (setContents h o li bs).2:=by
 unfold setContents
 split
 ·have:=contF_ok w h hw hh bs ([],bareS 1) (bare_ok hw hh)
  show StOk w h (if _ then _ else _:Sta)
  split
  ·rw [newChapter_bare];exact bare_ok hw hh
  ·exact this
 ·exact bare_ok hw hh
theorem setBook_mono (w h room:Int) (o li:Bool) (r1 r2:List Int) (bs:List Bk) (hr:RmLe room r1 r2) (hw:0<=w) (hh:1<=h) (hf:∀ x∈bs,FitB room w h x) (hb:∀ x∈bs,BkW h x) (hk:(rO bs).length<=r1.length):all2 (all2 plLe) (setBook w h o li r1 bs).1 (setBook w h o li r2 bs).1:=by
 have:=book_mono w h room o r1 r2 hr hw hh bs ([(setContents h o li bs).1],(setContents h o li bs).2,0) ([(setContents h o li bs).1],(setContents h o li bs).2,0) ⟨⟨all2_refl plLe_refl _,trivial⟩,noLater_refl _,rfl,contents_ok w h o li bs hw hh,contents_ok w h o li bs hw hh⟩ hf hb (by simp only [];omega)
 exact this.1
noncomputable def S0 (ns:List Int):D:=sty (dW ns) (dH ns) (dO ns) (dLi ns)
noncomputable def setR (ns rs:List Int):List (List Plc):=(setBook (dW ns) (dH ns) (dO ns) (dLi ns) rs (dAll ns)).1
noncomputable def kvR (ns rs:List Int):List (Str×Int):=((dAll ns).zip (setR ns rs).tail).flatMap headsP
noncomputable def figR (ns rs:List Int):List Int:=(rO (dAll ns)).map fun l=>(digs (pgOf (kvR ns rs) l).toNat:Int)
theorem set_at (ns rs:List Int) (hr:rs.length=(rO (dAll ns)).length):f_set_book [bks (dAll ns),S0 ns,.lst (rs.map .int)]=some (told (setR ns rs))/\f_label_pages [bks (dAll ns),told (setR ns rs)]=some (dicL (kvR ns rs))/\(kvR ns rs).map (·.1)=bookLabs (dAll ns)/\∀ x∈kvR ns rs,1<=x.2/\x.2<=dMost ns:=by
 have hh:=dH_b ns
 have sb:=setBook_at (dW ns) (dH ns) (dO ns) (dLi ns) rs (dAll ns) (dAll_few ns) (by omega) (fun b hb=>(dAll_S ns b hb).2.1)
 obtain ⟨c,rows,e1,e2,e3⟩:=setBook_p (dW ns) (dH ns) (dO ns) (dLi ns) rs (dAll ns) (by omega) (fun b hb=>(dAll_S ns b hb).2.2)
 rw [dAll_most] at e3
 have lp:=labelPages_at (dAll ns) c rows (dAll_few ns) e2 (dAll_labs ns) (fun q hq=>(e3 q hq).1) (dAll_tight ns)
 unfold kvR setR
 refine ⟨sb,?_⟩
 rw [e1]
 refine ⟨lp,?_,fun x hx=>?_⟩
 ·show (((dAll ns).zip rows).flatMap headsP).map (·.1)=_
  rw [flatMap_map_fst labsB headsP headsP_keys,zip_fst _ _ e2];rfl
 ·obtain ⟨q,hq,hx'⟩:=List.mem_flatMap.mp hx
  exact heads_val (dMost ns) q (e3 q hq).1 (e3 q hq).2 (dAll_tight ns q.1 (List.of_mem_zip hq).1) x hx'
abbrev leL (xs ys:List Int):Prop:=all2 (fun a b:Int=>a<=b) xs ys
theorem all2_map {α β γ:Type} {r:β->γ->Prop} {f:α->β} {g:α->γ}:∀ {xs:List α},(∀ x∈xs,r (f x) (g x))->all2 r (xs.map f) (xs.map g)
 | [],_=>trivial
 | x::xs,h=>⟨h x (by simp),all2_map fun y hy=>h y (by simp [hy])⟩
theorem all2_tail {α β:Type} {r:α->β->Prop}:∀ {as:List α} {bs:List β},all2 r as bs->all2 r as.tail bs.tail
 | [],[],_=>trivial
 | _::_,_::_,h=>h.2
 | [],_::_,h=>h.elim
 | _::_,[],h=>h.elim
theorem rmLe_of {room:Int}:∀ {r1 r2:List Int},rowRooms room r1->rowRooms room r2->leL r1 r2->RmLe room r1 r2
 | [],[],_,_,_=>trivial
 | a::r1,b::r2,h1,h2,h=>⟨⟨(h1 a (by simp)).1,h.1,(h2 b (by simp)).2⟩,rmLe_of (fun x hx=>h1 x (by simp [hx])) (fun x hx=>h2 x (by simp [hx])) h.2⟩
 | [],_::_,_,_,h=>h.elim
 | _::_,[],_,_,h=>h.elim
theorem w_pos (n:Int) (h:1<=n):1<=(mulS (Str.ofString "w") n).length:=by rw [w_len];omega
theorem dAll_W (ns:List Int):∀ b∈dAll ns,BkW (dH ns) b:=by
 intro b hb
 have ft:=dAll_fit ns b hb
 have hh:=dH_b ns
 have pl:=(dAll_S ns b hb).2.2
 unfold dAll at hb
 rcases List.mem_append.mp hb with z | z
 ·unfold edge at z
  split at z
  ·cases z
  ·simp only [List.mem_cons,List.not_mem_nil,or_false] at z
   rcases z with q | q | q<;>subst q
   ·exact pl _ _ rfl
   ·refine ⟨by simp;omega,by simp;omega⟩
   ·intro i hi
    simp only [List.mem_cons,List.not_mem_nil,or_false] at hi
    rcases hi with q | q | q<;>subst q
    ·refine w_pos _ ?_
     split<;>omega
    ·trivial
    ·trivial
 ·have hB:=dBk_B ns b z
  cases b with
  | chapter t l=>trivial
  | heading t k l=>exact ⟨hB.2.1,by have:=ft.2;omega⟩
  | table rs l=>exact ⟨hB.1.1,ft.1⟩
  | plates n l=>exact hB.1
  | para is =>
   intro i hi
   have:=hB i hi
   cases i with
   | word x n=>exact this.1.1
   | _=>trivial
theorem setR_mono (ns r1 r2:List Int) (hr:r1.length=(rO (dAll ns)).length) (h1:rowRooms (dR ns) r1) (h2:rowRooms (dR ns) r2) (h:leL r1 r2):all2 (all2 plLe) (setR ns r1) (setR ns r2):=by
 have hw:=dW_b ns
 have hh:=dH_b ns
 exact setBook_mono (dW ns) (dH ns) (dR ns) (dO ns) (dLi ns) r1 r2 (dAll ns) (rmLe_of h1 h2 h) (by omega) (by omega) (dAll_fit ns) (dAll_W ns) (by omega)
theorem figR_mono (ns r1 r2:List Int) (hr:r1.length=(rO (dAll ns)).length) (h1:rowRooms (dR ns) r1) (h2:rowRooms (dR ns) r2) (h:leL r1 r2):leL (figR ns r1) (figR ns r2):=by
 refine all2_map fun l hl=>?_
 obtain ⟨_,_,k1,_⟩:=set_at ns r1 hr
 have:=pgOf_mono (kv_mono (dAll ns) _ _ (all2_tail (setR_mono ns r1 r2 hr h1 h2 h))) (l:=l) (show l∈(kvR ns r1).map (·.1) by rw [k1];exact dAll_refs ns l hl)
 have q:pgOf (kvR ns r1) l<=pgOf (kvR ns r2) l:=this
 have:=digs_mono (n:=(pgOf (kvR ns r1) l).toNat) (m:=(pgOf (kvR ns r2) l).toNat) (by omega)
 show (digs (pgOf (kvR ns r1) l).toNat:Int)<=(digs (pgOf (kvR ns r2) l).toNat:Int)
 omega
theorem box_sum {room:Int}:∀ {xs:List Int},rowRooms room xs->(xs.length:Int)<=xs.sum/\xs.sum<=xs.length*room
 | [],_=>by simp
 | x::xs,h=>by
  have ih:=box_sum (room:=room) (xs:=xs) fun y hy=>h y (by simp [hy])
  have hx:=h x (by simp)
  rw [List.sum_cons,List.length_cons]
  have e:((xs.length+1:Nat):Int)*room=xs.length*room+room:=by rw [Int.natCast_add,Int.add_mul];simp
  rw [e]
  constructor
  ·have:=ih.1;omega
  ·have:=ih.2;omega
theorem eqIntsG:∀ xs ys:List Int,D.eqL (xs.map .int) (ys.map .int)=some (decide (xs=ys))
 | [],[]=>by rw [List.map_nil,eqL_nil];simp
 | x::xs,y::ys=>by
  rw [List.map_cons,List.map_cons,eqL_cons,eq_int,eqIntsG xs ys,andO_some]
  congr 1
  by_cases a:x=y<;>by_cases b:xs=ys<;>simp [a,b]
 | [],y::ys=>by simp [D.eqL]
 | x::xs,[]=>by simp [D.eqL]
theorem neIntsG (xs ys:List Int):D.neO (.lst (xs.map .int)) (.lst (ys.map .int))=some (.bl (decide (xs≠ys))):=by
 unfold D.neO
 rw [if_pos (by rw [dep_lst];have:=depL_map (f:=D.int) (n:=0) (fun a=>by rw [dep_int];exact Nat.le_refl _) xs;omega),eq_lst,eqIntsG]
 by_cases a:xs=ys<;>simp [a,D.cmpN]
theorem stLook {e:EnvD} {a:D} {k:EvS} {r:Option Fl} {ns:List Int} (h0:e[0]?=some (some (bks (dAll ns)))) (h1:e[1]?=some (some (S0 ns))) (hk:k e=r):sQ (sDrop (eK f_look (lC (eV 0) (lC (eV 1) lN)))) k e=r:=by
 refine st (e1:=e) ?_ hk
 have hR:eK f_look (lC (eV 0) (lC (eV 1) lN)) e=some .non:=call2 (show eV 0 e=_ by unfold eV;rw [h0];rfl) (show eV 1 e=_ by unfold eV;rw [h1];rfl) (dLook ns)
 unfold sDrop
 rw [hR];rfl
theorem laid_at (ns rs:List Int) (hr:rs.length=(rO (dAll ns)).length):f_laid [bks (dAll ns),S0 ns,.lst (rs.map .int)]=some (told (setR ns rs)):=by
 have:=(set_at ns rs hr).1
 unfold f_laid b_laid
 refine stD rfl (stLook (a:=.non) rfl rfl (ret (call3 rfl rfl rfl this)))
def Box (ns rs:List Int):Prop:=rs.length=(rO (dAll ns)).length/\rowRooms (dR ns) rs
theorem Box.mono {ns r1 r2:List Int} (h1:Box ns r1) (h2:Box ns r2) (h:leL r1 r2):leL (figR ns r1) (figR ns r2):=figR_mono ns r1 r2 h1.1 h1.2 h2.2 h
theorem Box.sum {ns rs:List Int} (h:Box ns rs):0<=rs.sum/\rs.sum<=(rO (dAll ns)).length*dR ns:=by
 have:=box_sum h.2
 rw [h.1] at this
 omega
theorem drawn_rooms (ns:List Int):f_Ldrawn [.scr ns]=some (.tup [bks (dAll ns),S0 ns,.int (dR ns)])/\∃ rs,f_Lrooms [.scr ns,bks (dAll ns),.int (dR ns),.int 200]=some (.lst (rs.map .int))/\Box ns rs:=by
 have rb:=dRoom_b ns
 have hit:((dAll ns).flatMap iO).length<=200:=by
  unfold dAll
  rw [List.flatMap_append,List.length_append]
  have h1:=(edge_few ns (dW ns) (dH ns) (dLi ns)).2
  have h2:=(dBk_few ns).2
  omega
 obtain ⟨rs,ra,rok,rlen⟩:=rooms_at ns (dAll ns) (dR ns) 200 hit (by decide) (by omega)
 exact ⟨drawn_at ns,rs,ra,rlen,rok⟩
theorem mkStep_app (pls:List Plc):∀ (is:List It) (kv kv':List (Str×Int)) (n:Nat),is.foldl (mkStep pls) (kv++kv',n)=(kv++(is.foldl (mkStep pls) (kv',n)).1,(is.foldl (mkStep pls) (kv',n)).2)
 | [],_,_,_=>rfl
 | i::is,kv,kv',n=>by
  rw [List.foldl_cons,List.foldl_cons]
  cases i with
  | mark l =>
   show is.foldl (mkStep pls) (kv++kv'++[(l,(pls.getD n ⟨0,0,0⟩).p)],n)=_
   rw [List.append_assoc]
   exact mkStep_app pls is kv _ n
  | key l=>exact mkStep_app pls is kv kv' n
  | word x ns=>exact mkStep_app pls is kv kv' (n+1)
  | ref l x y=>exact mkStep_app pls is kv kv' (n+1)
theorem mkStep_from (pls:List Plc) (is:List It) (kv:List (Str×Int)):(is.foldl (mkStep pls) (kv,0)).1=kv++marksP pls is:=by
 have:=mkStep_app pls is kv [] 0
 rw [List.append_nil] at this
 rw [this]
 rfl
theorem tt2' {a b:EvE} {e:EnvD} {x y:D} (ha:a e=some x) (hb:b e=some y):eTup (lC a (lC b lN)) e=some (.tup [x,y]):=by unfold eTup lC lN;rw [ha,hb];rfl
theorem neS (x y:Str):D.neO (.str x) (.str y)=some (.bl (!decide (x=y))):=by simp [D.neO,dep_str,eq_str,D.cmpN]
theorem headsItems (B TT:Option D) (k:Int) (x5 x6:Option D) (is:List It) (pls:List Plc) (kv:List (Str×Int)) (hl:is.length<=100000) (hk:kv.length<=300000) (hp:nSet is<=pls.length) (ht:Tight is) {a:EvE}
  (ha:∀ y z u,a [B,TT,y,some (.int k),some (Bk.para is).d,z,u]=some (plcs pls)) :
  ∃ y z,(sQ (sAsg (eC (.int 0)) (gS 5)) (sFor (iLst (eOp D.ix (eV 4) (eC (.int 1)))) (gS 6) (sQ (sIf (eOp D.eqO (eOp D.ix (eV 6) (eC (.int 0))) (eC (.str "mark"))) (sP 2 (eTup (lC (eOp D.ix (eV 6) (eC (.int 1))) (lC (eOp D.ix (eOp D.ix a (eV 5)) (eC (.int 0))) lN)))) sNx) (sIf (eOr (eOp D.eqO (eOp D.ix (eV 6) (eC (.int 0))) (eC (.str "word"))) (eOp D.eqO (eOp D.ix (eV 6) (eC (.int 0))) (eC (.str "ref")))) (sAsg (eOp D.add (eV 5) (eC (.int 1))) (gS 5)) sNx))))
   [B,TT,some (.lst (kv.map prs)),some (.int k),some (Bk.para is).d,x5,x6]=some (.nx [B,TT,some (.lst ((kv++marksP pls is).map prs)),some (.int k),some (Bk.para is).d,y,z]):=by
 obtain ⟨e',h1,z,rfl⟩:=loopN (g:=gS 6) (b:=sQ (sIf (eOp D.eqO (eOp D.ix (eV 6) (eC (.int 0))) (eC (.str "mark"))) (sP 2 (eTup (lC (eOp D.ix (eV 6) (eC (.int 1))) (lC (eOp D.ix (eOp D.ix a (eV 5)) (eC (.int 0))) lN)))) sNx) (sIf (eOr (eOp D.eqO (eOp D.ix (eV 6) (eC (.int 0))) (eC (.str "word"))) (eOp D.eqO (eOp D.ix (eV 6) (eC (.int 0))) (eC (.str "ref")))) (sAsg (eOp D.add (eV 5) (eC (.int 1))) (gS 5)) sNx)) It.d is
  (fun i e=>∃ z,e=[B,TT,some (.lst (((is.take i).foldl (mkStep pls) (kv,0)).1.map prs)),some (.int k),some (Bk.para is).d,some (.int ((is.take i).foldl (mkStep pls) (kv,0)).2),z]) (by
   rintro i hi e ⟨z,rfl⟩
   rw [fold_take _ _ _ _ hi]
   obtain ⟨h1,h2⟩:=mkStep_len pls (is.take i) (kv,0)
   rw [List.length_take] at h1
   simp only [Nat.zero_add] at h1 h2
   have hT:=ht i hi
   generalize is[i]=x at *
   generalize (is.take i).foldl (mkStep pls) (kv,0)=w at *
   obtain ⟨kv',n⟩:=w
   simp only [] at h1 h2 ⊢
   have hlt:kv'.length<lI:=lt_big (by omega)
   have ap:=fun y=>app_at (f:=prs) (xs:=kv') y hlt
   have hb:(gS 6 x.d [B,TT,some (.lst (kv'.map prs)),some (.int k),some (Bk.para is).d,some (.int n),z])=some [B,TT,some (.lst (kv'.map prs)),some (.int k),some (Bk.para is).d,some (.int n),some x.d]:=rfl
   generalize (Bk.para is).d=PD at *
   cases x with
   | mark l =>
    have hk':n<pls.length:=by have:=hT rfl;omega
    have px:D.ix (plcs pls) (.int n)=some (pls.getD n ⟨0,0,0⟩).d:=ixLs (f:=Plc.d) pls n ⟨0,0,0⟩ (by omega) (by omega)
    obtain ⟨q,eq⟩:∃ q,pls.getD n ⟨0,0,0⟩=q:=⟨_,rfl⟩
    have e1:mkStep pls (kv',n) (.mark l)=(kv'++[(l,q.p)],n):=by rw [<- eq];rfl
    rw [eq] at px
    rw [e1]
    refine ⟨[B,TT,some (.lst ((kv'++[(l,q.p)]).map prs)),some (.int k),some PD,some (.int n),some (It.mark l).d],.inl (bnd hb ?_),some (It.mark l).d,rfl⟩
    refine st (ifT (opE (x:=.str "mark") (opE (x:=(It.mark l).d) rfl rfl rfl) rfl (by rw [eqS];simp)) (appS (d:=prs (l,q.p)) rfl (tt2' (opE (x:=(It.mark l).d) rfl rfl rfl) (opE (opE (ha _ _ _) rfl px) rfl (show D.ix q.d (.int 0)=some (.int q.p) from rfl))) (ap _))) ?_
    exact ifF (orF (opE (x:=.str "mark") (opE (x:=(It.mark l).d) rfl rfl rfl) rfl (by rw [eqS];simp)) (opE (x:=.str "mark") (opE (x:=(It.mark l).d) rfl rfl rfl) rfl (by rw [eqS];simp))) rfl
   | key l =>
    refine ⟨_,.inl (bnd hb ?_),some (It.key l).d,rfl⟩
    refine st (ifF (opE (x:=.str "key") (opE (x:=(It.key l).d) rfl rfl rfl) rfl (by rw [eqS];simp)) rfl) ?_
    exact ifF (orF (opE (x:=.str "key") (opE (x:=(It.key l).d) rfl rfl rfl) rfl (by rw [eqS];simp)) (opE (x:=.str "key") (opE (x:=(It.key l).d) rfl rfl rfl) rfl (by rw [eqS];simp))) rfl
   | word x ns =>
    refine ⟨_,.inl (bnd hb ?_),some (It.word x ns).d,rfl⟩
    refine st (ifF (opE (x:=.str "word") (opE (x:=(It.word x ns).d) rfl rfl rfl) rfl (by rw [eqS];simp)) rfl) ?_
    refine ifT (orT (opE (x:=.str "word") (opE (x:=(It.word x ns).d) rfl rfl rfl) rfl (by rw [eqS];simp))) ?_
    exact asg (opE (x:=.int n) rfl rfl rfl) rfl
   | ref l x y =>
    refine ⟨_,.inl (bnd hb ?_),some (It.ref l x y).d,rfl⟩
    refine st (ifF (opE (x:=.str "ref") (opE (x:=(It.ref l x y).d) rfl rfl rfl) rfl (by rw [eqS];simp)) rfl) ?_
    refine ifT (orF (opE (x:=.str "ref") (opE (x:=(It.ref l x y).d) rfl rfl rfl) rfl (by rw [eqS];simp)) (opE (x:=.str "ref") (opE (x:=(It.ref l x y).d) rfl rfl rfl) rfl (by rw [eqS];simp))) ?_
    exact asg (opE (x:=.int n) rfl rfl rfl) rfl) _ ⟨x6,rfl⟩
 rw [List.take_length] at h1
 rw [<- mkStep_from pls is kv]
 refine ⟨some (.int ((is.foldl (mkStep pls) (kv,0)).2:Nat)),z,?_⟩
 refine st (e1:=[B,TT,some (.lst (kv.map prs)),some (.int k),some (Bk.para is).d,some (.int 0),x6]) rfl ?_
 unfold sFor
 exact h1
theorem bkIx' (bs:List Bk) (i:Nat) (h:i<bs.length):D.ix (bks bs) (.int (0+(i:Int)))=some bs[i].d:=by
 have:=ixLs (f:=Bk.d) bs (0+(i:Int)) (.para []) (by omega) (by omega)
 unfold bks
 rw [this]
 have e:(0+(i:Int)).toNat=i:=by omega
 rw [e,List.getD_eq_getElem?_getD,List.getElem?_eq_getElem h]
 rfl
theorem toldIx (X:List (List Plc)) (i:Nat) (h:i<X.length):D.ix (told X) (.int (0+(i:Int)))=some (plcs (X.getD i [])):=by
 have:=ixLs (f:=plcs) X (0+(i:Int)) [] (by omega) (by omega)
 unfold told
 rw [this]
 congr 3
 omega
theorem heads_at (bs:List Bk) (c:List Plc) (rows:List (List Plc)) (hf:Few bs) (hr:rows.length=bs.length) (hs:∀ q∈bs.zip rows,q.2.length=nPl q.1) (ht:∀ b∈bs,Tight (iO b)) (hL:((bs.zip rows).flatMap headsP).length<=200000) :
  f_Lheads [bks bs,told (c::rows)]=some (.lst (((bs.zip rows).flatMap headsP).map prs)):=by
 unfold f_Lheads b_Lheads
 refine stD rfl ?_
 refine st (e1:=[some (bks bs),some (told (c::rows)),some (.lst (([]:List (Str×Int)).map prs)),none,none,none,none]) rfl ?_
 have hz:(bs.zip rows).length=bs.length:=by rw [List.length_zip];omega
 have hf1:=hf.1
 refine stRng bs.length (fun i e=>∃ a b x y,e=[some (bks bs),some (told (c::rows)),some (.lst ((((bs.zip rows).take i).flatMap headsP).map prs)),a,b,x,y]) ?_ ⟨none,none,none,none,rfl⟩ ?_ ?_
 ·have lt:eUn D.len (eV 0) [some (bks bs),some (told (c::rows)),some (.lst (([]:List (Str×Int)).map prs)),none,none,none,none]=some (.int bs.length):=unE (x:=bks bs) rfl (by show some (D.int (bs.map Bk.d).length)=_;rw [List.length_map])
  unfold iRng
  rw [lt]
  exact if_pos (show (bs.length:Int).natAbs<4611686018427387904 by omega)
 ·rintro i hi e ⟨a,b,x5,x6,rfl⟩
  have hi':i<(bs.zip rows).length:=by omega
  have hir:i<rows.length:=by omega
  have hle:=flatMap_take_len headsP (bs.zip rows) i
  rw [fT _ _ _ hi']
  have hq:=hs (bs.zip rows)[i] (List.getElem_mem hi')
  have hx:=bkIx' bs i hi
  have hT:D.ix (told (c::rows)) (.int (0+(i:Int)+1))=some (plcs rows[i]):=by
   have:=toldIx (c::rows) (i+1) (by simp;omega)
   rw [show (0+((i+1:Nat):Int))=0+(i:Int)+1 by omega] at this
   rw [this,List.getD_cons_succ,List.getD_eq_getElem?_getD,List.getElem?_eq_getElem hir]
   rfl
  rw [List.getElem_zip] at hq ⊢
  simp only [] at hq
  have hbm:bs[i]∈bs:=List.getElem_mem hi
  have tx:=ht _ hbm
  have il:=items_le hf _ hbm
  generalize bs[i]=x at *
  generalize rows[i]=pls at *
  generalize ((bs.zip rows).take i).flatMap headsP=kv at *
  generalize bks bs=BS at *
  generalize told (c::rows)=TT at *
  have hlt:kv.length<lI:=lt_big (by omega)
  have ap:=fun y=>app_at (f:=prs) (xs:=kv) y hlt
  have hv:∀ f z u v,eOp D.ix (eOp D.ix (eV 1) (eOp D.add (eV 3) (eC (.int 1)))) f [some BS,some TT,z,some (.int (0+(i:Int))),some x.d,u,v]=(eOp D.ix (fun _=>some (plcs pls)) f) [some BS,some TT,z,some (.int (0+(i:Int))),some x.d,u,v]:=fun f z u v=>by
   have:eOp D.ix (eV 1) (eOp D.add (eV 3) (eC (.int 1))) [some BS,some TT,z,some (.int (0+(i:Int))),some x.d,u,v]=some (plcs pls):=opE (x:=TT) (y:=.int (0+(i:Int)+1)) rfl rfl hT
   unfold eOp at this ⊢
   rw [this]
  have first:∀ e',(sQ (sAsg (eOp D.ix (eV 0) (eV 3)) (gS 4)) e') [some BS,some TT,some (.lst (kv.map prs)),some (.int (0+(i:Int))),b,x5,x6]=e' [some BS,some TT,some (.lst (kv.map prs)),some (.int (0+(i:Int))),some x.d,x5,x6]:=fun e'=>st (asg (opE rfl rfl hx) rfl) rfl
  have tag:∀ z u v,∃ t,eOp D.ix (eV 4) (eC (.int 0)) [some BS,some TT,z,some (.int (0+(i:Int))),some x.d,u,v]=some (.str t)/\decide (t=Str.ofString "para")=isPara x:=fun z u v=>by
   cases x with
   | chapter t l=>exact ⟨_,rfl,by simp [isPara]⟩
   | heading t k l=>exact ⟨_,rfl,by simp [isPara]⟩
   | para is=>exact ⟨_,rfl,by simp [isPara]⟩
   | table r l=>exact ⟨_,rfl,by simp [isPara]⟩
   | plates n l=>exact ⟨_,rfl,by simp [isPara]⟩
  cases qp:isPara x with
  | true =>
   obtain ⟨is,rfl⟩:∃ is,x=.para is:=by cases x<;>first | exact ⟨_,rfl⟩ | cases qp
   obtain ⟨y,z,hI⟩:=headsItems (some BS) (some TT) (0+(i:Int)) x5 x6 is pls kv il (by omega) (Nat.le_of_eq hq.symm) tx (a:=eOp D.ix (eV 1) (eOp D.add (eV 3) (eC (.int 1)))) (fun y z u=>opE (x:=TT) (y:=.int (0+(i:Int)+1)) rfl rfl hT)
   have eh:kv++headsP (.para is,pls)=kv++marksP pls is:=by unfold headsP;rfl
   rw [eh]
   refine ⟨_,.inl (bnd (e1:=[some BS,some TT,some (.lst (kv.map prs)),some (.int (0+(i:Int))),b,x5,x6]) rfl ?_),some (.int (0+(i:Int))),some (Bk.para is).d,y,z,rfl⟩
   rw [first]
   refine st (ifF (andF (opE (x:=.str "para") (opE (x:=(Bk.para is).d) rfl rfl rfl) rfl (by rw [neS];simp))) rfl) ?_
   exact ifT (opE (x:=.str "para") (opE (x:=(Bk.para is).d) rfl rfl rfl) rfl (by rw [eqS];simp)) hI
  | false =>
   have eh:headsP (x,pls)=(if labB x="" then [] else [(labB x,(pls.getD 0 ⟨0,0,0⟩).p)]):=by
    cases x<;>first | (cases qp;done) | (unfold headsP;exact List.append_nil _)
   rw [eh]
   have np:pls.length=1:=by cases x<;>first | (cases qp;done) | exact hq
   obtain ⟨q0,rfl⟩:∃ q0,pls=[q0]:=by
    match pls,np with
    | [q0],_=>exact ⟨q0,rfl⟩
   have lst:∀ z u v,eOp D.ix (eV 4) (eUn D.neg (eC (.int 1))) [some BS,some TT,z,some (.int (0+(i:Int))),some x.d,u,v]=some (.str (labB x)):=fun z u v=>by
    cases x<;>first | (cases qp;done) | rfl
   have last_:∀ z,(sIf (eOp D.eqO (eOp D.ix (eV 4) (eC (.int 0))) (eC (.str "para"))) (sQ (sAsg (eC (.int 0)) (gS 5)) (sFor (iLst (eOp D.ix (eV 4) (eC (.int 1)))) (gS 6) (sQ (sIf (eOp D.eqO (eOp D.ix (eV 6) (eC (.int 0))) (eC (.str "mark"))) (sP 2 (eTup (lC (eOp D.ix (eV 6) (eC (.int 1))) (lC (eOp D.ix (eOp D.ix (eOp D.ix (eV 1) (eOp D.add (eV 3) (eC (.int 1)))) (eV 5)) (eC (.int 0))) lN)))) sNx) (sIf (eOr (eOp D.eqO (eOp D.ix (eV 6) (eC (.int 0))) (eC (.str "word"))) (eOp D.eqO (eOp D.ix (eV 6) (eC (.int 0))) (eC (.str "ref")))) (sAsg (eOp D.add (eV 5) (eC (.int 1))) (gS 5)) sNx)))) sNx) [some BS,some TT,z,some (.int (0+(i:Int))),some x.d,x5,x6]=some (.nx [some BS,some TT,z,some (.int (0+(i:Int))),some x.d,x5,x6]):=fun z=>by
    obtain ⟨t,t1,t2⟩:=tag z x5 x6
    exact ifF (opE t1 rfl (by rw [eqS,t2,qp])) rfl
   obtain ⟨t,t1,t2⟩:=tag (some (.lst (kv.map prs))) x5 x6
   by_cases zl:labB x=""
   ·rw [if_pos zl,List.append_nil]
    refine ⟨_,.inl (bnd (e1:=[some BS,some TT,some (.lst (kv.map prs)),some (.int (0+(i:Int))),b,x5,x6]) rfl ?_),some (.int (0+(i:Int))),some x.d,x5,x6,rfl⟩
    rw [first]
    refine st (ifF (andT (opE t1 rfl (by rw [neS,t2,qp];rfl)) (opE (lst _ _ _) rfl (by rw [neS,decide_eq_true zl];rfl))) rfl) ?_
    exact last_ _
   ·rw [if_neg zl]
    refine ⟨_,.inl (bnd (e1:=[some BS,some TT,some (.lst (kv.map prs)),some (.int (0+(i:Int))),b,x5,x6]) rfl ?_),some (.int (0+(i:Int))),some x.d,x5,x6,rfl⟩
    rw [first]
    refine st (e1:=[some BS,some TT,some (.lst ((kv++[(labB x,q0.p)]).map prs)),some (.int (0+(i:Int))),some x.d,x5,x6]) (ifT (andT (opE t1 rfl (by rw [neS,t2,qp];rfl)) (opE (lst _ _ _) rfl (by rw [neS,decide_eq_false zl];rfl))) ?_) (last_ _)
    refine appS (d:=prs (labB x,q0.p)) rfl (tt2' (lst _ _ _) ?_) (ap _)
    refine opE ?_ rfl (show D.ix q0.d (.int 0)=some (.int q0.p) from rfl)
    rw [hv]
    exact opE rfl rfl (show D.ix (plcs [q0]) (.int 0)=some q0.d from ixLs (f:=Plc.d) [q0] 0 ⟨0,0,0⟩ (by omega) (by simp))
 ·rintro e ⟨a,b,x,y,rfl⟩
  rw [<- hz,List.take_length]
  exact ret rfl
theorem whole_at (i:Int):f_Lwhole [.int i]=some (.bl true):=by
 unfold f_Lwhole b_Lwhole
 exact stD rfl (ret (andT (instE (t:="int") (x:=.int i) rfl rfl) (notE (b:=false) (instE (t:="bool") (x:=.int i) rfl rfl))))
theorem pairD_prs:∀ kv:List (Str×Int),pairD (kv.map fun x=>Sum.inr x.1) (kv.map fun x=>.int x.2)=kv.map prs
 | []=>rfl
 | x::kv=>by
  show D.tup [kD (.inr x.1),.int x.2]::pairD _ _=prs x::kv.map prs
  rw [pairD_prs kv]
  rfl
theorem items_dicL (kv:List (Str×Int)) (h:kv.length<=1000000):D.itemsL (dicL kv)=some (.lst (kv.map prs)):=by
 show (if (kv.map fun x=>(Sum.inr x.1:Kd)).length<=lI then some (D.lst (pairD _ _)) else none)=_
 rw [if_pos (by rw [List.length_map];exact lB h),pairD_prs]
theorem prs_eq (xs:List (Str×Int)):D.eq (.lst (xs.map prs)) (.lst (xs.map prs))=some true:=eq_map_r (fun a=>by unfold prs;rw [eq_tup];refine eqL_refl _ fun x hx=>?_;simp only [List.mem_cons,List.not_mem_nil,or_false] at hx;rcases hx with z | z<;>subst z<;>first | exact eq_str_r _ | exact eq_int_r _) xs
theorem prs_dep:∀ xs:List (Str×Int),D.depL (xs.map prs)<=5
 | []=>by rw [List.map_nil,depL_nil];omega
 | x::xs=>by
  have:=prs_dep xs
  have h:(prs x).dep<=4:=by simp only [prs,dep_tup,depL_cons,depL_nil,dep_str,dep_int];omega
  rw [List.map_cons,depL_cons]
  omega
theorem prs_ne (xs:List (Str×Int)):D.neO (.lst (xs.map prs)) (.lst (xs.map prs))=some (.bl false):=by
 unfold D.neO
 rw [if_pos (by rw [dep_lst];have:=prs_dep xs;omega),prs_eq]
 rfl
theorem law_true (ns:List Int):f_law [.scr ns]=some (.bl true):=by
 obtain ⟨dr,rs,ra,bx⟩:=drawn_rooms ns
 have fw:=dAll_few ns
 have cp:=copy_at (dAll ns) fw
 have nb:=neBks_r (dAll ns)
 have ni:=neIntsG rs rs
 obtain ⟨sb,lp,hk,hv⟩:=set_at ns rs bx.1
 have ld:=laid_at ns rs bx.1
 have kl:(kvR ns rs).length<=200000:=by
  have e:(kvR ns rs).length=(bookLabs (dAll ns)).length:=by rw [<- hk,List.length_map]
  have:=bookLabs_len (dAll ns)
  have:=fw.1
  have:=fw.2
  omega
 have hh:=dH_b ns
 obtain ⟨c,rows,e1,e2,e3⟩:=setBook_p (dW ns) (dH ns) (dO ns) (dLi ns) rs (dAll ns) (by omega) (fun b hb=>(dAll_S ns b hb).2.2)
 have e1':setR ns rs=c::rows:=e1
 have ek:kvR ns rs=((dAll ns).zip rows).flatMap headsP:=by unfold kvR;rw [e1'];rfl
 have hd:=heads_at (dAll ns) c rows fw e2 (fun q hq=>(e3 q hq).1) (dAll_tight ns) (by rw [<- ek];exact kl)
 rw [<- ek,<- e1'] at hd
 have po:f_pages_of [bks (dAll ns),S0 ns,.lst (rs.map .int)]=some (dicL (kvR ns rs)):=by
  unfold f_pages_of b_pages_of
  exact stD rfl (ret (call2 rfl (call3 rfl rfl rfl ld) lp))
 have it:=items_dicL (kvR ns rs) (by omega)
 have pn:=prs_ne (kvR ns rs)
 have lo:D.listOf (.lst (rs.map .int))=some (.lst (rs.map .int)):=rfl
 have iv:D.inst "dict" (dicL (kvR ns rs))=some (.bl true):=rfl
 clear sb lp hk hv e1 e1' e2 e3 ek
 generalize told (setR ns rs)=TT at *
 generalize kvR ns rs=kv at *
 have none':eComp 1 [] (iVals (eV 7)) (gS 0) (eNot (eK f_Lwhole (lC (eV 0) lN))) (eV 0) [some (.scr ns),some (bks (dAll ns)),some (S0 ns),some (.int (dR ns)),some (.lst (rs.map .int)),some (bks (dAll ns)),some (.lst (rs.map .int)),some (dicL kv),some (.lst (kv.map prs))]=some (.lst []):=by
  rw [comp_at (g:=gS 0) (n:=1) (caps:=[]) (c:=eNot (eK f_Lwhole (lC (eV 0) lN))) (el:=eV 0) (fun x:Str×Int=>D.int x.2) kv (fun e=>∃ v,e=[v]) (fun _=>false) (fun _=>.non) rfl (lB (by omega)) ⟨none,rfl⟩ (by
   rintro x hx e ⟨v,rfl⟩
   exact ⟨[some (.int x.2)],rfl,⟨_,rfl⟩,notE (b:=true) (call1 rfl (whole_at x.2)),fun h=>by cases h⟩)]
  simp
 generalize S0 ns=S at *
 generalize bks (dAll ns)=B at *
 unfold f_law b_law
 refine stD rfl ?_
 refine st (e1:=[some (.scr ns),some B,some S,some (.int (dR ns)),none,none,none,none,none]) (asg (call1 rfl dr) rfl) ?_
 refine st (e1:=[some (.scr ns),some B,some S,some (.int (dR ns)),some (.lst (rs.map .int)),none,none,none,none]) (asg (call4 rfl rfl rfl rfl ra) rfl) ?_
 refine st (e1:=[some (.scr ns),some B,some S,some (.int (dR ns)),some (.lst (rs.map .int)),some B,none,none,none]) (asg (call1 rfl cp) rfl) ?_
 refine st (e1:=[some (.scr ns),some B,some S,some (.int (dR ns)),some (.lst (rs.map .int)),some B,some (.lst (rs.map .int)),none,none]) (asg (unE (x:=.lst (rs.map .int)) rfl lo) rfl) ?_
 refine st (e1:=[some (.scr ns),some B,some S,some (.int (dR ns)),some (.lst (rs.map .int)),some B,some (.lst (rs.map .int)),some (dicL kv),none]) (asg (call3 rfl rfl rfl po) rfl) ?_
 refine st (e1:=[some (.scr ns),some B,some S,some (.int (dR ns)),some (.lst (rs.map .int)),some B,some (.lst (rs.map .int)),some (dicL kv),some (.lst (kv.map prs))]) (asg (call2 rfl (call3 rfl rfl rfl ld) hd) rfl) ?_
 refine st (e1:=[some (.scr ns),some B,some S,some (.int (dR ns)),some (.lst (rs.map .int)),some B,some (.lst (rs.map .int)),some (dicL kv),some (.lst (kv.map prs))]) (ifF (orF (notE (b:=true) (instE (x:=dicL kv) rfl iv)) (orF (opE (x:=B) (y:=B) rfl rfl nb) (orF (opE (x:=.lst (rs.map .int)) (y:=.lst (rs.map .int)) rfl rfl (by rw [ni];simp)) (opE (x:=.lst (kv.map prs)) (y:=.lst (kv.map prs)) (unE (x:=dicL kv) rfl it) rfl pn)))) rfl) ?_
 exact ret (opE (y:=.lst []) none' rfl (by simp [D.eqO,dep_lst,depL_nil,eq_lst,eqL_nil,D.cmp]))
end
section
open PySem PySem.Spec PyProof.Rows L2 Wd
def top (i:Nat):Stmt:=PySem.Challenge.pw_leastbook_k15_pages_of_labels.main.body.getD i (.Pass ⟨0,0,0,0⟩)
abbrev s_figures:Stmt:=top 17
abbrev s_bare:Stmt:=top 18
abbrev s_has_height:Stmt:=top 19
abbrev s_has_width:Stmt:=top 20
abbrev s_word_at:Stmt:=top 21
abbrev s_put_word:Stmt:=top 22
abbrev s_end_line:Stmt:=top 23
abbrev s_put_block:Stmt:=top 24
abbrev s_new_page:Stmt:=top 25
abbrev s_new_chapter:Stmt:=top 26
abbrev s_put_plates:Stmt:=top 27
abbrev s_is_style:Stmt:=top 29
abbrev s_is_titled:Stmt:=top 30
abbrev s_is_set:Stmt:=top 31
abbrev s_label_of:Stmt:=top 32
abbrev s_items_of:Stmt:=top 33
abbrev s_refs:Stmt:=top 34
abbrev s_pages_for:Stmt:=top 35
abbrev s_pages_at_most:Stmt:=top 36
abbrev s_room_at_most:Stmt:=top 37
abbrev s_any_longer:Stmt:=top 38
abbrev s_is_wide_block:Stmt:=top 39
abbrev s_is_wide_item:Stmt:=top 40
abbrev s_is_high_block:Stmt:=top 41
abbrev s_is_high_item:Stmt:=top 42
abbrev s_add_label:Stmt:=top 43
abbrev s_look_at_block:Stmt:=top 44
abbrev s_look_at_item:Stmt:=top 45
abbrev s_look_at_items:Stmt:=top 46
abbrev s_look_at_refs:Stmt:=top 47
abbrev s_look:Stmt:=top 48
abbrev s_set_contents:Stmt:=top 50
abbrev s_set_items:Stmt:=top 51
abbrev s_set_block:Stmt:=top 52
abbrev s_set_book:Stmt:=top 53
abbrev s_pages_with:Stmt:=top 54
abbrev s_label_pages:Stmt:=top 55
abbrev s_laid:Stmt:=top 56
abbrev s_pages_of:Stmt:=top 57
abbrev s_Lcell_at:Stmt:=top 59
abbrev s_Lwhole:Stmt:=top 60
abbrev s_Lmix:Stmt:=top 61
abbrev s_Llabel:Stmt:=top 62
abbrev s_Lplates:Stmt:=top 63
abbrev s_Lsigns:Stmt:=top 64
abbrev s_Latom:Stmt:=top 65
abbrev s_Lpointed:Stmt:=top 66
abbrev s_Lgrouped:Stmt:=top 67
abbrev s_Ledge:Stmt:=top 68
abbrev s_Lneeds:Stmt:=top 69
abbrev s_Lmost:Stmt:=top 70
abbrev s_Ldrawn:Stmt:=top 71
abbrev s_Lrooms:Stmt:=top 72
abbrev s_Lcopy:Stmt:=top 73
abbrev s_Lheads:Stmt:=top 74
abbrev s_law:Stmt:=top 76
structure Txt (K:Fg) (mg:Str->Option Value):Prop where
 g_FOOT:∃ t,mg "FOOT"=some (.int 3 t)
 g_HEIGHT:∃ t,mg "HEIGHT"=some (.int 1 t)
 g_LINE:∃ t,mg "LINE"=some (.int 1 t)
 g_LISTED:∃ t,mg "LISTED"=some (.int 3 t)
 g_ODD:∃ t,mg "ODD"=some (.int 2 t)
 g_PAGE:∃ t,mg "PAGE"=some (.int 0 t)
 g_USED:∃ t,mg "USED"=some (.int 2 t)
 g_WIDTH:∃ t,mg "WIDTH"=some (.int 0 t)
 b_any:mg "any"=none
 b_bool:mg "bool"=none
 b_dict:mg "dict"=none
 b_enumerate:mg "enumerate"=none
 b_int:mg "int"=none
 b_isinstance:mg "isinstance"=none
 b_len:mg "len"=none
 b_list:mg "list"=none
 b_max:mg "max"=none
 b_range:mg "range"=none
 b_str:mg "str"=none
 b_sum:mg "sum"=none
 b_zip:mg "zip"=none
 z:True
section
variable {P:Program} {w:World} {K:Fg} {mg:Str->Option Value} {base:Heap}
abbrev p_figures:List Str:=["number"]
abbrev p_bare:List Str:=["page"]
abbrev p_has_height:List Str:=["style","state","lines"]
abbrev p_has_width:List Str:=["style","state","size"]
abbrev p_word_at:List Str:=["page","line","column","size","foot"]
abbrev p_put_word:List Str:=["style","state","size","rows"]
abbrev N_put_word:List Str:=["style","state","size","rows","page","line","used","foot","column"]
abbrev p_end_line:List Str:=["state"]
abbrev p_put_block:List Str:=["style","state","rows","keep"]
abbrev N_put_block:List Str:=["style","state","rows","keep","start","place"]
abbrev p_new_page:List Str:=["state"]
abbrev p_new_chapter:List Str:=["style","state"]
abbrev N_new_chapter:List Str:=["style","state","start"]
abbrev p_put_plates:List Str:=["state","many"]
abbrev N_put_plates:List Str:=["state","many","page"]
abbrev p_is_style:List Str:=["style"]
abbrev p_is_titled:List Str:=["block"]
abbrev p_is_set:List Str:=["item"]
abbrev p_label_of:List Str:=["block"]
abbrev p_items_of:List Str:=["block"]
abbrev p_refs:List Str:=["book"]
abbrev N_refs:List Str:=["book","labels","block"]
abbrev p_pages_for:List Str:=["block","style"]
abbrev p_pages_at_most:List Str:=["book","style"]
abbrev p_room_at_most:List Str:=["book","style"]
abbrev p_any_longer:List Str:=["texts","width"]
abbrev p_is_wide_block:List Str:=["block","style","room"]
abbrev N_is_wide_block:List Str:=["block","style","room","beside"]
abbrev p_is_wide_item:List Str:=["item","style","room"]
abbrev p_is_high_block:List Str:=["block","style"]
abbrev p_is_high_item:List Str:=["item","style"]
abbrev p_add_label:List Str:=["label","number","known"]
abbrev p_look_at_block:List Str:=["block","number","style","room","known"]
abbrev p_look_at_item:List Str:=["item","number","style","room","known"]
abbrev p_look_at_items:List Str:=["items","number","style","room","known"]
abbrev N_look_at_items:List Str:=["items","number","style","room","known","words_left","item"]
abbrev p_look_at_refs:List Str:=["book","known"]
abbrev N_look_at_refs:List Str:=["book","known","number","block","label"]
abbrev p_look:List Str:=["book","style"]
abbrev N_look:List Str:=["book","style","room","known","number","block"]
abbrev p_set_contents:List Str:=["book","style"]
abbrev N_set_contents:List Str:=["book","style","places","state","block","put"]
abbrev p_set_items:List Str:=["items","style","state","rooms"]
abbrev N_set_items:List Str:=["items","style","state","rooms","places","refs_set","item","size","put"]
abbrev p_set_block:List Str:=["block","style","state"]
abbrev p_set_book:List Str:=["book","style","rooms"]
abbrev N_set_book:List Str:=["book","style","rooms","put","told","state","refs_set","block"]
abbrev p_pages_with:List Str:=["items","places","kind"]
abbrev N_pages_with:List Str:=["items","places","kind","found","words_set","item"]
abbrev p_label_pages:List Str:=["book","told"]
abbrev N_label_pages:List Str:=["book","told","pages","block","places","label","page"]
abbrev p_laid:List Str:=["book","style","rooms"]
abbrev p_pages_of:List Str:=["book","style","rooms"]
abbrev p_Lcell_at:List Str:=["_law_script","_law_k"]
abbrev p_Lwhole:List Str:=["_law_found"]
abbrev p_Lmix:List Str:=["_law_cell","_law_turn"]
abbrev N_Lmix:List Str:=["_law_cell","_law_turn","_law_number"]
abbrev p_Llabel:List Str:=["_law_k"]
abbrev N_Llabel:List Str:=["_law_k","_law_some"]
abbrev p_Lplates:List Str:=["_law_cell","_law_number"]
abbrev N_Lplates:List Str:=["_law_cell","_law_number","_law_ten","_law_k"]
abbrev p_Lsigns:List Str:=["_law_number","_law_size","_law_gaps"]
abbrev N_Lsigns:List Str:=["_law_number","_law_size","_law_gaps","_law_some","_law_found","_law_k","_law_at","_law_sign"]
abbrev p_Latom:List Str:=["_law_cell","_law_k"]
abbrev N_Latom:List Str:=["_law_cell","_law_k","_law_number","_law_kind","_law_size","_law_many","_law_text","_law_word","_law_label_here","_law_name"]
abbrev p_Lpointed:List Str:=["_law_atoms","_law_cells"]
abbrev N_Lpointed:List Str:=["_law_atoms","_law_cells","_law_labels","_law_atom_here","_law_found","_law_k","_law_label_here"]
abbrev p_Lgrouped:List Str:=["_law_atoms"]
abbrev N_Lgrouped:List Str:=["_law_atoms","_law_book","_law_row","_law_atom_here"]
abbrev p_Ledge:List Str:=["_law_script","_law_style"]
abbrev N_Ledge:List Str:=["_law_script","_law_style","_law_many","_law_ten","_law_k","_law_row"]
abbrev p_Lneeds:List Str:=["_law_book","_law_most_here"]
abbrev N_Lneeds:List Str:=["_law_book","_law_most_here","_law_wide","_law_high","_law_block","_law_notes","_law_rows"]
abbrev p_Lmost:List Str:=["_law_book","_law_listed"]
abbrev N_Lmost:List Str:=["_law_book","_law_listed","_law_most_here","_law_block"]
abbrev p_Ldrawn:List Str:=["_law_script"]
abbrev N_Ldrawn:List Str:=["_law_script","_law_every","_law_cells","_law_book","_law_listed","_law_edge_here","_law_most_here","_law_wide","_law_high","_law_width","_law_height","_law_style"]
abbrev p_Lrooms:List Str:=["_law_script","_law_book","_law_most_here","_law_turn"]
abbrev N_Lrooms:List Str:=["_law_script","_law_book","_law_most_here","_law_turn","_law_found","_law_cells","_law_block","_law_item","_law_cell"]
abbrev p_Lcopy:List Str:=["_law_book"]
abbrev N_Lcopy:List Str:=["_law_book","_law_found","_law_block","_law_row","_law_item"]
abbrev p_Lheads:List Str:=["_law_book","_law_places"]
abbrev N_Lheads:List Str:=["_law_book","_law_places","_law_found","_law_k","_law_block","_law_many","_law_item"]
abbrev p_law:List Str:=["_law_script"]
abbrev N_law:List Str:=["_law_script","_law_book","_law_style","_law_most_here","_law_rooms_here","_law_handed","_law_given","_law_found","_law_due"]
section
variable (P:Program) (w:World) (K:Fg) (mg:Str->Option Value) (base:Heap)
abbrev C_figures:=Cal P w K mg base 1 "figures" p_figures (spD K f_figures)
abbrev C_bare:=Cal P w K mg base 1 "bare" p_bare (spD K f_bare)
abbrev C_has_height:=Cal P w K mg base 1 "has_height" p_has_height (spD K f_has_height)
abbrev C_has_width:=Cal P w K mg base 1 "has_width" p_has_width (spD K f_has_width)
abbrev C_word_at:=Cal P w K mg base 1 "word_at" p_word_at (spD K f_word_at)
abbrev C_put_word:=Cal P w K mg base 2 "put_word" p_put_word (spD K f_put_word)
abbrev C_end_line:=Cal P w K mg base 1 "end_line" p_end_line (spD K f_end_line)
abbrev C_put_block:=Cal P w K mg base 2 "put_block" p_put_block (spD K f_put_block)
abbrev C_new_page:=Cal P w K mg base 2 "new_page" p_new_page (spD K f_new_page)
abbrev C_new_chapter:=Cal P w K mg base 3 "new_chapter" p_new_chapter (spD K f_new_chapter)
abbrev C_put_plates:=Cal P w K mg base 3 "put_plates" p_put_plates (spD K f_put_plates)
abbrev C_is_style:=Cal P w K mg base 1 "is_style" p_is_style (spD K f_is_style)
abbrev C_is_titled:=Cal P w K mg base 1 "is_titled" p_is_titled (spD K f_is_titled)
abbrev C_is_set:=Cal P w K mg base 1 "is_set" p_is_set (spD K f_is_set)
abbrev C_label_of:=Cal P w K mg base 1 "label_of" p_label_of (spD K f_label_of)
abbrev C_items_of:=Cal P w K mg base 1 "items_of" p_items_of (spD K f_items_of)
abbrev C_refs:=Cal P w K mg base 2 "refs" p_refs (spD K f_refs)
abbrev C_pages_for:=Cal P w K mg base 2 "pages_for" p_pages_for (spD K f_pages_for)
abbrev C_pages_at_most:=Cal P w K mg base 3 "pages_at_most" p_pages_at_most (spD K f_pages_at_most)
abbrev C_room_at_most:=Cal P w K mg base 4 "room_at_most" p_room_at_most (spD K f_room_at_most)
abbrev C_any_longer:=Cal P w K mg base 1 "any_longer" p_any_longer (spD K f_any_longer)
abbrev C_is_wide_block:=Cal P w K mg base 2 "is_wide_block" p_is_wide_block (spD K f_is_wide_block)
abbrev C_is_wide_item:=Cal P w K mg base 2 "is_wide_item" p_is_wide_item (spD K f_is_wide_item)
abbrev C_is_high_block:=Cal P w K mg base 1 "is_high_block" p_is_high_block (spD K f_is_high_block)
abbrev C_is_high_item:=Cal P w K mg base 1 "is_high_item" p_is_high_item (spD K f_is_high_item)
abbrev C_add_label:=Cal P w K mg base 1 "add_label" p_add_label (spM K f_add_label)
abbrev C_look_at_block:=Cal P w K mg base 3 "look_at_block" p_look_at_block (spM K f_look_at_block)
abbrev C_look_at_item:=Cal P w K mg base 3 "look_at_item" p_look_at_item (spM K f_look_at_item)
abbrev C_look_at_items:=Cal P w K mg base 4 "look_at_items" p_look_at_items (spM K f_look_at_items)
abbrev C_look_at_refs:=Cal P w K mg base 3 "look_at_refs" p_look_at_refs (spD K f_look_at_refs)
abbrev C_look:=Cal P w K mg base 5 "look" p_look (spD K f_look)
abbrev C_set_contents:=Cal P w K mg base 4 "set_contents" p_set_contents (spD K f_set_contents)
abbrev C_set_items:=Cal P w K mg base 3 "set_items" p_set_items (spD K f_set_items)
abbrev C_set_block:=Cal P w K mg base 4 "set_block" p_set_block (spD K f_set_block)
abbrev C_set_book:=Cal P w K mg base 5 "set_book" p_set_book (spD K f_set_book)
abbrev C_pages_with:=Cal P w K mg base 2 "pages_with" p_pages_with (spD K f_pages_with)
abbrev C_label_pages:=Cal P w K mg base 3 "label_pages" p_label_pages (spD K f_label_pages)
abbrev C_laid:=Cal P w K mg base 6 "laid" p_laid (spD K f_laid)
abbrev C_pages_of:=Cal P w K mg base 7 "pages_of" p_pages_of (spD K f_pages_of)
abbrev C_Lcell_at:=Cal P w K mg base 1 "_law_cell_at" p_Lcell_at (spD K f_Lcell_at)
abbrev C_Lwhole:=Cal P w K mg base 1 "_law_whole" p_Lwhole (spD K f_Lwhole)
abbrev C_Lmix:=Cal P w K mg base 1 "_law_mix" p_Lmix (spD K f_Lmix)
abbrev C_Llabel:=Cal P w K mg base 1 "_law_label" p_Llabel (spD K f_Llabel)
abbrev C_Lplates:=Cal P w K mg base 1 "_law_plates" p_Lplates (spD K f_Lplates)
abbrev C_Lsigns:=Cal P w K mg base 1 "_law_signs" p_Lsigns (spD K f_Lsigns)
abbrev C_Latom:=Cal P w K mg base 2 "_law_atom" p_Latom (spD K f_Latom)
abbrev C_Lpointed:=Cal P w K mg base 2 "_law_pointed" p_Lpointed (spD K f_Lpointed)
abbrev C_Lgrouped:=Cal P w K mg base 1 "_law_grouped" p_Lgrouped (spD K f_Lgrouped)
abbrev C_Ledge:=Cal P w K mg base 2 "_law_edge" p_Ledge (spD K f_Ledge)
abbrev C_Lneeds:=Cal P w K mg base 1 "_law_needs" p_Lneeds (spD K f_Lneeds)
abbrev C_Lmost:=Cal P w K mg base 1 "_law_most" p_Lmost (spD K f_Lmost)
abbrev C_Ldrawn:=Cal P w K mg base 3 "_law_drawn" p_Ldrawn (spD K f_Ldrawn)
abbrev C_Lrooms:=Cal P w K mg base 2 "_law_rooms" p_Lrooms (spD K f_Lrooms)
abbrev C_Lcopy:=Cal P w K mg base 1 "_law_copy" p_Lcopy (spD K f_Lcopy)
abbrev C_Lheads:=Cal P w K mg base 1 "_law_heads" p_Lheads (spD K f_Lheads)
end
theorem sc_figures:FnScope p_figures p_figures (defScope s_figures):=by constructor<;>first | rfl | decide +kernel
theorem ok_figures (h:Df K mg "figures" s_figures p_figures) (T:Txt K mg):C_figures P w K mg base :=
 have nd:=(sc_figures).nd
 okC (b:=b_figures) (k:=0) (N:=p_figures) (ps:=p_figures) (O':=[]) (OL:=[]) h sc_figures (fun f cdv A outer s H E hr=>(So (ds_ret (de_b1 call_lenD rfl T.b_len PySem.boot_len (dr (de_ty1 call_strD rfl T.b_str PyProof.Rows.boot_str (dv 0)))))))
theorem sc_bare:FnScope p_bare p_bare (defScope s_bare):=by constructor<;>first | rfl | decide +kernel
theorem ok_bare (h:Df K mg "bare" s_bare p_bare) (T:Txt K mg):C_bare P w K mg base :=
 have nd:=(sc_bare).nd
 okC (b:=b_bare) (k:=0) (N:=p_bare) (ps:=p_bare) (O':=[]) (OL:=[]) h sc_bare (fun f cdv A outer s H E hr=>(So (ds_ret (de_tup (dn 0 (Dk de_int (Dk de_int (Dk de_int Dz)))) lz4))))
theorem sc_has_height:FnScope p_has_height p_has_height (defScope s_has_height):=by constructor<;>first | rfl | decide +kernel
theorem ok_has_height (h:Df K mg "has_height" s_has_height p_has_height) (T:Txt K mg):C_has_height P w K mg base :=
 have nd:=(sc_has_height).nd
 okC (b:=b_has_height) (k:=0) (N:=p_has_height) (ps:=p_has_height) (O':=[]) (OL:=[]) h sc_has_height (fun f cdv A outer s H E hr=>(So (ds_ret (de_cmp (op_leD hr.units0) (dr (de_op op_addD (dr (de_op op_addD (dr (de_ix (dv 1) (dr (de_gint T.g_LINE rfl)))) (dr (de_ix (dv 1) (dr (de_gint T.g_FOOT rfl)))))) (dv 2))) (dr (de_ix (dv 0) (dr (de_gint T.g_HEIGHT rfl)))) (nomark _)))))
theorem sc_has_width:FnScope p_has_width p_has_width (defScope s_has_width):=by constructor<;>first | rfl | decide +kernel
theorem ok_has_width (h:Df K mg "has_width" s_has_width p_has_width) (T:Txt K mg):C_has_width P w K mg base :=
 have nd:=(sc_has_width).nd
 okC (b:=b_has_width) (k:=0) (N:=p_has_width) (ps:=p_has_width) (O':=[]) (OL:=[]) h sc_has_width (fun f cdv A outer s H E hr=>(So (ds_ret (de_or (dr (de_cmp (op_eqD hr.units) (dr (de_ix (dv 1) (dr (de_gint T.g_USED rfl)))) dq (nomark _))) (de_one (de_cmp (op_leD hr.units0) (dr (de_op op_addD (dr (de_op op_addD (dr (de_ix (dv 1) (dr (de_gint T.g_USED rfl)))) dq)) (dv 2))) (dr (de_ix (dv 0) (dr (de_gint T.g_WIDTH rfl)))) (nomark _)))))))
theorem sc_word_at:FnScope p_word_at p_word_at (defScope s_word_at):=by constructor<;>first | rfl | decide +kernel
theorem ok_word_at (h:Df K mg "word_at" s_word_at p_word_at) (T:Txt K mg):C_word_at P w K mg base :=
 have nd:=(sc_word_at).nd
 okC (b:=b_word_at) (k:=0) (N:=p_word_at) (ps:=p_word_at) (O':=[]) (OL:=[]) h sc_word_at (fun f cdv A outer s H E hr=>(So (ds_ret (de_tup (Dt (de_tup (dn 0 (dn 1 (dn 2 Dz))) lz3) (Dt (de_tup (dn 0 (dn 1 (Db (de_op op_addD (dv 2) (dv 3)) (dn 4 Dz)))) lz4) Dz)) lz2))))
theorem sc_put_word:FnScope N_put_word p_put_word (defScope s_put_word):=by constructor<;>first | rfl | decide +kernel
theorem ok_put_word (h:Df K mg "put_word" s_put_word p_put_word) (T:Txt K mg) (c_has_height:C_has_height P w K mg base) (c_has_width:C_has_width P w K mg base) (c_word_at:C_word_at P w K mg base):C_put_word P w K mg base :=
 have nd:=(sc_put_word).nd
 okC (b:=b_put_word) (k:=1) (N:=N_put_word) (ps:=p_put_word) (O':=[]) (OL:=[]) h sc_put_word (fun f cdv A outer s H E hr=>(by refine Ss (O1:=[]) ?_ ?_;exact (ds_set 4 nd (de_ix (dv 1) (dr (de_gint T.g_PAGE rfl))));exact (by refine Ss (O1:=[]) ?_ ?_;exact (ds_set 5 nd (de_ix (dv 1) (dr (de_gint T.g_LINE rfl))));exact (by refine Ss (O1:=[]) ?_ ?_;exact (ds_set 6 nd (de_ix (dv 1) (dr (de_gint T.g_USED rfl))));exact (by refine Ss (O1:=[]) ?_ ?_;exact (ds_set 7 nd (de_op op_addD (dr (de_ix (dv 1) (dr (de_gint T.g_FOOT rfl)))) (dv 3)));exact (by refine Ss (O1:=[]) ?_ ?_;exact (ds_if (PW.pt (dw_and (dt_val (dr (dc c_has_width hr (dn 0 (dn 1 (dn 2 Dz)))))) (dw_one (dt_val (dr (dc c_has_height hr (dn 0 (dn 1 (Db (de_op op_addD dq (dv 3)) Dz))))))))) (Ss (O1:=[]) (ds_set 8 nd (de_if (dt_cmp (op_eqD hr.units) (dv 6) dq (nomark _)) de_int (de_op op_addD (dv 6) dq))) (So (ds_ret (dc c_word_at hr (dn 4 (dn 5 (dn 8 (dn 2 (dn 7 Dz))))))))) Sn);exact (by refine Ss (O1:=[]) ?_ ?_;exact (ds_if (PW.pt (dw_and (dt_cmp op_gtD (dv 6) dq (nomark _)) (dw_one (dt_val (dr (dc c_has_height hr (dn 0 (dn 1 (Db (de_op op_addD dq (dv 3)) Dz))))))))) (So (ds_ret (dc c_word_at hr (dn 4 (Db (de_op op_addD (dv 5) dq) (Dk de_int (dn 2 (dn 7 Dz)))))))) Sn);exact (So (ds_ret (dc c_word_at hr (Db (de_op op_addD (dv 4) dq) (Dk de_int (Dk de_int (dn 2 (dn 3 Dz)))))))))))))))
theorem sc_end_line:FnScope p_end_line p_end_line (defScope s_end_line):=by constructor<;>first | rfl | decide +kernel
theorem ok_end_line (h:Df K mg "end_line" s_end_line p_end_line) (T:Txt K mg):C_end_line P w K mg base :=
 have nd:=(sc_end_line).nd
 okC (b:=b_end_line) (k:=0) (N:=p_end_line) (ps:=p_end_line) (O':=[]) (OL:=[]) h sc_end_line (fun f cdv A outer s H E hr=>(Ss (O1:=[]) (ds_if (dt_cmp (op_eqD hr.units) (dr (de_ix (dv 0) (dr (de_gint T.g_USED rfl)))) dq (nomark _)) (So (ds_ret (de_var 0))) Sn) (So (ds_ret (de_tup (Du (de_ix (dv 0) (dr (de_gint T.g_PAGE rfl))) (Db (de_op op_addD (dr (de_ix (dv 0) (dr (de_gint T.g_LINE rfl)))) dq) (Dk de_int (Du (de_ix (dv 0) (dr (de_gint T.g_FOOT rfl))) Dz)))) lz4)))))
theorem sc_put_block:FnScope N_put_block p_put_block (defScope s_put_block):=by constructor<;>first | rfl | decide +kernel
theorem ok_put_block (h:Df K mg "put_block" s_put_block p_put_block) (T:Txt K mg) (c_bare:C_bare P w K mg base) (c_end_line:C_end_line P w K mg base) (c_has_height:C_has_height P w K mg base):C_put_block P w K mg base :=
 have nd:=(sc_put_block).nd
 okC (b:=b_put_block) (k:=1) (N:=N_put_block) (ps:=p_put_block) (O':=[]) (OL:=[]) h sc_put_block (fun f cdv A outer s H E hr=>(by refine Ss (O1:=[]) ?_ ?_;exact (ds_set 4 nd (dc c_end_line hr (dn 1 Dz)));exact (by refine Ss (O1:=[]) ?_ ?_;exact (ds_if (dt_not (dt_val (dr (dc c_has_height hr (dn 0 (dn 4 (Db (de_op op_addD (dv 2) (dv 3)) Dz))))))) (So (ds_set 4 nd (dc c_bare hr (Db (de_op op_addD (dr (de_ix (dv 4) (dr (de_gint T.g_PAGE rfl)))) dq) Dz)))) Sn);exact (Ss (O1:=[]) (ds_set 5 nd (de_tup (Du (de_ix (dv 4) (dr (de_gint T.g_PAGE rfl))) (Du (de_ix (dv 4) (dr (de_gint T.g_LINE rfl))) (Dk de_int Dz))) lz3)) (So (ds_ret (de_tup (dn 5 (Dt (de_tup (Du (de_ix (dv 4) (dr (de_gint T.g_PAGE rfl))) (Db (de_op op_addD (dr (de_ix (dv 4) (dr (de_gint T.g_LINE rfl)))) (dv 2)) (Dk de_int (Du (de_ix (dv 4) (dr (de_gint T.g_FOOT rfl))) Dz)))) lz4) Dz)) lz2)))))))
theorem sc_new_page:FnScope p_new_page p_new_page (defScope s_new_page):=by constructor<;>first | rfl | decide +kernel
theorem ok_new_page (h:Df K mg "new_page" s_new_page p_new_page) (T:Txt K mg) (c_bare:C_bare P w K mg base):C_new_page P w K mg base :=
 have nd:=(sc_new_page).nd
 okC (b:=b_new_page) (k:=1) (N:=p_new_page) (ps:=p_new_page) (O':=[]) (OL:=[]) h sc_new_page (fun f cdv A outer s H E hr=>(Ss (O1:=[]) (ds_if (dt_cmp (op_eqD hr.units) (dv 0) (dr (dc c_bare hr (Du (de_ix (dv 0) (dr (de_gint T.g_PAGE rfl))) Dz))) (nomark _)) (So (ds_ret (de_var 0))) Sn) (So (ds_ret (dc c_bare hr (Db (de_op op_addD (dr (de_ix (dv 0) (dr (de_gint T.g_PAGE rfl)))) dq) Dz))))))
theorem sc_new_chapter:FnScope N_new_chapter p_new_chapter (defScope s_new_chapter):=by constructor<;>first | rfl | decide +kernel
theorem ok_new_chapter (h:Df K mg "new_chapter" s_new_chapter p_new_chapter) (T:Txt K mg) (c_bare:C_bare P w K mg base) (c_new_page:C_new_page P w K mg base):C_new_chapter P w K mg base :=
 have nd:=(sc_new_chapter).nd
 okC (b:=b_new_chapter) (k:=2) (N:=N_new_chapter) (ps:=p_new_chapter) (O':=[]) (OL:=[]) h sc_new_chapter (fun f cdv A outer s H E hr=>(by refine Ss (O1:=[]) ?_ ?_;exact (ds_set 2 nd (dc c_new_page hr (dn 1 Dz)));exact (by refine Ss (O1:=[]) ?_ ?_;exact (ds_if (PW.pt (dw_and (dt_val (dr (de_ix (dv 0) (dr (de_gint T.g_ODD rfl))))) (dw_one (dt_cmp (op_eqD hr.units) (dr (de_op op_modD (dr (de_ix (dv 2) (dr (de_gint T.g_PAGE rfl)))) dq)) dq (nomark _))))) (So (ds_ret (dc c_bare hr (Db (de_op op_addD (dr (de_ix (dv 2) (dr (de_gint T.g_PAGE rfl)))) dq) Dz)))) Sn);exact (So (ds_ret (de_var 2))))))
theorem sc_put_plates:FnScope N_put_plates p_put_plates (defScope s_put_plates):=by constructor<;>first | rfl | decide +kernel
theorem ok_put_plates (h:Df K mg "put_plates" s_put_plates p_put_plates) (T:Txt K mg) (c_bare:C_bare P w K mg base) (c_new_page:C_new_page P w K mg base):C_put_plates P w K mg base :=
 have nd:=(sc_put_plates).nd
 okC (b:=b_put_plates) (k:=2) (N:=N_put_plates) (ps:=p_put_plates) (O':=[]) (OL:=[]) h sc_put_plates (fun f cdv A outer s H E hr=>(Ss (O1:=[]) (ds_set 2 nd (de_ix (dr (dc c_new_page hr (dn 0 Dz))) (dr (de_gint T.g_PAGE rfl)))) (So (ds_ret (de_tup (Dt (de_tup (dn 2 (Dk de_int (Dk de_int Dz))) lz3) (Dl (dc c_bare hr (Db (de_op op_addD (dv 2) (dv 1)) Dz)) Dz)) lz2)))))
theorem sc_is_style:FnScope p_is_style p_is_style (defScope s_is_style):=by constructor<;>first | rfl | decide +kernel
theorem ok_is_style (h:Df K mg "is_style" s_is_style p_is_style) (T:Txt K mg):C_is_style P w K mg base :=
 have nd:=(sc_is_style).nd
 okC (b:=b_is_style) (k:=0) (N:=p_is_style) (ps:=p_is_style) (O':=[]) (OL:=[]) h sc_is_style (fun f cdv A outer s H E hr=>(So (ds_ret (de_and (dr (de_chain (op_leD hr.units0) (op_leD hr.units0) dq (dr (de_ix (dv 0) (dr (de_gint T.g_WIDTH rfl)))) dq)) (de_one (de_chain (op_leD hr.units0) (op_leD hr.units0) dq (dr (de_ix (dv 0) (dr (de_gint T.g_HEIGHT rfl)))) dq))))))
theorem sc_is_titled:FnScope p_is_titled p_is_titled (defScope s_is_titled):=by constructor<;>first | rfl | decide +kernel
theorem ok_is_titled (h:Df K mg "is_titled" s_is_titled p_is_titled) (T:Txt K mg):C_is_titled P w K mg base :=
 have nd:=(sc_is_titled).nd
 okC (b:=b_is_titled) (k:=0) (N:=p_is_titled) (ps:=p_is_titled) (O':=[]) (OL:=[]) h sc_is_titled (fun f cdv A outer s H E hr=>(So (ds_ret (de_cmp op_inD (dr (de_ix (dv 0) dq)) (dr (de_tup (Dk de_str (Dk de_str Dz)) lz2)) (by with_unfolding_all rfl)))))
theorem sc_is_set:FnScope p_is_set p_is_set (defScope s_is_set):=by constructor<;>first | rfl | decide +kernel
theorem ok_is_set (h:Df K mg "is_set" s_is_set p_is_set) (T:Txt K mg):C_is_set P w K mg base :=
 have nd:=(sc_is_set).nd
 okC (b:=b_is_set) (k:=0) (N:=p_is_set) (ps:=p_is_set) (O':=[]) (OL:=[]) h sc_is_set (fun f cdv A outer s H E hr=>(So (ds_ret (de_cmp op_inD (dr (de_ix (dv 0) dq)) (dr (de_tup (Dk de_str (Dk de_str Dz)) lz2)) (by with_unfolding_all rfl)))))
theorem sc_label_of:FnScope p_label_of p_label_of (defScope s_label_of):=by constructor<;>first | rfl | decide +kernel
theorem ok_label_of (h:Df K mg "label_of" s_label_of p_label_of) (T:Txt K mg):C_label_of P w K mg base :=
 have nd:=(sc_label_of).nd
 okC (b:=b_label_of) (k:=0) (N:=p_label_of) (ps:=p_label_of) (O':=[]) (OL:=[]) h sc_label_of (fun f cdv A outer s H E hr=>(So (ds_ret (de_if (dt_cmp (op_eqD hr.units) (dr (de_ix (dv 0) dq)) (dr de_str) (nomark _)) de_str (de_ix (dv 0) (dr (de_neg dq)))))))
theorem sc_items_of:FnScope p_items_of p_items_of (defScope s_items_of):=by constructor<;>first | rfl | decide +kernel
theorem ok_items_of (h:Df K mg "items_of" s_items_of p_items_of) (T:Txt K mg):C_items_of P w K mg base :=
 have nd:=(sc_items_of).nd
 okC (b:=b_items_of) (k:=0) (N:=p_items_of) (ps:=p_items_of) (O':=[]) (OL:=[]) h sc_items_of (fun f cdv A outer s H E hr=>(So (ds_ret (de_if (dt_cmp (op_eqD hr.units) (dr (de_ix (dv 0) dq)) (dr de_str) (nomark _)) (de_ix (dv 0) dq) (de_lst Dz lz0)))))
theorem sc_refs:FnScope N_refs p_refs (defScope s_refs):=by constructor<;>first | rfl | decide +kernel
theorem ok_refs (h:Df K mg "refs" s_refs p_refs) (T:Txt K mg) (c_items_of:C_items_of P w K mg base):C_refs P w K mg base :=
 have nd:=(sc_refs).nd
 okC (b:=b_refs) (k:=1) (N:=N_refs) (ps:=p_refs) (O':=[]) (OL:=[]) h sc_refs (fun f cdv A outer s H E hr=>(by refine Ss (O1:=[1]) ?_ ?_;exact (ds_setO 1 nd (dO_lst Dz lz0));exact (by refine Ss (O1:=[1]) ?_ ?_;exact (by refine ds_for rfl PassesOwn.never ?_ ?_ ?_;exact (di_lst (de_var 0));exact dg_name 2 nd;exact (by refine So ?_;exact (by refine ds_ext 1 (by decide) ?_;exact (by refine dr ?_;exact (by refine de_ofO ?_;exact (by refine dO_comp rfl rfl (compSc_of (show compOk (defScope s_refs) ["book","labels","block"] _ 1 ["item"] []=true by decide +kernel)) (by decide) ?_ ?_ ?_ ?_;exact (dih (di_lst (dc c_items_of hr (dn 2 Dz))));exact fun cl C ex s2 H2 pn=>dg_name 0 (show List.Nodup (["item"]:List Str) by decide +kernel);exact fun cl C ex s2 H2 pn=>(dif_one (dt_cmp (op_eqD hr.units) (dr (de_ix (dv 0) dq)) (dr de_str) (nomark _)));exact fun cl C ex s2 H2 pn=>(de_ix (dv 0) dq)))))));exact (dss_rel 1 (So (ds_ret (de_var 1)))))))
theorem sc_pages_for:FnScope p_pages_for p_pages_for (defScope s_pages_for):=by constructor<;>first | rfl | decide +kernel
theorem ok_pages_for (h:Df K mg "pages_for" s_pages_for p_pages_for) (T:Txt K mg) (c_is_set:C_is_set P w K mg base) (c_is_titled:C_is_titled P w K mg base) (c_items_of:C_items_of P w K mg base):C_pages_for P w K mg base :=
 have nd:=(sc_pages_for).nd
 okC (b:=b_pages_for) (k:=1) (N:=p_pages_for) (ps:=p_pages_for) (O':=[]) (OL:=[]) h sc_pages_for (fun f cdv A outer s H E hr=>(by refine Ss (O1:=[]) ?_ ?_;exact (ds_if (dt_cmp (op_eqD hr.units) (dr (de_ix (dv 0) dq)) (dr de_str) (nomark _)) (So (ds_ret (de_op op_addD dq (dr (de_ix (dv 0) dq))))) Sn);exact (by refine Ss (O1:=[]) ?_ ?_;exact (ds_if (PW.pt (dw_and (dt_val (dr (dc c_is_titled hr (dn 0 Dz)))) (dw_one (dt_val (dr (de_ix (dv 1) (dr (de_gint T.g_LISTED rfl)))))))) (So (ds_ret de_int)) Sn);exact (by refine So ?_;exact (by refine ds_ret ?_;exact (by refine de_op op_addD ?_ ?_;exact dq;exact (by refine dr ?_;exact (by refine de_op op_mulA ?_ ?_;exact dq;exact (by refine dr ?_;exact (by refine de_b1 call_lenD rfl T.b_len PySem.boot_len ?_;exact (by refine dr ?_;exact (by refine de_ofO ?_;exact (by refine dO_comp rfl rfl (compSc_of (show compOk (defScope s_pages_for) ["block","style"] _ 1 ["item"] []=true by decide +kernel)) (by decide) ?_ ?_ ?_ ?_;exact (dih (di_lst (dc c_items_of hr (dn 0 Dz))));exact fun cl C ex s2 H2 pn=>dg_name 0 (show List.Nodup (["item"]:List Str) by decide +kernel);exact fun cl C ex s2 H2 pn=>(dif_one (dt_val (dr (dc c_is_set hr (dn 0 Dz)))));exact fun cl C ex s2 H2 pn=>de_var 0)))))))))))))
theorem sc_pages_at_most:FnScope p_pages_at_most p_pages_at_most (defScope s_pages_at_most):=by constructor<;>first | rfl | decide +kernel
theorem ok_pages_at_most (h:Df K mg "pages_at_most" s_pages_at_most p_pages_at_most) (T:Txt K mg) (c_pages_for:C_pages_for P w K mg base):C_pages_at_most P w K mg base :=
 have nd:=(sc_pages_at_most).nd
 okC (b:=b_pages_at_most) (k:=2) (N:=p_pages_at_most) (ps:=p_pages_at_most) (O':=[]) (OL:=[]) h sc_pages_at_most (fun f cdv A outer s H E hr=>(by refine So ?_;exact (by refine ds_ret ?_;exact (by refine de_op op_addD ?_ ?_;exact dq;exact (by refine dr ?_;exact (by refine de_b1 (call_sumL rfl) rfl T.b_sum PyProof.Rows.boot_sum ?_;exact (by refine dr ?_;exact (by refine de_ofO ?_;exact (by refine dO_comp rfl rfl (compSc_of (show compOk (defScope s_pages_at_most) ["book","style"] _ 1 ["block","style"] [1]=true by decide +kernel)) (by decide) ?_ ?_ ?_ ?_;exact (dih (di_lst (de_var 0)));exact fun cl C ex s2 H2 pn=>dg_name 0 (show List.Nodup (["block","style"]:List Str) by decide +kernel);exact fun cl C ex s2 H2 pn=>dif_none;exact fun cl C ex s2 H2 pn=>(dc c_pages_for hr (dn 0 (dn 1 Dz))))))))))))
theorem sc_room_at_most:FnScope p_room_at_most p_room_at_most (defScope s_room_at_most):=by constructor<;>first | rfl | decide +kernel
theorem ok_room_at_most (h:Df K mg "room_at_most" s_room_at_most p_room_at_most) (T:Txt K mg) (c_figures:C_figures P w K mg base) (c_pages_at_most:C_pages_at_most P w K mg base):C_room_at_most P w K mg base :=
 have nd:=(sc_room_at_most).nd
 okC (b:=b_room_at_most) (k:=3) (N:=p_room_at_most) (ps:=p_room_at_most) (O':=[]) (OL:=[]) h sc_room_at_most (fun f cdv A outer s H E hr=>(So (ds_ret (dc c_figures hr (Dl (dc c_pages_at_most hr (dn 0 (dn 1 Dz))) Dz)))))
theorem sc_any_longer:FnScope p_any_longer p_any_longer (defScope s_any_longer):=by constructor<;>first | rfl | decide +kernel
theorem ok_any_longer (h:Df K mg "any_longer" s_any_longer p_any_longer) (T:Txt K mg):C_any_longer P w K mg base :=
 have nd:=(sc_any_longer).nd
 okC (b:=b_any_longer) (k:=0) (N:=p_any_longer) (ps:=p_any_longer) (O':=[]) (OL:=[]) h sc_any_longer (fun f cdv A outer s H E hr=>(by refine So ?_;exact (by refine ds_ret ?_;exact (by refine de_b1 (call_anyL rfl) rfl T.b_any PyProof.Rows.boot_any ?_;exact (by refine dr ?_;exact (by refine de_ofO ?_;exact (by refine dO_comp rfl rfl (compSc_of (show compOk (defScope s_any_longer) ["texts","width"] _ 1 ["text","width"] [1]=true by decide +kernel)) (by decide) ?_ ?_ ?_ ?_;exact (dih (di_lst (de_var 0)));exact fun cl C ex s2 H2 pn=>dg_name 0 (show List.Nodup (["text","width"]:List Str) by decide +kernel);exact fun cl C ex s2 H2 pn=>dif_none;exact fun cl C ex s2 H2 pn=>(de_cmp op_gtD (dr (de_b1 call_lenD rfl T.b_len PySem.boot_len (dv 0))) (dv 1) (nomark _)))))))))
theorem sc_is_wide_block:FnScope N_is_wide_block p_is_wide_block (defScope s_is_wide_block):=by constructor<;>first | rfl | decide +kernel
theorem ok_is_wide_block (h:Df K mg "is_wide_block" s_is_wide_block p_is_wide_block) (T:Txt K mg) (c_any_longer:C_any_longer P w K mg base) (c_is_titled:C_is_titled P w K mg base):C_is_wide_block P w K mg base :=
 have nd:=(sc_is_wide_block).nd
 okC (b:=b_is_wide_block) (k:=1) (N:=N_is_wide_block) (ps:=p_is_wide_block) (O':=[]) (OL:=[]) h sc_is_wide_block (fun f cdv A outer s H E hr=>(by refine Ss (O1:=[]) ?_ ?_;exact (ds_if (dt_val (dr (dc c_is_titled hr (dn 0 Dz)))) (Ss (O1:=[]) (ds_set 3 nd (de_if (dt_val (dr (de_ix (dv 1) (dr (de_gint T.g_LISTED rfl))))) (de_op op_addD dq (dv 2)) de_int)) (So (ds_ret (de_cmp op_gtD (dr (de_op op_addD (dr (de_b1 call_lenD rfl T.b_len PySem.boot_len (dr (de_ix (dv 0) dq)))) (dv 3))) (dr (de_ix (dv 1) (dr (de_gint T.g_WIDTH rfl)))) (nomark _))))) Sn);exact (So (ds_ret (de_and (dr (de_cmp (op_eqD hr.units) (dr (de_ix (dv 0) dq)) (dr de_str) (nomark _))) (de_one (dc c_any_longer hr (Du (de_ix (dv 0) dq) (Du (de_ix (dv 1) (dr (de_gint T.g_WIDTH rfl))) Dz)))))))))
theorem sc_is_wide_item:FnScope p_is_wide_item p_is_wide_item (defScope s_is_wide_item):=by constructor<;>first | rfl | decide +kernel
theorem ok_is_wide_item (h:Df K mg "is_wide_item" s_is_wide_item p_is_wide_item) (T:Txt K mg) (c_any_longer:C_any_longer P w K mg base):C_is_wide_item P w K mg base :=
 have nd:=(sc_is_wide_item).nd
 okC (b:=b_is_wide_item) (k:=1) (N:=p_is_wide_item) (ps:=p_is_wide_item) (O':=[]) (OL:=[]) h sc_is_wide_item (fun f cdv A outer s H E hr=>(by refine Ss (O1:=[]) ?_ ?_;exact (ds_if (dt_cmp (op_eqD hr.units) (dr (de_ix (dv 0) dq)) (dr de_str) (nomark _)) (So (ds_ret (dc c_any_longer hr (Db (de_op op_addD (dr (de_lst (Du (de_ix (dv 0) dq) Dz) lz1)) (dr (de_ix (dv 0) dq))) (Du (de_ix (dv 1) (dr (de_gint T.g_WIDTH rfl))) Dz))))) Sn);exact (by refine So ?_;exact (by refine ds_ret ?_;exact (de_and (dr (de_cmp (op_eqD hr.units) (dr (de_ix (dv 0) dq)) (dr de_str) (nomark _))) (de_one (de_cmp op_gtD (dr (de_op op_addD (dr (de_op op_addD (dr (de_b1 call_lenD rfl T.b_len PySem.boot_len (dr (de_ix (dv 0) dq)))) (dv 2))) (dr (de_b1 call_lenD rfl T.b_len PySem.boot_len (dr (de_ix (dv 0) dq)))))) (dr (de_ix (dv 1) (dr (de_gint T.g_WIDTH rfl)))) (nomark _))))))))
theorem sc_is_high_block:FnScope p_is_high_block p_is_high_block (defScope s_is_high_block):=by constructor<;>first | rfl | decide +kernel
theorem ok_is_high_block (h:Df K mg "is_high_block" s_is_high_block p_is_high_block) (T:Txt K mg):C_is_high_block P w K mg base :=
 have nd:=(sc_is_high_block).nd
 okC (b:=b_is_high_block) (k:=0) (N:=p_is_high_block) (ps:=p_is_high_block) (O':=[]) (OL:=[]) h sc_is_high_block (fun f cdv A outer s H E hr=>(Ss (O1:=[]) (ds_if (dt_cmp (op_eqD hr.units) (dr (de_ix (dv 0) dq)) (dr de_str) (nomark _)) (So (ds_ret (de_cmp op_gtD (dr (de_op op_addD (dr (de_ix (dv 0) dq)) dq)) (dr (de_ix (dv 1) (dr (de_gint T.g_HEIGHT rfl)))) (nomark _)))) Sn) (So (ds_ret (de_and (dr (de_cmp (op_eqD hr.units) (dr (de_ix (dv 0) dq)) (dr de_str) (nomark _))) (de_one (de_cmp op_gtD (dr (de_b1 call_lenD rfl T.b_len PySem.boot_len (dr (de_ix (dv 0) dq)))) (dr (de_ix (dv 1) (dr (de_gint T.g_HEIGHT rfl)))) (nomark _))))))))
theorem sc_is_high_item:FnScope p_is_high_item p_is_high_item (defScope s_is_high_item):=by constructor<;>first | rfl | decide +kernel
theorem ok_is_high_item (h:Df K mg "is_high_item" s_is_high_item p_is_high_item) (T:Txt K mg):C_is_high_item P w K mg base :=
 have nd:=(sc_is_high_item).nd
 okC (b:=b_is_high_item) (k:=0) (N:=p_is_high_item) (ps:=p_is_high_item) (O':=[]) (OL:=[]) h sc_is_high_item (fun f cdv A outer s H E hr=>(So (ds_ret (de_and (dr (de_cmp (op_eqD hr.units) (dr (de_ix (dv 0) dq)) (dr de_str) (nomark _))) (de_one (de_cmp op_gtD (dr (de_op op_addD (dr (de_b1 call_lenD rfl T.b_len PySem.boot_len (dr (de_ix (dv 0) dq)))) dq)) (dr (de_ix (dv 1) (dr (de_gint T.g_HEIGHT rfl)))) (nomark _)))))))
theorem sc_add_label:FnScope p_add_label p_add_label (defScope s_add_label):=by constructor<;>first | rfl | decide +kernel
theorem ok_add_label (h:Df K mg "add_label" s_add_label p_add_label) (T:Txt K mg):C_add_label P w K mg base :=
 have nd:=(sc_add_label).nd
 okCM (b:=b_add_label) (k:=0) (N:=p_add_label) (ps:=p_add_label) (O':=[2,1002]) (OL:=[]) h sc_add_label (by decide) (by decide) (by decide) (by decide) (by decide) (fun f cdv A outer s H E hr=>(Ss (O1:=[2,1002]) (ds_if (dt_din hr.units1 (dv 0) (dr_var 2)) (So ds_never) Sn) (So (ds_dput 2 (by decide) hr.units1 (dv 0) de_bl))))
theorem sc_look_at_block:FnScope p_look_at_block p_look_at_block (defScope s_look_at_block):=by constructor<;>first | rfl | decide +kernel
theorem ok_look_at_block (h:Df K mg "look_at_block" s_look_at_block p_look_at_block) (T:Txt K mg) (c_add_label:C_add_label P w K mg base) (c_is_high_block:C_is_high_block P w K mg base) (c_is_wide_block:C_is_wide_block P w K mg base) (c_label_of:C_label_of P w K mg base):C_look_at_block P w K mg base :=
 have nd:=(sc_look_at_block).nd
 okCM (b:=b_look_at_block) (k:=2) (N:=p_look_at_block) (ps:=p_look_at_block) (O':=[4,1004]) (OL:=[]) h sc_look_at_block (by decide) (by decide) (by decide) (by decide) (by decide) (fun f cdv A outer s H E hr=>(by refine Ss (O1:=[4,1004]) ?_ ?_;exact (ds_if (dt_val (dr (dc c_is_wide_block hr (dn 0 (dn 2 (dn 3 Dz)))))) (So ds_never) Sn);exact (by refine Ss (O1:=[4,1004]) ?_ ?_;exact (ds_if (dt_val (dr (dc c_is_high_block hr (dn 0 (dn 2 Dz))))) (So ds_never) Sn);exact (by refine So ?_;exact (by refine ds_if ?_ ?_ ?_;exact (dt_cmp (op_neD hr.units) (dr (dc c_label_of hr (dn 0 Dz))) (dr de_str) (nomark _));exact (by refine So ?_;exact (by refine ds_callM 4 (by decide) c_add_label (hr.mono (by decide)) rfl ?_;exact (by refine da_consM ?_ ?_ ?_;exact (dc c_label_of hr (dn 0 Dz));exact (by refine da_consM ?_ ?_ ?_;exact de_var 1;exact (da_own 4);exact se_Name);exact se_Call)));exact Sn)))))
theorem sc_look_at_item:FnScope p_look_at_item p_look_at_item (defScope s_look_at_item):=by constructor<;>first | rfl | decide +kernel
theorem ok_look_at_item (h:Df K mg "look_at_item" s_look_at_item p_look_at_item) (T:Txt K mg) (c_add_label:C_add_label P w K mg base) (c_is_high_item:C_is_high_item P w K mg base) (c_is_wide_item:C_is_wide_item P w K mg base):C_look_at_item P w K mg base :=
 have nd:=(sc_look_at_item).nd
 okCM (b:=b_look_at_item) (k:=2) (N:=p_look_at_item) (ps:=p_look_at_item) (O':=[4,1004]) (OL:=[]) h sc_look_at_item (by decide) (by decide) (by decide) (by decide) (by decide) (fun f cdv A outer s H E hr=>(by refine Ss (O1:=[4,1004]) ?_ ?_;exact (ds_if (dt_val (dr (dc c_is_wide_item hr (dn 0 (dn 2 (dn 3 Dz)))))) (So ds_never) Sn);exact (by refine Ss (O1:=[4,1004]) ?_ ?_;exact (ds_if (dt_val (dr (dc c_is_high_item hr (dn 0 (dn 2 Dz))))) (So ds_never) Sn);exact (by refine So ?_;exact (by refine ds_if ?_ ?_ ?_;exact (dt_cmp (op_eqD hr.units) (dr (de_ix (dv 0) dq)) (dr de_str) (nomark _));exact (by refine So ?_;exact (by refine ds_callM 4 (by decide) c_add_label (hr.mono (by decide)) rfl ?_;exact (by refine da_consM ?_ ?_ ?_;exact (de_ix (dv 0) dq);exact (by refine da_consM ?_ ?_ ?_;exact de_var 1;exact (da_own 4);exact se_Name);exact se_Subscript)));exact Sn)))))
theorem sc_look_at_items:FnScope N_look_at_items p_look_at_items (defScope s_look_at_items):=by constructor<;>first | rfl | decide +kernel
theorem ok_look_at_items (h:Df K mg "look_at_items" s_look_at_items p_look_at_items) (T:Txt K mg) (c_is_set:C_is_set P w K mg base) (c_look_at_item:C_look_at_item P w K mg base):C_look_at_items P w K mg base :=
 have nd:=(sc_look_at_items).nd
 okCM (b:=b_look_at_items) (k:=3) (N:=N_look_at_items) (ps:=p_look_at_items) (O':=[4,1004]) (OL:=[]) h sc_look_at_items (by decide) (by decide) (by decide) (by decide) (by decide) (fun f cdv A outer s H E hr=>(by refine Ss (O1:=[4,1004]) ?_ ?_;exact (by refine ds_set 5 nd ?_;exact (by refine de_b1 call_lenD rfl T.b_len PySem.boot_len ?_;exact (by refine dr ?_;exact (by refine de_ofO ?_;exact (by refine dO_comp rfl rfl (compSc_of (show compOk (defScope s_look_at_items) ["items","number","style","room","known","words_left","item"] _ 1 ["item"] []=true by decide +kernel)) (by decide) ?_ ?_ ?_ ?_;exact (dih (di_lst (de_var 0)));exact fun cl C ex s2 H2 pn=>dg_name 0 (show List.Nodup (["item"]:List Str) by decide +kernel);exact fun cl C ex s2 H2 pn=>(dif_one (dt_val (dr (dc c_is_set hr (dn 0 Dz)))));exact fun cl C ex s2 H2 pn=>de_var 0)))));exact (by refine So ?_;exact (by refine ds_for rfl PassesOwn.never ?_ ?_ ?_;exact (di_lst (de_var 0));exact dg_name 6 nd;exact (by refine Ss (O1:=[4,1004]) ?_ ?_;exact (by refine ds_callM 4 (by decide) c_look_at_item (hr.mono (by decide)) rfl ?_;exact (by refine da_consM ?_ ?_ ?_;exact de_var 6;exact (by refine da_consM ?_ ?_ ?_;exact de_var 1;exact (by refine da_consM ?_ ?_ ?_;exact de_var 2;exact (by refine da_consM ?_ ?_ ?_;exact de_var 3;exact (da_own 4);exact se_Name);exact se_Name);exact se_Name);exact se_Name));exact (So (ds_if (dt_val (dr (dc c_is_set hr (dn 6 Dz)))) (So (ds_aug 5 nd (by decide) dq ip_subD)) (So (ds_if (dt_cmp (op_eqD hr.units) (dv 5) dq (nomark _)) (So ds_never) Sn)))))))))
theorem sc_look_at_refs:FnScope N_look_at_refs p_look_at_refs (defScope s_look_at_refs):=by constructor<;>first | rfl | decide +kernel
theorem ok_look_at_refs (h:Df K mg "look_at_refs" s_look_at_refs p_look_at_refs) (T:Txt K mg) (c_refs:C_refs P w K mg base):C_look_at_refs P w K mg base :=
 have nd:=(sc_look_at_refs).nd
 okC (b:=b_look_at_refs) (k:=2) (N:=N_look_at_refs) (ps:=p_look_at_refs) (O':=[]) (OL:=[]) h sc_look_at_refs (fun f cdv A outer s H E hr=>(by refine So ?_;exact (ds_for rfl PassesOwn.never (di_enum rfl T.b_enumerate (de_var 0)) (dg_tup rfl (dgs_cons (O1:=[]) (dg_name 2 nd) (dgs_cons (O1:=[]) (dg_name 3 nd) dgs_nil)) rfl) (So (ds_for rfl PassesOwn.never (di_lst (dc c_refs hr (da_List (de_lst (dn 3 Dz) lz1) Dz))) (dg_name 4 nd) (So (ds_if (dt_dnotin hr.units1 (dv 4) (dv 1)) (So ds_never) Sn)))))))
theorem sc_look:FnScope N_look p_look (defScope s_look):=by constructor<;>first | rfl | decide +kernel
theorem ok_look (h:Df K mg "look" s_look p_look) (T:Txt K mg) (c_is_style:C_is_style P w K mg base) (c_items_of:C_items_of P w K mg base) (c_look_at_block:C_look_at_block P w K mg base) (c_look_at_items:C_look_at_items P w K mg base) (c_look_at_refs:C_look_at_refs P w K mg base) (c_room_at_most:C_room_at_most P w K mg base):C_look P w K mg base :=
 have nd:=(sc_look).nd
 okC (b:=b_look) (k:=4) (N:=N_look) (ps:=p_look) (O':=[]) (OL:=[]) h sc_look (fun f cdv A outer s H E hr=>(by refine Ss (O1:=[]) ?_ ?_;exact (ds_if (dt_not (dt_val (dr (dc c_is_style hr (dn 1 Dz))))) (So ds_never) Sn);exact (by refine Ss (O1:=[]) ?_ ?_;exact (ds_set 2 nd (dc c_room_at_most hr (dn 0 (dn 1 Dz))));exact (by refine Ss (O1:=[3]) ?_ ?_;exact (ds_setO 3 nd dO_dict);exact (by refine Ss (O1:=[3]) ?_ ?_;exact (by refine ds_for rfl PassesOwn.never ?_ ?_ ?_;exact (di_enum rfl T.b_enumerate (de_var 0));exact (dg_tup rfl (dgs_cons (O1:=[3]) (dg_name 4 nd) (dgs_cons (O1:=[3]) (dg_name 5 nd) dgs_nil)) rfl);exact (by refine Ss (O1:=[3]) ?_ ?_;exact (by refine ds_callM 3 (by decide) c_look_at_block (hr.mono (by decide)) rfl ?_;exact (by refine da_consM ?_ ?_ ?_;exact de_var 5;exact (by refine da_consM ?_ ?_ ?_;exact de_var 4;exact (by refine da_consM ?_ ?_ ?_;exact de_var 1;exact (by refine da_consM ?_ ?_ ?_;exact de_var 2;exact (da_own 3);exact se_Name);exact se_Name);exact se_Name);exact se_Name));exact (by refine So ?_;exact (by refine ds_callM 3 (by decide) c_look_at_items (hr.mono (by decide)) rfl ?_;exact (by refine da_consM ?_ ?_ ?_;exact (dc c_items_of hr (dn 5 Dz));exact (by refine da_consM ?_ ?_ ?_;exact de_var 4;exact (by refine da_consM ?_ ?_ ?_;exact de_var 1;exact (by refine da_consM ?_ ?_ ?_;exact de_var 2;exact (da_own 3);exact se_Name);exact se_Name);exact se_Name);exact se_Call)))));exact (dss_rel 3 (So (ds_expr (dc c_look_at_refs hr (dn 0 (dn 3 Dz)))))))))))
theorem sc_set_contents:FnScope N_set_contents p_set_contents (defScope s_set_contents):=by constructor<;>first | rfl | decide +kernel
theorem ok_set_contents (h:Df K mg "set_contents" s_set_contents p_set_contents) (T:Txt K mg) (c_bare:C_bare P w K mg base) (c_is_titled:C_is_titled P w K mg base) (c_new_chapter:C_new_chapter P w K mg base) (c_put_block:C_put_block P w K mg base):C_set_contents P w K mg base :=
 have nd:=(sc_set_contents).nd
 okC (b:=b_set_contents) (k:=3) (N:=N_set_contents) (ps:=p_set_contents) (O':=[]) (OL:=[]) h sc_set_contents (fun f cdv A outer s H E hr=>(by refine Ss (O1:=[2]) ?_ ?_;exact (ds_setO 2 nd (dO_lst Dz lz0));exact (by refine Ss (O1:=[2]) ?_ ?_;exact (ds_set 3 nd (dc c_bare hr (Dk de_int Dz)));exact (by refine Ss (O1:=[2]) ?_ ?_;exact (ds_if (dt_not (dt_val (dr (de_ix (dv 1) (dr (de_gint T.g_LISTED rfl)))))) (dss_rel 2 (So (ds_ret (de_tup (dn 2 (dn 3 Dz)) lz2)))) Sn);exact (by refine Ss (O1:=[2]) ?_ ?_;exact (by refine ds_for rfl PassesOwn.never ?_ ?_ ?_;exact (di_lst (de_var 0));exact dg_name 4 nd;exact (by refine So ?_;exact (ds_if (dt_val (dr (dc c_is_titled hr (dn 4 Dz)))) (Ss (O1:=[2]) (ds_set 5 nd (dc c_put_block hr (dn 1 (dn 3 (Dk de_int (Dk de_int Dz)))))) (Ss (O1:=[2]) (ds_app 2 (by decide) (de_ix (dv 5) dq)) (So (ds_set 3 nd (de_ix (dv 5) dq))))) Sn)));exact (Ss (O1:=[2]) (ds_if (dt_cmp op_gtD (dr (de_b1 call_lenD rfl T.b_len PySem.boot_len (dr_var 2))) dq (nomark _)) (So (ds_set 3 nd (dc c_new_chapter hr (dn 1 (dn 3 Dz))))) Sn) (dss_rel 2 (So (ds_ret (de_tup (dn 2 (dn 3 Dz)) lz2))))))))))
theorem sc_set_items:FnScope N_set_items p_set_items (defScope s_set_items):=by constructor<;>first | rfl | decide +kernel
theorem ok_set_items (h:Df K mg "set_items" s_set_items p_set_items) (T:Txt K mg) (c_end_line:C_end_line P w K mg base) (c_is_set:C_is_set P w K mg base) (c_put_word:C_put_word P w K mg base):C_set_items P w K mg base :=
 have nd:=(sc_set_items).nd
 okC (b:=b_set_items) (k:=2) (N:=N_set_items) (ps:=p_set_items) (O':=[]) (OL:=[]) h sc_set_items (fun f cdv A outer s H E hr=>(by refine Ss (O1:=[4]) ?_ ?_;exact (ds_setO 4 nd (dO_lst Dz lz0));exact (by refine Ss (O1:=[4]) ?_ ?_;exact (ds_set 5 nd de_int);exact (by refine Ss (O1:=[4]) ?_ ?_;exact (by refine ds_for rfl PassesOwn.never ?_ ?_ ?_;exact (di_lst (de_var 0));exact dg_name 6 nd;exact (by refine So ?_;exact (by refine ds_if ?_ ?_ ?_;exact (dt_val (dr (dc c_is_set hr (dn 6 Dz))));exact (by refine Ss (O1:=[4]) ?_ ?_;exact (by refine ds_if ?_ ?_ ?_;exact (dt_cmp (op_eqD hr.units) (dr (de_ix (dv 6) dq)) (dr de_str) (nomark _));exact (Ss (O1:=[4]) (ds_set 7 nd (de_op op_addD (dr (de_op op_addD (dr (de_b1 call_lenD rfl T.b_len PySem.boot_len (dr (de_ix (dv 6) dq)))) (dr (de_ix (dv 3) (dv 5))))) (dr (de_b1 call_lenD rfl T.b_len PySem.boot_len (dr (de_ix (dv 6) dq)))))) (Ss (O1:=[4]) (ds_set 8 nd (dc c_put_word hr (dn 1 (dn 2 (dn 7 (Dk de_int Dz)))))) (So (ds_aug 5 nd (by decide) dq ip_addD))));exact (So (ds_set 8 nd (dc c_put_word hr (dn 1 (dn 2 (Dl (de_b1 call_lenD rfl T.b_len PySem.boot_len (dr (de_ix (dv 6) dq))) (Dl (de_b1 call_lenD rfl T.b_len PySem.boot_len (dr (de_ix (dv 6) dq))) Dz))))))));exact (Ss (O1:=[4]) (ds_app 4 (by decide) (de_ix (dv 8) dq)) (So (ds_set 2 nd (de_ix (dv 8) dq)))));exact Sn)));exact (dss_rel 4 (So (ds_ret (de_tup (dn 4 (Dl (dc c_end_line hr (dn 2 Dz)) Dz)) lz2))))))))
theorem sc_set_block:FnScope p_set_block p_set_block (defScope s_set_block):=by constructor<;>first | rfl | decide +kernel
theorem ok_set_block (h:Df K mg "set_block" s_set_block p_set_block) (T:Txt K mg) (c_new_chapter:C_new_chapter P w K mg base) (c_put_block:C_put_block P w K mg base) (c_put_plates:C_put_plates P w K mg base):C_set_block P w K mg base :=
 have nd:=(sc_set_block).nd
 okC (b:=b_set_block) (k:=3) (N:=p_set_block) (ps:=p_set_block) (O':=[]) (OL:=[]) h sc_set_block (fun f cdv A outer s H E hr=>(by refine Ss (O1:=[]) ?_ ?_;exact (ds_if (dt_cmp (op_eqD hr.units) (dr (de_ix (dv 0) dq)) (dr de_str) (nomark _)) (So (ds_ret (dc c_put_plates hr (dn 2 (Du (de_ix (dv 0) dq) Dz))))) Sn);exact (by refine Ss (O1:=[]) ?_ ?_;exact (ds_if (dt_cmp (op_eqD hr.units) (dr (de_ix (dv 0) dq)) (dr de_str) (nomark _)) (So (ds_ret (dc c_put_block hr (dn 1 (dn 2 (Dl (de_b1 call_lenD rfl T.b_len PySem.boot_len (dr (de_ix (dv 0) dq))) (Dk de_int Dz))))))) Sn);exact (Ss (O1:=[]) (ds_if (dt_cmp (op_eqD hr.units) (dr (de_ix (dv 0) dq)) (dr de_str) (nomark _)) (So (ds_ret (dc c_put_block hr (dn 1 (dn 2 (Dk de_int (Du (de_ix (dv 0) dq) Dz))))))) Sn) (So (ds_ret (dc c_put_block hr (dn 1 (Dl (dc c_new_chapter hr (dn 1 (dn 2 Dz))) (Dk de_int (Dk de_int Dz)))))))))))
theorem sc_set_book:FnScope N_set_book p_set_book (defScope s_set_book):=by constructor<;>first | rfl | decide +kernel
theorem ok_set_book (h:Df K mg "set_book" s_set_book p_set_book) (T:Txt K mg) (c_refs:C_refs P w K mg base) (c_set_block:C_set_block P w K mg base) (c_set_contents:C_set_contents P w K mg base) (c_set_items:C_set_items P w K mg base):C_set_book P w K mg base :=
 have nd:=(sc_set_book).nd
 okC (b:=b_set_book) (k:=4) (N:=N_set_book) (ps:=p_set_book) (O':=[]) (OL:=[]) h sc_set_book (fun f cdv A outer s H E hr=>(by refine Ss (O1:=[]) ?_ ?_;exact (ds_set 3 nd (dc c_set_contents hr (dn 0 (dn 1 Dz))));exact (by refine Ss (O1:=[4]) ?_ ?_;exact (ds_setO 4 nd (dO_lst (Du (de_ix (dv 3) dq) Dz) lz1));exact (by refine Ss (O1:=[4]) ?_ ?_;exact (ds_set 5 nd (de_ix (dv 3) dq));exact (by refine Ss (O1:=[4]) ?_ ?_;exact (ds_set 6 nd de_int);exact (by refine Ss (O1:=[4]) ?_ ?_;exact (by refine ds_for rfl PassesOwn.never ?_ ?_ ?_;exact (di_lst (de_var 0));exact dg_name 7 nd;exact (by refine Ss (O1:=[4]) ?_ ?_;exact (by refine ds_if ?_ ?_ ?_;exact (dt_cmp (op_eqD hr.units) (dr (de_ix (dv 7) dq)) (dr de_str) (nomark _));exact (Ss (O1:=[4]) (ds_set 3 nd (dc c_set_items hr (Du (de_ix (dv 7) dq) (dn 1 (dn 5 (Du (de_cutA (dv 2) (do_some (dv 6)) do_none) Dz)))))) (Ss (O1:=[4]) (ds_app 4 (by decide) (de_ix (dv 3) dq)) (So (ds_aug 6 nd (by decide) (dr (de_b1 call_lenD rfl T.b_len PySem.boot_len (dr (dc c_refs hr (da_List (de_lst (dn 7 Dz) lz1) Dz))))) ip_addD))));exact (Ss (O1:=[4]) (ds_set 3 nd (dc c_set_block hr (dn 7 (dn 1 (dn 5 Dz))))) (So (ds_app 4 (by decide) (de_lst (Du (de_ix (dv 3) dq) Dz) lz1)))));exact (So (ds_set 5 nd (de_ix (dv 3) dq)))));exact (dss_rel 4 (So (ds_ret (de_var 4))))))))))
theorem sc_pages_with:FnScope N_pages_with p_pages_with (defScope s_pages_with):=by constructor<;>first | rfl | decide +kernel
theorem ok_pages_with (h:Df K mg "pages_with" s_pages_with p_pages_with) (T:Txt K mg) (c_is_set:C_is_set P w K mg base):C_pages_with P w K mg base :=
 have nd:=(sc_pages_with).nd
 okC (b:=b_pages_with) (k:=1) (N:=N_pages_with) (ps:=p_pages_with) (O':=[]) (OL:=[]) h sc_pages_with (fun f cdv A outer s H E hr=>(by refine Ss (O1:=[3]) ?_ ?_;exact (ds_setO 3 nd (dO_lst Dz lz0));exact (by refine Ss (O1:=[3]) ?_ ?_;exact (ds_set 4 nd de_int);exact (by refine Ss (O1:=[3]) ?_ ?_;exact (by refine ds_for rfl PassesOwn.never ?_ ?_ ?_;exact (di_lst (de_var 0));exact dg_name 5 nd;exact (by refine So ?_;exact (ds_if (dt_val (dr (dc c_is_set hr (dn 5 Dz)))) (So (ds_aug 4 nd (by decide) dq ip_addD)) (So (ds_if (dt_cmp (op_eqD hr.units) (dr (de_ix (dv 5) dq)) (dv 2) (nomark _)) (So (ds_app 3 (by decide) (de_tup (Du (de_ix (dv 5) dq) (Du (de_ix (dr (de_ix (dv 1) (dv 4))) (dr (de_gint T.g_PAGE rfl))) Dz)) lz2))) Sn)))));exact (dss_rel 3 (So (ds_ret (de_var 3))))))))
theorem sc_label_pages:FnScope N_label_pages p_label_pages (defScope s_label_pages):=by constructor<;>first | rfl | decide +kernel
theorem ok_label_pages (h:Df K mg "label_pages" s_label_pages p_label_pages) (T:Txt K mg) (c_items_of:C_items_of P w K mg base) (c_label_of:C_label_of P w K mg base) (c_pages_with:C_pages_with P w K mg base):C_label_pages P w K mg base :=
 have nd:=(sc_label_pages).nd
 okC (b:=b_label_pages) (k:=2) (N:=N_label_pages) (ps:=p_label_pages) (O':=[]) (OL:=[]) h sc_label_pages (fun f cdv A outer s H E hr=>(by refine Ss (O1:=[2]) ?_ ?_;exact (ds_setO 2 nd dO_dict);exact (by refine Ss (O1:=[2]) ?_ ?_;exact (by refine ds_for rfl PassesOwn.never ?_ ?_ ?_;exact (di_zip rfl T.b_zip (de_var 0) (de_cutA (dv 1) (do_some dq) do_none));exact (dg_tup rfl (dgs_cons (O1:=[2]) (dg_name 3 nd) (dgs_cons (O1:=[2]) (dg_name 4 nd) dgs_nil)) rfl);exact (by refine Ss (O1:=[2]) ?_ ?_;exact (ds_if (dt_cmp (op_neD hr.units) (dr (dc c_label_of hr (dn 3 Dz))) (dr de_str) (nomark _)) (So (ds_dput 2 (by decide) hr.units1 (dr (dc c_label_of hr (dn 3 Dz))) (de_ix (dr (de_ix (dv 4) dq)) (dr (de_gint T.g_PAGE rfl))))) Sn);exact (So (ds_for rfl PassesOwn.never (di_lst (dc c_pages_with hr (Dl (dc c_items_of hr (dn 3 Dz)) (dn 4 (Dk de_str Dz))))) (dg_tup rfl (dgs_cons (O1:=[2]) (dg_name 5 nd) (dgs_cons (O1:=[2]) (dg_name 6 nd) dgs_nil)) rfl) (So (ds_dput 2 (by decide) hr.units1 (dv 5) (de_var 6)))))));exact (dss_rel 2 (So (ds_ret (de_var 2)))))))
theorem sc_laid:FnScope p_laid p_laid (defScope s_laid):=by constructor<;>first | rfl | decide +kernel
theorem ok_laid (h:Df K mg "laid" s_laid p_laid) (T:Txt K mg) (c_look:C_look P w K mg base) (c_set_book:C_set_book P w K mg base):C_laid P w K mg base :=
 have nd:=(sc_laid).nd
 okC (b:=b_laid) (k:=5) (N:=p_laid) (ps:=p_laid) (O':=[]) (OL:=[]) h sc_laid (fun f cdv A outer s H E hr=>(Ss (O1:=[]) (ds_expr (dc c_look hr (dn 0 (dn 1 Dz)))) (So (ds_ret (dc c_set_book hr (dn 0 (dn 1 (dn 2 Dz))))))))
theorem sc_pages_of:FnScope p_pages_of p_pages_of (defScope s_pages_of):=by constructor<;>first | rfl | decide +kernel
theorem ok_pages_of (h:Df K mg "pages_of" s_pages_of p_pages_of) (T:Txt K mg) (c_label_pages:C_label_pages P w K mg base) (c_laid:C_laid P w K mg base):C_pages_of P w K mg base :=
 have nd:=(sc_pages_of).nd
 okC (b:=b_pages_of) (k:=6) (N:=p_pages_of) (ps:=p_pages_of) (O':=[]) (OL:=[]) h sc_pages_of (fun f cdv A outer s H E hr=>(So (ds_ret (dc c_label_pages hr (dn 0 (Dl (dc c_laid hr (dn 0 (dn 1 (dn 2 Dz)))) Dz))))))
theorem sc_Lcell_at:FnScope p_Lcell_at p_Lcell_at (defScope s_Lcell_at):=by constructor<;>first | rfl | decide +kernel
theorem ok_Lcell_at (h:Df K mg "_law_cell_at" s_Lcell_at p_Lcell_at) (T:Txt K mg):C_Lcell_at P w K mg base :=
 have nd:=(sc_Lcell_at).nd
 okC (b:=b_Lcell_at) (k:=0) (N:=p_Lcell_at) (ps:=p_Lcell_at) (O':=[]) (OL:=[]) h sc_Lcell_at (fun f cdv A outer s H E hr=>(Ss (O1:=[]) (ds_if (dt_cmp op_ltD (dv 1) (dr (de_b1 call_lenD rfl T.b_len PySem.boot_len (dv 0))) (nomark _)) (So (ds_ret (de_ix (dv 0) (dv 1)))) Sn) (So (ds_ret de_int))))
theorem sc_Lwhole:FnScope p_Lwhole p_Lwhole (defScope s_Lwhole):=by constructor<;>first | rfl | decide +kernel
theorem ok_Lwhole (h:Df K mg "_law_whole" s_Lwhole p_Lwhole) (T:Txt K mg):C_Lwhole P w K mg base :=
 have nd:=(sc_Lwhole).nd
 okC (b:=b_Lwhole) (k:=0) (N:=p_Lwhole) (ps:=p_Lwhole) (O':=[]) (OL:=[]) h sc_Lwhole (fun f cdv A outer s H E hr=>(So (ds_ret (de_and (dr (de_inst (kit_int _) rfl T.b_isinstance PyProof.Rows.boot_isinstance rfl T.b_int PyProof.Rows.boot_int (dv 0))) (de_one (de_not (dr (de_inst (kit_bool _) rfl T.b_isinstance PyProof.Rows.boot_isinstance rfl T.b_bool PyProof.Rows.boot_bool (dv 0)))))))))
theorem sc_Lmix:FnScope N_Lmix p_Lmix (defScope s_Lmix):=by constructor<;>first | rfl | decide +kernel
theorem ok_Lmix (h:Df K mg "_law_mix" s_Lmix p_Lmix) (T:Txt K mg):C_Lmix P w K mg base :=
 have nd:=(sc_Lmix).nd
 okC (b:=b_Lmix) (k:=0) (N:=N_Lmix) (ps:=p_Lmix) (O':=[]) (OL:=[]) h sc_Lmix (fun f cdv A outer s H E hr=>(Ss (O1:=[]) (ds_set 2 nd (de_op op_modD (dr (de_op op_mulA (dr (de_op op_addD (dr (de_op op_addD (dr (de_op op_modD (dv 0) dq)) (dr (de_op op_mulA (dr (de_op op_mulA (dv 1) (dv 1))) dq)))) dq)) dq)) dq)) (So (ds_ret (de_op op_modD (dr (de_op op_addD (dr (de_op op_mulA (dv 2) (dv 2))) (dr (de_op op_mulA dq (dv 1))))) dq)))))
theorem sc_Llabel:FnScope N_Llabel p_Llabel (defScope s_Llabel):=by constructor<;>first | rfl | decide +kernel
theorem ok_Llabel (h:Df K mg "_law_label" s_Llabel p_Llabel) (T:Txt K mg):C_Llabel P w K mg base :=
 have nd:=(sc_Llabel).nd
 okC (b:=b_Llabel) (k:=0) (N:=N_Llabel) (ps:=p_Llabel) (O':=[]) (OL:=[]) h sc_Llabel (fun f cdv A outer s H E hr=>(by refine Ss (O1:=[]) ?_ ?_;exact (ds_set 1 nd de_str);exact (by refine So ?_;exact (by refine ds_ret ?_;exact (de_op op_addD (dr (de_op op_addD (dr (de_op op_addD (dr (de_cutA (dr de_str) do_none (do_some (dr (de_op op_modD (dr (de_op op_mulA (dv 0) dq)) dq))))) (dr (de_ix (dv 1) (dr (de_op op_modD (dr (de_op op_fdivD (dv 0) dq)) dq)))))) (dr (de_ix (dv 1) (dr (de_op op_modD (dv 0) dq)))))) (dr (de_cutA (dr de_str) do_none (do_some (dr (de_op op_modD (dr (de_op op_mulA (dv 0) dq)) dq))))))))))
theorem sc_Lplates:FnScope N_Lplates p_Lplates (defScope s_Lplates):=by constructor<;>first | rfl | decide +kernel
theorem ok_Lplates (h:Df K mg "_law_plates" s_Lplates p_Lplates) (T:Txt K mg):C_Lplates P w K mg base :=
 have nd:=(sc_Lplates).nd
 okC (b:=b_Lplates) (k:=0) (N:=N_Lplates) (ps:=p_Lplates) (O':=[]) (OL:=[]) h sc_Lplates (fun f cdv A outer s H E hr=>(by refine Ss (O1:=[]) ?_ ?_;exact (ds_set 2 nd de_int);exact (by refine Ss (O1:=[]) ?_ ?_;exact (ds_for rfl PassesOwn.never (di_rng rfl T.b_range (dr (de_op op_modD (dr (de_op op_fdivD (dv 1) dq)) dq))) (dg_name 3 nd) (So (ds_set 2 nd (de_op op_mulA (dv 2) dq))));exact (by refine Ss (O1:=[]) ?_ ?_;exact (ds_if (dt_cmp (op_eqD hr.units) (dr (de_op op_modD (dr (de_op op_fdivD (dv 1) dq)) dq)) dq (nomark _)) (So (ds_set 2 nd (de_op op_powD dq dq))) Sn);exact (by refine So ?_;exact (by refine ds_ret ?_;exact (by refine de_ix ?_ ?_;exact (by refine dr ?_;exact (by refine de_lst ?_ ?_;exact (Db (de_op op_addD dq (dr (de_op op_modD (dr (de_op op_fdivD (dv 1) dq)) dq))) (Db (de_op op_subD (dr (de_op op_subD (dv 2) dq)) (dr (de_op op_modD (dr (de_op op_fdivD (dv 1) dq)) dq))) (Db (de_op op_addD dq (dr (de_op op_modD (dv 0) (dr (de_op op_powD dq dq))))) Dz)));exact lz3));exact (dr (de_op op_modD (dr (de_op op_fdivD (dv 1) dq)) dq)))))))))
theorem sc_Lsigns:FnScope N_Lsigns p_Lsigns (defScope s_Lsigns):=by constructor<;>first | rfl | decide +kernel
theorem ok_Lsigns (h:Df K mg "_law_signs" s_Lsigns p_Lsigns) (T:Txt K mg):C_Lsigns P w K mg base :=
 have nd:=(sc_Lsigns).nd
 okC (b:=b_Lsigns) (k:=0) (N:=N_Lsigns) (ps:=p_Lsigns) (O':=[]) (OL:=[]) h sc_Lsigns (fun f cdv A outer s H E hr=>(by refine Ss (O1:=[]) ?_ ?_;exact (ds_set 3 nd de_str);exact (by refine Ss (O1:=[]) ?_ ?_;exact (ds_set 3 nd (de_op op_addD (dv 3) (dr de_str)));exact (by refine Ss (O1:=[]) ?_ ?_;exact (ds_set 4 nd de_str);exact (by refine Ss (O1:=[]) ?_ ?_;exact (by refine ds_for rfl PassesOwn.never ?_ ?_ ?_;exact (di_rng rfl T.b_range (dv 1));exact dg_name 5 nd;exact (by refine Ss (O1:=[]) ?_ ?_;exact (ds_set 6 nd (de_op op_addD (dr (de_op op_addD (dr (de_op op_fdivD (dv 0) dq)) (dr (de_op op_mulA (dv 5) (dr (de_op op_addD dq (dr (de_op op_modD (dv 0) dq)))))))) (dr (de_op op_mulA (dv 5) (dv 5)))));exact (by refine Ss (O1:=[]) ?_ ?_;exact (ds_set 7 nd (de_ix (dv 3) (dr (de_op op_modD (dv 6) (dr (de_op op_addD (dr (de_op op_subD (dr (de_b1 call_lenD rfl T.b_len PySem.boot_len (dv 3))) dq)) (dv 2)))))));exact (Ss (O1:=[]) (ds_if (PW.pt (dw_and (dt_cmp (op_eqD hr.units) (dv 2) dq (nomark _)) (dw_one (dt_cmp (op_eqD hr.units) (dr (de_op op_modD (dr (de_op op_addD (dr (de_op op_fdivD (dv 0) dq)) (dv 5))) dq)) dq (nomark _))))) (So (ds_set 7 nd de_str)) Sn) (So (ds_set 4 nd (de_op op_addD (dv 4) (dv 7))))))));exact (So (ds_ret (de_var 4))))))))
theorem sc_Latom:FnScope N_Latom p_Latom (defScope s_Latom):=by constructor<;>first | rfl | decide +kernel
theorem ok_Latom (h:Df K mg "_law_atom" s_Latom p_Latom) (T:Txt K mg) (c_Llabel:C_Llabel P w K mg base) (c_Lmix:C_Lmix P w K mg base) (c_Lplates:C_Lplates P w K mg base) (c_Lsigns:C_Lsigns P w K mg base):C_Latom P w K mg base :=
 have nd:=(sc_Latom).nd
 okC (b:=b_Latom) (k:=1) (N:=N_Latom) (ps:=p_Latom) (O':=[]) (OL:=[]) h sc_Latom (fun f cdv A outer s H E hr=>(by refine Ss (O1:=[]) ?_ ?_;exact (ds_set 2 nd (dc c_Lmix hr (dn 0 (Db (de_op op_addD (dv 1) dq) Dz))));exact (by refine Ss (O1:=[]) ?_ ?_;exact (ds_set 3 nd (de_op op_modD (dv 2) dq));exact (by refine Ss (O1:=[]) ?_ ?_;exact (ds_set 4 nd (de_op op_addD dq (dr (de_op op_modD (dr (de_op op_fdivD (dv 2) dq)) (dr (de_ix (dr (de_lst (Dk de_int (Dk de_int Dz)) lz2)) (dr (de_ty1 call_intD rfl T.b_int PyProof.Rows.boot_int (dr (de_cmp (op_eqD hr.units) (dr (de_op op_modD (dr (de_op op_fdivD (dv 2) dq)) dq)) dq (nomark _)))))))))));exact (by refine Ss (O1:=[]) ?_ ?_;exact (ds_set 5 nd (de_op op_addD dq (dr (de_op op_modD (dr (de_op op_fdivD (dv 2) dq)) (dr (de_ix (dr (de_lst (Dk de_int (Dk de_int Dz)) lz2)) (dr (de_ty1 call_intD rfl T.b_int PyProof.Rows.boot_int (dr (de_cmp (op_eqD hr.units) (dr (de_op op_modD (dr (de_op op_fdivD (dv 2) dq)) dq)) dq (nomark _)))))))))));exact (by refine Ss (O1:=[]) ?_ ?_;exact (ds_set 6 nd (dc c_Lsigns hr (Db (de_op op_fdivD (dv 2) dq) (dn 4 (Dk de_int Dz)))));exact (by refine Ss (O1:=[]) ?_ ?_;exact (ds_set 7 nd (dc c_Lsigns hr (Db (de_op op_fdivD (dv 2) dq) (dn 4 (Dk de_int Dz)))));exact (by refine Ss (O1:=[]) ?_ ?_;exact (ds_set 8 nd (dc c_Llabel hr (dn 1 Dz)));exact (by refine Ss (O1:=[]) ?_ ?_;exact (ds_set 9 nd (de_var 8));exact (by refine Ss (O1:=[]) ?_ ?_;exact (ds_if (dt_cmp (op_eqD hr.units) (dr (de_op op_modD (dr (de_op op_fdivD (dv 2) dq)) dq)) dq (nomark _)) (So (ds_set 9 nd de_str)) Sn);exact (by refine Ss (O1:=[]) ?_ ?_;exact (ds_if (dt_cmp (op_eqD hr.units) (dv 3) dq (nomark _)) (So (ds_ret (de_tup (Dk de_str (Db (de_op op_addD (dr (de_ix (dv 7) dq)) (dr (de_strip (dv 6)))) (dn 9 Dz))) lz3))) Sn);exact (by refine Ss (O1:=[]) ?_ ?_;exact (ds_if (dt_cmp (op_eqD hr.units) (dv 3) dq (nomark _)) (So (ds_ret (de_tup (Dk de_str (Db (de_op op_addD (dr (de_ix (dv 7) dq)) (dr (de_strip (dv 6)))) (Db (de_op op_subD (dv 5) dq) (dn 9 Dz)))) lz4))) Sn);exact (by refine Ss (O1:=[]) ?_ ?_;exact (by refine ds_if ?_ ?_ ?_;exact (dt_cmp (op_eqD hr.units) (dv 3) dq (nomark _));exact (by refine So ?_;exact (by refine ds_ret ?_;exact (by refine de_tup ?_ ?_;exact (by refine Dk ?_ ?_;exact de_str;exact (by refine da_ListComp ?_ ?_;exact (by refine de_ofO ?_;exact (by refine dO_comp rfl rfl (compSc_of (show compOk (defScope s_Latom) ["_law_cell","_law_k","_law_number","_law_kind","_law_size","_law_many","_law_text","_law_word","_law_label_here","_law_name"] _ 1 ["_law_j","_law_text","_law_size"] [6,4]=true by decide +kernel)) (by decide) ?_ ?_ ?_ ?_;exact (dih (di_rng rfl T.b_range (dv 5)));exact fun cl C ex s2 H2 pn=>dg_name 0 (show List.Nodup (["_law_j","_law_text","_law_size"]:List Str) by decide +kernel);exact fun cl C ex s2 H2 pn=>dif_none;exact fun cl C ex s2 H2 pn=>(de_cutA (dv 1) do_none (do_some (dr (de_b2 (call_maxD rfl) rfl T.b_max PyProof.Rows.boot_max dq (dr (de_op op_subD (dv 2) (dv 0)))))))));exact (dn 9 Dz)));exact lz3)));exact Sn);exact (by refine Ss (O1:=[]) ?_ ?_;exact (ds_if (dt_cmp (op_eqD hr.units) (dv 3) dq (nomark _)) (So (ds_ret (de_tup (Dk de_str (Dl (dc c_Lplates hr (dn 0 (dn 2 Dz))) (dn 9 Dz))) lz3))) Sn);exact (by refine Ss (O1:=[]) ?_ ?_;exact (ds_if (dt_cmp (op_eqD hr.units) (dv 3) dq (nomark _)) (So (ds_ret (de_tup (Dk de_str (Dk de_str (Dk de_str Dz))) lz3))) Sn);exact (by refine Ss (O1:=[]) ?_ ?_;exact (ds_if (dt_cmp op_ltD (dv 3) dq (nomark _)) (So (ds_ret (de_tup (Dk de_str (dn 8 Dz)) lz2))) Sn);exact (by refine Ss (O1:=[]) ?_ ?_;exact (ds_if (dt_cmp (op_eqD hr.units) (dv 3) dq (nomark _)) (So (ds_ret (de_tup (Dk de_str (Du (de_cutA (dr (de_op op_mulA (dv 7) dq)) do_none (do_some (dr (de_op op_addD dq (dr (de_op op_modD (dr (de_op op_fdivD (dv 2) dq)) dq)))))) Dz)) lz2))) Sn);exact (by refine Ss (O1:=[]) ?_ ?_;exact (by refine ds_if ?_ ?_ ?_;exact (dt_cmp op_ltD (dv 3) dq (nomark _));exact (by refine So ?_;exact (by refine ds_ret ?_;exact (by refine de_tup ?_ ?_;exact (by refine Dk ?_ ?_;exact de_str;exact (Dk de_str (Du (de_cutA (dv 7) do_none (do_some (dr (de_op op_modD (dr (de_op op_fdivD (dv 2) dq)) dq)))) (Dl (dc c_Lsigns hr (Db (de_op op_fdivD (dv 2) dq) (Db (de_op op_modD (dr (de_op op_fdivD (dv 2) dq)) dq) (Dk de_int Dz)))) Dz))));exact lz4)));exact Sn);exact (by refine Ss (O1:=[]) ?_ ?_;exact (by refine ds_if ?_ ?_ ?_;exact (dt_cmp (op_eqD hr.units) (dv 3) dq (nomark _));exact (by refine So ?_;exact (by refine ds_ret ?_;exact (by refine de_tup ?_ ?_;exact (by refine Dk ?_ ?_;exact de_str;exact (by refine da_Name ?_ ?_;exact de_var 7;exact (by refine da_ListComp ?_ ?_;exact (by refine de_ofO ?_;exact (by refine dO_comp rfl rfl (compSc_of (show compOk (defScope s_Latom) ["_law_cell","_law_k","_law_number","_law_kind","_law_size","_law_many","_law_text","_law_word","_law_label_here","_law_name"] _ 1 ["_law_j","_law_text"] [6]=true by decide +kernel)) (by decide) ?_ ?_ ?_ ?_;exact (dih (di_rng rfl T.b_range (dv 5)));exact fun cl C ex s2 H2 pn=>dg_name 0 (show List.Nodup (["_law_j","_law_text"]:List Str) by decide +kernel);exact fun cl C ex s2 H2 pn=>dif_none;exact fun cl C ex s2 H2 pn=>(de_cutA (dv 1) (do_some (dv 0)) do_none)));exact Dz)));exact lz3)));exact Sn);exact (So (ds_ret (de_tup (Dk de_str (dn 7 (da_List (de_lst Dz lz0) Dz))) lz3))))))))))))))))))))))
theorem sc_Lpointed:FnScope N_Lpointed p_Lpointed (defScope s_Lpointed):=by constructor<;>first | rfl | decide +kernel
theorem ok_Lpointed (h:Df K mg "_law_pointed" s_Lpointed p_Lpointed) (T:Txt K mg) (c_Lmix:C_Lmix P w K mg base):C_Lpointed P w K mg base :=
 have nd:=(sc_Lpointed).nd
 okC (b:=b_Lpointed) (k:=1) (N:=N_Lpointed) (ps:=p_Lpointed) (O':=[]) (OL:=[]) h sc_Lpointed (fun f cdv A outer s H E hr=>(by refine Ss (O1:=[2]) ?_ ?_;exact (ds_setO 2 nd (dO_lst Dz lz0));exact (by refine Ss (O1:=[2]) ?_ ?_;exact (by refine ds_for rfl PassesOwn.never ?_ ?_ ?_;exact (di_lst (de_var 0));exact dg_name 3 nd;exact (by refine So ?_;exact (by refine ds_if ?_ ?_ ?_;exact (dt_cmp (op_eqD hr.units) (dr (de_ix (dv 3) dq)) (dr de_str) (nomark _));exact (So (ds_app 2 (by decide) (de_ix (dv 3) dq)));exact (by refine So ?_;exact (ds_if (PW.pt (dw_and (dt_cmp op_notInD (dr (de_ix (dv 3) dq)) (dr (de_lst (Dk de_str (Dk de_str (Dk de_str (Dk de_str Dz)))) lz4)) (by with_unfolding_all rfl)) (dw_one (dt_cmp (op_neD hr.units) (dr (de_ix (dv 3) (dr (de_neg dq)))) (dr de_str) (nomark _))))) (So (ds_app 2 (by decide) (de_ix (dv 3) (dr (de_neg dq))))) Sn)))));exact (by refine Ss (O1:=[2,4]) ?_ ?_;exact (ds_setO 4 nd (dO_lst Dz lz0));exact (by refine Ss (O1:=[2,4]) ?_ ?_;exact (by refine ds_for rfl PassesOwn.never ?_ ?_ ?_;exact (di_enum rfl T.b_enumerate (de_var 0));exact (dg_tup rfl (dgs_cons (O1:=[2,4]) (dg_name 5 nd) (dgs_cons (O1:=[2,4]) (dg_name 3 nd) dgs_nil)) rfl);exact (by refine So ?_;exact (by refine ds_if ?_ ?_ ?_;exact (PW.pt (dw_and (dt_cmp (op_eqD hr.units) (dr (de_ix (dv 3) dq)) (dr de_str) (nomark _)) (dw_one (dt_cmp (op_eqD hr.units) (dr_var 2) (dr (de_lst Dz lz0)) (nomark _)))));exact (So (ds_app 4 (by decide) (de_tup (Dk de_str (Dk de_str (da_List (de_lst Dz lz0) Dz))) lz3)));exact (by refine So ?_;exact (by refine ds_if ?_ ?_ ?_;exact (dt_cmp (op_eqD hr.units) (dr (de_ix (dv 3) dq)) (dr de_str) (nomark _));exact (Ss (O1:=[2,4]) (ds_set 6 nd (de_ix (dr_var 2) (dr (de_op op_modD (dr (dc c_Lmix hr (Du (de_ix (dv 1) (dv 5)) (Db (de_op op_addD (dv 5) dq) Dz)))) (dr (de_b1 call_lenD rfl T.b_len PySem.boot_len (dr_var 2))))))) (So (ds_app 4 (by decide) (de_tup (Dk de_str (dn 6 (Du (de_ix (dv 3) dq) (Du (de_ix (dv 3) dq) Dz)))) lz4))));exact (So (ds_app 4 (by decide) (de_var 3))))))));exact (dss_rel 4 (So (ds_ret (de_var 4)))))))))
theorem sc_Lgrouped:FnScope N_Lgrouped p_Lgrouped (defScope s_Lgrouped):=by constructor<;>first | rfl | decide +kernel
theorem ok_Lgrouped (h:Df K mg "_law_grouped" s_Lgrouped p_Lgrouped) (T:Txt K mg):C_Lgrouped P w K mg base :=
 have nd:=(sc_Lgrouped).nd
 okC (b:=b_Lgrouped) (k:=0) (N:=N_Lgrouped) (ps:=p_Lgrouped) (O':=[]) (OL:=[]) h sc_Lgrouped (fun f cdv A outer s H E hr=>(by refine Ss (O1:=[1]) ?_ ?_;exact (ds_setO 1 nd (dO_lst Dz lz0));exact (by refine Ss (O1:=[1,2]) ?_ ?_;exact (ds_setO 2 nd (dO_lst Dz lz0));exact (by refine Ss (O1:=[1,2]) ?_ ?_;exact (by refine ds_for rfl PassesOwn.never ?_ ?_ ?_;exact (di_lst (de_op op_addD (dv 0) (dr (de_lst (Dt (de_tup (Dk de_str (Dk de_str (Dk de_str Dz))) lz3) Dz) lz1))));exact dg_name 3 nd;exact (by refine Ss (O1:=[1,2]) ?_ ?_;exact (ds_if (dt_cmp op_inD (dr (de_ix (dv 3) dq)) (dr (de_lst (Dk de_str (Dk de_str (Dk de_str (Dk de_str Dz)))) lz4)) (by with_unfolding_all rfl)) (Ss (O1:=[1,2]) (ds_app 2 (by decide) (de_var 3)) (So ds_cont)) Sn);exact (by refine Ss (O1:=[1,2]) ?_ ?_;exact (ds_if (PW.pt (dw_and (dt_cmp (op_neD hr.units) (dr_var 2) (dr (de_lst Dz lz0)) (nomark _)) (dw_one (dt_cmp op_inD (dr (de_ix (dr (de_ix (dr_var 2) (dr (de_neg dq)))) dq)) (dr (de_lst (Dk de_str (Dk de_str Dz)) lz2)) (by with_unfolding_all rfl))))) (So (ds_app 2 (by decide) (de_tup (Dk de_str (Dk de_str (da_List (de_lst Dz lz0) Dz))) lz3))) Sn);exact (Ss (O1:=[1]) (ds_if (PW.pt (dw_or (dt_cmp (op_neD hr.units) (dr_var 2) (dr (de_lst Dz lz0)) (nomark _)) (dw_one (dt_cmp (op_eqD hr.units) (dr (de_ix (dv 3) dq)) (dr de_str) (nomark _))))) (dss_rel 2 (So (ds_app 1 (by decide) (de_tup (Dk de_str (dn 2 Dz)) lz2)))) (dss_relE 2 [1,2] Sn)) (Ss (O1:=[1,2]) (ds_setO 2 nd (dO_lst Dz lz0)) (So (ds_if (dt_cmp op_notInD (dr (de_ix (dv 3) dq)) (dr (de_lst (Dk de_str (Dk de_str Dz)) lz2)) (by with_unfolding_all rfl)) (So (ds_app 1 (by decide) (de_var 3))) Sn)))))));exact (dss_rel 1 (So (ds_ret (de_var 1))))))))
theorem sc_Ledge:FnScope N_Ledge p_Ledge (defScope s_Ledge):=by constructor<;>first | rfl | decide +kernel
theorem ok_Ledge (h:Df K mg "_law_edge" s_Ledge p_Ledge) (T:Txt K mg) (c_Lcell_at:C_Lcell_at P w K mg base) (c_Lmix:C_Lmix P w K mg base):C_Ledge P w K mg base :=
 have nd:=(sc_Ledge).nd
 okC (b:=b_Ledge) (k:=1) (N:=N_Ledge) (ps:=p_Ledge) (O':=[]) (OL:=[]) h sc_Ledge (fun f cdv A outer s H E hr=>(by refine Ss (O1:=[]) ?_ ?_;exact (ds_if (PW.pt (dw_or (dt_val (dr (de_ix (dv 1) dq))) (dw_one (dt_cmp (op_neD hr.units) (dr (de_op op_modD (dr (dc c_Lcell_at hr (dn 0 (Dk de_int Dz)))) dq)) dq (nomark _))))) (So (ds_ret (de_lst Dz lz0))) Sn);exact (by refine Ss (O1:=[]) ?_ ?_;exact (ds_set 2 nd (de_op op_addD dq (dr (de_op op_modD (dr (dc c_Lmix hr (Dl (dc c_Lcell_at hr (dn 0 (Dk de_int Dz))) (Dk de_int Dz)))) dq))));exact (by refine Ss (O1:=[]) ?_ ?_;exact (ds_set 3 nd de_int);exact (by refine Ss (O1:=[]) ?_ ?_;exact (ds_for rfl PassesOwn.never (di_rng rfl T.b_range (dv 2)) (dg_name 4 nd) (So (ds_set 3 nd (de_op op_mulA (dv 3) dq))));exact (by refine Ss (O1:=[]) ?_ ?_;exact (by refine ds_set 5 nd ?_;exact (by refine de_lst ?_ ?_;exact (Dt (de_tup (Dk de_str (Db (de_op op_mulA (dr de_str) (dr (de_b2 (call_maxD rfl) rfl T.b_max PyProof.Rows.boot_max dq (dr (de_op op_subD (dr (de_op op_subD (dr (de_ix (dv 1) dq)) dq)) (dv 2)))))) (da_List (de_lst Dz lz0) Dz))) lz3) (Dt (de_tup (Dk de_str (Dk de_str Dz)) lz2) (Dt (de_tup (Dk de_str (Dk de_str (Dk de_str (Dk de_str Dz)))) lz4) Dz)));exact lz3));exact (by refine So ?_;exact (by refine ds_ret ?_;exact (by refine de_lst ?_ ?_;exact (by refine Dt ?_ ?_;exact (de_tup (Dk de_str (Db (de_op op_subD (dv 3) dq) (Dk de_str Dz))) lz3);exact (by refine Dt ?_ ?_;exact (by refine de_tup ?_ ?_;exact (by refine Dk ?_ ?_;exact de_str;exact (by refine da_ListComp ?_ ?_;exact (by refine de_ofO ?_;exact (by refine dO_comp rfl rfl (compSc_of (show compOk (defScope s_Ledge) ["_law_script","_law_style","_law_many","_law_ten","_law_k","_law_row"] _ 1 ["_law_k"] []=true by decide +kernel)) (by decide) ?_ ?_ ?_ ?_;exact (dih (di_rng rfl T.b_range (dr (de_op op_subD (dr (de_ix (dv 1) dq)) dq))));exact fun cl C ex s2 H2 pn=>dg_name 0 (show List.Nodup (["_law_k"]:List Str) by decide +kernel);exact fun cl C ex s2 H2 pn=>dif_none;exact fun cl C ex s2 H2 pn=>de_str));exact (Dk de_str Dz)));exact lz3);exact (Dt (de_tup (Dk de_str (dn 5 Dz)) lz2) Dz)));exact lz3)))))))))
theorem sc_Lneeds:FnScope N_Lneeds p_Lneeds (defScope s_Lneeds):=by constructor<;>first | rfl | decide +kernel
theorem ok_Lneeds (h:Df K mg "_law_needs" s_Lneeds p_Lneeds) (T:Txt K mg):C_Lneeds P w K mg base :=
 have nd:=(sc_Lneeds).nd
 okC (b:=b_Lneeds) (k:=0) (N:=N_Lneeds) (ps:=p_Lneeds) (O':=[]) (OL:=[]) h sc_Lneeds (fun f cdv A outer s H E hr=>(by refine Ss (O1:=[]) ?_ ?_;exact (ds_set 2 nd de_int);exact (by refine Ss (O1:=[]) ?_ ?_;exact (ds_set 3 nd de_int);exact (by refine Ss (O1:=[]) ?_ ?_;exact (by refine ds_for rfl PassesOwn.never ?_ ?_ ?_;exact (di_lst (de_var 0));exact dg_name 4 nd;exact (by refine Ss (O1:=[]) ?_ ?_;exact (ds_if (PW.pt (dw_or (dt_cmp (op_eqD hr.units) (dr (de_ix (dv 4) dq)) (dr de_str) (nomark _)) (dw_one (dt_cmp (op_eqD hr.units) (dr (de_ix (dv 4) dq)) (dr de_str) (nomark _))))) (So (ds_set 2 nd (de_b2 (call_maxD rfl) rfl T.b_max PyProof.Rows.boot_max (dv 2) (dr (de_op op_addD (dr (de_op op_addD (dr (de_b1 call_lenD rfl T.b_len PySem.boot_len (dr (de_ix (dv 4) dq)))) dq)) (dv 1)))))) Sn);exact (by refine Ss (O1:=[]) ?_ ?_;exact (ds_if (dt_cmp (op_eqD hr.units) (dr (de_ix (dv 4) dq)) (dr de_str) (nomark _)) (So (ds_set 3 nd (de_b2 (call_maxD rfl) rfl T.b_max PyProof.Rows.boot_max (dv 3) (dr (de_op op_addD (dr (de_ix (dv 4) dq)) dq))))) Sn);exact (by refine Ss (O1:=[]) ?_ ?_;exact (by refine ds_if ?_ ?_ ?_;exact (dt_cmp (op_eqD hr.units) (dr (de_ix (dv 4) dq)) (dr de_str) (nomark _));exact (by refine Ss (O1:=[]) ?_ ?_;exact (ds_set 3 nd (de_b2 (call_maxD rfl) rfl T.b_max PyProof.Rows.boot_max (dv 3) (dr (de_b1 call_lenD rfl T.b_len PySem.boot_len (dr (de_ix (dv 4) dq))))));exact (by refine So ?_;exact (by refine ds_set 2 nd ?_;exact (by refine de_b1 (call_maxL rfl) rfl T.b_max PyProof.Rows.boot_max ?_;exact (by refine dr ?_;exact (by refine de_op op_addD ?_ ?_;exact (dr (de_lst (dn 2 Dz) lz1));exact (by refine dr ?_;exact (by refine de_ofO ?_;exact (by refine dO_comp rfl rfl (compSc_of (show compOk (defScope s_Lneeds) ["_law_book","_law_most_here","_law_wide","_law_high","_law_block","_law_notes","_law_rows"] _ 1 ["_law_row"] []=true by decide +kernel)) (by decide) ?_ ?_ ?_ ?_;exact (dih (di_lst (de_ix (dv 4) dq)));exact fun cl C ex s2 H2 pn=>dg_name 0 (show List.Nodup (["_law_row"]:List Str) by decide +kernel);exact fun cl C ex s2 H2 pn=>dif_none;exact fun cl C ex s2 H2 pn=>(de_b1 call_lenD rfl T.b_len PySem.boot_len (dv 0)))))))))));exact Sn);exact (by refine So ?_;exact (by refine ds_if ?_ ?_ ?_;exact (dt_cmp (op_eqD hr.units) (dr (de_ix (dv 4) dq)) (dr de_str) (nomark _));exact (by refine Ss (O1:=[]) ?_ ?_;exact (by refine ds_set 2 nd ?_;exact (by refine de_b1 (call_maxL rfl) rfl T.b_max PyProof.Rows.boot_max ?_;exact (by refine dr ?_;exact (by refine de_op op_addD ?_ ?_;exact (dr (de_lst (dn 2 Dz) lz1));exact (by refine dr ?_;exact (by refine de_ofO ?_;exact (by refine dO_comp rfl rfl (compSc_of (show compOk (defScope s_Lneeds) ["_law_book","_law_most_here","_law_wide","_law_high","_law_block","_law_notes","_law_rows"] _ 1 ["_law_item","_law_most_here"] [1]=true by decide +kernel)) (by decide) ?_ ?_ ?_ ?_;exact (dih (di_lst (de_ix (dv 4) dq)));exact fun cl C ex s2 H2 pn=>dg_name 0 (show List.Nodup (["_law_item","_law_most_here"]:List Str) by decide +kernel);exact fun cl C ex s2 H2 pn=>(dif_one (dt_cmp (op_eqD hr.units) (dr (de_ix (dv 0) dq)) (dr de_str) (nomark _)));exact fun cl C ex s2 H2 pn=>(de_op op_addD (dr (de_op op_addD (dr (de_b1 call_lenD rfl T.b_len PySem.boot_len (dr (de_ix (dv 0) dq)))) (dv 1))) (dr (de_b1 call_lenD rfl T.b_len PySem.boot_len (dr (de_ix (dv 0) dq))))))))))));exact (by refine Ss (O1:=[]) ?_ ?_;exact (by refine ds_set 2 nd ?_;exact (by refine de_b1 (call_maxL rfl) rfl T.b_max PyProof.Rows.boot_max ?_;exact (by refine dr ?_;exact (by refine de_op op_addD ?_ ?_;exact (dr (de_lst (dn 2 Dz) lz1));exact (by refine dr ?_;exact (by refine de_ofO ?_;exact (by refine dO_comp rfl rfl (compSc_of (show compOk (defScope s_Lneeds) ["_law_book","_law_most_here","_law_wide","_law_high","_law_block","_law_notes","_law_rows"] _ 1 ["_law_item"] []=true by decide +kernel)) (by decide) ?_ ?_ ?_ ?_;exact (dih (di_lst (de_ix (dv 4) dq)));exact fun cl C ex s2 H2 pn=>dg_name 0 (show List.Nodup (["_law_item"]:List Str) by decide +kernel);exact fun cl C ex s2 H2 pn=>(dif_one (dt_cmp (op_eqD hr.units) (dr (de_ix (dv 0) dq)) (dr de_str) (nomark _)));exact fun cl C ex s2 H2 pn=>(de_b1 call_lenD rfl T.b_len PySem.boot_len (dr (de_ix (dv 0) dq))))))))));exact (by refine Ss (O1:=[5]) ?_ ?_;exact (by refine ds_setComp 5 nd rfl rfl (compSc_of (show compOk (defScope s_Lneeds) ["_law_book","_law_most_here","_law_wide","_law_high","_law_block","_law_notes","_law_rows"] _ 1 ["_law_item"] []=true by decide +kernel)) (by decide) ?_ ?_ ?_ ?_;exact (dih (di_lst (de_ix (dv 4) dq)));exact fun cl C ex s2 H2 pn=>dg_name 0 (show List.Nodup (["_law_item"]:List Str) by decide +kernel);exact fun cl C ex s2 H2 pn=>(dif_one (dt_cmp (op_eqD hr.units) (dr (de_ix (dv 0) dq)) (dr de_str) (nomark _)));exact fun cl C ex s2 H2 pn=>(de_ix (dv 0) dq));exact (by refine Ss (O1:=[5]) ?_ ?_;exact (by refine ds_set 3 nd ?_;exact (by refine de_b1 (call_maxL rfl) rfl T.b_max PyProof.Rows.boot_max ?_;exact (by refine dr ?_;exact (by refine de_op op_addD ?_ ?_;exact (dr (de_lst (dn 3 Dz) lz1));exact (by refine dr ?_;exact (by refine de_ofO ?_;exact (by refine dO_comp rfl rfl (compSc_of (show compOk (defScope s_Lneeds) ["_law_book","_law_most_here","_law_wide","_law_high","_law_block","_law_notes","_law_rows"] _ 1 ["_law_rows"] []=true by decide +kernel)) (by decide) ?_ ?_ ?_ ?_;exact di_own 5;exact fun cl C ex s2 H2 pn=>dg_name 0 (show List.Nodup (["_law_rows"]:List Str) by decide +kernel);exact fun cl C ex s2 H2 pn=>dif_none;exact fun cl C ex s2 H2 pn=>(de_op op_addD dq (dr (de_b1 call_lenD rfl T.b_len PySem.boot_len (dv 0)))))))))));exact (by refine dss_rel 5 ?_;exact (by refine So ?_;exact (by refine ds_for rfl PassesOwn.never ?_ ?_ ?_;exact (di_lst (de_var 5));exact dg_name 6 nd;exact (by refine So ?_;exact (by refine ds_set 2 nd ?_;exact (by refine de_b1 (call_maxL rfl) rfl T.b_max PyProof.Rows.boot_max ?_;exact (by refine dr ?_;exact (by refine de_op op_addD ?_ ?_;exact (dr (de_lst (dn 2 Dz) lz1));exact (by refine dr ?_;exact (by refine de_ofO ?_;exact (by refine dO_comp rfl rfl (compSc_of (show compOk (defScope s_Lneeds) ["_law_book","_law_most_here","_law_wide","_law_high","_law_block","_law_notes","_law_rows"] _ 1 ["_law_row"] []=true by decide +kernel)) (by decide) ?_ ?_ ?_ ?_;exact (dih (di_lst (de_var 6)));exact fun cl C ex s2 H2 pn=>dg_name 0 (show List.Nodup (["_law_row"]:List Str) by decide +kernel);exact fun cl C ex s2 H2 pn=>dif_none;exact fun cl C ex s2 H2 pn=>(de_b1 call_lenD rfl T.b_len PySem.boot_len (dv 0)))))))))))))))));exact Sn))))));exact (So (ds_ret (de_tup (dn 2 (dn 3 Dz)) lz2)))))))
theorem sc_Lmost:FnScope N_Lmost p_Lmost (defScope s_Lmost):=by constructor<;>first | rfl | decide +kernel
theorem ok_Lmost (h:Df K mg "_law_most" s_Lmost p_Lmost) (T:Txt K mg):C_Lmost P w K mg base :=
 have nd:=(sc_Lmost).nd
 okC (b:=b_Lmost) (k:=0) (N:=N_Lmost) (ps:=p_Lmost) (O':=[]) (OL:=[]) h sc_Lmost (fun f cdv A outer s H E hr=>(by refine Ss (O1:=[]) ?_ ?_;exact (ds_set 2 nd de_int);exact (by refine Ss (O1:=[]) ?_ ?_;exact (by refine ds_for rfl PassesOwn.never ?_ ?_ ?_;exact (di_lst (de_var 0));exact dg_name 3 nd;exact (by refine Ss (O1:=[]) ?_ ?_;exact (ds_set 2 nd (de_op op_addD (dv 2) dq));exact (by refine Ss (O1:=[]) ?_ ?_;exact (ds_if (PW.pt (dw_and (dt_val (dv 1)) (dw_one (PW.pt (dw_or (dt_cmp (op_eqD hr.units) (dr (de_ix (dv 3) dq)) (dr de_str) (nomark _)) (dw_one (dt_cmp (op_eqD hr.units) (dr (de_ix (dv 3) dq)) (dr de_str) (nomark _)))))))) (So (ds_set 2 nd (de_op op_addD (dv 2) dq))) Sn);exact (by refine Ss (O1:=[]) ?_ ?_;exact (ds_if (dt_cmp (op_eqD hr.units) (dr (de_ix (dv 3) dq)) (dr de_str) (nomark _)) (So (ds_set 2 nd (de_op op_addD (dv 2) (dr (de_ix (dv 3) dq))))) Sn);exact (by refine So ?_;exact (by refine ds_if ?_ ?_ ?_;exact (dt_cmp (op_eqD hr.units) (dr (de_ix (dv 3) dq)) (dr de_str) (nomark _));exact (by refine So ?_;exact (by refine ds_set 2 nd ?_;exact (by refine de_op op_addD ?_ ?_;exact (dv 2);exact (by refine dr ?_;exact (by refine de_op op_mulA ?_ ?_;exact dq;exact (by refine dr ?_;exact (by refine de_b1 call_lenD rfl T.b_len PySem.boot_len ?_;exact (by refine dr ?_;exact (by refine de_ofO ?_;exact (by refine dO_comp rfl rfl (compSc_of (show compOk (defScope s_Lmost) ["_law_book","_law_listed","_law_most_here","_law_block"] _ 1 ["_law_item"] []=true by decide +kernel)) (by decide) ?_ ?_ ?_ ?_;exact (dih (di_lst (de_ix (dv 3) dq)));exact fun cl C ex s2 H2 pn=>dg_name 0 (show List.Nodup (["_law_item"]:List Str) by decide +kernel);exact fun cl C ex s2 H2 pn=>(dif_one (PW.pt (dw_or (dt_cmp (op_eqD hr.units) (dr (de_ix (dv 0) dq)) (dr de_str) (nomark _)) (dw_one (dt_cmp (op_eqD hr.units) (dr (de_ix (dv 0) dq)) (dr de_str) (nomark _))))));exact fun cl C ex s2 H2 pn=>de_var 0))))))))));exact Sn))))));exact (So (ds_ret (de_var 2))))))
theorem sc_Ldrawn:FnScope N_Ldrawn p_Ldrawn (defScope s_Ldrawn):=by constructor<;>first | rfl | decide +kernel
theorem ok_Ldrawn (h:Df K mg "_law_drawn" s_Ldrawn p_Ldrawn) (T:Txt K mg) (c_Latom:C_Latom P w K mg base) (c_Lcell_at:C_Lcell_at P w K mg base) (c_Ledge:C_Ledge P w K mg base) (c_Lgrouped:C_Lgrouped P w K mg base) (c_Lmix:C_Lmix P w K mg base) (c_Lmost:C_Lmost P w K mg base) (c_Lneeds:C_Lneeds P w K mg base) (c_Lpointed:C_Lpointed P w K mg base):C_Ldrawn P w K mg base :=
 have nd:=(sc_Ldrawn).nd
 okC (b:=b_Ldrawn) (k:=2) (N:=N_Ldrawn) (ps:=p_Ldrawn) (O':=[]) (OL:=[]) h sc_Ldrawn (fun f cdv A outer s H E hr=>(by refine Ss (O1:=[]) ?_ ?_;exact (ds_set 1 nd (de_op op_addD (dr (de_cutA (dv 0) do_none (do_some dq))) (dr (de_lst (Dk de_int Dz) lz1))));exact (by refine Ss (O1:=[2]) ?_ ?_;exact (by refine ds_setComp 2 nd rfl rfl (compSc_of (show compOk (defScope s_Ldrawn) ["_law_script","_law_every","_law_cells","_law_book","_law_listed","_law_edge_here","_law_most_here","_law_wide","_law_high","_law_width","_law_height","_law_style"] _ 1 ["_law_k","_law_every"] [1]=true by decide +kernel)) (by decide) ?_ ?_ ?_ ?_;exact (dih (di_rng rfl T.b_range (dr (de_op op_modD (dr (dc c_Lmix hr (Dl (dc c_Lcell_at hr (dn 0 (Dk de_int Dz))) (Dk de_int Dz)))) dq))));exact fun cl C ex s2 H2 pn=>dg_name 0 (show List.Nodup (["_law_k","_law_every"]:List Str) by decide +kernel);exact fun cl C ex s2 H2 pn=>dif_none;exact fun cl C ex s2 H2 pn=>(de_ix (dv 1) (dr (de_op op_modD (dv 0) (dr (de_b1 call_lenD rfl T.b_len PySem.boot_len (dv 1)))))));exact (by refine dss_rel 2 ?_;exact (by refine Ss (O1:=[]) ?_ ?_;exact (by refine ds_set 3 nd ?_;exact (by refine dc c_Lgrouped hr ?_;exact (by refine Dl ?_ ?_;exact (by refine dc c_Lpointed hr ?_;exact (by refine da_ListComp ?_ ?_;exact (by refine de_ofO ?_;exact (by refine dO_comp rfl rfl (compSc_of (show compOk (defScope s_Ldrawn) ["_law_script","_law_every","_law_cells","_law_book","_law_listed","_law_edge_here","_law_most_here","_law_wide","_law_high","_law_width","_law_height","_law_style"] _ 2 ["_law_k","_law_cell"] []=true by decide +kernel)) (by decide) ?_ ?_ ?_ ?_;exact (dih (di_enum rfl T.b_enumerate (de_var 2)));exact fun cl C ex s2 H2 pn=>(dg_tup rfl (dgs_cons (O1:=[]) (dg_name 0 (show List.Nodup (["_law_k","_law_cell"]:List Str) by decide +kernel)) (dgs_cons (O1:=[]) (dg_name 1 (show List.Nodup (["_law_k","_law_cell"]:List Str) by decide +kernel)) dgs_nil)) rfl);exact fun cl C ex s2 H2 pn=>dif_none;exact fun cl C ex s2 H2 pn=>(dc c_Latom hr (dn 1 (dn 0 Dz)))));exact (dn 2 Dz)));exact Dz)));exact (by refine Ss (O1:=[]) ?_ ?_;exact (ds_set 4 nd (de_cmp (op_eqD hr.units) (dr (de_op op_modD (dr (dc c_Lcell_at hr (dn 0 (Dk de_int Dz)))) dq)) dq (nomark _)));exact (by refine Ss (O1:=[]) ?_ ?_;exact (ds_set 5 nd (dc c_Ledge hr (dn 0 (Dt (de_tup (Dk de_int (Dk de_int (Dk de_bl (dn 4 Dz)))) lz4) Dz))));exact (by refine Ss (O1:=[]) ?_ ?_;exact (ds_set 6 nd (de_b1 call_lenD rfl T.b_len PySem.boot_len (dr (de_ty1 call_strD rfl T.b_str PyProof.Rows.boot_str (dr (dc c_Lmost hr (Db (de_op op_addD (dv 5) (dv 3)) (dn 4 Dz))))))));exact (by refine Ss (O1:=[]) ?_ ?_;exact (ds_asg (dc c_Lneeds hr (Db (de_op op_addD (dv 3) (dv 5)) (dn 6 Dz))) (dg_tup rfl (dgs_cons (O1:=[]) (dg_name 7 nd) (dgs_cons (O1:=[]) (dg_name 8 nd) dgs_nil)) rfl));exact (by refine Ss (O1:=[]) ?_ ?_;exact (ds_if (dt_cmp (op_neD hr.units) (dv 5) (dr (de_lst Dz lz0)) (nomark _)) (So (ds_set 7 nd (de_b2 (call_maxD rfl) rfl T.b_max PyProof.Rows.boot_max (dv 7) (dr (de_op op_addD (dv 6) dq))))) Sn);exact (by refine Ss (O1:=[]) ?_ ?_;exact (ds_set 9 nd (de_b2 (call_maxD rfl) rfl T.b_max PyProof.Rows.boot_max (dv 7) (dr (de_op op_addD dq (dr (de_op op_modD (dr (dc c_Lmix hr (Dl (dc c_Lcell_at hr (dn 0 (Dk de_int Dz))) (Dk de_int Dz)))) dq))))));exact (by refine Ss (O1:=[]) ?_ ?_;exact (ds_set 10 nd (de_b2 (call_maxD rfl) rfl T.b_max PyProof.Rows.boot_max (dv 8) (dr (de_op op_addD dq (dr (de_op op_modD (dr (dc c_Lmix hr (Dl (dc c_Lcell_at hr (dn 0 (Dk de_int Dz))) (Dk de_int Dz)))) dq))))));exact (by refine Ss (O1:=[]) ?_ ?_;exact (ds_if (dt_cmp (op_eqD hr.units) (dr (de_op op_modD (dr (dc c_Lcell_at hr (dn 0 (Dk de_int Dz)))) dq)) dq (nomark _)) (So (ds_set 10 nd (de_b2 (call_maxD rfl) rfl T.b_max PyProof.Rows.boot_max (dv 8) (dr (de_op op_addD dq (dr (de_op op_modD (dr (dc c_Lmix hr (Dl (dc c_Lcell_at hr (dn 0 (Dk de_int Dz))) (Dk de_int Dz)))) dq))))))) Sn);exact (Ss (O1:=[]) (ds_set 11 nd (de_tup (dn 9 (dn 10 (da_Compare (de_cmp (op_eqD hr.units) (dr (de_op op_modD (dr (dc c_Lcell_at hr (dn 0 (Dk de_int Dz)))) dq)) dq (nomark _)) (dn 4 Dz)))) lz4)) (So (ds_ret (de_tup (Db (de_op op_addD (dr (dc c_Ledge hr (dn 0 (dn 11 Dz)))) (dv 3)) (dn 11 (dn 6 Dz))) lz3)))))))))))))))))
theorem sc_Lrooms:FnScope N_Lrooms p_Lrooms (defScope s_Lrooms):=by constructor<;>first | rfl | decide +kernel
theorem ok_Lrooms (h:Df K mg "_law_rooms" s_Lrooms p_Lrooms) (T:Txt K mg) (c_Lmix:C_Lmix P w K mg base):C_Lrooms P w K mg base :=
 have nd:=(sc_Lrooms).nd
 okC (b:=b_Lrooms) (k:=1) (N:=N_Lrooms) (ps:=p_Lrooms) (O':=[]) (OL:=[]) h sc_Lrooms (fun f cdv A outer s H E hr=>(by refine Ss (O1:=[4]) ?_ ?_;exact (ds_setO 4 nd (dO_lst Dz lz0));exact (by refine Ss (O1:=[4]) ?_ ?_;exact (ds_set 5 nd (de_op op_addD (dr (de_cutA (dv 0) do_none (do_some dq))) (dr (de_lst (dn 3 Dz) lz1))));exact (by refine Ss (O1:=[4]) ?_ ?_;exact (by refine ds_for rfl PassesOwn.never ?_ ?_ ?_;exact (di_lst (de_var 1));exact dg_name 6 nd;exact (by refine So ?_;exact (by refine ds_if ?_ ?_ ?_;exact (dt_cmp (op_eqD hr.units) (dr (de_ix (dv 6) dq)) (dr de_str) (nomark _));exact (by refine So ?_;exact (by refine ds_for rfl PassesOwn.never ?_ ?_ ?_;exact (di_lst (de_ix (dv 6) dq));exact dg_name 7 nd;exact (by refine So ?_;exact (by refine ds_if ?_ ?_ ?_;exact (dt_cmp (op_eqD hr.units) (dr (de_ix (dv 7) dq)) (dr de_str) (nomark _));exact (Ss (O1:=[4]) (ds_set 8 nd (de_ix (dv 5) (dr (de_op op_modD (dr (de_b1 call_lenD rfl T.b_len PySem.boot_len (dr_var 4))) (dr (de_b1 call_lenD rfl T.b_len PySem.boot_len (dv 5))))))) (So (ds_app 4 (by decide) (de_op op_addD dq (dr (de_op op_modD (dr (dc c_Lmix hr (dn 8 (Db (de_op op_addD (dv 3) (dr (de_b1 call_lenD rfl T.b_len PySem.boot_len (dr_var 4)))) Dz)))) (dv 2)))))));exact Sn))));exact Sn)));exact (dss_rel 4 (So (ds_ret (de_var 4))))))))
theorem sc_Lcopy:FnScope N_Lcopy p_Lcopy (defScope s_Lcopy):=by constructor<;>first | rfl | decide +kernel
theorem ok_Lcopy (h:Df K mg "_law_copy" s_Lcopy p_Lcopy) (T:Txt K mg):C_Lcopy P w K mg base :=
 have nd:=(sc_Lcopy).nd
 okC (b:=b_Lcopy) (k:=0) (N:=N_Lcopy) (ps:=p_Lcopy) (O':=[]) (OL:=[]) h sc_Lcopy (fun f cdv A outer s H E hr=>(by refine Ss (O1:=[1]) ?_ ?_;exact (ds_setO 1 nd (dO_lst Dz lz0));exact (by refine Ss (O1:=[1]) ?_ ?_;exact (by refine ds_for rfl PassesOwn.never ?_ ?_ ?_;exact (di_lst (de_var 0));exact dg_name 2 nd;exact (by refine So ?_;exact (by refine ds_if ?_ ?_ ?_;exact (dt_cmp (op_eqD hr.units) (dr (de_ix (dv 2) dq)) (dr de_str) (nomark _));exact (by refine Ss (O1:=[1,3]) ?_ ?_;exact (ds_setO 3 nd (dO_lst Dz lz0));exact (by refine Ss (O1:=[1,3]) ?_ ?_;exact (ds_for rfl PassesOwn.never (di_lst (de_ix (dv 2) dq)) (dg_name 4 nd) (So (ds_if (dt_cmp (op_eqD hr.units) (dr (de_ix (dv 4) dq)) (dr de_str) (nomark _)) (So (ds_app 3 (by decide) (de_tup (Dk de_str (Du (de_ix (dv 4) dq) (Dl (de_ofO (dO_list rfl T.b_list PyProof.Rows.boot_list (dr (de_ix (dv 4) dq)))) Dz))) lz3))) (So (ds_app 3 (by decide) (de_var 4))))));exact (dss_rel 3 (So (ds_app 1 (by decide) (de_tup (Dk de_str (dn 3 Dz)) lz2))))));exact (So (ds_if (dt_cmp (op_eqD hr.units) (dr (de_ix (dv 2) dq)) (dr de_str) (nomark _)) (So (ds_app 1 (by decide) (de_tup (Dk de_str (Dl (de_ofO (dO_list rfl T.b_list PyProof.Rows.boot_list (dr (de_ix (dv 2) dq)))) (Du (de_ix (dv 2) dq) Dz))) lz3))) (So (ds_app 1 (by decide) (de_var 2))))))));exact (dss_rel 1 (So (ds_ret (de_var 1)))))))
theorem sc_Lheads:FnScope N_Lheads p_Lheads (defScope s_Lheads):=by constructor<;>first | rfl | decide +kernel
theorem ok_Lheads (h:Df K mg "_law_heads" s_Lheads p_Lheads) (T:Txt K mg):C_Lheads P w K mg base :=
 have nd:=(sc_Lheads).nd
 okC (b:=b_Lheads) (k:=0) (N:=N_Lheads) (ps:=p_Lheads) (O':=[]) (OL:=[]) h sc_Lheads (fun f cdv A outer s H E hr=>(by refine Ss (O1:=[2]) ?_ ?_;exact (ds_setO 2 nd (dO_lst Dz lz0));exact (by refine Ss (O1:=[2]) ?_ ?_;exact (by refine ds_for rfl PassesOwn.never ?_ ?_ ?_;exact (di_rng rfl T.b_range (dr (de_b1 call_lenD rfl T.b_len PySem.boot_len (dv 0))));exact dg_name 3 nd;exact (by refine Ss (O1:=[2]) ?_ ?_;exact (ds_set 4 nd (de_ix (dv 0) (dv 3)));exact (by refine Ss (O1:=[2]) ?_ ?_;exact (ds_if (PW.pt (dw_and (dt_cmp (op_neD hr.units) (dr (de_ix (dv 4) dq)) (dr de_str) (nomark _)) (dw_one (dt_cmp (op_neD hr.units) (dr (de_ix (dv 4) (dr (de_neg dq)))) (dr de_str) (nomark _))))) (So (ds_app 2 (by decide) (de_tup (Du (de_ix (dv 4) (dr (de_neg dq))) (Du (de_ix (dr (de_ix (dr (de_ix (dv 1) (dr (de_op op_addD (dv 3) dq)))) dq)) dq) Dz)) lz2))) Sn);exact (by refine So ?_;exact (by refine ds_if ?_ ?_ ?_;exact (dt_cmp (op_eqD hr.units) (dr (de_ix (dv 4) dq)) (dr de_str) (nomark _));exact (by refine Ss (O1:=[2]) ?_ ?_;exact (ds_set 5 nd de_int);exact (by refine So ?_;exact (by refine ds_for rfl PassesOwn.never ?_ ?_ ?_;exact (di_lst (de_ix (dv 4) dq));exact dg_name 6 nd;exact (Ss (O1:=[2]) (ds_if (dt_cmp (op_eqD hr.units) (dr (de_ix (dv 6) dq)) (dr de_str) (nomark _)) (So (ds_app 2 (by decide) (de_tup (Du (de_ix (dv 6) dq) (Du (de_ix (dr (de_ix (dr (de_ix (dv 1) (dr (de_op op_addD (dv 3) dq)))) (dv 5))) dq) Dz)) lz2))) Sn) (So (ds_if (PW.pt (dw_or (dt_cmp (op_eqD hr.units) (dr (de_ix (dv 6) dq)) (dr de_str) (nomark _)) (dw_one (dt_cmp (op_eqD hr.units) (dr (de_ix (dv 6) dq)) (dr de_str) (nomark _))))) (So (ds_set 5 nd (de_op op_addD (dv 5) dq))) Sn))))));exact Sn)))));exact (dss_rel 2 (So (ds_ret (de_var 2)))))))
theorem sc_law:FnScope N_law p_law (defScope s_law):=by constructor<;>first | rfl | decide +kernel
theorem ok_law {f:Addr} {fd:FuncData} (h:Fun K "law" "law" s_law f fd) (T:Txt K mg) (c_Lcopy:C_Lcopy P w K mg base) (c_Ldrawn:C_Ldrawn P w K mg base) (c_Lheads:C_Lheads P w K mg base) (c_Lrooms:C_Lrooms P w K mg base) (c_Lwhole:C_Lwhole P w K mg base) (c_laid:C_laid P w K mg base) (c_pages_of:C_pages_of P w K mg base):FnOk P w K mg base CX0 8 f fd ["_law_script"] (spD K f_law) :=
 have nd:=sc_law.nd
 okF (b:=b_law) (k:=7) (N:=N_law) (ps:=p_law) (O':=[]) (OL:=[]) h sc_law fun cdv A outer s H E hr=>(by refine Ss (O1:=[]) ?_ ?_;exact (ds_asg (dc c_Ldrawn hr (dn 0 Dz)) (dg_tup rfl (dgs_cons (O1:=[]) (dg_name 1 nd) (dgs_cons (O1:=[]) (dg_name 2 nd) (dgs_cons (O1:=[]) (dg_name 3 nd) dgs_nil))) rfl));exact (by refine Ss (O1:=[]) ?_ ?_;exact (ds_set 4 nd (dc c_Lrooms hr (dn 0 (dn 1 (dn 3 (Dk de_int Dz))))));exact (by refine Ss (O1:=[]) ?_ ?_;exact (ds_set 5 nd (dc c_Lcopy hr (dn 1 Dz)));exact (by refine Ss (O1:=[]) ?_ ?_;exact (ds_set 6 nd (de_ofO (dO_list rfl T.b_list PyProof.Rows.boot_list (dv 4))));exact (by refine Ss (O1:=[]) ?_ ?_;exact (ds_set 7 nd (dc c_pages_of hr (dn 5 (dn 2 (dn 6 Dz)))));exact (by refine Ss (O1:=[]) ?_ ?_;exact (ds_set 8 nd (dc c_Lheads hr (dn 1 (Dl (dc c_laid hr (dn 1 (dn 2 (dn 4 Dz)))) Dz))));exact (by refine Ss (O1:=[]) ?_ ?_;exact (by refine ds_if ?_ ?_ ?_;exact (by refine PW.pt ?_;exact (dw_or (dt_not (dt_val (dr (de_inst (kit_dict _) rfl T.b_isinstance PyProof.Rows.boot_isinstance rfl T.b_dict PyProof.Rows.boot_dict (dv 7))))) (dw_or (dt_cmp (op_neD hr.units) (dv 5) (dv 1) (nomark _)) (dw_or (dt_cmp (op_neD hr.units) (dv 6) (dv 4) (nomark _)) (dw_one (dt_cmp (op_neD hr.units) (dr (de_ofO (dO_litems rfl rfl T.b_list PyProof.Rows.boot_list (dv 7)))) (dv 8) (nomark _)))))));exact (So (ds_ret de_bl));exact Sn);exact (by refine So ?_;exact (by refine ds_ret ?_;exact (by refine de_cmp (op_eqD hr.units) ?_ ?_ (nomark _);exact (by refine dr ?_;exact (by refine de_ofO ?_;exact (by refine dO_comp rfl rfl (compSc_of (show compOk (defScope s_law) ["_law_script","_law_book","_law_style","_law_most_here","_law_rooms_here","_law_handed","_law_given","_law_found","_law_due"] _ 1 ["_law_page"] []=true by decide +kernel)) (by decide) ?_ ?_ ?_ ?_;exact (dih (di_vals (de_var 7)));exact fun cl C ex s2 H2 pn=>dg_name 0 (show List.Nodup (["_law_page"]:List Str) by decide +kernel);exact fun cl C ex s2 H2 pn=>(dif_one (dt_not (dt_val (dr (dc c_Lwhole hr (dn 0 Dz))))));exact fun cl C ex s2 H2 pn=>de_var 0)));exact (dr (de_lst Dz lz0))))))))))))
end
end
open PySem PySem.Spec PyProof.Rows L2 Wd
theorem walk {l:PySem.W.OpenLaw} {q:Program} {loose:List Str} {XP:(Str->Option Value)->Heap->Prop} {YP:World->Heap->Prop} {d:DefRec} {K:Params->PySem.W.Frag} (hn:l.most=some 63) (hdf:d.params.defaults=[])
  (hY:∀ (w:World) (h:Heap),YP w h->(K w.params).In h)
  (F:∀ (w:World) (mg:Str->Option Value) (fa:Addr) (h:Heap),(K w.params).In h->h.Ns mainGlobals mg->mg d.name=some (.ref fa) ->
   ∃ fd:FuncData,(∀ (s:Shared) (u:Value),BindsTo s fd ⟨[u],[]⟩ [("_law_script",u)])/\∀ base:Heap,(K w.params).In base->base.Ns mainGlobals mg->FnOk l.prog w (K w.params) mg base CX0 8 fa fd ["_law_script"] (spD (K w.params) f_law)) :
  PySem.W.WalkO q loose XP YP l.row.toRowW d [] (fun f vs=>PySem.call f vs) :=
 L2.walk_of (n:=63) (k:=8) (x:="_law_script") (CX:=fun _=>CX0) (sp:=fun w=>spD (K w.params) f_law) hn (by decide) hdf ⟨rfl,by decide,by decide⟩ hY F (fun w H a ns _ _ hS=>law_sp (K w.params) f_law law_true H a ns hS) fun _ _ _ _ _ z=>z
end My

namespace Hd
open PySem PySem.W PySem.Calls PyProof.Rows My L2
theorem seg_top0 {tb:String->Option Builtin} {p:Program} {w:World} {n₀:Nat} {ann:Option Value}:∀ {n:Nat} {s s':Shared} {t:Thread} {f:Flow} {c:Code} {q:Pos},
  segRun tb p w n₀ ann 0 n s t=some (f,s',c,q)->topRun tb p w n₀ ann n s t=some s'
 | 0,_,_,_,_,_,_,h=>by cases h
 | n + 1,s,s',t,f,c,q,h=>by
  unfold segRun at h
  unfold topRun
  have hz:(endAt 0 t).isSome=through t:=by
   obtain ⟨cur,code,pos,st⟩:=t
   cases st with
   | nil =>
    cases cur with
    | pure x=>cases x <;> rfl
    | _=>rfl
   | cons a b=>rfl
  cases he:endAt 0 t with
  | some g =>
   rw [he] at h hz
   rw [<- hz]
   cases h;rfl
  | none =>
   rw [he] at h hz
   rw [<- hz]
   cases hk:stepOk n₀ ann t with
   | false=>rw [hk] at h;cases h
   | true =>
    rw [hk] at h
    cases hs:step (denote tb) p w s t with
    | halt o s₂=>rw [hs] at h;cases h
    | go s₂ t₂=>rw [hs] at h;exact seg_top0 h
noncomputable def T0 (P:Params):BT:=(boot_heap P).objs.toList.foldl (fun x o=>(x.1.ins x.2 o,x.2 + 1)) (BT.nil,0) |>.1
noncomputable def st0 (w:World) (os:OsState):SharedT:=⟨T0 w.params,11,{},Array.mk [],boot_drawn,boot_toks,os⟩
theorem st0_abs (w:World) (os:OsState):(st0 w os).abs=⟨boot_heap w.params,Array.mk [],boot_drawn,boot_toks,os⟩:=by kernel_rfl
noncomputable def runs (p:Program) (M:Nat) (w:World) (os:OsState):Option Shared:=(segRunT treeTable p w 11 (some (.ref 6)) 0 M (st0 w os) (topStub p)).map fun r=>r.2.1.abs
noncomputable def chk (p:Program) (w:World) (s:Shared):Bool:=staticsOk (importedModules p.main.body) (boot_heap w.params) s.heap && namesBound p s.heap && gensDone s && laidKept (boot_heap w.params) s.heap
theorem left {p q:Program} {loose:List Str} {Xt:Shared->Bool} {α:Type} {Yf:Shared->α} {Ya:World->α} {N:Nat} {g0:Bool} {M:Nat}
  (e:opening p=plainProg p.main.scope.names) (f:∀ s,fenceModules? p s=some s) (hN:Nat.ble 600 N=true) (le:Nat.ble M N=true)
  (size:∀ w:World,((boot_heap w.params).isNs mainGlobals,(boot_heap w.params).objs.size,(boot_heap w.params).nsMap mainGlobals "__annotations__")=(true,11,some (.ref 6)))
  (ra:∀ (w:World) (os:OsState),(runs p M w os).map (chk p w)=some true)
  (rb:∀ (w:World) (os:OsState),(runs p M w os).map (openSeen q loose (importedModules p.main.body) Xt g0)=some (openGood q loose))
  (rc:∀ (w:World) (os:OsState),(runs p M w os).map Yf=some (Ya w)) :
  LeftO p q loose Xt Yf Ya N g0:=fun w=>by
 obtain ⟨u,e1,e2⟩:=Option.map_eq_some_iff.mp (boot_open e hN f w)
 obtain ⟨v,r1,l1⟩:=Option.map_eq_some_iff.mp (ra w u.os)
 obtain ⟨⟨_,v',_⟩,r2,r3⟩:=Option.map_eq_some_iff.mp r1
 have l2:=rb w u.os
 have l3:=rc w u.os
 rw [r1] at l2 l3
 have hu:u=(st0 w u.os).abs:=by
  rw [st0_abs]
  cases u
  cases e2
  rfl
 have go:=topRun_mono (N - M) _ _ _ _ (seg_top0 (segRun_of r2))
 rw [Nat.add_sub_of_le (Nat.le_of_ble_eq_true le)] at go
 have t:topFrom treeTable p w N u=some v:=by
  have z:=size w
  simp only [Prod.mk.injEq] at z
  rw [hu]
  unfold topFrom
  rw [st0_abs] at go ⊢
  simp only [z.1,z.2.1,z.2.2,go]
  simp only [<- r3] at l1 ⊢
  unfold chk at l1
  simp [l1]
 simp only [openEnds,e1,Option.bind_some,t,Option.map_some]
 rw [Option.some.inj l2,Option.some.inj l3]
abbrev p:=PySem.Challenge.pw_leastbook_k15_pages_of_labels
noncomputable section
def nmOf (s:Stmt):Str:=match s with
 | .FunctionDef n _ _ _ _ _ _ _ _ _=>n
 | _=>""
def posOf (s:Stmt):Pos:=match s with
 | .FunctionDef _ _ _ _ _ _ _ _ _ p=>p
 | _=>⟨0,0,0,0⟩
abbrev m0:Value:=.str "leastbook.places" 348
abbrev m1:Value:=.str "leastbook.books" 468
abbrev m2:Value:=.str "leastbook.setting" 632
abbrev m3:Value:=.str "law_leastbook_k15_pages_of_labels" 727
def tb:List (Nat×Nat×Nat×Nat×Nat×Value):=
 [(17,141,366,370,1),(18,148,373,377,1),(19,155,380,386,1),(20,162,389,395,1),(21,169,398,406,1),(22,176,409,421,1),(23,183,424,428,1),(24,190,431,440,1),(25,197,443,447,1),(26,204,450,456,1),(27,211,459,465,1)].map (fun x=>(x.1,x.2.1,x.2.2.1,x.2.2.2.1,x.2.2.2.2,m0))
 ++ [(29,218,470,474,1),(30,225,477,481,1),(31,232,484,488,1),(32,239,491,495,1),(33,246,498,502,1),(34,251,505,508,0),(35,256,511,514,0),(36,261,517,520,0),(37,268,523,528,1),(38,273,531,534,0),(39,280,537,544,1),(40,287,547,553,1),(41,294,556,561,1),(42,301,564,569,1),(43,308,572,578,1),(44,315,581,589,1),(45,322,592,600,1),(46,327,603,606,0),(47,334,609,617,1),(48,341,620,629,1)].map (fun x=>(x.1,x.2.1,x.2.2.1,x.2.2.2.1,x.2.2.2.2,m1))
 ++ [(50,348,634,643,1),(51,355,646,658,1),(52,362,661,667,1),(53,369,670,681,1),(54,376,684,693,1),(55,383,696,706,1),(56,390,709,715,1),(57,397,718,724,1)].map (fun x=>(x.1,x.2.1,x.2.2.1,x.2.2.2.1,x.2.2.2.2,m2))
 ++ [(59,404,729,734,1),(60,411,737,741,1),(61,418,744,750,1),(62,425,753,758,1),(63,432,761,768,1),(64,439,771,782,1),(65,444,785,788,0),(66,451,791,801,1),(67,458,804,811,1),(68,463,814,817,0),(69,468,820,823,0),(70,473,826,829,0),(71,478,832,835,0),(72,485,838,850,1),(73,492,853,861,1),(74,499,864,874,1),(75,504,877,880,0),(76,509,883,886,0)].map (fun x=>(x.1,x.2.1,x.2.2.1,x.2.2.2.1,x.2.2.2.2,m3))
def en (P:Params) (x:Str) (t:Nat) (v:Value):DictEntry:=⟨PyData.keyHash P x,.str x t,v⟩
def ns (P:Params):List DictEntry:=
 ([en P "__name__" 165 (.str "law_leastbook_k15_pages_of_labels" 727),en P "__doc__" 166 (.none),en P "__package__" 167 (.none),en P "__loader__" 168 (.builtin "__main__.__loader__#opaque"),en P "__spec__" 169 (.none),en P "__annotations__" 170 (.ref 6),en P "__builtins__" 171 (.ref 4),en P "__file__" 173 (.str "/claim/cut.py" 172),en P "__cached__" 174 (.none),en P "BookError" 206 (.ref 24),en P "NoStyle" 222 (.ref 37),en P "TooWide" 247 (.ref 56),en P "TooHigh" 272 (.ref 75),en P "Twice" 297 (.ref 94),en P "Loose" 322 (.ref 113),en P "NoLabel" 347 (.ref 132),en P "WIDTH" 351 (.int 0 350),en P "HEIGHT" 353 (.int 1 352),en P "ODD" 355 (.int 2 354),en P "LISTED" 357 (.int 3 356),en P "PAGE" 359 (.int 0 358),en P "LINE" 361 (.int 1 360),en P "USED" 363 (.int 2 362),en P "FOOT" 365 (.int 3 364)])
 ++ (((tb.drop 0).take 57).map fun r=>en P (nmOf (top r.1)) (r.2.2.2.1+2) (.ref r.2.1))
def ob (r:Nat×Nat×Nat×Nat×Nat×Value):List (Nat×Obj):=let (i,f,t,u,b,m):=r
 let s:=top i
 let x:=nmOf s
 let l:Value:=.int (posOf s).line 0
 let c:Str:="/claim/cut.py"
 let n:Value:=.int 0 0
 [(f-1,⟨.type "code",none,.fields #[.str x t,.str x (t+1),.str c (t+2),l,.int (defArgs s).args.length 0,n,n,.int 3 0,.ref (if b=1 then f-6 else f-4),.bool true,.int 181 0,.ref (if b=1 then f-5 else f-3),.none,if b=1 then .ref (f-4) else .none,if b=1 then .ref (f-3) else .none,.ref (f-2),.int u 0,l,.str c (u+1)],#[]⟩),
  (f,⟨.type "function",none,.func (fnOf x x (defArgs s) (defBody s) (defScope s) .none .none .none m none (.ref (f-1)) .none),#[]⟩)]
def K (P:Params):List (Nat×Obj):=(3,⟨.type "dict",none,.dict (ns P).toArray 81,#[]⟩)::tb.flatMap ob
def as:List Nat:=3::tb.flatMap fun r=>[r.2.1-1,r.2.1]
theorem as_eq (P:Params):as=(K P).map (·.1):=by kernel_rfl
abbrev rw_:=PySem.Challenge.rw_leastbook_k15_pages_of_labels.row
def vw:Program:=view p [76]
def ls:List Str:=(["BookError","NoStyle","TooWide","TooHigh","Twice","Loose","NoLabel","WIDTH","HEIGHT","ODD","LISTED","PAGE","LINE","USED","FOOT"]:List Str)++tb.dropLast.map fun r=>nmOf (top r.1)
def Xt (s:Shared):Bool:=xlAt vw [] s&&recOk (RowW.records rw_.toRowW) s
abbrev rn:=Hd.runs p 7002
def ha (w:World) (os:OsState):=(rn w os).map (Hd.chk p w)
def hb (w:World) (os:OsState):=(rn w os).map (openSeen vw ls (importedModules p.main.body) Xt true)
def hc (w:World) (os:OsState):=(rn w os).map fun s=>as.map s.heap.get?
def wb:=some (openGood vw ls)
def wc (w:World):=some ((K w.params).map fun p=>some p.2)
theorem ha_r:ha=ha:=rfl
theorem hb_r:hb=hb:=rfl
theorem hc_r:hc=hc:=rfl
theorem wb_r:wb=wb:=rfl
theorem wc_r:wc=wc:=rfl
end
section
variable {P:Params} {h:Heap} {mg:Str->Option Value} {x:Str} {st:Stmt} {ps:List Str} {y:Str} {fa:Addr}
abbrev fx (P:Params) (x:Str) (f:Nat):=(nsIn (K P) mainGlobals x,List.lookup f (K P),codeIn (K P) (.ref (f-1)) x,keepIn (K P) (.ref f))
abbrev fw (x:Str) (st:Stmt) (f:Nat) (m:Value):Option (Option Value)×Option Obj×Bool×Bool:=(some (some (.ref f)),some ⟨.type "function",none,.func (fnOf x x (defArgs st) (defBody st) (defScope st) .none .none .none m none (.ref (f-1)) .none),#[]⟩,true,true)
theorem dk (f:Nat) (m:Value) (X:Frag.In (K P) h) (G:h.Ns mainGlobals mg) (hb:∀ (kV doc pm:Value) (an:Option Addr) (cdv ct:Value) (us:List Value),us.length=ps.length->bindArgs (fnOf x x (defArgs st) (defBody st) (defScope st) .none kV doc pm an cdv ct) ⟨us,[]⟩=pure (ps.zip us):=by intro _ _ _ _ _ _ us hl;rcases us with _|⟨_,_|⟨_,_|⟨_,_|⟨_,_|⟨_,_|⟨_,_⟩⟩⟩⟩⟩⟩<;>first | (exfalso;simp at hl;done) | rfl)
  (e:fx P x f=fw x st f m:=by kernel_rfl):Wd.Df (K P) mg x st ps:=by
 obtain ⟨a,l,c,k⟩:_/\_/\_/\_:=by simpa only [Prod.mk.injEq] using e
 exact Wd.df_mk X G hb a l c k
theorem gk {i:Int} (t:Nat) (X:Frag.In (K P) h) (G:h.Ns mainGlobals mg) (a:nsIn (K P) mainGlobals x=some (some (.int i t)):=by kernel_rfl):∃ t,mg x=some (.int i t):=Wd.gint_mk X G a ⟨_,rfl⟩
variable (X:Frag.In (K P) h) (G:h.Ns mainGlobals mg)
include X G
theorem d_figures:Wd.Df (K P) mg "figures" s_figures p_figures:=dk 141 m0 X G
theorem d_bare:Wd.Df (K P) mg "bare" s_bare p_bare:=dk 148 m0 X G
theorem d_has_height:Wd.Df (K P) mg "has_height" s_has_height p_has_height:=dk 155 m0 X G
theorem d_has_width:Wd.Df (K P) mg "has_width" s_has_width p_has_width:=dk 162 m0 X G
theorem d_word_at:Wd.Df (K P) mg "word_at" s_word_at p_word_at:=dk 169 m0 X G
theorem d_put_word:Wd.Df (K P) mg "put_word" s_put_word p_put_word:=dk 176 m0 X G
theorem d_end_line:Wd.Df (K P) mg "end_line" s_end_line p_end_line:=dk 183 m0 X G
theorem d_put_block:Wd.Df (K P) mg "put_block" s_put_block p_put_block:=dk 190 m0 X G
theorem d_new_page:Wd.Df (K P) mg "new_page" s_new_page p_new_page:=dk 197 m0 X G
theorem d_new_chapter:Wd.Df (K P) mg "new_chapter" s_new_chapter p_new_chapter:=dk 204 m0 X G
theorem d_put_plates:Wd.Df (K P) mg "put_plates" s_put_plates p_put_plates:=dk 211 m0 X G
theorem d_is_style:Wd.Df (K P) mg "is_style" s_is_style p_is_style:=dk 218 m1 X G
theorem d_is_titled:Wd.Df (K P) mg "is_titled" s_is_titled p_is_titled:=dk 225 m1 X G
theorem d_is_set:Wd.Df (K P) mg "is_set" s_is_set p_is_set:=dk 232 m1 X G
theorem d_label_of:Wd.Df (K P) mg "label_of" s_label_of p_label_of:=dk 239 m1 X G
theorem d_items_of:Wd.Df (K P) mg "items_of" s_items_of p_items_of:=dk 246 m1 X G
theorem d_refs:Wd.Df (K P) mg "refs" s_refs p_refs:=dk 251 m1 X G
theorem d_pages_for:Wd.Df (K P) mg "pages_for" s_pages_for p_pages_for:=dk 256 m1 X G
theorem d_pages_at_most:Wd.Df (K P) mg "pages_at_most" s_pages_at_most p_pages_at_most:=dk 261 m1 X G
theorem d_room_at_most:Wd.Df (K P) mg "room_at_most" s_room_at_most p_room_at_most:=dk 268 m1 X G
theorem d_any_longer:Wd.Df (K P) mg "any_longer" s_any_longer p_any_longer:=dk 273 m1 X G
theorem d_is_wide_block:Wd.Df (K P) mg "is_wide_block" s_is_wide_block p_is_wide_block:=dk 280 m1 X G
theorem d_is_wide_item:Wd.Df (K P) mg "is_wide_item" s_is_wide_item p_is_wide_item:=dk 287 m1 X G
theorem d_is_high_block:Wd.Df (K P) mg "is_high_block" s_is_high_block p_is_high_block:=dk 294 m1 X G
theorem d_is_high_item:Wd.Df (K P) mg "is_high_item" s_is_high_item p_is_high_item:=dk 301 m1 X G
theorem d_add_label:Wd.Df (K P) mg "add_label" s_add_label p_add_label:=dk 308 m1 X G
theorem d_look_at_block:Wd.Df (K P) mg "look_at_block" s_look_at_block p_look_at_block:=dk 315 m1 X G
theorem d_look_at_item:Wd.Df (K P) mg "look_at_item" s_look_at_item p_look_at_item:=dk 322 m1 X G
theorem d_look_at_items:Wd.Df (K P) mg "look_at_items" s_look_at_items p_look_at_items:=dk 327 m1 X G
theorem d_look_at_refs:Wd.Df (K P) mg "look_at_refs" s_look_at_refs p_look_at_refs:=dk 334 m1 X G
theorem d_look:Wd.Df (K P) mg "look" s_look p_look:=dk 341 m1 X G
theorem d_set_contents:Wd.Df (K P) mg "set_contents" s_set_contents p_set_contents:=dk 348 m2 X G
theorem d_set_items:Wd.Df (K P) mg "set_items" s_set_items p_set_items:=dk 355 m2 X G
theorem d_set_block:Wd.Df (K P) mg "set_block" s_set_block p_set_block:=dk 362 m2 X G
theorem d_set_book:Wd.Df (K P) mg "set_book" s_set_book p_set_book:=dk 369 m2 X G
theorem d_pages_with:Wd.Df (K P) mg "pages_with" s_pages_with p_pages_with:=dk 376 m2 X G
theorem d_label_pages:Wd.Df (K P) mg "label_pages" s_label_pages p_label_pages:=dk 383 m2 X G
theorem d_laid:Wd.Df (K P) mg "laid" s_laid p_laid:=dk 390 m2 X G
theorem d_pages_of:Wd.Df (K P) mg "pages_of" s_pages_of p_pages_of:=dk 397 m2 X G
theorem d_Lcell_at:Wd.Df (K P) mg "_law_cell_at" s_Lcell_at p_Lcell_at:=dk 404 m3 X G
theorem d_Lwhole:Wd.Df (K P) mg "_law_whole" s_Lwhole p_Lwhole:=dk 411 m3 X G
theorem d_Lmix:Wd.Df (K P) mg "_law_mix" s_Lmix p_Lmix:=dk 418 m3 X G
theorem d_Llabel:Wd.Df (K P) mg "_law_label" s_Llabel p_Llabel:=dk 425 m3 X G
theorem d_Lplates:Wd.Df (K P) mg "_law_plates" s_Lplates p_Lplates:=dk 432 m3 X G
theorem d_Lsigns:Wd.Df (K P) mg "_law_signs" s_Lsigns p_Lsigns:=dk 439 m3 X G
theorem d_Latom:Wd.Df (K P) mg "_law_atom" s_Latom p_Latom:=dk 444 m3 X G
theorem d_Lpointed:Wd.Df (K P) mg "_law_pointed" s_Lpointed p_Lpointed:=dk 451 m3 X G
theorem d_Lgrouped:Wd.Df (K P) mg "_law_grouped" s_Lgrouped p_Lgrouped:=dk 458 m3 X G
theorem d_Ledge:Wd.Df (K P) mg "_law_edge" s_Ledge p_Ledge:=dk 463 m3 X G
theorem d_Lneeds:Wd.Df (K P) mg "_law_needs" s_Lneeds p_Lneeds:=dk 468 m3 X G
theorem d_Lmost:Wd.Df (K P) mg "_law_most" s_Lmost p_Lmost:=dk 473 m3 X G
theorem d_Ldrawn:Wd.Df (K P) mg "_law_drawn" s_Ldrawn p_Ldrawn:=dk 478 m3 X G
theorem d_Lrooms:Wd.Df (K P) mg "_law_rooms" s_Lrooms p_Lrooms:=dk 485 m3 X G
theorem d_Lcopy:Wd.Df (K P) mg "_law_copy" s_Lcopy p_Lcopy:=dk 492 m3 X G
theorem d_Lheads:Wd.Df (K P) mg "_law_heads" s_Lheads p_Lheads:=dk 499 m3 X G
theorem d_law (hm:mg "law"=some (.ref fa)):∃ fd,(∀ (s:Shared) (u:Value),BindsTo s fd ⟨[u],[]⟩ [("_law_script",u)])/\L2.Fun (K P) "law" "law" s_law fa fd:=by
 have e:fx P "law" 509=fw "law" s_law 509 m3:=by kernel_rfl
 obtain ⟨a,l,c,k⟩:_/\_/\_/\_:=by simpa only [Prod.mk.injEq] using e
 exact Wd.law_mk X G hm (fun _ _ _ _ _ _ u=>rfl) a l c k
theorem txt:Txt (K P) mg:=⟨gk 364 X G,gk 352 X G,gk 360 X G,gk 356 X G,gk 354 X G,gk 358 X G,gk 362 X G,gk 350 X G,mg_none_of X G (by kernel_rfl),mg_none_of X G (by kernel_rfl),mg_none_of X G (by kernel_rfl),mg_none_of X G (by kernel_rfl),mg_none_of X G (by kernel_rfl),mg_none_of X G (by kernel_rfl),mg_none_of X G (by kernel_rfl),mg_none_of X G (by kernel_rfl),mg_none_of X G (by kernel_rfl),mg_none_of X G (by kernel_rfl),mg_none_of X G (by kernel_rfl),mg_none_of X G (by kernel_rfl),mg_none_of X G (by kernel_rfl),trivial⟩
end
end Hd
open PySem PySem.W PyProof.Rows
name_quick haQ for Hd.ha by Hd.ha_r
name_quick hbQ for Hd.hb by Hd.hb_r
name_quick hcQ for Hd.hc by Hd.hc_r
name_quick wbQ for Hd.wb by Hd.wb_r
name_quick wcQ for Hd.wc by Hd.wc_r
namespace Hd
theorem oa (w:World) (os:OsState):Fast.haQ w os=some true:=by kernel_rfl
theorem oz (w:World) (os:OsState):Fast.hbQ w os=Fast.wbQ:=by kernel_rfl
theorem oc (w:World) (os:OsState):Fast.hcQ w os=Fast.wcQ w:=by kernel_rfl
theorem pa (w:World) (os:OsState):ha w os=some true:=by rw [Fast.haQ_eq];exact oa w os
theorem pb (w:World) (os:OsState):hb w os=wb:=by rw [Fast.hbQ_eq,Fast.wbQ_eq];exact oz w os
theorem pc (w:World) (os:OsState):hc w os=wc w:=by rw [Fast.hcQ_eq,Fast.wcQ_eq];exact oc w os
theorem hl:LeftO p vw ls Xt (fun s=>as.map s.heap.get?) (fun w=>(K w.params).map fun p=>some p.2) 7002:=
 left (M:=7002) (by kernel_rfl) (fun s=>by kernel_rfl) rfl rfl (fun w=>by kernel_rfl) pa pb pc
end Hd
open Hd My
set_option maxRecDepth 100000 in
set_option maxHeartbeats 0 in
theorem PySem.Challenge.cw_leastbook_k15_pages_of_labels_holds : PySem.Challenge.rw_leastbook_k15_pages_of_labels.Holds := by
 w_on;o_law
 refine holds_open (q:=vw) (loose:=ls) (Xt:=Hd.Xt) (XP:=XL vw []) (YP:=InK K) hl (InK.of as_eq) InK.keeps (fun s e=>xl_of s (Bool.and_eq_true_iff.mp e).1) XL.keeps rfl rfl rfl
  (fun s e=>recFacts_of (Bool.and_eq_true_iff.mp e).2) rfl ‹_› (by decide +kernel) ⟨rfl,rfl,rfl,rfl,rfl,by decide +kernel⟩ ?hw ?hc
 case hw=>w_witness2
 refine My.walk (l:=PySem.Challenge.rw_leastbook_k15_pages_of_labels) rfl rfl (fun w h Y=>Y) ?F
 intro w mg fa h X G hmg
 have T:=txt X G
 obtain ⟨fd,hb,F⟩:=d_law X G hmg
 refine ⟨fd,hb,fun b kb nb=>?_⟩
 have c_figures:=ok_figures (P:=p) (w:=w) (base:=b) (d_figures X G) T
 have c_bare:=ok_bare (P:=p) (w:=w) (base:=b) (d_bare X G) T
 have c_has_height:=ok_has_height (P:=p) (w:=w) (base:=b) (d_has_height X G) T
 have c_has_width:=ok_has_width (P:=p) (w:=w) (base:=b) (d_has_width X G) T
 have c_word_at:=ok_word_at (P:=p) (w:=w) (base:=b) (d_word_at X G) T
 have c_put_word:=ok_put_word (P:=p) (w:=w) (base:=b) (d_put_word X G) T c_has_height c_has_width c_word_at
 have c_end_line:=ok_end_line (P:=p) (w:=w) (base:=b) (d_end_line X G) T
 have c_put_block:=ok_put_block (P:=p) (w:=w) (base:=b) (d_put_block X G) T c_bare c_end_line c_has_height
 have c_new_page:=ok_new_page (P:=p) (w:=w) (base:=b) (d_new_page X G) T c_bare
 have c_new_chapter:=ok_new_chapter (P:=p) (w:=w) (base:=b) (d_new_chapter X G) T c_bare c_new_page
 have c_put_plates:=ok_put_plates (P:=p) (w:=w) (base:=b) (d_put_plates X G) T c_bare c_new_page
 have c_is_style:=ok_is_style (P:=p) (w:=w) (base:=b) (d_is_style X G) T
 have c_is_titled:=ok_is_titled (P:=p) (w:=w) (base:=b) (d_is_titled X G) T
 have c_is_set:=ok_is_set (P:=p) (w:=w) (base:=b) (d_is_set X G) T
 have c_label_of:=ok_label_of (P:=p) (w:=w) (base:=b) (d_label_of X G) T
 have c_items_of:=ok_items_of (P:=p) (w:=w) (base:=b) (d_items_of X G) T
 have c_refs:=ok_refs (P:=p) (w:=w) (base:=b) (d_refs X G) T c_items_of
 have c_pages_for:=ok_pages_for (P:=p) (w:=w) (base:=b) (d_pages_for X G) T c_is_set c_is_titled c_items_of
 have c_pages_at_most:=ok_pages_at_most (P:=p) (w:=w) (base:=b) (d_pages_at_most X G) T c_pages_for
 have c_room_at_most:=ok_room_at_most (P:=p) (w:=w) (base:=b) (d_room_at_most X G) T c_figures c_pages_at_most
 have c_any_longer:=ok_any_longer (P:=p) (w:=w) (base:=b) (d_any_longer X G) T
 have c_is_wide_block:=ok_is_wide_block (P:=p) (w:=w) (base:=b) (d_is_wide_block X G) T c_any_longer c_is_titled
 have c_is_wide_item:=ok_is_wide_item (P:=p) (w:=w) (base:=b) (d_is_wide_item X G) T c_any_longer
 have c_is_high_block:=ok_is_high_block (P:=p) (w:=w) (base:=b) (d_is_high_block X G) T
 have c_is_high_item:=ok_is_high_item (P:=p) (w:=w) (base:=b) (d_is_high_item X G) T
 have c_add_label:=ok_add_label (P:=p) (w:=w) (base:=b) (d_add_label X G) T
 have c_look_at_block:=ok_look_at_block (P:=p) (w:=w) (base:=b) (d_look_at_block X G) T c_add_label c_is_high_block c_is_wide_block c_label_of
 have c_look_at_item:=ok_look_at_item (P:=p) (w:=w) (base:=b) (d_look_at_item X G) T c_add_label c_is_high_item c_is_wide_item
 have c_look_at_items:=ok_look_at_items (P:=p) (w:=w) (base:=b) (d_look_at_items X G) T c_is_set c_look_at_item
 have c_look_at_refs:=ok_look_at_refs (P:=p) (w:=w) (base:=b) (d_look_at_refs X G) T c_refs
 have c_look:=ok_look (P:=p) (w:=w) (base:=b) (d_look X G) T c_is_style c_items_of c_look_at_block c_look_at_items c_look_at_refs c_room_at_most
 have c_set_contents:=ok_set_contents (P:=p) (w:=w) (base:=b) (d_set_contents X G) T c_bare c_is_titled c_new_chapter c_put_block
 have c_set_items:=ok_set_items (P:=p) (w:=w) (base:=b) (d_set_items X G) T c_end_line c_is_set c_put_word
 have c_set_block:=ok_set_block (P:=p) (w:=w) (base:=b) (d_set_block X G) T c_new_chapter c_put_block c_put_plates
 have c_set_book:=ok_set_book (P:=p) (w:=w) (base:=b) (d_set_book X G) T c_refs c_set_block c_set_contents c_set_items
 have c_pages_with:=ok_pages_with (P:=p) (w:=w) (base:=b) (d_pages_with X G) T c_is_set
 have c_label_pages:=ok_label_pages (P:=p) (w:=w) (base:=b) (d_label_pages X G) T c_items_of c_label_of c_pages_with
 have c_laid:=ok_laid (P:=p) (w:=w) (base:=b) (d_laid X G) T c_look c_set_book
 have c_pages_of:=ok_pages_of (P:=p) (w:=w) (base:=b) (d_pages_of X G) T c_label_pages c_laid
 have c_Lcell_at:=ok_Lcell_at (P:=p) (w:=w) (base:=b) (d_Lcell_at X G) T
 have c_Lwhole:=ok_Lwhole (P:=p) (w:=w) (base:=b) (d_Lwhole X G) T
 have c_Lmix:=ok_Lmix (P:=p) (w:=w) (base:=b) (d_Lmix X G) T
 have c_Llabel:=ok_Llabel (P:=p) (w:=w) (base:=b) (d_Llabel X G) T
 have c_Lplates:=ok_Lplates (P:=p) (w:=w) (base:=b) (d_Lplates X G) T
 have c_Lsigns:=ok_Lsigns (P:=p) (w:=w) (base:=b) (d_Lsigns X G) T
 have c_Latom:=ok_Latom (P:=p) (w:=w) (base:=b) (d_Latom X G) T c_Llabel c_Lmix c_Lplates c_Lsigns
 have c_Lpointed:=ok_Lpointed (P:=p) (w:=w) (base:=b) (d_Lpointed X G) T c_Lmix
 have c_Lgrouped:=ok_Lgrouped (P:=p) (w:=w) (base:=b) (d_Lgrouped X G) T
 have c_Ledge:=ok_Ledge (P:=p) (w:=w) (base:=b) (d_Ledge X G) T c_Lcell_at c_Lmix
 have c_Lneeds:=ok_Lneeds (P:=p) (w:=w) (base:=b) (d_Lneeds X G) T
 have c_Lmost:=ok_Lmost (P:=p) (w:=w) (base:=b) (d_Lmost X G) T
 have c_Ldrawn:=ok_Ldrawn (P:=p) (w:=w) (base:=b) (d_Ldrawn X G) T c_Latom c_Lcell_at c_Ledge c_Lgrouped c_Lmix c_Lmost c_Lneeds c_Lpointed
 have c_Lrooms:=ok_Lrooms (P:=p) (w:=w) (base:=b) (d_Lrooms X G) T c_Lmix
 have c_Lcopy:=ok_Lcopy (P:=p) (w:=w) (base:=b) (d_Lcopy X G) T
 have c_Lheads:=ok_Lheads (P:=p) (w:=w) (base:=b) (d_Lheads X G) T
 exact ok_law F T c_Lcopy c_Ldrawn c_Lheads c_Lrooms c_Lwhole c_laid c_pages_of
#print axioms PySem.Challenge.cw_leastbook_k15_pages_of_labels_holds
