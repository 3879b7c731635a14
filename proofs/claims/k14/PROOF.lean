import PyProof.Rows.All
import Wide.All
import OpenK.AllK
import Wide.FinOn
import Lean
import PyProof.EqAt
import PyProof.EqKinds
import PyProof.TupleCall
import PyProof.NeKinds
import PyProof.ZipIter
import KE.KDictList
import KE.KItemsList
import PySem.Challenge.RW_leastbook_k14_laid_by_the_rules
set_option maxHeartbeats 4000000
set_option Elab.async false
set_option linter.all false
set_option maxRecDepth 100000
namespace L2
open PySem PySem.Spec PyProof.Rows
abbrev Key:=Sum Int Str
def Qev:Key->Value->Bool
 | .inl k,v=>Value.isInt k v
 | .inr x,v=>Value.isStrOf x v
def QtZ (w:World):Key->Int
 | .inl k=>hashInt k
 | .inr x=>hashStr w x
theorem ZD:∀ {k:Key} {v:Value},Qev k v=true->(∃ i t,k=Sum.inl i/\v=Value.int i t)\/(∃ x t,k=Sum.inr x/\v=Value.str x t)
 | .inl i,v,h=>by
  obtain ⟨t,e⟩:=Value.isInt_shape (k:=i) (v:=v) h
  exact .inl ⟨i,t,rfl,e⟩
 | .inr x,v,h=>by
  obtain ⟨t,e⟩:=Value.isStrOf_shape (x:=x) (v:=v) h
  exact .inr ⟨x,t,rfl,e⟩
theorem QnY (i:Int) (t:Tok):Qev (.inl i) (.int i t)=true:=by simp [Qev,Value.isInt]
theorem QnX (x:Str) (t:Tok):Qev (.inr x) (.str x t)=true:=by simp [Qev,Value.isStrOf]
theorem Qsr (a b:Int):decide ((Sum.inl a:Key)=Sum.inl b)=(a==b):=by
 by_cases e:a=b
 ·subst e;simp
 ·have h:¬ (Sum.inl a:Key)=Sum.inl b:=fun q=>e (Sum.inl.inj q)
  rw [decide_eq_false h]
  exact (beq_eq_false_iff_ne.mpr e).symm
theorem Qso (a b:Str):decide ((Sum.inr a:Key)=Sum.inr b)=decide (a=b):=by
 by_cases e:a=b
 ·subst e;simp
 ·have h:¬ (Sum.inr a:Key)=Sum.inr b:=fun q=>e (Sum.inr.inj q)
  rw [decide_eq_false h,decide_eq_false e]
theorem Qsq (a:Int) (b:Str):decide ((Sum.inl a:Key)=Sum.inr b)=false:=decide_eq_false (fun q=>nomatch q)
theorem Qsp (a:Str) (b:Int):decide ((Sum.inr a:Key)=Sum.inl b)=false:=decide_eq_false (fun q=>nomatch q)
def ZP (prog:Program) (w:World):PySem.KeyKind prog w Key where
 is:=Qev
 hash:=QtZ w
 inj:=fun v a b ha hb=>by
  rcases ZD ha with ⟨i,t,rfl,rfl⟩ | ⟨x,t,rfl,rfl⟩
  ·rcases ZD hb with ⟨j,u,rfl,e⟩ | ⟨y,u,rfl,e⟩
   ·injection e with e1 _;rw [e1]
   ·exact nomatch e
  ·rcases ZD hb with ⟨j,u,rfl,e⟩ | ⟨y,u,rfl,e⟩
   ·exact nomatch e
   ·injection e with e1 _;rw [e1]
 byValue:=fun k v h=>by
  rcases ZD h with ⟨i,t,rfl,rfl⟩ | ⟨x,t,rfl,rfl⟩<;>rfl
 pyHash:=fun hv h=>by
  rcases ZD hv with ⟨i,t,rfl,rfl⟩ | ⟨x,t,rfl,rfl⟩
  ·exact wpAny_pyHash_int h
  ·exact wpAny_pyHash_str h
 eqBool:=fun hu hv h=>by
  rcases ZD hu with ⟨i,t,rfl,rfl⟩ | ⟨x,t,rfl,rfl⟩
  ·rcases ZD hv with ⟨j,u,rfl,rfl⟩ | ⟨y,u,rfl,rfl⟩
   ·rw [Qsr] at h;exact wpAny_eqBool_int h
   ·rw [Qsq] at h;exact SeqAt.EqAt.int_str i t y u _ _ _ _ h
  ·rcases ZD hv with ⟨j,u,rfl,rfl⟩ | ⟨y,u,rfl,rfl⟩
   ·rw [Qsp] at h;exact SeqAt.EqAt.str_int x t j u _ _ _ _ h
   ·rw [Qso] at h;exact wpAny_eqBool_str h
 «strs»:=fun k x t v h=>by
  rcases ZD h with ⟨i,u,rfl,e⟩ | ⟨y,u,rfl,e⟩
  ·exact nomatch e
  ·injection e with e1 _
   subst e1
   cases v<;>rfl
theorem Qkw (prog:Program) (w:World) (i:Int) (t:Tok):(ZP prog w).is (.inl i) (.int i t)=true:=QnY i t
theorem Qkv (prog:Program) (w:World) (x:Str) (t:Tok):(ZP prog w).is (.inr x) (.str x t)=true:=QnX x t
end L2
namespace L2
open PySem PySem.Spec PyProof.Rows
inductive V where
 | non | bl (b:Bool) | int (i:Int) | str (x:Str) | byt (b:Array UInt8) | flt (b:UInt64) | ref (a:Addr) | ty (n:String)
 deriving DecidableEq
def RelV:V->Value->Prop
 | .non,u=>u=Value.none
 | .bl b,u=>u=Value.bool b
 | .int i,u=>∃ t,u=Value.int i t
 | .str x,u=>∃ t,u=Value.str x t
 | .byt b,u=>∃ t,u=Value.bytes b t
 | .flt b,u=>∃ t,u=Value.float b t
 | .ref a,u=>u=Value.ref a
 | .ty n,u=>u=Value.type n
abbrev Vals:List V->List Value->Prop:=Paired RelV
theorem Vals.length {xs:List V} {us:List Value} (r:Vals xs us):xs.length=us.length:=Paired.length r
theorem Vals.get:∀ {xs:List V} {us:List Value} {i:Nat} {x:V},Vals xs us->xs[i]?=some x->∃ u,us[i]?=some u/\RelV x u
 | _,_,_,_,.nil,e=>by simp at e
 | _,_,0,_,.cons r _,e=>by simp at e;subst e;exact ⟨_,rfl,r⟩
 | _,_,i+1,x,.cons _ t,e=>by
  obtain ⟨u,h1,h2⟩:=Vals.get (i:=i) (x:=x) t (by simpa using e)
  exact ⟨u,by simpa using h1,h2⟩
theorem Vals.set {x:V} {u:Value} (r:RelV x u):∀ {xs:List V} {us:List Value} (i:Nat),Vals xs us->Vals (xs.set i x) (us.set i u)
 | _,_,_,.nil=>.nil
 | _,_,0,.cons _ t=>.cons r t
 | _,_,i+1,.cons q t=>.cons q (Vals.set r i t)
theorem Vals.append:∀ {xs ys:List V} {us ws:List Value},Vals xs us->Vals ys ws->Vals (xs++ys) (us++ws)
 | _,_,_,_,.nil,s=>s
 | _,_,_,_,.cons r t,s=>.cons r (Vals.append t s)
theorem Vals.take:∀ {xs:List V} {us:List Value} (n:Nat),Vals xs us->Vals (xs.take n) (us.take n)
 | _,_,0,_=>.nil
 | _,_,_+1,.nil=>.nil
 | _,_,n+1,.cons r t=>.cons r (Vals.take n t)
theorem Vals.drop:∀ {xs:List V} {us:List Value} (n:Nat),Vals xs us->Vals (xs.drop n) (us.drop n)
 | _,_,0,r=>r
 | _,_,_+1,.nil=>.nil
 | _,_,n+1,.cons _ t=>Vals.drop n t
def RelO:Option V->Option Value->Prop
 | some v,some u=>RelV v u
 | none,none=>True
 | _,_=>False
def KV {κ:Type}:List (κ×V)->List (κ×Value)->Prop:=Paired fun (p:κ×V) (q:κ×Value)=>p.1=q.1/\RelV p.2 q.2
def kV:Key->V
 | .inl i=>.int i
 | .inr x=>.str x
inductive HO where
 | lst (xs:List V)
 | tup (xs:List V)
 | dK (kvs:List (Key×V)) | dT (kvs:List (List Key×V))
 | set (S:Int->Bool) (n:Nat)
 | ins (C dx:Addr) (fs:List (Str×V))
 | own (x:Addr)
 | xd (fs:List (Str×V))
 | met (f x:Addr)
 | rng (lo hi:Int)
 | frz (o:Obj) (u:HO)
 | tbl (ps:Array Value)
 | ext (φ:Heap->Prop)
abbrev Hp:=Addr->Option HO
def upd (H:Hp) (a:Addr) (o:HO):Hp:=fun b=>if b=a then some o else H b
theorem Q7 {H:Hp} {a:Addr} {o:HO}:upd H a o a=some o:=by unfold upd;rw [if_pos rfl]
theorem QH {H:Hp} {a b:Addr} {o:HO} (h:b≠a):upd H a o b=H b:=by unfold upd;rw [if_neg h]
theorem Qtd {H:Hp} {a b:Addr} {o u:HO} (h:H a=some o) (h':H b=some u) (d:o≠u):a≠b:=by
 intro e;subst e;rw [h] at h';exact d (Option.some.inj h')
theorem J0 {H:Hp} {a b:Addr} {o:HO} (h:H a=some o) (h':H b=none):a≠b:=by
 intro e;subst e;rw [h] at h';cases h'
section
variable (P:Program) (w:World)
def ObjOk (H:Hp) (h:Heap) (a:Addr):HO->Prop
 | .lst xs=>xs.length<=sizeLine/\∃ (its:List Value) (n:Nat),Vals xs its/\h.get? a=some { cls:=.type "list",data:=.seq its.toArray n }
 | .tup xs=>xs.length<=sizeLine/\∃ its:List Value,Vals xs its/\IsTup h a its.toArray
 | .dK kvs=>kvs.length<=sizeLine/\(a==sysModules)=false/\∃ vs,KV kvs vs/\h.DictOf (ZP P w) a vs
 | .dT kvs=>kvs.length<=sizeLine/\(a==sysModules)=false/\∃ xs:List (List Key×Addr×Value),
   Paired (fun (p:List Key×V) (q:List Key×Addr×Value)=>p.1=q.1/\H q.2.1=some (.tup (p.1.map kV))/\RelV p.2 q.2.2) kvs xs /\
   ∃ o es ep,h.get? a=some o/\o.ExactDict/\o.data=.dict es ep/\es.toList=xs.map (entryOfKey (tupleKind (ZP P w)))/\(xs.map (·.1)).Nodup
 | .set S n=>h.SetOf (intKind P w) a S n
 | .ins C dx fs=>H dx=some (.own a)/\fs.length<=1000/\dx≠a/\h.get? a=some (PySem.W.instObj C dx) /\
   ∃ mA,h.Ns1 dx mA/\(∀ f,RelO (fs.lookup f) (mA f))/\PySem.Within mA (fs.map (·.1))
 | .own _=>∃ o,h.get? a=some o
 | .xd fs=>∃ mA,h.Ns1 a mA/\∀ f,RelO (fs.lookup f) (mA f)
 | .rng lo hi=>∃ t u v,h.get? a=some { cls:=.type "range",data:=.fields #[.int lo t,.int hi u,.int 1 v] }
 | .frz o u=>h.get? a=some o/\ObjOk H h a u
 | .tbl ps=>h.get? a=some { cls:=.none,data:=.fields ps }
 | .met f x=>h.get? a=some (PySem.W.methodObj (.ref f) (.ref x))
 | .ext φ=>φ h/\(∃ o,h.get? a=some o)/\∀ h1 h2:Heap,φ h1->(∀ o,h1.get? a=some o->h2.get? a=some o)->φ h2
def HOk (H:Hp) (h:Heap):Prop:=∀ a o,H a=some o->ObjOk P w H h a o
end
section
variable {P:Program} {w:World} {H H':Hp} {h h':Heap} {a:Addr} {o:HO}
theorem ObjOk.lt (x:ObjOk P w H h a o):a<h.objs.size:=by
 cases o with
 | lst xs=>obtain ⟨_,_,_,_,e⟩:=x;exact Heap.lt_size e
 | tup xs=>obtain ⟨_,_,_,p⟩:=x;exact p.lt
 | dK kvs=>obtain ⟨_,_,_,_,o,_,_,e,_⟩:=x;exact Heap.lt_size e
 | dT kvs=>obtain ⟨_,_,_,_,o,_,_,e,_⟩:=x;exact Heap.lt_size e
 | set S n=>obtain ⟨o,_,_,_,e,_⟩:=x;exact Heap.lt_size e
 | ins C dx fs=>obtain ⟨_,_,_,e,_⟩:=x;exact Heap.lt_size e
 | own y=>obtain ⟨_,e⟩:=x;exact Heap.lt_size e
 | xd fs=>obtain ⟨_,⟨_,_,_,e,_⟩,_⟩:=x;exact Heap.lt_size e
 | rng lo hi=>obtain ⟨_,_,_,e⟩:=x;exact Heap.lt_size e
 | frz ob u=>obtain ⟨e,_⟩:=x;exact Heap.lt_size e
 | tbl ps=>exact Heap.lt_size (show h.get? a=some _ from x)
 | met f y=>exact Heap.lt_size (show h.get? a=some _ from x)
 | ext φ=>obtain ⟨_,⟨_,e⟩,_⟩:=x;exact Heap.lt_size e
theorem Paired.mapP {α β:Type} {F G:α->β->Prop}:∀ {l₁:List α} {l₂:List β},Paired F l₁ l₂->(∀ a b,F a b->G a b)->Paired G l₁ l₂
 | _,_,.nil,_=>.nil
 | _,_,.cons r t,f=>.cons (f _ _ r) (Paired.mapP t f)
theorem ObjOk.stay (x:ObjOk P w H h a o) (k:∀ b u,(b=a\/H b=some (.own a))->h.get? b=some u->h'.get? b=some u)
  (ho:∀ b,H b=some (.own a)->H' b=some (.own a)) (ht:∀ b xs,H b=some (.tup xs)->H' b=some (.tup xs)):ObjOk P w H' h' a o:=by
 induction o with
 | lst xs=>obtain ⟨z,its,n,r,e⟩:=x;exact ⟨z,its,n,r,k _ _ (.inl rfl) e⟩
 | tup xs=>obtain ⟨z,its,r,ob,e,c⟩:=x;exact ⟨z,its,r,ob,k _ _ (.inl rfl) e,c⟩
 | dK kvs=>obtain ⟨z,y,vs,r,ob,es,ep,e,c⟩:=x;exact ⟨z,y,vs,r,ob,es,ep,k _ _ (.inl rfl) e,c⟩
 | dT kvs =>
  obtain ⟨z,y,xs,r,ob,es,ep,e,c⟩:=x
  exact ⟨z,y,xs,Paired.mapP r fun p q z=>⟨z.1,ht _ _ z.2.1,z.2.2⟩,ob,es,ep,k _ _ (.inl rfl) e,c⟩
 | set S n=>obtain ⟨ob,es,ep,t,e,c⟩:=x;exact ⟨ob,es,ep,t,k _ _ (.inl rfl) e,c⟩
 | ins C dx fs =>
  obtain ⟨d,z,ne,e,mA,⟨od,es,ep,e2,c⟩,r⟩:=x
  exact ⟨ho _ d,z,ne,k _ _ (.inl rfl) e,mA,⟨od,es,ep,k _ _ (.inr d) e2,c⟩,r⟩
 | own y=>obtain ⟨ob,e⟩:=x;exact ⟨ob,k _ _ (.inl rfl) e⟩
 | xd fs=>obtain ⟨mA,⟨od,es,ep,e,c⟩,r⟩:=x;exact ⟨mA,⟨od,es,ep,k _ _ (.inl rfl) e,c⟩,r⟩
 | rng lo hi=>obtain ⟨t,u,v,e⟩:=x;exact ⟨t,u,v,k _ _ (.inl rfl) e⟩
 | frz ob u ih=>obtain ⟨e,q⟩:=x;exact ⟨k _ _ (.inl rfl) e,ih q⟩
 | tbl ps =>
  have e:h.get? a=some { cls:=.none,data:=.fields ps }:=x
  show h'.get? a=some { cls:=.none,data:=.fields ps }
  exact k a _ (.inl rfl) e
 | met f y =>
  have e:h.get? a=some (PySem.W.methodObj (.ref f) (.ref y)):=x
  show h'.get? a=some (PySem.W.methodObj (.ref f) (.ref y))
  exact k a _ (.inl rfl) e
 | ext φ=>obtain ⟨p,⟨o,e⟩,st⟩:=x;exact ⟨st _ _ p fun o q=>k _ _ (.inl rfl) q,⟨o,k _ _ (.inl rfl) e⟩,st⟩
theorem HOk.lt (x:HOk P w H h) (e:H a=some o):a<h.objs.size:=(x a o e).lt
theorem HOk.fresh (x:HOk P w H h) (e:h.objs.size<=a):H a=none:=by
 cases q:H a with
 | none=>rfl
 | some u=>exact absurd (Nat.lt_of_lt_of_le (x.lt q) e) (Nat.lt_irrefl _)
theorem HOk.kept (x:HOk P w H h) (k:∀ b u,h.get? b=some u->h'.get? b=some u):HOk P w H h':=fun a o e =>
 (x a o e).stay (fun b u _ q=>k b u q) (fun _ q=>q) fun _ _ q=>q
theorem HOk.laid (x:HOk P w H h) (k:∀ b u,h.get? b=some u->h'.get? b=some u) (hp:h.objs.size<=a) (new:ObjOk P w (upd H a o) h' a o):HOk P w (upd H a o) h':=fun b u e=>by
 have hn:=x.fresh hp
 by_cases hb:b=a
 ·subst hb;rw [Q7] at e;cases e;exact new
 ·rw [QH hb] at e
  exact (x b u e).stay (fun c v _ q=>k c v q) (fun c q=>by rw [QH (J0 q hn)];exact q) fun c xs q=>by rw [QH (J0 q hn)];exact q
end
def Rd (H:Hp) (a:Addr) (u:HO):Prop:=H a=some u\/∃ o,H a=some (.frz o u)
theorem Rd.of {H:Hp} {a:Addr} {u:HO} (h:H a=some u):Rd H a u:=.inl h
theorem Rd.ok {P:Program} {w:World} {H:Hp} {h:Heap} {a:Addr} {u:HO} (r:Rd H a u) (x:HOk P w H h):ObjOk P w H h a u:=by
 rcases r with r | ⟨o,r⟩
 ·exact x a u r
 ·obtain ⟨_,q⟩:=x a _ r
  exact q
def Mut:Option HO->Prop
 | some (.lst _)=>True
 | some (.dK _)=>True
 | some (.dT _)=>True
 | some (.set _ _)=>True
 | some (.ins _ _ _)=>True
 | some (.ext _)=>True
 | _=>False
section
variable {P:Program} {w:World} {H:Hp} {h h':Heap} {x e:Addr} {o':HO}
theorem HOk.write (ok:HOk P w H h) (mu:Mut (H x)) (he:e=x\/H e=some (.own x)) (k:∀ b u,b≠e->h.get? b=some u->h'.get? b=some u) (heo:∃ u,h'.get? e=some u)
  (new:ObjOk P w (upd H x o') h' x o'):HOk P w (upd H x o') h':=fun b u q=>by
 have nown:∀ c y,H c=some (.own y)->c≠x:=fun c y r z=>by subst z;rw [r] at mu;exact mu
 have ntup:∀ c xs,H c=some (.tup xs)->c≠x:=fun c xs r z=>by subst z;rw [r] at mu;exact mu
 by_cases hb:b=x
 ·subst hb;rw [Q7] at q;cases q;exact new
 ·rw [QH hb] at q
  by_cases hbe:b=e
  ·have q':H b=some (.own x):=by
    rcases he with z | z
    ·exact absurd (hbe.trans z) hb
    ·rw [hbe];exact z
   rw [q] at q';cases q'
   obtain ⟨v,hv⟩:=heo
   exact ⟨v,by rw [hbe];exact hv⟩
  ·refine (ok b u q).stay (fun c v hc r=>k c v ?_ r) (fun c r=>by rw [QH (nown c b r)];exact r) fun c xs r=>by rw [QH (ntup c xs r)];exact r
   rcases hc with rfl | hc
   ·exact hbe
   ·rintro rfl
    rcases he with z | z
    ·exact nown c b hc z
    ·rw [hc] at z;cases z;exact hb rfl
end
structure Un (fs ex:List Addr) (H H':Hp) (h h':Heap):Prop where
 keep:∀ b o,h.get? b=some o->H b=none->b∉fs->b∉ex->h'.get? b=some o
 slot:∀ b o,h.get? b=some o->H b=none->b∈fs->b∉ex->∃ sl,h'.get? b=some { o with slots:=sl }
 free:∀ b o,h.get? b=some o->H b=none->b∉ex->H' b=none
 there:∀ b o,h.get? b=some o->b∉ex->∃ o',h'.get? b=some o'
 tups:∀ b xs,H b=some (.tup xs)->H' b=some (.tup xs)
 frzs:∀ b o u,H b=some (.frz o u)->H' b=some (.frz o u)
 tbls:∀ b ps,H b=some (.tbl ps)->∃ more,H' b=some (.tbl (ps++more))
section
variable {fs fs' ex ex':List Addr} {H H1 H2:Hp} {h h1 h2 h':Heap} {a x e:Addr} {o:HO}
theorem Un.any (u:Un fs ex H H1 h h1) {b:Addr} {ob:Obj} (q:h.get? b=some ob) (n:H b=none) (hx:b∉ex):∃ sl,h1.get? b=some { ob with slots:=sl }:=by
 by_cases hb:b∈fs
 ·exact u.slot b ob q n hb hx
 ·exact ⟨ob.slots,u.keep b ob q n hb hx⟩
theorem Un.trans (a:Un fs ex H H1 h h1) (b:Un fs ex H1 H2 h1 h2):Un fs ex H H2 h h2 where
 keep:=fun c ob q n hc hx=>b.keep c ob (a.keep c ob q n hc hx) (a.free c ob q n hx) hc hx
 slot:=fun c ob q n hc hx=>by
  obtain ⟨sl,e1⟩:=a.slot c ob q n hc hx
  obtain ⟨sl',e2⟩:=b.slot c _ e1 (a.free c ob q n hx) hc hx
  exact ⟨sl',e2⟩
 free:=fun c ob q n hx=>by
  obtain ⟨o',e1⟩:=a.there c ob q hx
  exact b.free c o' e1 (a.free c ob q n hx) hx
 there:=fun c ob q hx=>by
  obtain ⟨o',e1⟩:=a.there c ob q hx
  exact b.there c o' e1 hx
 tups:=fun c xs q=>b.tups c xs (a.tups c xs q)
 frzs:=fun c ob xs q=>b.frzs c ob xs (a.frzs c ob xs q)
 tbls:=fun c ps q=>by
  obtain ⟨m1,e1⟩:=a.tbls c ps q
  obtain ⟨m2,e2⟩:=b.tbls c _ e1
  exact ⟨m1++m2,by rw [e2,Array.append_assoc]⟩
theorem Un.kept (k:∀ b u,h.get? b=some u->h'.get? b=some u):Un fs ex H H h h' :=
 ⟨fun b ob q _ _ _=>k b ob q,fun b ob q _ _ _=>⟨ob.slots,k b ob q⟩,fun _ _ _ n _=>n,fun b ob q _=>⟨ob,k b ob q⟩,fun _ _ q=>q,fun _ _ _ q=>q,fun _ ps q=>⟨#[],by rw [q];simp⟩⟩
theorem Un.refl:Un fs ex H H h h:=Un.kept fun _ _ q=>q
theorem Un.laid (k:∀ b u,h.get? b=some u->h'.get? b=some u) (hp:h.objs.size<=a) (hn:H a=none):Un fs ex H (upd H a o) h h' where
 keep:=fun b u q _ _ _=>k b u q
 slot:=fun b u q _ _ _=>⟨u.slots,k b u q⟩
 free:=fun b u q n _=>by rw [QH (Nat.ne_of_lt (Nat.lt_of_lt_of_le (Heap.lt_size q) hp))];exact n
 there:=fun b u q _=>⟨u,k b u q⟩
 tups:=fun b xs q=>by rw [QH (J0 q hn)];exact q
 frzs:=fun b u xs q=>by rw [QH (J0 q hn)];exact q
 tbls:=fun b ps q=>⟨#[],by rw [QH (J0 q hn),q];simp⟩
theorem Un.write (mu:Mut (H x)) (he:e=x\/H e=some (.own x)) (k:∀ b u,b≠e->h.get? b=some u->h'.get? b=some u) (heo:∃ u,h'.get? e=some u):Un fs ex H (upd H x o) h h':=by
 have hx:∀ b,H b=none->b≠x:=fun b n z=>by subst z;rw [n] at mu;exact mu
 have hb:∀ b,H b=none->b≠e:=fun b n z=>by
  subst z
  rcases he with r | r
  ·exact hx b n r
  ·rw [n] at r;cases r
 have hm:∀ b u,H b=some u->¬ Mut (some u)->b≠x:=fun b u q nm z=>by subst z;rw [q] at mu;exact nm mu
 refine ⟨fun b u q n _ _=>k b u (hb b n) q,fun b u q n _ _=>⟨u.slots,k b u (hb b n) q⟩,fun b u q n _=>by rw [QH (hx b n)];exact n,fun b u q _=>?_,
  fun b xs q=>by rw [QH (hm b _ q fun z=>z)];exact q,fun b u xs q=>by rw [QH (hm b _ q fun z=>z)];exact q,fun b ps q=>⟨#[],by rw [QH (hm b _ q fun z=>z),q];simp⟩⟩
 by_cases hbe:b=e
 ·subst hbe;exact heo
 ·exact ⟨u,k b u hbe q⟩
theorem Un.mono (u:Un fs ex H H1 h h1) (hs:∀ b∈fs,b∈fs') (hx:∀ b∈ex,b∈ex'):Un fs' ex' H H1 h h1 :=
 ⟨fun b ob q n hb he=>u.keep b ob q n (fun z=>hb (hs b z)) fun z=>he (hx b z),fun _ _ q n _ he=>u.any q n fun z=>he (hx _ z),fun b ob q n he=>u.free b ob q n fun z=>he (hx b z),fun b ob q he=>u.there b ob q fun z=>he (hx b z),u.tups,u.frzs,u.tbls⟩
end
def trk (h:Heap) (H:Hp):List Addr:=(List.range h.objs.size).filter fun a=>(H a).isSome
def Qc8 (h:Heap) (H:Hp):Heap:=PySem.W.hideAll h (trk h H)
theorem Qn1 (h:Heap) (H:Hp):(Qc8 h H).objs.size=h.objs.size:=PySem.W.hideAll_size _ _
theorem Qpt {h:Heap} {H:Hp} {b:Addr} {o:Obj} (e:h.get? b=some o) (n:H b=none):(Qc8 h H).get? b=some o :=
 PySem.W.hideAll_get _ e fun hm=>by
  have q:(H b).isSome=true:=(List.mem_filter.mp hm).2
  rw [n] at q;simp at q
theorem QqO {h:Heap} {H:Hp} {b:Addr} {o:Obj} (e:(Qc8 h H).get? b=some o):h.get? b=some o/\H b=none:=by
 have e':h.get? b=some o:=PySem.W.of_hideAll (trk h H) e
 refine ⟨e',?_⟩
 cases q:H b with
 | none=>rfl
 | some x =>
  have hm:b∈trk h H:=List.mem_filter.mpr ⟨List.mem_range.mpr (Heap.lt_size e'),by simp [q]⟩
  have z:(Qc8 h H).get? b=none:=PySem.W.hideAll_none (trk h H) hm
  rw [z] at e;cases e
def Qrr (g h:Heap) (L:Addr):List (Addr×Obj):=(List.range h.objs.size).filterMap fun a=>if a=L\/(g.get? a).isSome=true then none else (h.get? a).map fun o=>(a,o)
def Ji (g h:Heap) (L d:Addr):List (Addr×Obj):=(Qrr g h L).filter fun p=>decide (p.1≠d)
end L2
namespace L2
open PySem PySem.Spec PyProof.Rows
structure Mod (K:PySem.W.Frag) (mg:Str->Option Value) (base:Heap):Prop where
 kin:K.In base
 glob:base.Ns mainGlobals mg
 blt:∃ mb,base.Ns builtinsNs mb/\∀ x:Str,x≠"__name__"->mb x=bootBuiltins x
 nolimit:base.NoLimit
structure Cx where
 prog:Program
 w:World
 K:PySem.W.Frag
 mg:Str->Option Value
 base:Heap
 A:Around
 N:List Str
 s₀:Shared
 H₀:Hp
 env:Env
 outer:List Env
 stack:List Env
 ex:List Addr
 fn:Str->Bool
 calm:Bool
 pn:List (Addr×Obj)
 xe:Value->Shared->Prop
def frs (l:List Env):List Addr:=l.filterMap (·.frame)
abbrev Cx.fs (X:Cx):List Addr:=frs X.outer
def Vis (sc:Scope) (x:Str):Prop:=sc.names.lookup x=some .local\/sc.names.lookup x=some .cell\/sc.names.lookup x=some .free
def Loc (sc:Scope) (x:Str):Prop:=sc.names.lookup x=some .local\/sc.names.lookup x=some .cell
def Qt7 (env:Env) (h:Heap) (m:Str->Option Value) (x:Str) (u:Value):Prop :=
 (env.kindOf x=some .local/\m x=some u)\/((env.kindOf x=some .cell\/env.kindOf x=some .free)/\∃ c,env.cells.lookup x=some c/\h.IsCell c (some u))
structure Cx.Ok (X:Cx):Prop where
 mod:Mod X.K X.mg X.base
 kind:X.env.scope.kind=.function
 glob:X.env.globals=mainGlobals
 blt:X.env.builtins=builtinsNs
 above:X.s₀.heap.objs.size<=X.env.locals
 inj:∀ x y c,X.env.cells.lookup x=some c->X.env.cells.lookup y=some c->x=y
 has:∀ x,(X.env.kindOf x=some .cell\/X.env.kindOf x=some .free)->∃ c,X.env.cells.lookup x=some c
 cab:∀ x c,X.fn x=true->X.env.cells.lookup x=some c->X.s₀.heap.objs.size<=c
 hd:X.calm=true->X.A.handled=none
 frames:X.A.frames=some X.stack
 stk:X.stack=X.outer\/(X.stack=X.env::X.outer/\X.env.frame=some X.env.locals)
 exf:∀ b∈X.ex,b≠X.env.locals/\∀ x c,X.env.cells.lookup x=some c->c≠b
 bs:∀ b o,X.base.get? b=some o->X.s₀.heap.get? b=some o/\X.H₀ b=none
 bsz:X.base.objs.size<=X.s₀.heap.objs.size
 noex:∀ b o,X.base.get? b=some o->b∉X.ex
 exfs:∀ b∈X.ex,b∉X.fs
 funs:X.s₀.heap.FunFrames X.base X.outer
 frf:∀ b∈X.fs,X.H₀ b=none
structure Inv (X:Cx) (pins:List (Addr×Obj)) (σ:List (Option V)) (H:Hp) (s:Shared):Prop where
 ok:X.Ok
 os:s.os=X.s₀.os
 bare:AllBare s.gens
 base:Un X.fs X.ex X.H₀ H X.s₀.heap s.heap
 loc:∃ m,s.heap.Ns X.env.locals m/\∀ (i:Nat) (x:Str) (v:V),X.N[i]?=some x->σ[i]?=some (some v)->Vis X.env.scope x->∃ u,RelV v u/\Qt7 X.env s.heap m x u
 cell:∀ x c,X.env.cells.lookup x=some c->∃ v,s.heap.IsCell c v
 free:H X.env.locals=none
 freeC:∀ x c,X.env.cells.lookup x=some c->H c=none
 pin:∀ p∈X.pn++pins,s.heap.get? p.1=some p.2/\H p.1=none/\p.1≠X.env.locals/\p.1∉X.fs/\∀ v,p.2.data≠.cell v
 hok:HOk X.prog X.w H s.heap
 len:σ.length=X.N.length
section
variable {X:Cx} {pins:List (Addr×Obj)} {σ:List (Option V)} {H H':Hp} {s:Shared} {h':Heap}
theorem Cx.Ok.nofr (ok:X.Ok) {b:Addr} {o:Obj} (e:X.base.get? b=some o):b∉X.fs:=fun hb=>by
 have:=(ok.funs.mem hb).1
 rw [e] at this;cases this
theorem Inv.bs (I:Inv X pins σ H s):∀ b o,X.base.get? b=some o->s.heap.get? b=some o/\H b=none:=fun b o e =>
 ⟨I.base.keep b o (I.ok.bs b o e).1 (I.ok.bs b o e).2 (I.ok.nofr e) (I.ok.noex b o e),I.base.free b o (I.ok.bs b o e).1 (I.ok.bs b o e).2 (I.ok.noex b o e)⟩
theorem Inv.bk (I:Inv X pins σ H s):∀ b o,X.base.get? b=some o->s.heap.get? b=some o:=fun b o e=>(I.bs b o e).1
theorem Inv.mod (I:Inv X pins σ H s):Mod X.K X.mg X.base:=I.ok.mod
theorem Inv.kIn (I:Inv X pins σ H s):X.K.In s.heap:=I.ok.mod.kin.keeps I.bk
theorem Inv.nolimit (I:Inv X pins σ H s):s.heap.NoLimit:=I.ok.mod.nolimit.keeps I.bk
theorem Inv.fr (I:Inv X pins σ H s):∃ m,Fr X.base X.env.locals s.heap m :=
 let ⟨m,hn,_⟩:=I.loc
 ⟨m,hn,I.bk,Nat.le_trans I.ok.bsz I.ok.above⟩
theorem Inv.lt (I:Inv X pins σ H s):X.env.locals<s.heap.objs.size:=let ⟨_,hn,_⟩:=I.loc;hn.lt
theorem Inv.sz (I:Inv X pins σ H s):X.s₀.heap.objs.size<=s.heap.objs.size:=Nat.le_trans I.ok.above (Nat.le_of_lt I.lt)
theorem Inv.nofs (I:Inv X pins σ H s) {a:Addr} (h:s.heap.objs.size<=a):a∉X.fs:=fun hb=>by
 obtain ⟨_,o,ho,_⟩:=I.ok.funs.mem hb
 exact absurd (Nat.lt_of_lt_of_le (Heap.lt_size ho) (Nat.le_trans I.sz h)) (Nat.lt_irrefl _)
theorem Inv.cne (I:Inv X pins σ H s):∀ x c,X.env.cells.lookup x=some c->c≠X.env.locals:=fun x c e z=>by
 obtain ⟨v,o,ho,hd⟩:=I.cell x c e
 obtain ⟨m,⟨o',es,ep,ho',hd',_⟩,_⟩:=I.loc
 rw [z,ho'] at ho;cases ho;rw [hd'] at hd;cases hd
theorem Inv.funs (I:Inv X pins σ H s):s.heap.FunFrames X.base X.outer:=by
 have all:∀ (l:List Env),(∀ b∈frs l,b∈X.fs)->X.s₀.heap.FunFrames X.base l->s.heap.FunFrames X.base l:=by
  intro l
  induction l with
  | nil=>intro _ _;trivial
  | cons env r ih =>
   intro hs hl
   obtain ⟨hk,⟨L,o,hf,hn,ho,hd⟩,hr⟩:=hl
   have hL:L∈X.fs:=hs L (by unfold frs;rw [List.filterMap_cons,hf];exact List.mem_cons_self)
   obtain ⟨sl,e⟩:=I.base.slot L o ho (I.ok.frf L hL) hL fun z=>I.ok.exfs L z hL
   exact ⟨hk,⟨L,_,hf,hn,e,hd⟩,ih (fun b hb=>hs b (by unfold frs;rw [List.filterMap_cons,hf];exact List.mem_cons_of_mem _ hb)) hr⟩
 exact all X.outer (fun _ hb=>hb) I.ok.funs
theorem Inv.stack (I:Inv X pins σ H s):s.heap.FunFrames X.base X.stack:=by
 rcases I.ok.stk with e | ⟨e,hf⟩
 ·rw [e];exact I.funs
 ·rw [e]
  obtain ⟨m,hn,_⟩:=I.loc
  refine .cons (by rw [I.ok.kind];decide) hf hn ?_ I.funs
  exact Heap.get?_none_of_le (Nat.le_trans I.ok.bsz I.ok.above)
theorem Inv.stkSub (I:Inv X pins σ H s):∀ b∈frs X.stack,b∈X.env.locals::X.fs:=fun b hb=>by
 rcases I.ok.stk with e | ⟨e,hf⟩
 ·rw [e] at hb;exact List.mem_cons_of_mem _ hb
 ·rw [e] at hb
  unfold frs at hb
  rw [List.filterMap_cons,hf] at hb
  exact hb
theorem Inv.stkFree (I:Inv X pins σ H s):∀ b∈frs X.stack,H b=none:=fun b hb=>by
 rcases List.mem_cons.mp (I.stkSub b hb) with e | hb
 ·rw [e];exact I.free
 ·obtain ⟨_,o,ho,_⟩:=I.ok.funs.mem hb
  exact I.base.free b o ho (I.ok.frf b hb) fun z=>I.ok.exfs b z hb
theorem Inv.step {g':Array GenState} {t':Nat} {d':Drawn} {ch:List Addr} (I:Inv X pins σ H s)
  (hch:∀ b∈ch,(b∈X.ex\/X.s₀.heap.objs.size<=b)/\b≠X.env.locals/\(∀ x c,X.env.cells.lookup x=some c->c≠b)/\∀ p∈X.pn++pins,p.1≠b)
  (keep:∀ b o,b≠X.env.locals->b∉X.fs->b∉ch->s.heap.get? b=some o->H b=none->h'.get? b=some o)
  (slot:∀ b o,b≠X.env.locals->b∈X.fs->b∉ch->s.heap.get? b=some o->H b=none->∃ sl,h'.get? b=some { o with slots:=sl }) (free:∀ b o,b∉ch->s.heap.get? b=some o->H b=none->H' b=none)
  (there:∀ b o,b∉ch->s.heap.get? b=some o->∃ o',h'.get? b=some o')
  (tups:∀ b xs,H b=some (.tup xs)->H' b=some (.tup xs)) (frzs:∀ b o u,H b=some (.frz o u)->H' b=some (.frz o u)) (tbls:∀ b ps,H b=some (.tbl ps)->∃ more,H' b=some (.tbl (ps++more)))
  (ns:∀ m,s.heap.Ns X.env.locals m->h'.Ns X.env.locals m) (hok:HOk X.prog X.w H' h') (hg:AllBare g') :
  Inv X pins σ H' { s with heap:=h',gens:=g',drawn:=d',toks:=t' }:=by
 have neL:∀ b o,X.s₀.heap.get? b=some o->b≠X.env.locals:=fun b o e=>Nat.ne_of_lt (Nat.lt_of_lt_of_le (Heap.lt_size e) I.ok.above)
 have neC:∀ b o,X.s₀.heap.get? b=some o->b∉X.ex->b∉ch:=fun b o e hx hb=>by
  rcases (hch b hb).1 with z | z
  ·exact hx z
  ·exact absurd (Nat.lt_of_lt_of_le (Heap.lt_size e) z) (Nat.lt_irrefl _)
 have cellK:∀ x c,X.env.cells.lookup x=some c->∀ v,s.heap.IsCell c v->h'.IsCell c v:=fun x c e v ⟨o,ho,hd⟩=>by
  have nch:c∉ch:=fun z=>(hch c z).2.2.1 x c e rfl
  by_cases hc:c∈X.fs
  ·obtain ⟨sl,q⟩:=slot c o (I.cne x c e) hc nch ho (I.freeC x c e)
   exact ⟨_,q,hd⟩
  ·exact ⟨o,keep c o (I.cne x c e) hc nch ho (I.freeC x c e),hd⟩
 refine ⟨I.ok,I.os,hg,⟨fun b o e n hb hx=>?_,fun b o e n hb hx=>?_,fun b o e n hx=>?_,fun b o e hx=>?_,fun b xs e=>tups b xs (I.base.tups b xs e),fun b o xs e=>frzs b o xs (I.base.frzs b o xs e),fun b ps e=>?_⟩,?_,fun x c e=>?_,?_,fun x c e=>?_,fun p hp=>?_,hok,I.len⟩
 ·exact keep b o (neL b o e) hb (neC b o e hx) (I.base.keep b o e n hb hx) (I.base.free b o e n hx)
 ·obtain ⟨sl,e1⟩:=I.base.slot b o e n hb hx
  obtain ⟨sl',e2⟩:=slot b _ (neL b o e) hb (neC b o e hx) e1 (I.base.free b o e n hx)
  exact ⟨sl',e2⟩
 ·obtain ⟨o',e1⟩:=I.base.there b o e hx
  exact free b o' (neC b o e hx) e1 (I.base.free b o e n hx)
 ·obtain ⟨o',e1⟩:=I.base.there b o e hx
  exact there b o' (neC b o e hx) e1
 ·obtain ⟨m1,e1⟩:=I.base.tbls b ps e
  obtain ⟨m2,e2⟩:=tbls b _ e1
  exact ⟨m1++m2,by rw [e2,Array.append_assoc]⟩
 ·obtain ⟨m,hn,hl⟩:=I.loc
  refine ⟨m,ns m hn,fun i x v e1 e2 e3=>?_⟩
  obtain ⟨u,r,l⟩:=hl i x v e1 e2 e3
  refine ⟨u,r,?_⟩
  rcases l with l | ⟨k,c,e,z⟩
  ·exact .inl l
  ·exact .inr ⟨k,c,e,cellK x c e _ z⟩
 ·obtain ⟨v,z⟩:=I.cell x c e
  exact ⟨v,cellK x c e v z⟩
 ·obtain ⟨m,⟨o,_,_,ho,_⟩,_⟩:=I.loc
  exact free _ o (fun z=>(hch _ z).2.1 rfl) ho I.free
 ·obtain ⟨v,o,ho,hd⟩:=I.cell x c e
  exact free c o (fun z=>(hch c z).2.2.1 x c e rfl) ho (I.freeC x c e)
 ·obtain ⟨e,n,ne,nf,d⟩:=I.pin p hp
  have nch:p.1∉ch:=fun z=>(hch p.1 z).2.2.2 p hp rfl
  exact ⟨keep p.1 p.2 ne nf nch e n,free p.1 p.2 nch e n,ne,nf,d⟩
theorem Inv.un {t':Nat} (I:Inv X pins σ H s) (u:Un X.fs [] H H' s.heap h') (hok:HOk X.prog X.w H' h'):Inv X pins σ H' { s with heap:=h',toks:=t' }:=by
 obtain ⟨m,⟨o,es,ep,ho,r⟩,_⟩:=id I.loc
 obtain ⟨sl,hL⟩:=u.any ho I.free (by simp)
 exact I.step (g':=s.gens) (d':=s.drawn) (ch:=[]) (fun _ z=>nomatch z) (fun b o _ hb _ e n=>u.keep b o e n hb (by simp)) (fun b o _ hb _ e n=>u.slot b o e n hb (by simp)) (fun b o _ e n=>u.free b o e n (by simp)) (fun b o _ e=>u.there b o e (by simp)) u.tups u.frzs u.tbls (fun m' hm=>by
  obtain ⟨o',es',ep',ho',r'⟩:=hm
  rw [ho] at ho';cases ho'
  exact ⟨_,es',ep',hL,r'⟩) hok I.bare
theorem Inv.call {g':Array GenState} {t':Nat} {d':Drawn} {ch:List Addr} (I:Inv X pins σ H s) (u:Un (frs X.stack) ch H H' s.heap h') (hok:HOk X.prog X.w H' h') (hg:AllBare g')
  (hch:∀ b∈ch,(b∈X.ex\/X.s₀.heap.objs.size<=b)/\b≠X.env.locals/\(∀ x c,X.env.cells.lookup x=some c->c≠b)/\∀ p∈X.pn++pins,p.1≠b) :
  Inv X pins σ H' { s with heap:=h',gens:=g',drawn:=d',toks:=t' }:=by
 obtain ⟨m,⟨o,es,ep,ho,r⟩,_⟩:=id I.loc
 obtain ⟨sl,hL⟩:=u.any ho I.free fun z=>(hch _ z).2.1 rfl
 exact I.step (ch:=ch) hch (fun b o hL hb hc e n=>u.keep b o e n (fun z=>(List.mem_cons.mp (I.stkSub b z)).elim hL hb) hc) (fun b o _ _ hc e n=>u.any e n hc) (fun b o hc e n=>u.free b o e n hc) (fun b o hc e=>u.there b o e hc) u.tups u.frzs u.tbls (fun m' hm=>by
  obtain ⟨o',es',ep',ho',r'⟩:=hm
  rw [ho] at ho';cases ho'
  exact ⟨_,es',ep',hL,r'⟩) hok hg
theorem Inv.turned {t':Nat} {it:Addr} (I:Inv X pins σ H s) (k:∀ b o,b≠it->s.heap.get? b=some o->h'.get? b=some o) (hn:H it=none) (hL:it≠X.env.locals)
  (h1:it∈X.ex\/X.s₀.heap.objs.size<=it) (h2:∀ x c,X.env.cells.lookup x=some c->c≠it) (h3:∀ p∈X.pn++pins,p.1≠it):Inv X pins σ H { s with heap:=h',toks:=t' }:=by
 have nit:∀ b u,H b=some u->b≠it:=fun b u e z=>by rw [z,hn] at e;cases e
 refine I.step (g':=s.gens) (d':=s.drawn) (ch:=[it]) (fun b hb=>?_) (fun b o _ _ hc e _=>k b o (fun z=>hc (by simp [z])) e) (fun b o _ _ hc e _=>⟨o.slots,k b o (fun z=>hc (by simp [z])) e⟩) (fun _ _ _ _ n=>n)
  (fun b o hc e=>⟨o,k b o (fun z=>hc (by simp [z])) e⟩) (fun _ _ e=>e) (fun _ _ _ e=>e) (fun b ps e=>⟨#[],by rw [e];simp⟩) (fun m hm=>?_) (fun b u e=>?_) I.bare
 ·have e:b=it:=by simpa using hb
  subst e
  exact ⟨h1,hL,h2,h3⟩
 ·obtain ⟨o,es,ep,ho,r⟩:=hm
  exact ⟨o,es,ep,k _ o (Ne.symm hL) ho,r⟩
 ·refine (I.hok b u e).stay (fun c v hc q=>k c v ?_ q) (fun _ q=>q) fun _ _ q=>q
  rcases hc with z | z
  ·rw [z];exact nit b u e
  ·exact nit c _ z
theorem Inv.tok (I:Inv X pins σ H s) (t:Nat):Inv X pins σ H { s with toks:=t }:=I.un (h':=s.heap) (t':=t) Un.refl I.hok
theorem Inv.kept {t':Nat} (I:Inv X pins σ H s) (k:∀ b u,s.heap.get? b=some u->h'.get? b=some u):Inv X pins σ H { s with heap:=h',toks:=t' }:=I.un (Un.kept k) (I.hok.kept k)
theorem Inv.laid {a:Addr} {o:HO} {t':Nat} (I:Inv X pins σ H s) (k:∀ b u,s.heap.get? b=some u->h'.get? b=some u) (hp:s.heap.objs.size<=a) (new:ObjOk X.prog X.w (upd H a o) h' a o) :
  Inv X pins σ (upd H a o) { s with heap:=h',toks:=t' }:=I.un (Un.laid k hp (I.hok.fresh hp)) (I.hok.laid k hp new)
theorem Inv.write {x e:Addr} {o:HO} {t':Nat} (I:Inv X pins σ H s) (mu:Mut (H x)) (he:e=x\/H e=some (.own x)) (k:∀ b u,b≠e->s.heap.get? b=some u->h'.get? b=some u) (heo:∃ u,h'.get? e=some u)
  (new:ObjOk X.prog X.w (upd H x o) h' x o):Inv X pins σ (upd H x o) { s with heap:=h',toks:=t' }:=I.un (Un.write mu he k heo) (I.hok.write mu he k heo new)
theorem Inv.pins_of {pins':List (Addr×Obj)} (I:Inv X pins σ H s) (h:∀ p∈pins',s.heap.get? p.1=some p.2/\H p.1=none/\p.1≠X.env.locals/\p.1∉X.fs/\∀ v,p.2.data≠.cell v):Inv X pins' σ H s :=
 ⟨I.ok,I.os,I.bare,I.base,I.loc,I.cell,I.free,I.freeC,fun p hp=>(List.mem_append.mp hp).elim (fun z=>I.pin p (List.mem_append_left _ z)) (h p),I.hok,I.len⟩
theorem QiR {N:List Str} (hN:N.Nodup) {i j:Nat} {x:Str} (a:N[i]?=some x) (b:N[j]?=some x):i=j:=by
 obtain ⟨h1,e1⟩:=List.getElem?_eq_some_iff.mp a
 obtain ⟨h2,e2⟩:=List.getElem?_eq_some_iff.mp b
 exact (List.getElem_inj hN).mp (e1.trans e2.symm)
theorem Qhc {M:Model} {A:Around} {E:Value->Shared->Prop} {i:Nat} {x:Str} {v:V} {u:Value} {Q:Unit->Shared->Prop} (I:Inv X pins σ H s) (hN:X.N.Nodup) (hi:X.N[i]?=some x) (hx:Loc X.env.scope x) (r:RelV v u)
  (h:∀ s',Inv X pins (σ.set i (some v)) H s'->(∃ a,Heap.SameBut a s.heap s'.heap/\(a=X.env.locals\/X.env.cells.lookup x=some a))->Q () s') (hf:X.fn x=true\/X.env.scope.names.lookup x=some .local:=by first | exact .inl rfl | exact .inr rfl | assumption):wpAny M A (storeName X.env x u) Q E s:=by
 obtain ⟨m,hn,hl⟩:=id I.loc
 have hcls:(X.env.scope.kind==.class||(X.env.scope.kind==.module&&X.env.locals != X.env.globals))=false:=by rw [I.ok.kind];rfl
 have hiσ:i < σ.length:=by rw [I.len];exact (List.getElem?_eq_some_iff.mp hi).1
 have cne:=I.cne
 have tracked:∀ {a:Addr} {h':Heap},(∃ o,s.heap.get? a=some o/\H a=none)->Heap.SameBut a s.heap h'->HOk X.prog X.w H h':=fun {a h'} ha hs b ob e=>by
  obtain ⟨_,_,hfree⟩:=ha
  refine (I.hok b ob e).stay (fun c w' hc q=>(hs.2 c ?_).trans q) (fun _ q=>q) fun _ _ q=>q
  rintro rfl
  rcases hc with rfl | hc
  ·rw [hfree] at e;cases e
  ·rw [hfree] at hc;cases hc
 rcases hx with hk | hk
 ·refine wpAny_storeName_local hk hn (fun h' hn' hs=>?_) hcls
  obtain ⟨oL,_,_,hoL,_⟩:=id hn
  refine h _ ⟨I.ok,I.os,I.bare,⟨fun b o e n hb hx=>?_,fun b o e n hb hx=>?_,I.base.free,fun b o e hx=>?_,I.base.tups,I.base.frzs,I.base.tbls⟩,⟨_,hn',fun j y v' e1 e2 e3=>?_⟩,fun y c e=>?_,I.free,I.freeC,fun p hp=>?_,tracked ⟨oL,hoL,I.free⟩ hs,by simpa using I.len⟩ ⟨_,hs,.inl rfl⟩
  ·exact (hs.2 b (Nat.ne_of_lt (Nat.lt_of_lt_of_le (Heap.lt_size e) I.ok.above))).trans (I.base.keep b o e n hb hx)
  ·obtain ⟨sl,e1⟩:=I.base.slot b o e n hb hx
   exact ⟨sl,(hs.2 b (Nat.ne_of_lt (Nat.lt_of_lt_of_le (Heap.lt_size e) I.ok.above))).trans e1⟩
  ·obtain ⟨o',e1⟩:=I.base.there b o e hx
   exact ⟨o',(hs.2 b (Nat.ne_of_lt (Nat.lt_of_lt_of_le (Heap.lt_size e) I.ok.above))).trans e1⟩
  ·by_cases hj:j=i
   ·subst hj
    rw [hi] at e1;cases e1
    rw [List.getElem?_set_self hiσ] at e2
    cases e2
    exact ⟨u,r,.inl ⟨hk,by simp⟩⟩
   ·rw [List.getElem?_set_ne (Ne.symm hj)] at e2
    obtain ⟨u',r',q⟩:=hl j y v' e1 e2 e3
    refine ⟨u',r',?_⟩
    rcases q with ⟨k,e⟩ | ⟨k,c,e,z⟩
    ·refine .inl ⟨k,?_⟩
     have:y≠x:=fun e=>hj (QiR hN e1 (e▸hi))
     simp [this,e]
    ·exact .inr ⟨k,c,e,z.sameBut hs (cne y c e)⟩
  ·obtain ⟨w',z⟩:=I.cell y c e
   exact ⟨w',z.sameBut hs (cne y c e)⟩
  ·obtain ⟨e,n,ne,nf,d⟩:=I.pin p hp
   exact ⟨(hs.2 p.1 ne).trans e,n,ne,nf,d⟩
 ·have hfn:X.fn x=true:=by
   rcases hf with z | z
   ·exact z
   ·rw [z] at hk;cases hk
  obtain ⟨c,hc⟩:=I.ok.has x (.inl hk)
  obtain ⟨w',z⟩:=I.cell x c hc
  refine wpAny_storeName_cell I.ok.kind hk hc z (fun h' hc' hs=>?_)
  obtain ⟨oc,hoc,hocd⟩:=id z
  refine h { s with heap:=h' } ⟨I.ok,I.os,I.bare,⟨fun b o e n hb hx=>?_,fun b o e n hb hx=>?_,I.base.free,fun b o e hx=>?_,I.base.tups,I.base.frzs,I.base.tbls⟩,⟨m,hn.sameBut hs (Ne.symm (cne x c hc)),fun j y v' e1 e2 e3=>?_⟩,fun y c' e=>?_,I.free,I.freeC,fun p hp=>?_,tracked ⟨oc,hoc,I.freeC x c hc⟩ hs,by simpa using I.len⟩ ⟨c,hs,.inr hc⟩
  ·exact (hs.2 b (Nat.ne_of_lt (Nat.lt_of_lt_of_le (Heap.lt_size e) (I.ok.cab x c hfn hc)))).trans (I.base.keep b o e n hb hx)
  ·obtain ⟨sl,e1⟩:=I.base.slot b o e n hb hx
   exact ⟨sl,(hs.2 b (Nat.ne_of_lt (Nat.lt_of_lt_of_le (Heap.lt_size e) (I.ok.cab x c hfn hc)))).trans e1⟩
  ·obtain ⟨o',e1⟩:=I.base.there b o e hx
   exact ⟨o',(hs.2 b (Nat.ne_of_lt (Nat.lt_of_lt_of_le (Heap.lt_size e) (I.ok.cab x c hfn hc)))).trans e1⟩
  ·by_cases hj:j=i
   ·subst hj
    rw [hi] at e1;cases e1
    rw [List.getElem?_set_self hiσ] at e2
    cases e2
    exact ⟨u,r,.inr ⟨.inl hk,c,hc,hc'⟩⟩
   ·rw [List.getElem?_set_ne (Ne.symm hj)] at e2
    obtain ⟨u',r',q⟩:=hl j y v' e1 e2 e3
    refine ⟨u',r',?_⟩
    rcases q with q | ⟨k,c',e,z'⟩
    ·exact .inl q
    ·refine .inr ⟨k,c',e,z'.sameBut hs ?_⟩
     rintro rfl
     exact hj (QiR hN e1 (I.ok.inj _ _ _ e hc▸hi))
  ·by_cases hcc:c'=c
   ·subst hcc;exact ⟨_,hc'⟩
   ·obtain ⟨w2,z2⟩:=I.cell y c' e
    exact ⟨w2,z2.sameBut hs hcc⟩
  ·obtain ⟨e,n,ne,nf,d⟩:=I.pin p hp
   refine ⟨(hs.2 p.1 ?_).trans e,n,ne,nf,d⟩
   intro q
   rw [q,hoc] at e
   have q':oc=p.2:=Option.some.inj e
   exact d w' (by rw [<- q'];exact hocd)
theorem Qe6 {M:Model} {A:Around} {E:Value->Shared->Prop} {i:Nat} {x:Str} {v:V} {u:Value} {Q:Unit->Shared->Prop} (I:Inv X pins σ H s) (hN:X.N.Nodup) (hi:X.N[i]?=some x) (hx:Loc X.env.scope x) (r:RelV v u)
  (h:∀ s',Inv X pins (σ.set i (some v)) H s'->Q () s') (hf:X.fn x=true\/X.env.scope.names.lookup x=some .local:=by first | exact .inl rfl | exact .inr rfl | assumption):wpAny M A (storeName X.env x u) Q E s :=
 Qhc I hN hi hx r (fun s' I' _=>h s' I') hf
theorem Inv.call' {s':Shared} {ch:List Addr} (I:Inv X pins σ H s) (ho:s'.os=s.os) (u:Un (frs X.stack) ch H H' s.heap s'.heap) (hok:HOk X.prog X.w H' s'.heap) (hg:AllBare s'.gens)
  (hch:∀ b∈ch,(b∈X.ex\/X.s₀.heap.objs.size<=b)/\b≠X.env.locals/\(∀ x c,X.env.cells.lookup x=some c->c≠b)/\∀ p∈X.pn++pins,p.1≠b):Inv X pins σ H' s':=by
 obtain ⟨h',g',d',t',o'⟩:=s'
 have e:o'=s.os:=ho
 subst e
 exact I.call (g':=g') (t':=t') (d':=d') u hok hg hch
end
abbrev XK:=Value->Option Addr->Hp->Prop
abbrev St:=List (Option V)
abbrev VK:=V->Hp->Prop
abbrev TE:=St->Hp->VK->Prop
abbrev TT:=St->Hp->(Bool->Hp->Prop)->Prop
abbrev TA:=St->Hp->(List V->Hp->Prop)->Prop
structure Ends where
 nx:St->Hp->Prop
 rt:VK
 bk:St->Hp->Prop:=fun _ _=>False
 ct:St->Hp->Prop:=fun _ _=>False
abbrev TS:=Ends->St->Hp->Prop
def EP (X:Cx) (pins:List (Addr×Obj)) (σ:St) (Q:VK) (u:Value) (s':Shared):Prop:=∃ v H',Inv X pins σ H' s'/\RelV v u/\Q v H'
def TP (X:Cx) (pins:List (Addr×Obj)) (σ:St) (Q:Bool->Hp->Prop) (b:Bool) (s':Shared):Prop:=∃ H',Inv X pins σ H' s'/\Q b H'
def AP (X:Cx) (pins:List (Addr×Obj)) (σ:St) (Q:List V->Hp->Prop) (us:List Value) (s':Shared):Prop:=∃ vs H',Inv X pins σ H' s'/\Vals vs us/\Q vs H'
def SP (X:Cx) (pins:List (Addr×Obj)) (D:Ends) (f:Flow) (s':Shared):Prop :=
 match f with
 | .next=>∃ σ' H',Inv X pins σ' H' s'/\D.nx σ' H'
 | .brk=>∃ σ' H',Inv X pins σ' H' s'/\D.bk σ' H'
 | .cont=>∃ σ' H',Inv X pins σ' H' s'/\D.ct σ' H'
 | .ret u=>∃ v σ' H',Inv X pins σ' H' s'/\RelV v u/\D.rt v H'
def PE (X:Cx) (e:Expr) (t:TE):Prop :=
 ∀ (pins:List (Addr×Obj)) (s:Shared) (σ:St) (H:Hp) (Q:VK),Inv X pins σ H s->t σ H Q->wpAny (model X.prog X.w) X.A (eval e X.env) (EP X pins σ Q) X.xe s
def PT (X:Cx) (e:Expr) (t:TT):Prop :=
 ∀ (pins:List (Addr×Obj)) (s:Shared) (σ:St) (H:Hp) (Q:Bool->Hp->Prop),Inv X pins σ H s->t σ H Q->wpAny (model X.prog X.w) X.A (isTrue e X.env (eval e X.env)) (TP X pins σ Q) X.xe s
def PW (X:Cx) (e:Expr) (t:TT):Prop :=
 ∀ (whole:Sem Value) (pins:List (Addr×Obj)) (s:Shared) (σ:St) (H:Hp) (Q:Bool->Hp->Prop),Inv X pins σ H s->t σ H Q->wpAny (model X.prog X.w) X.A (isTrue e X.env whole) (TP X pins σ Q) X.xe s
theorem PW.pt {X:Cx} {e:Expr} {t:TT} (h:PW X e t):PT X e t:=h _
def PA (X:Cx) (es:List Expr) (t:TA):Prop :=
 ∀ (pos:Pos) (pins:List (Addr×Obj)) (s:Shared) (σ:St) (H:Hp) (Q:List V->Hp->Prop),Inv X pins σ H s->t σ H Q->wpAny (model X.prog X.w) X.A (spliced (backTo pos (starEach es X.env))) (AP X pins σ Q) X.xe s
def PS (X:Cx) (st:Stmt) (t:TS):Prop :=
 ∀ (pins:List (Addr×Obj)) (s:Shared) (σ:St) (H:Hp) (D:Ends),Inv X pins σ H s->t D σ H->wpAny (model X.prog X.w) X.A (exec st X.env) (SP X pins D) X.xe s
def PSs (X:Cx) (st:List Stmt) (t:TS):Prop :=
 ∀ (pins:List (Addr×Obj)) (s:Shared) (σ:St) (H:Hp) (D:Ends),Inv X pins σ H s->t D σ H->wpAny (model X.prog X.w) X.A (execs st X.env) (SP X pins D) X.xe s
theorem thn {α:Type} {t:Sem α} {Q Q':α->Shared->Prop} {M:Model} {A:Around} {E:Value->Shared->Prop} {s:Shared} (h:wpAny M A t Q E s) (hQ:∀ a s,Q a s->Q' a s):wpAny M A t Q' E s:=wpAny_mono h hQ fun _ _ x=>x
end L2
namespace L2
open PySem PySem.Spec PyProof.Rows
section
variable {X:Cx}
def QtE (i:Nat):TE:=fun σ H Q=>∃ v,σ[i]?=some (some v)/\Q v H
def tC (v:V):TE:=fun _ H Q=>Q v H
theorem V2 {i:Nat} {x:Str} {pos:Pos} (hN:X.N[i]?=some x) (hv:Vis X.env.scope x) (hd:(x==("__debug__":Str))=false:=by decide) (hcd:(x==("__classdict__":Str))=false:=by decide):PE X (.Name x pos) (QtE i):=by
 intro pins s σ H Q I h
 obtain ⟨v,e,h⟩:=h
 obtain ⟨m,hn,hl⟩:=I.loc
 obtain ⟨u,r,l⟩:=hl i x v hN e hv
 have fin:EP X pins σ Q u s:=⟨v,H,I,r,h⟩
 rcases l with ⟨hk,hm⟩ | ⟨hk,c,hc,hcell⟩
 ·exact wpAny_Name (wpAny_loadName_local I.ok.kind hk hn hm fin) hd
 ·rcases hk with hk | hk
  ·exact wpAny_Name (wpAny_loadName_cell I.ok.kind hk hc hcell fin) hd
  ·exact wpAny_Name (wpAny_loadName_free I.ok.kind hk hc hcell fin hcd) hd
theorem Qr2 {i j pos}:PE X (.Constant (.int i) j pos) (tC (.int i)):=fun _ _ _ H _ I h=>wpAny_Constant_int ⟨.int i,H,I.tok _,⟨_,rfl⟩,h⟩
theorem Qs9 {b j pos}:PE X (.Constant (.bool b) j pos) (tC (.bl b)):=fun _ _ _ H _ I h=>Constant_bool ⟨.bl b,H,I,rfl,h⟩
theorem QrZ {x j pos}:PE X (.Constant (.str x) j pos) (tC (.str x)):=fun _ _ _ H _ I h=>Calls.Constant_str ⟨.str x,H,I.tok _,⟨_,rfl⟩,h⟩
def Gl (X:Cx) (x:Str):Prop:=X.env.kindOf x=some .globalImplicit
theorem Qk2 {E:Value->Shared->Prop} {pins:List (Addr×Obj)} {s:Shared} {σ:St} {H:Hp} {x:Str} {u:Value} {pos:Pos} {Q:Value->Shared->Prop} (I:Inv X pins σ H s) (hg:Gl X x) (hm:X.mg x=some u) (h:Q u s)
  (hd:(x==("__debug__":Str))=false:=by decide):wpAny (model X.prog X.w) X.A (eval (.Name x pos) X.env) Q E s :=
 Calls.Name_function_global I.ok.kind hg (Calls.loadGlobal_global (by rw [I.ok.glob];exact I.mod.glob.keeps I.bk) hm h) hd
theorem Qd4 {E:Value->Shared->Prop} {pins:List (Addr×Obj)} {s:Shared} {σ:St} {H:Hp} {x:Str} {u:Value} {pos:Pos} {Q:Value->Shared->Prop} (I:Inv X pins σ H s) (hg:Gl X x) (hm:X.mg x=none) (hv:bootBuiltins x=some u) (h:Q u s)
  (hn:x≠"__name__":=by decide) (hd:(x==("__debug__":Str))=false:=by decide):wpAny (model X.prog X.w) X.A (eval (.Name x pos) X.env) Q E s:=by
 obtain ⟨mb,h1,h2⟩:=I.mod.blt
 exact Calls.Name_function_global I.ok.kind hg (Calls.loadGlobal_builtin (by rw [I.ok.glob];exact I.mod.glob.keeps I.bk) hm (by rw [I.ok.blt];exact h1.keeps I.bk) ((h2 x hn).trans hv) h) hd
theorem QqC {x:Str} {v:V} {u:Value} {pos:Pos} (hg:Gl X x) (hm:X.mg x=some u) (r:RelV v u) (hd:(x==("__debug__":Str))=false:=by decide):PE X (.Name x pos) (tC v) :=
 fun _ _ _ H _ I h=>Qk2 I hg hm ⟨v,H,I,r,h⟩ hd
theorem QqE {x:Str} {v:V} {u:Value} {pos:Pos} (hg:Gl X x) (hm:X.mg x=none) (hv:bootBuiltins x=some u) (r:RelV v u) (hn:x≠"__name__":=by decide) (hd:(x==("__debug__":Str))=false:=by decide):PE X (.Name x pos) (tC v) :=
 fun _ _ _ H _ I h=>Qd4 I hg hm hv ⟨v,H,I,r,h⟩ hn hd
variable {a b:Expr} {ta tb:TE} {pos:Pos}
def PC (X:Cx) (op:CmpOp) (a b:Expr) (t:TE):Prop :=
 ∀ (pins:List (Addr×Obj)) (s:Shared) (σ:St) (H:Hp) (Q:VK),Inv X pins σ H s->t σ H Q ->
  wpAny (model X.prog X.w) X.A (eval a X.env) (fun v s₁=>wpAny (model X.prog X.w) X.A (eval b X.env) (fun u s₂=>wpAny (model X.prog X.w) X.A (compareOp op v u) (EP X pins σ Q) X.xe s₂) X.xe s₁) X.xe s
theorem Qpc (b:Expr) {op:CmpOp} (h:op≠.In) (h2:op≠.NotIn):behindInMarks op b=false:=by
 have e1:(op==CmpOp.In)=false:=by cases op<;>first | rfl | exact absurd rfl h
 have e2:(op==CmpOp.NotIn)=false:=by cases op<;>first | rfl | exact absurd rfl h2
 cases b<;>simp [behindInMarks,e1,e2]
def tB (t:TE):TT:=fun σ H Q=>t σ H fun x H1=>∃ c,x=.bl c/\Q c H1
theorem QmU {op:CmpOp} {t:TE} (h:PC X op a b t) (h1:behindInMarks op b=false:=by first | exact Qpc _ (by decide) (by decide) | rfl):PT X (.Compare a [op] [b] pos) (tB t):=by
 intro pins s σ H Q I hw
 refine wpAny_isTrue_Compare1 (thn (h pins s σ H _ I hw) fun v s1 h1=>thn h1 fun u s2 h2=>thn h2 fun c s3 ⟨x,H1,I1,r1,q1⟩=>?_) h1
 obtain ⟨d,rfl,q⟩:=q1
 cases r1
 exact wpAny_truthy_bool ⟨H1,I1,q⟩
theorem QrS {e:Expr} {t:TE} (h:PE X e t) (he:∀ whole,isTrue e X.env whole=(do let v <- whole;standAt e.pos;holding [v] (truthy v)):=by intro _;rfl):PT X e (tB t):=by
 intro pins s σ H Q I hw
 refine isTrue_plain (thn (h pins s σ H _ I hw) fun v s1 ⟨x,H1,I1,r1,q1⟩=>?_) (he _)
 obtain ⟨d,rfl,q⟩:=q1
 cases r1
 exact wpAny_truthy_bool ⟨H1,I1,q⟩
variable {tA tB':TT} {Ji:List Expr}
def Qru (t u:TT):TT:=fun σ H Q=>t σ H fun c H1=>if c=true then u σ H1 Q else Q false H1
def tOr (t u:TT):TT:=fun σ H Q=>t σ H fun c H1=>if c=true then Q true H1 else u σ H1 Q
def QtK (t:TT):TT:=fun σ H Q=>t σ H fun c H1=>Q (!c) H1
theorem Qqt (ha:PT X a tA):PW X (.BoolOp .And [a] pos) tA:=by
 intro wh pins s σ H Q I h
 refine isTrue_and (thn (ha pins s σ H Q I h) fun c s1 e=>?_)
 cases c with
 | true=>exact isTrue_and_nil e
 | false=>exact e
theorem QrQ (ha:PT X a tA):PW X (.BoolOp .Or [a] pos) tA:=by
 intro wh pins s σ H Q I h
 refine isTrue_or (thn (ha pins s σ H Q I h) fun c s1 e=>?_)
 cases c with
 | false=>exact isTrue_or_nil e
 | true=>exact e
theorem QrR (ha:PT X a tA) (hb:PW X (.BoolOp .And (b::Ji) pos) tB'):PW X (.BoolOp .And (a::b::Ji) pos) (Qru tA tB'):=by
 intro wh pins s σ H Q I h
 refine isTrue_and (thn (ha pins s σ H _ I h) fun c s1 ⟨H1,I1,q1⟩=>?_)
 cases c with
 | true=>exact hb wh pins s1 σ H1 Q I1 q1
 | false=>exact ⟨H1,I1,q1⟩
theorem Qs4 (ha:PT X a tA) (hb:PW X (.BoolOp .Or (b::Ji) pos) tB'):PW X (.BoolOp .Or (a::b::Ji) pos) (tOr tA tB'):=by
 intro wh pins s σ H Q I h
 refine isTrue_or (thn (ha pins s σ H _ I h) fun c s1 ⟨H1,I1,q1⟩=>?_)
 cases c with
 | true=>exact ⟨H1,I1,q1⟩
 | false=>exact hb wh pins s1 σ H1 Q I1 q1
theorem QrU (ha:PT X a tA):PT X (.UnaryOp .Not a pos) (QtK tA):=by
 intro pins s σ H Q I h
 exact isTrue_not (ha pins s σ H (fun c H1=>Q (!c) H1) I h)
def Qs1 (ta tb:TE):TE:=fun σ H Q=>ta σ H fun x H1=>∃ c,x=.bl c/\if c=true then tb σ H1 Q else Q (.bl false) H1
def QtJ (ta tb:TE):TE:=fun σ H Q=>ta σ H fun x H1=>∃ c,x=.bl c/\if c=true then Q (.bl true) H1 else tb σ H1 Q
def QsW (ta:TE):TE:=fun σ H Q=>ta σ H fun x H1=>∃ c,x=.bl c/\Q (.bl (!c)) H1
theorem Qr0 {op} {t:TE} (h:PE X a t):PE X (.BoolOp op [a] pos) t:=fun pins s σ H Q I hw=>BoolOp_one (h pins s σ H Q I hw)
theorem Qr3 (ha:PE X a ta) (hb:PE X (.BoolOp .And (b::Ji) pos) tb):PE X (.BoolOp .And (a::b::Ji) pos) (Qs1 ta tb):=by
 intro pins s σ H Q I h
 refine BoolOp_and (thn (ha pins s σ H _ I h) fun v s1 ⟨x,H1,I1,r1,q1⟩=>?_)
 obtain ⟨c,rfl,q1⟩:=q1
 cases r1
 refine wpAny_truthy_bool ?_
 cases c with
 | true=>exact hb pins s1 σ H1 Q I1 q1
 | false=>exact ⟨.bl false,H1,I1,rfl,q1⟩
theorem Qs7 (ha:PE X a ta) (hb:PE X (.BoolOp .Or (b::Ji) pos) tb):PE X (.BoolOp .Or (a::b::Ji) pos) (QtJ ta tb):=by
 intro pins s σ H Q I h
 refine BoolOp_or (thn (ha pins s σ H _ I h) fun v s1 ⟨x,H1,I1,r1,q1⟩=>?_)
 obtain ⟨c,rfl,q1⟩:=q1
 cases r1
 refine wpAny_truthy_bool ?_
 cases c with
 | false=>exact hb pins s1 σ H1 Q I1 q1
 | true=>exact ⟨.bl true,H1,I1,rfl,q1⟩
theorem Qr1 (ha:PE X a ta):PE X (.UnaryOp .Not a pos) (QsW ta):=by
 intro pins s σ H Q I h
 refine UnaryOp_ (thn (ha pins s σ H _ I h) fun v s1 ⟨x,H1,I1,r1,q1⟩=>?_)
 obtain ⟨c,rfl,q1⟩:=q1
 cases r1
 exact not_of (wpAny_truthy_bool ⟨.bl (!c),H1,I1,rfl,q1⟩)
def tIf (t:TT) (ta tb:TE):TE:=fun σ H Q=>t σ H fun c H1=>if c=true then ta σ H1 Q else tb σ H1 Q
theorem Qo2 {c:Expr} (hc:PT X c tA) (ha:PE X a ta) (hb:PE X b tb):PE X (.IfExp c a b pos) (tIf tA ta tb):=by
 intro pins s σ H Q I h
 refine wpAny_IfExp (thn (hc pins s σ H _ I h) fun d s1 ⟨H1,I1,q1⟩=>?_)
 cases d with
 | true=>exact ha pins s1 σ H1 Q I1 q1
 | false=>exact hb pins s1 σ H1 Q I1 q1
end
end L2
namespace L2
open PySem PySem.Spec PyProof.Rows
def SqL (K:PySem.W.Frag) (H:Hp) (a:Addr) (xs:List V):Prop :=
 Rd H a (.lst xs) \/
  ∃ (o:Obj) (its:Array Value) (n:Nat),K.lookup a=some o/\o.cls=.type "list"/\o.dict=none/\o.data=.seq its n/\its.size<=sizeLine/\Vals xs its.toList
def SqT (K:PySem.W.Frag) (H:Hp) (a:Addr) (xs:List V):Prop :=
 Rd H a (.tup xs) \/
  ∃ (o:Obj) (its:Array Value) (n:Nat),K.lookup a=some o/\o.cls=.type "tuple"/\o.data=.seq its n/\its.size<=sizeLine/\Vals xs its.toList
def Qt5:Value->Option V
 | .none=>some .non
 | .bool b=>some (.bl b)
 | .int i _=>some (.int i)
 | .str x _=>some (.str x)
 | .bytes b _=>some (.byt b)
 | .float b _=>some (.flt b)
 | .ref a=>some (.ref a)
 | .type n=>some (.ty n)
 | _=>none
theorem RelV.abs {x:V} {u:Value} (r:RelV x u):Qt5 u=some x:=by
 cases x with
 | non=>cases r;rfl
 | bl _=>cases r;rfl
 | int _=>obtain ⟨t,rfl⟩:=r;rfl
 | str _=>obtain ⟨t,rfl⟩:=r;rfl
 | byt _=>obtain ⟨t,rfl⟩:=r;rfl
 | flt _=>obtain ⟨t,rfl⟩:=r;rfl
 | ref _=>cases r;rfl
 | ty _=>cases r;rfl
theorem RelV.inj {x y:V} {u:Value} (r:RelV x u) (q:RelV y u):x=y:=Option.some.inj (r.abs.symm.trans q.abs)
theorem Vals.inj:∀ {xs ys:List V} {us:List Value},Vals xs us->Vals ys us->xs=ys
 | _,_,_,.nil,.nil=>rfl
 | _,_,_,.cons r t,.cons r' t'=>by rw [r.inj r',Vals.inj t t']
section
variable {X:Cx} {pins:List (Addr×Obj)} {σ:St} {H:Hp} {s:Shared} {a:Addr} {xs ys:List V}
theorem SqL.of {K:PySem.W.Frag} (h:H a=some (.lst xs)):SqL K H a xs:=.inl (.inl h)
theorem SqT.of {K:PySem.W.Frag} (h:H a=some (.tup xs)):SqT K H a xs:=.inl (.inl h)
theorem Inv.list (I:Inv X pins σ H s) (h:SqL X.K H a xs):∃ its:List Value,Vals xs its/\PlainL s.heap a its.toArray/\xs.length<=sizeLine:=by
 rcases h with h | ⟨o,its,n,hk,hc,hd,hs,hz,r⟩
 ·obtain ⟨z,its,n,r,e⟩:=h.ok I.hok
  exact ⟨its,r,⟨_,n,e,rfl,rfl,rfl⟩,z⟩
 ·refine ⟨its.toList,r,⟨o,n,I.kIn a o hk,hc,hd,by simpa using hs⟩,?_⟩
  have e:=r.length
  simp only [Array.length_toList] at e
  omega
theorem Inv.tuple (I:Inv X pins σ H s) (h:SqT X.K H a xs):∃ its:List Value,Vals xs its/\IsTup s.heap a its.toArray/\xs.length<=sizeLine:=by
 rcases h with h | ⟨o,its,n,hk,hc,hs,hz,r⟩
 ·obtain ⟨z,its,r,p⟩:=h.ok I.hok
  exact ⟨its,r,p,z⟩
 ·refine ⟨its.toList,r,⟨o,I.kIn a o hk,hc,n,by simpa using hs⟩,?_⟩
  have e:=r.length
  simp only [Array.length_toList] at e
  omega
theorem Inv.list_inj (I:Inv X pins σ H s) (h:SqL X.K H a xs) (h':SqL X.K H a ys):xs=ys:=by
 obtain ⟨its,r,⟨o,n,e,_,_,d⟩,_⟩:=I.list h
 obtain ⟨its',r',⟨o',n',e',_,_,d'⟩,_⟩:=I.list h'
 rw [e] at e';cases e'
 rw [d] at d'
 injection d' with d1 _
 have:its=its':=by simpa using congrArg Array.toList d1
 subst this
 exact r.inj r'
end
abbrev Cx.wish (X:Cx) (E:Value->Shared->Prop):Cx:={ X with xe:=E }
abbrev Cx.nox (X:Cx):Cx:=X.wish fun _ _=>False
theorem Cx.Ok.wish {X:Cx} (ok:X.Ok) (E:Value->Shared->Prop):(X.wish E).Ok :=
 ⟨ok.mod,ok.kind,ok.glob,ok.blt,ok.above,ok.inj,ok.has,ok.cab,ok.hd,ok.frames,ok.stk,ok.exf,ok.bs,ok.bsz,ok.noex,ok.exfs,ok.funs,ok.frf⟩
theorem Cx.Ok.unwish {X:Cx} {E:Value->Shared->Prop} (ok:(X.wish E).Ok):X.Ok :=
 ⟨ok.mod,ok.kind,ok.glob,ok.blt,ok.above,ok.inj,ok.has,ok.cab,ok.hd,ok.frames,ok.stk,ok.exf,ok.bs,ok.bsz,ok.noex,ok.exfs,ok.funs,ok.frf⟩
section
variable {X:Cx} {pins:List (Addr×Obj)} {σ:St} {H:Hp} {s:Shared} {E:Value->Shared->Prop}
theorem Inv.wish (I:Inv X pins σ H s) (E:Value->Shared->Prop):Inv (X.wish E) pins σ H s:=⟨I.ok.wish E,I.os,I.bare,I.base,I.loc,I.cell,I.free,I.freeC,I.pin,I.hok,I.len⟩
theorem Inv.unwish (I:Inv (X.wish E) pins σ H s):Inv X pins σ H s:=⟨I.ok.unwish,I.os,I.bare,I.base,I.loc,I.cell,I.free,I.freeC,I.pin,I.hok,I.len⟩
theorem SP.unwish {D:Ends} {f:Flow} {s':Shared} (h:SP (X.wish E) pins D f s'):SP X pins D f s':=by
 cases f with
 | next=>obtain ⟨σ',H',I,q⟩:=h;exact ⟨σ',H',I.unwish,q⟩
 | brk=>obtain ⟨σ',H',I,q⟩:=h;exact ⟨σ',H',I.unwish,q⟩
 | cont=>obtain ⟨σ',H',I,q⟩:=h;exact ⟨σ',H',I.unwish,q⟩
 | ret u=>obtain ⟨v,σ',H',I,r,q⟩:=h;exact ⟨v,σ',H',I.unwish,r,q⟩
theorem PE.nox {e:Expr} {t:TE} (h:PE X.nox e t):PE X e t:=fun pins s σ H Q I hw =>
 wpAny_mono (h pins s σ H Q (I.wish _) hw) (fun _ _ ⟨v,H',I',r,q⟩=>⟨v,H',I'.unwish,r,q⟩) fun _ _ z=>False.elim z
theorem PT.nox {e:Expr} {t:TT} (h:PT X.nox e t):PT X e t:=fun pins s σ H Q I hw =>
 wpAny_mono (h pins s σ H Q (I.wish _) hw) (fun _ _ ⟨H',I',q⟩=>⟨H',I'.unwish,q⟩) fun _ _ z=>False.elim z
theorem PSs.nox {st:List Stmt} {t:TS} (h:PSs X.nox st t):PSs X st t:=fun pins s σ H D I hw =>
 wpAny_mono (h pins s σ H D (I.wish _) hw) (fun _ _ q=>q.unwish) fun _ _ z=>False.elim z
end
section
variable {X:Cx} {st:Stmt} {Ji:List Stmt} {t u:TS} {e:Expr} {te:TE} {pos:Pos}
def QsX:TS:=fun D σ H=>D.nx σ H
def QtG (t u:TS):TS:=fun D σ H=>t { D with nx:=u D } σ H
theorem QgI:PSs X [] QsX:=fun _ _ σ H _ I h=>wpAny_execs_nil ⟨σ,H,I,h⟩
theorem QbC (h1:PS X st t) (h2:PSs X Ji u):PSs X (st::Ji) (QtG t u):=by
 intro pins s σ H D I h
 refine wpAny_execs_cons (thn (h1 pins s σ H { D with nx:=u D } I h) fun f s1 q=>?_)
 cases f with
 | next =>
  obtain ⟨σ',H',I',q⟩:=q
  exact h2 pins s1 σ' H' D I' q
 | ret v=>exact q
 | brk=>exact q
 | cont=>exact q
theorem Qqw (h1:PS X st t):PSs X [st] t:=by
 intro pins s σ H D I h
 refine wpAny_execs_cons (thn (h1 pins s σ H D I h) fun f s1 q=>?_)
 cases f with
 | next=>exact wpAny_execs_nil q
 | ret v=>exact q
 | brk=>exact q
 | cont=>exact q
def QsZ:TS:=fun D σ H=>D.ct σ H
theorem Qki:PS X (.Continue pos) QsZ:=fun _ _ σ H _ I h=>wpAny_Continue ⟨σ,H,I,h⟩
theorem Inv.quiet {pins:List (Addr×Obj)} {σ:St} {H:Hp} {s:Shared} (I:Inv X pins σ H s):interactive X.env=false:=by simp [interactive,I.ok.kind]
def QsY (te:TE):TS:=fun D σ H=>te σ H fun _ H1=>D.nx σ H1
theorem QcH (he:PE X e te) (hs:swapsWith e none pos.line X.env=pure false:=by rfl):PS X (.Expr e pos) (QsY te):=by
 intro pins s σ H D I h
 exact wpAny_Expr_any (thn (he pins s σ H _ I h) fun v s1 ⟨x,H1,I1,r1,q1⟩=>⟨σ,H1,I1,q1⟩) I.quiet hs
def QtH (te:TE):TS:=fun D σ H=>te σ H D.rt
theorem QrV (he:PE X e te):PS X (.Return (some e) pos) (QtH te):=by
 intro pins s σ H D I h
 exact wpAny_Return_some (thn (he pins s σ H _ I h) fun v s1 ⟨x,H1,I1,r1,q1⟩=>⟨x,σ,H1,I1,r1,q1⟩)
def QtM (c:TT) (t u:TS):TS:=fun D σ H=>c σ H fun b H1=>if b=true then t D σ H1 else u D σ H1
theorem QpZ {c:Expr} {a b:List Stmt} {tc:TT} (hc:PT X c tc) (ha:PSs X a t) (hb:PSs X b u):PS X (.If c a b pos) (QtM tc t u):=by
 intro pins s σ H D I h
 refine wpAny_If (thn (hc pins s σ H _ I h) fun d s1 ⟨H1,I1,q1⟩=>?_)
 cases d with
 | true=>exact ha pins s1 σ H1 D I1 q1
 | false=>exact hb pins s1 σ H1 D I1 q1
end
abbrev TG:=V->St->Hp->(St->Hp->Prop)->Prop
abbrev TGs:=List V->St->Hp->(St->Hp->Prop)->Prop
def PG (X:Cx) (target:Expr) (t:TG):Prop :=
 ∀ (pins:List (Addr×Obj)) (s:Shared) (σ:St) (H:Hp) (v:V) (u:Value) (Q:St->Hp->Prop),Inv X pins σ H s->RelV v u->t v σ H Q ->
  wpAny (model X.prog X.w) X.A (assign target X.env u) (fun _ s'=>∃ σ' H',Inv X pins σ' H' s'/\Q σ' H') X.xe s
def PGs (X:Cx) (ts:List Expr) (t:TGs):Prop :=
 ∀ (pins:List (Addr×Obj)) (s:Shared) (σ:St) (H:Hp) (vs:List V) (us:List Value) (Q:St->Hp->Prop),Inv X pins σ H s->Vals vs us->t vs σ H Q ->
  wpAny (model X.prog X.w) X.A (assignInOrder ((assignEach ts X.env).map (·.2)) us) (fun _ s'=>∃ σ' H',Inv X pins σ' H' s'/\Q σ' H') X.xe s
abbrev TIp:=V->V->Hp->VK->Prop
def PIp (X:Cx) (op:Operator) (t:TIp):Prop :=
 ∀ (pins:List (Addr×Obj)) (s:Shared) (σ:St) (H:Hp) (x y:V) (v u:Value) (Q:VK),Inv X pins σ H s->RelV x v->RelV y u->t x y H Q ->
  wpAny (model X.prog X.w) X.A (inplaceOp op v u) (EP X pins σ Q) X.xe s
section
variable {X:Cx} {pos:Pos}
def Qp6 (i:Nat):TG:=fun v σ H Q=>Q (σ.set i (some v)) H
theorem QkS {i:Nat} {x:Str} (hN:X.N.Nodup) (hi:X.N[i]?=some x) (hx:Loc X.env.scope x) (hf:X.fn x=true\/X.env.scope.names.lookup x=some .local:=by first | exact .inl rfl | exact .inr rfl | assumption):PG X (.Name x pos) (Qp6 i):=by
 intro pins s σ H v u Q I r h
 exact wpAny_assign_Name (Qe6 I hN hi hx r (fun s' I'=>⟨_,H,I',h⟩) hf)
def Qt1:TGs:=fun vs σ H Q=>vs=[]/\Q σ H
def Qtk (t:TG) (u:TGs):TGs:=fun vs σ H Q=>∃ v r,vs=v::r/\t v σ H fun σ' H'=>u r σ' H' Q
theorem QqB:PGs X [] Qt1:=by
 intro pins s σ H vs us Q I r h
 obtain ⟨e,h⟩:=h
 subst e
 cases r
 exact assignInOrder_nil ⟨σ,H,I,h⟩
theorem Qo0 {e:Expr} {es:List Expr} {t:TG} {u:TGs} (h1:PG X e t) (h2:PGs X es u)
  (hs:(assignEach (e::es) X.env).map (·.2)=assign e X.env::(assignEach es X.env).map (·.2):=by rfl):PGs X (e::es) (Qtk t u):=by
 intro pins s σ H vs us Q I r h
 obtain ⟨v,vr,e1,h⟩:=h
 subst e1
 cases r with
 | cons r rr =>
  rw [hs]
  refine assignInOrder_cons (thn (h1 pins s σ H _ _ _ I r h) fun _ s1 ⟨σ1,H1,I1,q1⟩=>?_)
  exact h2 pins s1 σ1 H1 _ _ Q I1 rr q1
def Qt0 (K:PySem.W.Frag) (n:Nat) (t:TGs):TG:=fun v σ H Q=>∃ a xs,v=.ref a/\SqT K H a xs/\xs.length=n/\t xs σ H Q
theorem QrX {es:List Expr} {k:Nat} {t:TGs} {n:Nat} (hc:X.calm=true) (h:PGs X es t)
  (hn:(assignEach es X.env).length=n:=by rfl) (hst:(assignEach es X.env).findIdx? (·.1)=none:=by rfl):PG X (.Tuple es k pos) (Qt0 X.K n t):=by
 intro pins s σ H v u Q I r hw
 obtain ⟨a,xs,e1,hq,hl,hw⟩:=hw
 subst e1
 cases r
 obtain ⟨its,rv,ht,hz⟩:=I.tuple hq
 refine assign_Tuple_tuple (I.ok.hd hc) ht (by simp [hn,<- hl,rv.length]) hst fun h' hx=>?_
 have I1:Inv X pins σ H { s with heap:=h' }:=I.kept (t':=s.toks) fun b o e=>hx b o (Nat.ne_of_lt (Heap.lt_size e)) e
 exact h pins _ σ H xs _ Q I1 (by simpa using rv) hw
def Qow (te:TE) (g:TG):TS:=fun D σ H=>te σ H fun x H1=>g x σ H1 D.nx
theorem QmW {tg e:Expr} {te:TE} {g:TG} (he:PE X e te) (hg:PG X tg g) (hs:swapsWithSole [tg] e pos.line X.env=pure false:=by rfl) (hw:swappedStores [tg] e X.env=pure none:=by rfl)
  (h1:(assignEach [tg] X.env).map (·.2)=[assign tg X.env]:=by rfl):PS X (.Assign [tg] e pos) (Qow te g):=by
 intro pins s σ H D I h
 refine wpAny_Assign_stores (thn (he pins s σ H _ I h) fun v s1 ⟨x,H1,I1,r1,q1⟩=>?_) hs hw
 rw [h1]
 exact thn (hg pins s1 σ H1 x v _ I1 r1 q1) fun _ s2 q=>q
theorem Qio {i:Nat} {x:Str} {e:Expr} {te:TE} {pos':Pos} (hN:X.N.Nodup) (hi:X.N[i]?=some x) (hx:Loc X.env.scope x) (he:PE X e te) (hs:swapsWith e (some (.Name x pos')) pos.line X.env=pure false:=by rfl) (hf:X.fn x=true\/X.env.scope.names.lookup x=some .local:=by first | exact .inl rfl | exact .inr rfl | assumption) :
  PS X (.Assign [.Name x pos'] e pos) (Qow te (Qp6 i)):=by
 intro pins s σ H D I h
 refine wpAny_Assign_Name (thn (he pins s σ H _ I h) fun v s1 ⟨y,H1,I1,r1,q1⟩=>?_) hs
 exact Qe6 I1 hN hi hx r1 (fun s2 I2=>⟨_,H1,I2,q1⟩) hf
def QtR (i:Nat) (te:TE) (ti:TIp):TS:=fun D σ H=>∃ x,σ[i]?=some (some x)/\te σ H fun y H1=>ti x y H1 fun z H2=>D.nx (σ.set i (some z)) H2
theorem QrW {i:Nat} {x:Str} {e:Expr} {te:TE} {op:Operator} {ti:TIp} {pos':Pos} (hN:X.N.Nodup) (hi:X.N[i]?=some x) (hx:Loc X.env.scope x) (he:PE X e te) (ho:PIp X op ti) (hf:X.fn x=true\/X.env.scope.names.lookup x=some .local:=by first | exact .inl rfl | exact .inr rfl | assumption) :
  PS X (.AugAssign (.Name x pos') op e pos) (QtR i te ti):=by
 intro pins s σ H D I h
 obtain ⟨v,e1,h⟩:=h
 obtain ⟨m,hn,hl⟩:=I.loc
 have vis:Vis X.env.scope x:=by rcases hx with k | k;exact .inl k;exact .inr (.inl k)
 obtain ⟨u,r,l⟩:=hl i x v hi e1 vis
 refine wpAny_AugAssign_Name ?_
 have go:wpAny (model X.prog X.w) X.A (eval e X.env) (fun w s₂=>wpAny (model X.prog X.w) X.A (inplaceOp op u w) (fun r s₃=>wpAny (model X.prog X.w) X.A (storeName X.env x r) (fun _=>SP X pins D .next) X.xe s₃) X.xe s₂) X.xe s:=by
  refine thn (he pins s σ H _ I h) fun w s1 ⟨y,H1,I1,r1,q1⟩=>?_
  refine thn (ho pins s1 σ H1 v y u w _ I1 r r1 q1) fun z s2 ⟨zv,H2,I2,r2,q2⟩=>?_
  exact Qe6 I2 hN hi hx r2 (fun s3 I3=>⟨_,H2,I3,q2⟩) hf
 rcases l with ⟨hk,hm⟩ | ⟨hk,c,hc,hcell⟩
 ·exact wpAny_loadName_local I.ok.kind hk hn hm go
 ·rcases hk with hk | hk
  ·exact wpAny_loadName_cell I.ok.kind hk hc hcell go
  ·rcases hx with k | k
   ·have:X.env.scope.names.lookup x=some .free:=hk
    rw [k] at this;cases this
   ·have:X.env.scope.names.lookup x=some .free:=hk
    rw [k] at this;cases this
end
section
variable {X:Cx} {pos:Pos}
end
structure It where
 go:Nat->Hp->Prop
 yld:Nat->Hp->V->Hp->Prop
 stop:Nat->Hp->Prop
def VY (X:Cx) (pins:List (Addr×Obj)) (H:Hp) (b:Addr):Prop :=
 H b=none/\b≠X.env.locals/\b∉X.fs/\(b∈X.ex\/X.s₀.heap.objs.size<=b)/\(∀ x c,X.env.cells.lookup x=some c->c≠b)/\∀ p∈X.pn++pins,p.1≠b
theorem Inv.fpOk {X:Cx} {pins:List (Addr×Obj)} {σ:St} {H H':Hp} {s:Shared} {b:Addr} (I:Inv X pins σ H s) (hb:s.heap.objs.size<=b) (hn:H' b=none):VY X pins H' b:=by
 refine ⟨hn,Nat.ne_of_gt (Nat.lt_of_lt_of_le I.lt hb),I.nofs hb,.inr (Nat.le_trans I.sz hb),fun x c e z=>?_,fun p hp z=>?_⟩
 ·obtain ⟨v,q⟩:=I.cell x c e
  exact absurd (Nat.lt_of_lt_of_le q.lt (by rw [z];exact hb)) (Nat.lt_irrefl _)
 ·exact absurd (Nat.lt_of_lt_of_le (Heap.lt_size (I.pin p hp).1) (by rw [z];exact hb)) (Nat.lt_irrefl _)
structure Turn (P:Program) (w:World) (K:PySem.W.Frag) (tg:Expr) (J:It) (fp:List Addr) (it:Addr) (tn:Nat->Heap->Prop):Prop where
 mem:it∈fp
 obj:∀ i h,tn i h->∀ b∈fp,∃ o,h.get? b=some o/\∀ v,o.data≠.cell v
 keep:∀ i h h',tn i h->(∀ b∈fp,∀ o,h.get? b=some o->h'.get? b=some o)->tn i h'
 item:∀ (X:Cx),X.prog=P->X.w=w->X.K=K->X.calm=true->∀ (i:Nat) (pins:List (Addr×Obj)) (s:Shared) (σ:St) (H:Hp) (E:Value->Shared->Prop),Inv X pins σ H s->(∀ b∈fp,VY X pins H b)->tn i s.heap->J.go i H ->
  wpAny (model P w) X.A (pyNext (.ref it)) (fun r s1=>∃ u,r=some u /\
   wpAny (model P w) X.A (letOwnedTupleGo tg (.ref it) u) (fun _ s2=>∃ x H',Inv X pins σ H' s2/\RelV x u/\J.yld i H x H'/\tn (i+1) s2.heap/\∀ b∈fp,H' b=none) E s1) E s
 done:∀ (X:Cx),X.prog=P->X.w=w->X.K=K->X.calm=true->∀ (i:Nat) (pins:List (Addr×Obj)) (s:Shared) (σ:St) (H:Hp) (E:Value->Shared->Prop),Inv X pins σ H s->(∀ b∈fp,VY X pins H b)->tn i s.heap->J.stop i H ->
  wpAny (model P w) X.A (pyNext (.ref it)) (fun r s1=>r=none/\Inv X pins σ H s1) E s
 self:∀ (A:Around) (i:Nat) (s:Shared) (Q:Value->Shared->Prop) (E:Value->Shared->Prop),tn i s.heap->Q (.ref it) s->wpAny (model P w) A (pyIter (.ref it)) Q E s
abbrev TI:=St->Hp->(It->Hp->Prop)->Prop
def PIE (X:Cx) (pins:List (Addr×Obj)) (σ:St) (tg:Expr) (R:It->Hp->Prop) (itv:Value) (s2:Shared):Prop :=
 ∃ (it:Addr) (fp:List Addr) (tn:Nat->Heap->Prop) (J:It) (H':Hp),itv=.ref it/\Inv X pins σ H' s2/\Turn X.prog X.w X.K tg J fp it tn/\tn 0 s2.heap/\(∀ b∈fp,VY X pins H' b)/\R J H'
def PI (X:Cx) (tg iter:Expr) (wi:TI):Prop :=
 ∀ (pins:List (Addr×Obj)) (s:Shared) (σ:St) (H:Hp) (R:It->Hp->Prop),Inv X pins σ H s->wi σ H R ->
  wpAny (model X.prog X.w) X.A (eval iter X.env) (fun v s1=>wpAny (model X.prog X.w) X.A (pyIter v) (PIE X pins σ tg R) X.xe s1) X.xe s
theorem Qp5 {M:Model} {A:Around} {E:Value->Shared->Prop} {s:Shared} {tg:Expr} {it:Addr} {u:Value} {o:Obj} {n:String} {vs:Array Value} {Q:Unit->Shared->Prop} (ho:s.heap.get? it=some o) (hc:o.cls=.type n) (hd:o.data=.fields vs)
  (hn:["enumerate","zip","dict_itemiterator","dict_reverseitemiterator","odict_iterator","itertools.zip_longest","itertools.pairwise"].contains n=false) (hQ:Q () s):wpAny M A (letOwnedTupleGo tg (.ref it) u) Q E s:=by
 unfold letOwnedTupleGo
 cases tg<;>first
  | exact wpAny_pure hQ
  | (cases u<;>first
    | exact wpAny_pure hQ
    | (refine wpAny_bind (wpAny_load ho ?_)
       rw [hc,hd]
       show wpAny M A (if (["enumerate","zip","dict_itemiterator","dict_reverseitemiterator","odict_iterator","itertools.zip_longest","itertools.pairwise"].contains n&&vs[0]?==some (rawInt _))=true then _ else _) Q E s
       rw [if_neg (by intro h;rw [hn,Bool.false_and] at h;cases h)]
       exact wpAny_pure hQ))
def Itl (K:PySem.W.Frag) (a:Addr):It :=
 ⟨fun i H=>∃ xs x,SqL K H a xs/\xs[i]?=some x,fun i H x H'=>H'=H/\∀ xs,SqL K H a xs->xs[i]?=some x,fun i H=>∃ xs,SqL K H a xs/\xs.length<=i⟩
def Itr (lo:Int) (n:Nat):It:=⟨fun i _=>i<n,fun i H x H'=>H'=H/\x=.int (lo+i),fun i _=>n<=i⟩
theorem Qni {P:Program} {w:World} {K:PySem.W.Frag} {tg:Expr} (a it:Addr):Turn P w K tg (Itl K a) [it] it (fun i h=>h.IsListIter it a i) where
 mem:=by simp
 obj:=fun i h st b hb=>by
  have e:b=it:=by simpa using hb
  subst e
  obtain ⟨o,e,c,d⟩:=st
  exact ⟨o,e,fun v z=>by rw [d] at z;cases z⟩
 keep:=fun i h h' st k=>st.at fun o e=>k it (by simp) o e
 item:=by
  intro X hP hw hK hc i pins s σ H E I hf st hg
  subst hP hw hK
  obtain ⟨xs,x,hq,hx⟩:=hg
  obtain ⟨its,rv,p,hz⟩:=I.list hq
  obtain ⟨u,hu,ru⟩:=rv.get hx
  obtain ⟨f0,f1,f2,f3,f4,f5⟩:=hf it (by simp)
  refine wpAny_pyNext_list_item st p.isList (x:=u) (by simpa using hu) fun h' st' sb=>?_
  have I1:Inv X pins σ H { s with heap:=h' }:=I.turned (t':=s.toks) (fun b o hb e=>(sb.2 b hb).trans e) f0 f1 f3 f4 f5
  obtain ⟨o,e,c,d⟩:=id st'
  exact ⟨u,rfl,Qp5 (s:={ s with heap:=h' }) e c d (by decide) ⟨x,H,I1,ru,⟨rfl,fun ys hy=>by rw [I.list_inj hy hq];exact hx⟩,st',fun b hb=>(hf b hb).1⟩⟩
 done:=by
  intro X hP hw hK hc i pins s σ H E I hf st hg
  subst hP hw hK
  obtain ⟨xs,hq,hx⟩:=hg
  obtain ⟨its,rv,p,hz⟩:=I.list hq
  obtain ⟨f0,f1,f2,f3,f4,f5⟩:=hf it (by simp)
  have hl:=rv.length
  exact wpAny_pyNext_list_end (I.ok.hd hc) st p.isList (by simp;omega) fun h' eb=>⟨rfl,I.turned (t':=s.toks) (fun b o hb e=>eb b o hb e) f0 f1 f3 f4 f5⟩
 self:=fun _ _ _ _ _ st h=>wpAny_pyIter_listiter st h
theorem QlY {P:Program} {w:World} {K:PySem.W.Frag} {tg:Expr} (it:Addr) (lo:Int) (n:Nat):Turn P w K tg (Itr lo n) [it] it (fun i h=>IsRangeIter h it (lo+(i:Nat)*1) ((n:Int)-(i:Nat)) 1) where
 mem:=by simp
 obj:=fun i h st b hb=>by
  have e:b=it:=by simpa using hb
  subst e
  exact ⟨_,st,fun v z=>by
   have z':Data.fields _=Data.cell v:=z
   cases z'⟩
 keep:=fun i h h' st k=>k it (by simp) _ st
 item:=by
  intro X hP hw hK hc i pins s σ H E I hf st hg
  subst hP hw hK
  obtain ⟨f0,f1,f2,f3,f4,f5⟩:=hf it (by simp)
  have W:=Walks.range (prog:=X.prog) (w:=X.w) (I.ok.hd hc) it lo 1 n
  refine W.item i s _ _ hg st fun v h' tk hv st' kk=>?_
  obtain ⟨t,rfl⟩:=hv
  have I1:Inv X pins σ H { s with heap:=h',toks:=tk }:=I.turned (fun b o hb e=>kk b o (by simpa using hb) e) f0 f1 f3 f4 f5
  refine ⟨_,rfl,Qp5 (s:={ s with heap:=h',toks:=tk }) (n:="range_iterator") st' rfl rfl (by decide) ⟨.int (lo+i),H,I1,⟨t,?_⟩,⟨rfl,rfl⟩,st',fun b hb=>(hf b hb).1⟩⟩
  rw [Int.mul_one]
 done:=by
  intro X hP hw hK hc i pins s σ H E I hf st hg
  subst hP hw hK
  obtain ⟨f0,f1,f2,f3,f4,f5⟩:=hf it (by simp)
  exact wpAny_pyNext_range_end (I.ok.hd hc) st (by have:n<=i:=hg;omega) fun h' eb=>⟨rfl,I.turned (t':=s.toks) (fun b o hb e=>eb b o hb e) f0 f1 f3 f4 f5⟩
 self:=fun _ _ _ _ _ st h=>wpAny_pyIter_rangeiter st h
end L2
namespace L2
open PySem PySem.Spec PyProof.Rows
section
variable {X:Cx} {tg:Expr}
def Qti (K:PySem.W.Frag) (tl:TE):TI:=fun σ H R=>tl σ H fun x H1=>∃ a,x=.ref a/\(∃ xs,SqL K H1 a xs)/\R (Itl K a) H1
theorem QgJ {l:Expr} {tl:TE} (hl:PE X l tl):PI X tg l (Qti X.K tl):=by
 intro pins s σ H R I h
 refine thn (hl pins s σ H _ I h) fun v s1 ⟨x,H1,I1,r1,q1⟩=>?_
 obtain ⟨a,e,⟨xs,hq⟩,q⟩:=q1
 subst e
 cases r1
 obtain ⟨its,rv,p,hz⟩:=I1.list hq
 refine wpAny_pyIter_list p.isList ?_
 refine ⟨s1.heap.objs.size,[s1.heap.objs.size],_,_,H1,rfl,I1.kept (t':=s1.toks) fun b o e=>Heap.get?_push_of_some _ e,Qni a _,⟨_,Heap.get?_push_size _ rfl,rfl,rfl⟩,fun b hb=>?_,q⟩
 have e:b=s1.heap.objs.size:=by simpa using hb
 subst e
 exact I1.fpOk (Nat.le_refl _) (I1.hok.fresh (Nat.le_refl _))
theorem QoY {pins:List (Addr×Obj)} {σ:St} {H:Hp} {s:Shared} {R:It->Hp->Prop} {E:Value->Shared->Prop} {lo hi:Int} {t u v:Tok} {tk:Nat} (I:Inv X pins σ H s) (h1:-(2^62)<=lo) (h2:lo<2^62) (h3:-(2^62)<=hi) (h4:hi<2^62)
  (q:R (Itr lo (hi-lo).toNat) H):wpAny (model X.prog X.w) X.A (pyIter (.ref s.heap.objs.size)) (PIE X pins σ tg R) E { s with heap:=s.heap.push { cls:=.type "range",data:=.fields #[.int lo t,.int hi u,.int 1 v] },toks:=tk }:=by
 refine wpAny_pyIter_range (IsRange.new ..) (small_one h1 h2 h3 h4) ?_
 have I1:Inv X pins σ H { s with heap:=s.heap.push { cls:=.type "range",data:=.fields #[.int lo t,.int hi u,.int 1 v] },toks:=tk }:=I.kept fun b o e=>Heap.get?_push_of_some _ e
 refine ⟨(s.heap.push { cls:=.type "range",data:=.fields #[.int lo t,.int hi u,.int 1 v] }).objs.size,[(s.heap.push { cls:=.type "range",data:=.fields #[.int lo t,.int hi u,.int 1 v] }).objs.size],_,_,H,rfl,
  I1.kept (t':=tk) fun b o e=>Heap.get?_push_of_some _ e,QlY _ lo (hi-lo).toNat,?_,fun b hb=>?_,q⟩
 ·have e1:lo+((0:Nat):Int)*1=lo:=by simp
  have e2:(((hi-lo).toNat:Nat):Int)-((0:Nat):Int)=Builtin.Range.rangeSize lo hi 1:=by rw [rangeSize_one];split<;>omega
  show IsRangeIter _ _ (lo+((0:Nat):Int)*1) ((((hi-lo).toNat:Nat):Int)-((0:Nat):Int)) 1
  rw [e1,e2]
  exact Heap.get?_push_size _ rfl
 ·have e:b=(s.heap.push { cls:=.type "range",data:=.fields #[.int lo t,.int hi u,.int 1 v] }).objs.size:=by simpa using hb
  subst e
  exact I1.fpOk (Nat.le_refl _) (I1.hok.fresh (Nat.le_refl _))
def Qth (ta:TA):TI:=fun σ H R=>ta σ H fun vs H1=>∃ j:Int,vs=[.int j]/\-(2^62)<=j/\j<2^62/\R (Itr 0 j.toNat) H1
theorem Qnz {a:Expr} {ta:TA} {p pos:Pos} (hg:Gl X "range") (hm:X.mg "range"=none) (ha:PA X [a] ta) (hs:starEach [a] X.env=[(false,eval a X.env)]:=by rfl):PI X tg (.Call (.Name "range" p) [a] [] pos) (Qth ta):=by
 intro pins s σ H R I h
 refine Call_ (Qd4 I hg hm boot_range (PyProof.Rows.callWith_type1 (thn (ha pos pins s σ H _ I h) fun us s1 ⟨vs,H1,I1,r1,q1⟩=>?_) hs rfl))
 obtain ⟨j,e,q1,q2,q⟩:=q1
 subst e
 cases r1 with
 | cons r rr =>
  cases rr
  obtain ⟨t,rfl⟩:=r
  exact call_range_1 (QoY I1 (by omega) (by omega) q1 q2 (by simpa using q))
def QtN (wi:TI) (g:TG) (tb:TS):TS:=fun D σ H=>wi σ H fun J H1=>∃ W:Nat->Nat->St->Hp->Prop,(∃ m,W 0 m σ H1)/\∀ i m σ H,W i m σ H ->
 (J.stop i H/\D.nx σ H)\/(J.go i H/\∃ N:St->Hp->Prop,(∀ σ' H',N σ' H'->∃ m',m'<m/\W (i+1) m' σ' H')/\∀ x H',J.yld i H x H'->g x σ H' fun σ2 H2=>tb { D with nx:=N,ct:=N,bk:=D.nx } σ2 H2)
def QdY (fp:List Addr) (h:Heap):List (Addr×Obj):=fp.filterMap fun b=>(h.get? b).map fun o=>(b,o)
theorem Qbc {fp:List Addr} {h:Heap} {b:Addr} {o:Obj} (hb:b∈fp) (e:h.get? b=some o):(b,o)∈QdY fp h:=List.mem_filterMap.mpr ⟨b,hb,by rw [e];rfl⟩
theorem QnM {fp:List Addr} {h:Heap} {p:Addr×Obj} (hp:p∈QdY fp h):p.1∈fp/\h.get? p.1=some p.2:=by
 obtain ⟨b,hb,e⟩:=List.mem_filterMap.mp hp
 cases q:h.get? b with
 | none=>rw [q] at e;cases e
 | some o =>
  rw [q] at e
  have e':(b,o)=p:=Option.some.inj e
  subst e'
  exact ⟨hb,q⟩
theorem Inv.pinned {pins:List (Addr×Obj)} {σ:St} {H:Hp} {s:Shared} {fp:List Addr} (I:Inv X pins σ H s) (hf:∀ b∈fp,VY X pins H b) (ho:∀ b∈fp,∃ o,s.heap.get? b=some o/\∀ v,o.data≠.cell v):Inv X (pins++QdY fp s.heap) σ H s :=
 I.pins_of fun p hp=>(List.mem_append.mp hp).elim (fun z=>I.pin p (List.mem_append_right _ z)) fun z=>by
  obtain ⟨hb,e⟩:=QnM z
  obtain ⟨f0,f1,f2,_⟩:=hf p.1 hb
  obtain ⟨o,e',d⟩:=ho p.1 hb
  rw [e] at e';cases e'
  exact ⟨e,f0,f1,f2,d⟩
theorem Inv.unpinned {pins pl:List (Addr×Obj)} {σ:St} {H:Hp} {s:Shared} (I:Inv X (pins++pl) σ H s):Inv X pins σ H s:=I.pins_of fun p hp=>I.pin p (List.mem_append_right _ (List.mem_append_left _ hp))
theorem QmV {iter:Expr} {body:List Stmt} {wi:TI} {g:TG} {tb:TS} {pos:Pos} (hp:PassesOwn (model X.prog X.w) X.A X.env X.xe) (hc:X.calm=true) (hi:PI X tg iter wi) (hg:PG X tg g) (hb:PSs X body tb)
  (hs:∀ x,foldedSetIterable iter X.env x=pure x:=by intro _;rfl):PS X (.For tg iter body [] pos) (QtN wi g tb):=by
 intro pins s σ H D I h
 refine wpAny_For (thn (hi pins s σ H _ I h) fun v s1 h1=>thn h1 fun itv s2 h2=>?_) hs
 obtain ⟨it,fp,tn,J,H2,e,I2,T,st2,f2,W,⟨m0,w0⟩,turn⟩:=h2
 subst e
 have stat:∀ {H':Hp},(∀ b∈fp,H' b=none)->∀ b∈fp,VY X pins H' b:=fun hn b hb=>⟨hn b hb,(f2 b hb).2⟩
 refine codeAny_forLoop_any (fun n s'=>∃ i σ' H',Inv X pins σ' H' s'/\tn i s'.heap/\(∀ b∈fp,H' b=none)/\W i n σ' H') ?_ m0 ⟨0,σ,H2,I2,st2,fun b hb=>(f2 b hb).1,w0⟩
 rintro n s3 ⟨i,σ3,H3,I3,st3,fr3,w3⟩
 rcases turn i n σ3 H3 w3 with ⟨stop,qn⟩ | ⟨go,N,hN,step⟩
 ·refine wpAny_passesOwn hp (thn (T.done X rfl rfl rfl hc i pins s3 σ3 H3 X.xe I3 (stat fr3) st3 stop) fun r s4 ⟨hr,I4⟩=>?_)
  subst hr
  exact wpAny_execs_nil ⟨σ3,H3,I4,qn⟩
 ·refine wpAny_passesOwn hp (thn (T.item X rfl rfl rfl hc i pins s3 σ3 H3 X.xe I3 (stat fr3) st3 go) fun r s4 ⟨u,hr,h4⟩=>?_)
  subst hr
  refine wpAny_passesOwn hp (thn h4 fun _ s5 ⟨x,H5,I5,r5,y5,st5,fr5⟩=>?_)
  have I5':=I5.pinned (stat fr5) (T.obj _ _ st5)
  refine wpAny_passesOwn hp (thn (hg _ s5 σ3 H5 x u _ I5' r5 (step x H5 y5)) fun _ s6 ⟨σ6,H6,I6,q6⟩=>?_)
  refine wpAny_passesOwn hp (thn (hb _ s6 σ6 H6 _ I6 q6) fun f s7 q7=>?_)
  have again:∀ {σ7:St} {H7:Hp},Inv X (pins++QdY fp s5.heap) σ7 H7 s7->N σ7 H7->∃ m,m<n/\∃ i σ' H',Inv X pins σ' H' s7/\tn i s7.heap/\(∀ b∈fp,H' b=none)/\W i m σ' H':=fun {σ7 H7} I7 n7=>by
   obtain ⟨m',hm,w7⟩:=hN σ7 H7 n7
   refine ⟨m',hm,i+1,σ7,H7,I7.unpinned,T.keep _ _ _ st5 fun b hb o e=>(I7.pin (b,o) (List.mem_append_right _ (List.mem_append_right _ (Qbc hb e)))).1,fun b hb=>?_,w7⟩
   obtain ⟨o,e,d⟩:=T.obj _ _ st5 b hb
   exact (I7.pin (b,o) (List.mem_append_right _ (List.mem_append_right _ (Qbc hb e)))).2.1
  cases f with
  | next=>obtain ⟨σ7,H7,I7,n7⟩:=q7;exact again I7 n7
  | cont=>obtain ⟨σ7,H7,I7,n7⟩:=q7;exact again I7 n7
  | brk=>obtain ⟨σ7,H7,I7,q7⟩:=q7;exact ⟨σ7,H7,I7.unpinned,q7⟩
  | ret v=>obtain ⟨x7,σ7,H7,I7,r7,q7⟩:=q7;exact ⟨x7,σ7,H7,I7.unpinned,r7,q7⟩
end
end L2
namespace L2
open PySem PySem.Spec PyProof.Rows
abbrev R2:=V->V->Hp->VK->Prop
def OpR (X:Cx) (f:Value->Value->Sem Value) (r:R2):Prop :=
 ∀ (pins:List (Addr×Obj)) (s:Shared) (σ:St) (H:Hp) (x y:V) (v u:Value) (Q:VK),Inv X pins σ H s->RelV x v->RelV y u->r x y H Q ->
  wpAny (model X.prog X.w) X.A (f v u) (EP X pins σ Q) X.xe s
def UnR (X:Cx) (f:Value->Sem Value) (r:V->Hp->VK->Prop):Prop :=
 ∀ (pins:List (Addr×Obj)) (s:Shared) (σ:St) (H:Hp) (x:V) (v:Value) (Q:VK),Inv X pins σ H s->RelV x v->r x H Q ->
  wpAny (model X.prog X.w) X.A (f v) (EP X pins σ Q) X.xe s
def CallR (X:Cx) (f:Value) (r:List V->Hp->VK->Prop):Prop :=
 ∀ (pins:List (Addr×Obj)) (s:Shared) (σ:St) (H:Hp) (xs:List V) (us:List Value) (Q:VK),Inv X pins σ H s->Vals xs us->r xs H Q ->
  wpAny (model X.prog X.w) X.A (call f us) (EP X pins σ Q) X.xe s
def tOp (r:R2) (ta tb:TE):TE:=fun σ H Q=>ta σ H fun x H1=>tb σ H1 fun y H2=>r x y H2 Q
def tUn (r:V->Hp->VK->Prop) (ta:TE):TE:=fun σ H Q=>ta σ H fun x H1=>r x H1 Q
def rI (C:Int->Int->Prop) (g:Int->Int->V):R2:=fun x y H Q=>∃ i j,x=.int i/\y=.int j/\C i j/\Q (g i j) H
def rI0 (g:Int->Int->V):R2:=fun x y H Q=>∃ i j,x=.int i/\y=.int j/\Q (g i j) H
def rU (g:Int->V):V->Hp->VK->Prop:=fun x H Q=>∃ i,x=.int i/\Q (g i) H
section
variable {X:Cx} {a b c:Expr} {ta tb tc:TE} {pos:Pos}
theorem QoE (ha:PE X a ta) (hb:PE X b tb) {pins:List (Addr×Obj)} {s:Shared} {σ:St} {H:Hp} {R:V->V->Hp->Prop} (I:Inv X pins σ H s)
  (h:ta σ H fun x H1=>tb σ H1 fun y H2=>R x y H2) {Q:Value->Shared->Prop} {f:Value->Value->Sem Value}
  (hf:∀ v u s2 x y H2,Inv X pins σ H2 s2->RelV x v->RelV y u->R x y H2->wpAny (model X.prog X.w) X.A (f v u) Q X.xe s2) :
  wpAny (model X.prog X.w) X.A (eval a X.env) (fun v s₁=>wpAny (model X.prog X.w) X.A (eval b X.env) (fun u s₂=>wpAny (model X.prog X.w) X.A (f v u) Q X.xe s₂) X.xe s₁) X.xe s:=by
 refine thn (ha pins s σ H _ I h) fun v s1 ⟨x,H1,I1,r1,q1⟩=>?_
 refine thn (hb pins s1 σ H1 _ I1 q1) fun u s2 ⟨y,H2,I2,r2,q2⟩=>?_
 exact hf v u s2 x y H2 I2 r1 r2 q2
theorem QlM {op:Operator} {r:R2} (ho:OpR X (binaryOp op) r) (ha:PE X a ta) (hb:PE X b tb):PE X (.BinOp a op b pos) (tOp r ta tb):=by
 intro pins s σ H Q I h
 exact wpAny_BinOp (QoE ha hb I h fun v u s2 x y H2 I2 rx ry q=>ho pins s2 σ H2 x y v u Q I2 rx ry q)
theorem Qs6 {op:UnaryOp} {r:V->Hp->VK->Prop} (ho:UnR X (unaryOp op) r) (ha:PE X a ta):PE X (.UnaryOp op a pos) (tUn r ta):=by
 intro pins s σ H Q I h
 exact UnaryOp_ (thn (ha pins s σ H _ I h) fun v s1 ⟨x,H1,I1,r1,q1⟩=>ho pins s1 σ H1 x v Q I1 r1 q1)
theorem opI {f:Value->Value->Sem Value} {C:Int->Int->Prop} {g:Int->Int->Int}
  (rule:∀ (i j:Int) (t u:Tok) (s:Shared) (Q:Value->Shared->Prop) (E:Value->Shared->Prop),C i j->Q (.int (g i j) s.toks) { s with toks:=s.toks+1 }->wpAny (model X.prog X.w) X.A (f (.int i t) (.int j u)) Q E s) :
  OpR X f (rI C fun i j=>.int (g i j)):=by
 intro pins s σ H x y v u Q I rx ry h
 obtain ⟨i,j,rfl,rfl,hc,q⟩:=h
 obtain ⟨t,rfl⟩:=rx
 obtain ⟨t',rfl⟩:=ry
 exact rule i j t t' s _ _ hc ⟨.int (g i j),H,I.tok _,⟨_,rfl⟩,q⟩
theorem QlB {f:Value->Value->Sem Value} {g:Int->Int->Int}
  (rule:∀ (i j:Int) (t u:Tok) (s:Shared) (Q:Value->Shared->Prop) (E:Value->Shared->Prop),Q (.int (g i j) s.toks) { s with toks:=s.toks+1 }->wpAny (model X.prog X.w) X.A (f (.int i t) (.int j u)) Q E s) :
  OpR X f (rI0 fun i j=>.int (g i j)):=by
 intro pins s σ H x y v u Q I rx ry h
 obtain ⟨i,j,rfl,rfl,q⟩:=h
 obtain ⟨t,rfl⟩:=rx
 obtain ⟨t',rfl⟩:=ry
 exact rule i j t t' s _ _ ⟨.int (g i j),H,I.tok _,⟨_,rfl⟩,q⟩
theorem QoB {f:Value->Value->Sem Value} {g:Int->Int->Bool}
  (rule:∀ (i j:Int) (t u:Tok) (s:Shared) (Q:Value->Shared->Prop) (E:Value->Shared->Prop),Q (.bool (g i j)) s->wpAny (model X.prog X.w) X.A (f (.int i t) (.int j u)) Q E s) :
  OpR X f (rI0 fun i j=>.bl (g i j)):=by
 intro pins s σ H x y v u Q I rx ry h
 obtain ⟨i,j,rfl,rfl,q⟩:=h
 obtain ⟨t,rfl⟩:=rx
 obtain ⟨t',rfl⟩:=ry
 exact rule i j t t' s _ _ ⟨.bl (g i j),H,I,rfl,q⟩
def QoI (i j:Int):Prop:=0<j/\j<1073741824
def QoH (i j:Int):Prop:=0<=j/\j<=1000000/\i.natAbs<2^64
def CMul (i j:Int):Prop:=(-(2^64)<i/\i<2^64)\/(-(2^64)<j/\j<2^64)
theorem CMul.ok {i j:Int} (h:CMul i j):IntMulOk i j:=by
 rcases h with ⟨h1,h2⟩ | ⟨h1,h2⟩
 ·exact .of_left (intBits_le_64 h1 h2)
 ·exact .of_right (intBits_le_64 h1 h2)
theorem Qsc:OpR X (binaryOp .Add) (rI0 fun i j=>.int (i+j)):=QlB fun _ _ _ _ _ _ _ q=>add_int q
theorem Qr5:OpR X (binaryOp .Sub) (rI0 fun i j=>.int (i-j)):=QlB fun _ _ _ _ _ _ _ q=>sub_int q
theorem QmZ:OpR X (binaryOp .Mult) (rI CMul fun i j=>.int (i*j)):=opI fun _ _ _ _ _ _ _ hc q=>mul_int q hc.ok
theorem QqH:OpR X (binaryOp .FloorDiv) (rI QoI fun i j=>.int (i/j)):=opI fun i j _ _ _ _ _ hc q=>by
 have h1:(0:Int)<j:=hc.1
 have h2:j<1073741824:=hc.2
 exact floordiv_int (by omega) (by rw [Int.fdiv_eq_ediv_of_nonneg i (by omega)];exact q) (.inl (PyProof.noPylong_small (by omega)))
theorem Qr8:OpR X (binaryOp .Mod) (rI (fun _ j=>0<j) fun i j=>.int (i%j)):=opI fun i j _ _ _ _ _ hc q=>by
 have h1:(0:Int)<j:=hc
 exact mod_int' (by omega) (by rw [Int.fmod_eq_emod_of_nonneg i (by omega)];exact q)
theorem Qr7:OpR X (binaryOp .Pow) (rI QoH fun i j=>.int (i^j.toNat)):=opI fun _ _ _ _ _ _ _ hc q=>pow_int_small hc.1 hc.2.1 hc.2.2 q
theorem Qq5:OpR X (inplaceOp .Add) (rI0 fun i j=>.int (i+j)):=QlB fun _ _ _ _ _ _ _ q=>iadd_int q
theorem Qq4:OpR X (inplaceOp .Sub) (rI0 fun i j=>.int (i-j)):=QlB fun _ _ _ _ _ _ _ q=>isub_int q
theorem unI {f:Value->Sem Value} {g:Int->Int}
  (rule:∀ (i:Int) (t:Tok) (s:Shared) (Q:Value->Shared->Prop) (E:Value->Shared->Prop),Q (.int (g i) s.toks) { s with toks:=s.toks+1 }->wpAny (model X.prog X.w) X.A (f (.int i t)) Q E s) :
  UnR X f (rU fun i=>.int (g i)):=by
 intro pins s σ H x v Q I rx h
 obtain ⟨i,rfl,q⟩:=h
 obtain ⟨t,rfl⟩:=rx
 exact rule i t s _ _ ⟨.int (g i),H,I.tok _,⟨_,rfl⟩,q⟩
theorem QrB:UnR X (unaryOp .USub) (rU fun i=>.int (-i)):=unI fun _ _ _ _ _ q=>neg_int q
end
section
variable {X:Cx} {a b c:Expr} {ta tb tc:TE} {pos:Pos}
theorem Qta:OpR X (compareOp .Lt) (rI0 fun i j=>.bl (decide (i<j))):=QoB fun _ _ _ _ _ _ _ q=>lt_int q
theorem Qtb:OpR X (compareOp .LtE) (rI0 fun i j=>.bl (decide (i<=j))):=QoB fun _ _ _ _ _ _ _ q=>le_int q
theorem Qtc:OpR X (compareOp .Gt) (rI0 fun i j=>.bl (decide (j<i))):=QoB fun _ _ _ _ _ _ _ q=>gt_int q
theorem OpR.or {f:Value->Value->Sem Value} {r r':R2} (h:OpR X f r) (h':OpR X f r'):OpR X f (fun x y H Q=>r x y H Q\/r' x y H Q):=by
 intro pins s σ H x y v u Q I rx ry q
 rcases q with q | q
 ·exact h pins s σ H x y v u Q I rx ry q
 ·exact h' pins s σ H x y v u Q I rx ry q
theorem Qg (b:Expr) {op:CmpOp} (h:op≠.In:=by decide) (h2:op≠.NotIn:=by decide):behindInMarks op b=false:=by
 have e1:(op==CmpOp.In)=false:=by cases op<;>first | rfl | exact absurd rfl h
 have e2:(op==CmpOp.NotIn)=false:=by cases op<;>first | rfl | exact absurd rfl h2
 cases b<;>simp [behindInMarks,e1,e2]
theorem QqD {op:CmpOp} {r:R2} (ho:OpR X (compareOp op) r) (ha:PE X a ta) (hb:PE X b tb) (hm:behindInMarks op b=false):PE X (.Compare a [op] [b] pos) (tOp r ta tb):=by
 intro pins s σ H Q I h
 exact wpAny_Compare1 (QoE ha hb I h fun v u s2 x y H2 I2 rx ry q=>ho pins s2 σ H2 x y v u Q I2 rx ry q) hm
def QsU (t:TE):TT:=fun σ H Q=>t σ H fun x H'=>∃ k,x=.bl k/\Q k H'
theorem Qqv {op:CmpOp} {r:R2} (ho:OpR X (compareOp op) r) (ha:PE X a ta) (hb:PE X b tb) (hm:behindInMarks op b=false):PT X (.Compare a [op] [b] pos) (QsU (tOp r ta tb)):=by
 intro pins s σ H Q I h
 refine wpAny_isTrue_Compare1 (thn (ha pins s σ H _ I h) fun v s1 ⟨x,H1,I1,r1,q1⟩=>thn (hb pins s1 σ H1 _ I1 q1) fun u s2 ⟨y,H2,I2,r2,q2⟩ =>
  thn (ho pins s2 σ H2 x y v u _ I2 r1 r2 q2) fun c s3 ⟨z,H3,I3,r3,k,e,q3⟩=>?_) hm
 subst e
 cases r3
 exact wpAny_truthy_bool ⟨H3,I3,q3⟩
def QmP (r r':R2) (ta tb tc:TE):TE:=fun σ H Q=>ta σ H fun x H1=>tb σ H1 fun y H2=>r x y H2 fun z H3=>∃ k,z=.bl k /\
 (if k=true then tc σ H3 fun w' H4=>r' y w' H4 Q else Q (.bl false) H3)
theorem Qo4 {op op':CmpOp} {r r':R2} (ho:OpR X (compareOp op) r) (ho':OpR X (compareOp op') r') (ha:PE X a ta) (hb:PE X b tb) (hc:PE X c tc)
  (hm:lastMarks [op,op'] [b,c]=false:=by with_unfolding_all rfl):PE X (.Compare a [op,op'] [b,c] pos) (QmP r r' ta tb tc):=by
 intro pins s σ H Q I h
 refine Compare_chain (thn (ha pins s σ H _ I h) fun v s1 ⟨x,H1,I1,r1,q1⟩=>chain_link (thn (hb pins s1 σ H1 _ I1 q1) fun u s2 ⟨y,H2,I2,r2,q2⟩ =>
  thn (ho pins s2 σ H2 x y v u _ I2 r1 r2 q2) fun d s3 ⟨z,H3,I3,r3,k,e,q3⟩=>?_)) hm
 subst e
 cases r3
 refine wpAny_truthy_bool ?_
 cases k with
 | false=>exact ite_ff ⟨.bl false,H3,I3,rfl,q3⟩
 | true=>exact ite_tt (chain_last (thn (hc pins s3 σ H3 _ I3 q3) fun w' s4 ⟨z',H4,I4,r4,q4⟩=>ho' pins s4 σ H4 y z' u w' Q I4 r2 r4 q4))
theorem Qd3:(sizeLine:Nat)<2^63:=by rw [sizeLine_eq];decide
theorem Qmc:OpR X (binaryOp .Add) (fun x y H Q=>∃ i j,x=.str i/\y=.str j/\i.length+j.length<=sizeLine/\Q (.str (i++j)) H):=by
 intro pins s σ H x y v u Q I rx ry h
 obtain ⟨i,j,rfl,rfl,hz,q⟩:=h
 obtain ⟨t,rfl⟩:=rx
 obtain ⟨t',rfl⟩:=ry
 exact add_str (fun t' tk=>⟨.str (i++j),H,I.tok _,⟨_,rfl⟩,q⟩) hz
theorem QkA:OpR X (inplaceOp .Add) (fun x y H Q=>∃ i j,x=.str i/\y=.str j/\i.length+j.length<=sizeLine/\Q (.str (i++j)) H):=by
 intro pins s σ H x y v u Q I rx ry h
 obtain ⟨i,j,rfl,rfl,hz,q⟩:=h
 obtain ⟨t,rfl⟩:=rx
 obtain ⟨t',rfl⟩:=ry
 exact iadd_str (fun t' tk=>⟨.str (i++j),H,I.tok _,⟨_,rfl⟩,q⟩) hz
theorem QaG {x:V} {us:List Value} (r:Vals [x] us):∃ u,us=[u]/\RelV x u:=by
 cases r with
 | cons r1 r2=>cases r2;exact ⟨_,rfl,r1⟩
theorem QpT {x y:V} {us:List Value} (r:Vals [x,y] us):∃ u w',us=[u,w']/\RelV x u/\RelV y w':=by
 cases r with
 | cons r1 r2 =>
  cases r2 with
  | cons r3 r4=>cases r4;exact ⟨_,_,rfl,r1,r3⟩
theorem Qoq (hc:X.calm=true):CallR X (.builtin "max") (fun xs H Q=>∃ i j,xs=[.int i,.int j]/\Q (.int (if j > i then j else i)) H):=by
 intro pins s σ H xs us Q I r h
 obtain ⟨i,j,rfl,q⟩:=h
 obtain ⟨u,w',rfl,⟨t,rfl⟩,⟨t',rfl⟩⟩:=QpT r
 refine max_two_ints (I.ok.hd hc) fun h' tk k=>⟨_,H,I.kept k,?_,q⟩
 by_cases hj:j > i
 ·rw [if_pos hj,if_pos hj];exact ⟨_,rfl⟩
 ·rw [if_neg hj,if_neg hj];exact ⟨_,rfl⟩
theorem Qor:CallR X (.type "int") (fun xs H Q=>(∃ i,xs=[.int i]/\Q (.int i) H)\/∃ k,xs=[.bl k]/\Q (.int (if k then 1 else 0)) H):=by
 intro pins s σ H xs us Q I r h
 rcases h with ⟨i,rfl,q⟩ | ⟨k,rfl,q⟩
 ·obtain ⟨u,rfl,t,rfl⟩:=QaG r
  exact call_int_int ⟨.int i,H,I,⟨_,rfl⟩,q⟩
 ·obtain ⟨u,rfl,r1⟩:=QaG r
  cases r1
  exact call_int_bool ⟨.int (if k then 1 else 0),H,I.tok _,⟨_,rfl⟩,q⟩
theorem QjW:CallR X (.type "str") (fun xs H Q=>∃ i,xs=[.int i]/\i.natAbs.log2<1920/\Q (.str (toString i)) H):=by
 intro pins s σ H xs us Q I r h
 obtain ⟨i,rfl,hz,q⟩:=h
 obtain ⟨u,rfl,t,rfl⟩:=QaG r
 exact PySem.P.str_of_int hz ⟨.str _,H,I.tok _,⟨_,rfl⟩,q⟩
end
end L2
namespace L2
open PySem PySem.Spec PyProof.Rows
structure ObjM (h:Heap) (x dx C:Addr) (mA:Str->Option Value):Prop where
 obj:h.get? x=some (PySem.W.instObj C dx)
 ns:h.Ns1 dx mA
 ne:dx≠x
theorem QnS {h:Heap} {dx:Addr} {mA:Str->Option Value} (n:h.Ns1 dx mA):∃ od,h.get? dx=some od/\∀ name,PySem.W.lookIn name od=some (mA name):=by
 obtain ⟨o,es,ep,ho,hd,hk,_,hm⟩:=n
 refine ⟨o,ho,fun name=>?_⟩
 have e:=hm name
 unfold nsFind findBy at e
 rw [<- Array.find?_toList] at e
 unfold PySem.W.lookIn
 rw [hd]
 dsimp only
 split
 ·rename_i y q
  rw [q] at e
  exact congrArg some e
 ·rename_i q
  rw [q] at e
  have a:es.toList.any (·.refKey)=false:=by
   rw [List.any_eq_false]
   intro y hy
   obtain ⟨z,t,hkey⟩:=hk y (Array.mem_toList_iff.mp hy)
   simp [DictEntry.refKey,hkey]
  have a':¬ es.toList.any (·.refKey)=true:=by rw [a];exact Bool.false_ne_true
  rw [if_neg a']
  exact congrArg some e
theorem ObjM.look {h:Heap} {x dx C:Addr} {mA:Str->Option Value} (I:ObjM h x dx C mA):∃ od,PySem.W.InstAt h x (PySem.W.instObj C dx) C (some od)/\∀ name,PySem.W.lookIn name od=some (mA name) :=
 let ⟨od,ho,hl⟩:=QnS I.ns
 ⟨od,⟨I.obj,rfl,rfl,ho⟩,hl⟩
section
variable {prog:Program} {w:World} {A:Around} {E:Value->Shared->Prop} {s:Shared} {K:PySem.W.Frag} {x dx C f:Addr} {mA:Str->Option Value} {name:Str} {v:Value}
end
section
variable {P:Program} {w:World} {H H':Hp} {h h':Heap} {a C dx:Addr} {fs fs':List (Str×V)}
theorem Qq6 (hok:HOk P w H h) (e:H a=some (.ins C dx fs)):∃ mA,ObjM h a dx C mA/\(∀ f,RelO (fs.lookup f) (mA f))/\PySem.Within mA (fs.map (·.1))/\fs.length<=1000/\H dx=some (.own a):=by
 obtain ⟨d,z,ne,ob,mA,n,r,q⟩:=(show ObjOk P w H h a (.ins C dx fs) from hok a _ e)
 exact ⟨mA,⟨ob,n,ne⟩,r,q,z,d⟩
end
structure Cls (K:PySem.W.Frag) (C:Addr):Prop where
 pg:PySem.W.plainGet K C Str.empty=true
 hd:PySem.W.hasDictIn K C=true
 po:PySem.W.plainOver K C=true
 sa:PySem.W.findIn K (.ref C) "__setattr__"=some (some (.builtin "object.__setattr__"))
theorem Cls.get {K:PySem.W.Frag} {C:Addr} (c:Cls K C) (f:Str):PySem.W.plainGet K C f=true:=c.pg
section
variable {X:Cx} {pins:List (Addr×Obj)} {σ:St} {H:Hp} {s:Shared} {a C dx:Addr} {fs:List (Str×V)} {f:Str} {v:V} {A:Around} {E:Value->Shared->Prop}
end
section
variable {X:Cx} {o e value:Expr} {f:Str} {pos pos' tpos:Pos} {ta tv:TE}
end
section
variable {X:Cx} {pins:List (Addr×Obj)} {σ:St} {H:Hp} {s:Shared} {A:Around} {E:Value->Shared->Prop} {Q:Value->Shared->Prop} {c:Value} {b:Bool}
inductive TyOf (K:PySem.W.Frag) (H:Hp):V->Value->Prop where
 | non:TyOf K H .non (.type "NoneType")
 | bl (x:Bool):TyOf K H (.bl x) (.type "bool")
 | int (i:Int):TyOf K H (.int i) (.type "int")
 | str (x:Str):TyOf K H (.str x) (.type "str")
 | flt (x:UInt64):TyOf K H (.flt x) (.type "float")
 | lst {a:Addr} {xs:List V} (e:H a=some (.lst xs)):TyOf K H (.ref a) (.type "list")
 | frz {a:Addr} {o:Obj} {xs:List V} (e:H a=some (.frz o (.lst xs))):TyOf K H (.ref a) (.type "list")
 | tup {a:Addr} {xs:List V} (e:H a=some (.tup xs)):TyOf K H (.ref a) (.type "tuple")
 | dK {a:Addr} {kvs:List (Key×V)} (e:H a=some (.dK kvs)):TyOf K H (.ref a) (.type "dict")
 | frzD {a:Addr} {o:Obj} {kvs:List (Key×V)} (e:H a=some (.frz o (.dK kvs))):TyOf K H (.ref a) (.type "dict")
 | dT {a:Addr} {kvs:List (List Key×V)} (e:H a=some (.dT kvs)):TyOf K H (.ref a) (.type "dict")
 | ins {a C dx:Addr} {fs:List (Str×V)} (e:H a=some (.ins C dx fs)) (cl:Cls K C) (ha:PySem.W.findIn K (.ref C) "__class__"=some (some (.builtin "object.__class__")))
   (hn:PySem.W.specialIn K (.builtin "object.__class__") "__get__"=some (some (.builtin "getset_descriptor.__get__"))) (htk:PySem.W.takesIn K (.builtin "object.__class__")=some true)
   (hm:PySem.W.mroIn K C (.type "object")=some true):TyOf K H (.ref a) (.ref C)
theorem QnZ {x:V} {u t:Value} (I:Inv X pins σ H s) (rx:RelV x u) (ty:TyOf X.K H x t) (e:PySem.W.kitOne X.K t c=some b) (h:∀ tk,Q (.bool b) { s with toks:=tk }) :
  wpAny (model X.prog X.w) A (call (.builtin "isinstance") [u,c]) Q E s:=by
 cases ty with
 | non=>cases (show u=Value.none from rx);exact PySem.W.kia_one PySem.W.kitx_none I.kIn True.intro e (fun z=>nomatch z) h
 | bl y=>cases (show u=Value.bool y from rx);exact PySem.W.kia_one PySem.W.kitx_bool I.kIn True.intro e (fun z=>nomatch z) h
 | int i=>obtain ⟨t,q⟩:=(show ∃ t,u=Value.int i t from rx);cases q;exact PySem.W.kia_one PySem.W.kitx_int I.kIn True.intro e (fun z=>nomatch z) h
 | str y=>obtain ⟨t,q⟩:=(show ∃ t,u=Value.str y t from rx);cases q;exact PySem.W.kia_one PySem.W.kitx_str I.kIn True.intro e (fun z=>nomatch z) h
 | flt y=>obtain ⟨t,q⟩:=(show ∃ t,u=Value.float y t from rx);cases q;exact PySem.W.kia_one PySem.W.kitx_float I.kIn True.intro e (fun z=>nomatch z) h
 | @lst a xs ea =>
  cases (show u=Value.ref a from rx)
  obtain ⟨_,_,n,_,h1⟩:=(show ObjOk X.prog X.w H s.heap a (.lst xs) from I.hok a _ ea)
  exact PySem.W.kia_one PySem.W.kitx_list I.kIn ⟨_,h1,rfl⟩ e (fun z=>nomatch z) h
 | @frz a ob xs ea =>
  cases (show u=Value.ref a from rx)
  obtain ⟨_,_,_,n,_,h1⟩:=(show ObjOk X.prog X.w H s.heap a (.frz ob (.lst xs)) from I.hok a _ ea)
  exact PySem.W.kia_one PySem.W.kitx_list I.kIn ⟨_,h1,rfl⟩ e (fun z=>nomatch z) h
 | @tup a xs ea =>
  cases (show u=Value.ref a from rx)
  obtain ⟨_,_,_,p⟩:=(show ObjOk X.prog X.w H s.heap a (.tup xs) from I.hok a _ ea)
  obtain ⟨o,h1,h2,_⟩:=p
  exact PySem.W.kia_one PySem.W.kitx_tuple I.kIn ⟨o,h1,h2⟩ e (fun z=>nomatch z) h
 | @dK a kvs ea =>
  cases (show u=Value.ref a from rx)
  obtain ⟨_,_,vs,_,p⟩:=(show ObjOk X.prog X.w H s.heap a (.dK kvs) from I.hok a _ ea)
  obtain ⟨o,es,ep,h1,h2,_⟩:=p
  exact PySem.W.kia_one PySem.W.kitx_dict I.kIn ⟨o,h1,h2.1⟩ e (fun z=>nomatch z) h
 | @frzD a ob kvs ea =>
  cases (show u=Value.ref a from rx)
  obtain ⟨_,_,vs,_,p⟩:=(show ObjOk X.prog X.w H s.heap a (.frz ob (.dK kvs)) from I.hok a _ ea).2
  obtain ⟨o,es,ep,h1,h2,_⟩:=p
  exact PySem.W.kia_one PySem.W.kitx_dict I.kIn ⟨o,h1,h2.1⟩ e (fun z=>nomatch z) h
 | @dT a kvs ea =>
  cases (show u=Value.ref a from rx)
  obtain ⟨_,_,xs,_,o,es,ep,h1,h2,_⟩:=(show ObjOk X.prog X.w H s.heap a (.dT kvs) from I.hok a _ ea)
  exact PySem.W.kia_one PySem.W.kitx_dict I.kIn ⟨o,h1,h2.1⟩ e (fun z=>nomatch z) h
 | @ins a C dx fs ea cl ha hn htk hm =>
  cases (show u=Value.ref a from rx)
  obtain ⟨mA,O,_⟩:=Qq6 I.hok ea
  obtain ⟨od,J,_⟩:=O.look
  exact PySem.W.kia_one (PySem.W.kitx_own (cl.get _) cl.hd ha hn htk hm) I.kIn J e (fun z=>nomatch z) h
end
end L2
namespace L2
open PySem PySem.Spec PyProof.Rows
structure Room (k:Nat) (A:Around):Prop where
 hd:A.handled=none
 dp:A.depth+3*k+5<recursionLimit
 un:A.units+16*k+200<cLine
theorem Room.mono {j k:Nat} {A:Around} (r:Room k A) (h:j<=k):Room j A:=⟨r.hd,by have:=r.dp;omega,by have:=r.un;omega⟩
theorem Room.deeper {k:Nat} {A:Around} (r:Room (k+1) A) (env:Env):Room k (A.deeper env) :=
 ⟨r.hd,by have:=r.dp;show A.depth+1+3*k+5<_;omega,by have:=r.un;show A.units+3+16*k+200<_;omega⟩
theorem Room.in1 {k:Nat} {A:Around} (r:Room (k+1) A):Room k A.in1 :=
 ⟨r.hd,by have:=r.dp;show A.depth+3*k+5<_;omega,by have:=r.un;show A.units+1+16*k+200<_;omega⟩
theorem Room.depth {k:Nat} {A:Around} (r:Room k A):A.depth<recursionLimit:=by have:=r.dp;omega
theorem Room.units {k:Nat} {A:Around} (r:Room k A):A.units+64<cLine:=by have:=r.un;omega
theorem Room.units0 {k:Nat} {A:Around} (r:Room k A):A.units<cLine:=by have:=r.un;omega
def Qrt:TA:=fun _ H Q=>Q [] H
def QpU (ta:TE) (tr:TA):TA:=fun σ H Q=>ta σ H fun x H1=>tr σ H1 fun xs H2=>Q (x::xs) H2
section
variable {X:Cx} {e:Expr} {es:List Expr} {te:TE} {t:TA} {pos:Pos}
theorem Qbs:PA X [] Qrt:=fun _ _ _ _ H Q I h=>Calls.spliced_nil ⟨[],H,I,.nil,h⟩
theorem ZY (ha:PE X e te) (hr:PA X es t) (hs:starEach (e::es) X.env=(false,eval e X.env)::starEach es X.env:=by rfl):PA X (e::es) (QpU te t):=by
 intro pos pins s σ H Q I h
 rw [hs]
 show wpAny _ _ (spliced ((false,eval e X.env)::backTo pos (starEach es X.env))) _ _ s
 refine Calls.spliced_cons (thn (ha pins s σ H _ I h) fun u s1 ⟨x,H1,I1,r1,q1⟩=>?_)
 exact thn (hr pos pins s1 σ H1 _ I1 q1) fun us s2 ⟨xs,H2,I2,r2,q2⟩=>⟨x::xs,H2,I2,.cons r1 r2,q2⟩
def QtF (t:TA):TE:=fun σ H Q=>t σ H fun xs H1=>xs.length<=sizeLine/\∀ p,H1 p=none->Q (.ref p) (upd H1 p (.tup xs))
def QtL (t:TA):TE:=fun σ H Q=>t σ H fun xs H1=>xs.length<=sizeLine/\∀ p,H1 p=none->Q (.ref p) (upd H1 p (.lst xs))
theorem QrY {x1} (h:PA X es t):PE X (.Tuple es x1 pos) (QtF t):=by
 intro pins s σ H Q I hq
 refine wpAny_Tuple_spliced (thn (h pos pins s σ H _ I hq) fun us s1 ⟨xs,H1,I1,r,z,q⟩=>⟨by rw [<- r.length];exact z,?_⟩)
 have hf:H1 s1.heap.objs.size=none:=I1.hok.fresh (Nat.le_refl _)
 refine ⟨.ref s1.heap.objs.size,upd H1 s1.heap.objs.size (.tup xs),I1.laid (t':=s1.toks) (fun b u e=>Heap.get?_push_of_some _ e) (Nat.le_refl _) ?_,rfl,q _ hf⟩
 exact ⟨z,us,r,⟨_,Heap.get?_push_size _ rfl,rfl,_,rfl⟩⟩
theorem QmX (h:PA X es t):PE X (.List es pos) (QtL t):=by
 intro pins s σ H Q I hq
 refine wpAny_List_spliced (thn (h pos pins s σ H _ I hq) fun us s1 ⟨xs,H1,I1,r,z,q⟩=>⟨by rw [<- r.length];exact z,?_⟩)
 have hf:H1 s1.heap.objs.size=none:=I1.hok.fresh (Nat.le_refl _)
 refine ⟨.ref s1.heap.objs.size,upd H1 s1.heap.objs.size (.lst xs),I1.laid (t':=s1.toks) (fun b u e=>Heap.get?_push_of_some _ e) (Nat.le_refl _) ?_,rfl,q _ hf⟩
 exact ⟨z,us,0,r,Heap.get?_push_size _ rfl⟩
end
abbrev Sp:=List V->Hp->VK->XK->Prop
abbrev CXT:=List Env->Hp->Shared->XK->Value->Shared->Prop
structure Env0 (P:Program) (w:World) (K:PySem.W.Frag) (mg:Str->Option Value) (base:Heap) (A:Around) (outer:List Env) (s:Shared) (H:Hp):Prop where
 frames:A.frames=some outer
 mod:Mod K mg base
 bs:∀ b o,base.get? b=some o->s.heap.get? b=some o/\H b=none
 bsz:base.objs.size<=s.heap.objs.size
 funs:s.heap.FunFrames base outer
 frf:∀ b∈frs outer,H b=none
 hok:HOk P w H s.heap
 bare:AllBare s.gens
def CE (outer:List Env) (P:Program) (w:World) (H:Hp) (s:Shared) (Q:VK) (u:Value) (s':Shared):Prop :=
 ∃ v H',s'.os=s.os/\AllBare s'.gens/\Un (frs outer) [] H H' s.heap s'.heap/\HOk P w H' s'.heap/\RelV v u/\Q v H'
def CR (CX:CXT) (outer:List Env) (P:Program) (w:World) (H:Hp) (s:Shared) (Q:VK) (E:XK) (r:Result) (s':Shared):Prop :=
 match r with
 | .ok (.ret u)=>CE outer P w H s Q u s'
 | .ok _=>False
 | .error e=>CX outer H s E e s'
structure FnOk (P:Program) (w:World) (K:PySem.W.Frag) (mg:Str->Option Value) (base:Heap) (CX:CXT) (k:Nat) (f:Addr) (fd:FuncData) (ps:List Str) (sp:Sp):Prop where
 len:∀ vs H Q E,sp vs H Q E->vs.length=ps.length
 run:∀ (A:Around) (outer:List Env) (s:Shared) (H:Hp) (args:Args) (us:List Value) (vs:List V) (Q:VK) (E:XK),Room k A->Env0 P w K mg base A outer s H->BindsTo s fd args (ps.zip us)->Vals vs us->sp vs H Q E ->
  codeAny (model P w) A (.call (.ref f) args) (CR CX outer P w H s Q E) s
theorem FnOk.mono {P:Program} {w:World} {K:PySem.W.Frag} {mg:Str->Option Value} {base:Heap} {CX:CXT} {j k:Nat} {f:Addr} {fd:FuncData} {ps:List Str} {sp:Sp} (F:FnOk P w K mg base CX j f fd ps sp) (h:j<=k) :
  FnOk P w K mg base CX k f fd ps sp:=⟨F.len,fun A outer s H args us vs Q E hr=>F.run A outer s H args us vs Q E (hr.mono h)⟩
theorem FnOk.imp {P:Program} {w:World} {K:PySem.W.Frag} {mg:Str->Option Value} {base:Heap} {CX:CXT} {k:Nat} {f:Addr} {fd:FuncData} {ps:List Str} {sp sp':Sp} (F:FnOk P w K mg base CX k f fd ps sp)
  (h:∀ vs H Q E,sp' vs H Q E->sp vs H Q E):FnOk P w K mg base CX k f fd ps sp' :=
 ⟨fun vs H Q E q=>F.len vs H Q E (h _ _ _ _ q),fun A outer s H args us vs Q E hr he hb hv hs=>F.run A outer s H args us vs Q E hr he hb hv (h _ _ _ _ hs)⟩
theorem Env0.in1 {P:Program} {w:World} {K:PySem.W.Frag} {mg:Str->Option Value} {base:Heap} {A:Around} {outer:List Env} {s:Shared} {H:Hp} (e:Env0 P w K mg base A outer s H) :
  Env0 P w K mg base A.in1 outer s H:=⟨e.frames,e.mod,e.bs,e.bsz,e.funs,e.frf,e.hok,e.bare⟩
section
variable {X:Cx} {pins:List (Addr×Obj)} {σ:St} {H:Hp} {s s':Shared}
theorem Inv.env0 (I:Inv X pins σ H s):Env0 X.prog X.w X.K X.mg X.base X.A X.stack s H :=
 ⟨I.ok.frames,I.ok.mod,I.bs,Nat.le_trans I.ok.bsz I.sz,I.stack,I.stkFree,I.hok,I.bare⟩
theorem Inv.after {Q:VK} {u:Value} (I:Inv X pins σ H s) (h:CE X.stack X.prog X.w H s Q u s'):EP X pins σ Q u s':=by
 obtain ⟨v,H',os,bare,un,hok,r,q⟩:=h
 obtain ⟨hh,g,d,t,os'⟩:=s'
 obtain rfl:os'=s.os:=os
 exact ⟨v,H',I.call (h':=hh) (g':=g) (d':=d) (t':=t) (ch:=[]) un hok bare (fun b z=>absurd z (by simp)),r,q⟩
end
def Qs0 (sp:Sp) (dvs:List V) (E:XK) (t:TA):TE:=fun σ H Q=>t σ H fun vs H1=>sp (vs++dvs) H1 Q E
def Binds (K:PySem.W.Frag) (fd:FuncData) (ps:List Str) (ds:List Value):Prop :=
 ∀ (s:Shared) (us:List Value),K.In s.heap->(us++ds).length=ps.length->BindsTo s fd ⟨us,[]⟩ (ps.zip (us++ds))
theorem Binds.all {K:PySem.W.Frag} {fd:FuncData} {ps:List Str} (h:∀ us:List Value,us.length=ps.length->bindArgs fd ⟨us,[]⟩=pure (ps.zip us)):Binds K fd ps []:=fun s us _ hl=>by
 rw [List.append_nil] at hl ⊢
 exact .of_eq (h us hl)
def QiE (CX:CXT) (X:Cx) (E:XK):Prop:=∀ (pins:List (Addr×Obj)) (σ:St) (H:Hp) (s:Shared) (e:Value) (s':Shared),Inv X pins σ H s->CX X.stack H s E e s'->X.xe e s'
section
variable {X:Cx} {CX:CXT} {k:Nat} {f C:Addr} {fd:FuncData} {ps:List Str} {sp:Sp} {dvs:List V} {ds:List Value} {E:XK} {x m:Str} {p pos apos:Pos} {e o:Expr} {es:List Expr} {ta:TE} {t:TA}
theorem QrK {pins:List (Addr×Obj)} {σ:St} {H:Hp} {s:Shared} {Q:VK} {us:List Value} {vs:List V} (F:FnOk X.prog X.w X.K X.mg X.base CX k f fd ps sp) (hr:Room k X.A) (hb:Binds X.K fd ps ds) (hd:Vals dvs ds) (hx:QiE CX X E)
  (I:Inv X pins σ H s) (r:Vals vs us) (h:sp (vs++dvs) H Q E):wpAny (model X.prog X.w) X.A (call (.ref f) us) (EP X pins σ Q) X.xe s:=by
 have r2:Vals (vs++dvs) (us++ds):=r.append hd
 have hl:(us++ds).length=ps.length:=by rw [<- r2.length];exact F.len _ _ _ _ h
 refine wpAny_call (codeAny_mono (F.run X.A X.stack s H ⟨us,[]⟩ (us++ds) (vs++dvs) Q E hr I.env0 (hb s us I.kIn hl) r2 h) fun r s' hq=>?_)
 cases r with
 | error e=>exact hx pins σ H s e s' I hq
 | ok fl =>
  cases fl with
  | ret u=>exact I.after hq
  | next=>exact False.elim hq
  | brk=>exact False.elim hq
  | cont=>exact False.elim hq
theorem QeB (F:FnOk X.prog X.w X.K X.mg X.base CX k f fd ps sp) (hr:Room k X.A) (hg:Gl X x) (hm:X.mg x=some (.ref f)) (hk:PySem.W.keepIn X.K (.ref f)=true) (hb:Binds X.K fd ps ds) (hd:Vals dvs ds) (hx:QiE CX X E)
  (ha:PA X (e::es) t) (hdb:(x==("__debug__":Str))=false:=by decide) (he:starEach (e::es) X.env=(false,eval e X.env)::starEach es X.env:=by rfl) (hpl:(backTo pos (starEach es X.env)).any (·.1)=false:=by rfl) :
  PE X (.Call (.Name x p) (e::es) [] pos) (Qs0 sp dvs E t):=by
 intro pins s σ H Q I h
 refine wpAny_Call_Name_kw (Qk2 I hg hm ?_ hdb)
 refine PySem.W.callWith_K (h₀:=X.base) I.ok.mod.kin hk (thn (ha pos pins s σ H _ I h) fun us s1 ⟨vs,H1,I1,r,q⟩=>⟨I1.kIn,?_⟩) he hpl
 exact QrK F hr hb hd hx I1 r q
end
section
variable {X:Cx} {CX:CXT} {k:Nat} {f C:Addr} {fd:FuncData} {ps ks:List Str} {sp:Sp} {E:XK} {x m:Str} {p pos apos kpos:Pos} {e o:Expr} {es:List Expr} {kws:List Keyword} {te ta:TE} {t tk:TA} {nm:Option Str}
variable {g:List Value->List Value->List Value} {gV:List V->List V->List V}
end
structure FnScope (N P:List Str) (sc:Scope):Prop where
 kind:sc.kind=.function
 co:sc.isCoroutine=false
 gen:sc.isGenerator=false
 nd:N.Nodup
 pre:N.take P.length=P
 par:∀ x∈P,sc.names.lookup x=some .local\/sc.names.lookup x=some .cell
 nofree:∀ y∈sc.names,y.2≠.free
theorem QhE {kindOf:Str->Option NameKind} {x:Str}:∀ {binds:List (Str×Value)} {m:Str->Option Value},(∀ v,(x,v)∉binds)->bindL kindOf binds m x=m x
 | [],_,_=>rfl
 | (n,v)::r,m,h=>by
  unfold bindL
  rw [QhE fun w hw=>h w (List.mem_cons_of_mem _ hw)]
  split
  ·have:x≠n:=by rintro rfl;exact h v List.mem_cons_self
   simp [this]
  ·rfl
theorem QhG {kindOf:Str->Option NameKind} {x:Str}:∀ {binds:List (Str×Value)} {m:Str->Option Value},(∀ v,(x,v)∉binds)->bindC kindOf binds m x=m x
 | [],_,_=>rfl
 | (n,v)::r,m,h=>by
  unfold bindC
  rw [QhG fun w hw=>h w (List.mem_cons_of_mem _ hw)]
  split
  ·rfl
  ·have:x≠n:=by rintro rfl;exact h v List.mem_cons_self
   simp [this]
theorem QhF {kindOf:Str->Option NameKind} {x:Str} {v:Value}:∀ {P:List Str} {vs:List Value} {i:Nat} {m:Str->Option Value},P.Nodup->P[i]?=some x->vs[i]?=some v->kindOf x=some .local ->
  bindL kindOf (P.zip vs) m x=some v
 | [],_,_,_,_,h,_,_=>by simp at h
 | _::_,[],_,_,_,_,h,_=>by simp at h
 | p::P,w::vs,0,m,nd,h1,h2,hk=>by
  simp at h1 h2;subst h1;subst h2
  show bindL kindOf ((p,w)::P.zip vs) m p=_
  unfold bindL
  rw [QhE fun v hv=>(List.nodup_cons.mp nd).1 (List.of_mem_zip hv).1,if_pos hk]
  simp
 | p::P,w::vs,i+1,m,nd,h1,h2,hk=>by
  show bindL kindOf ((p,w)::P.zip vs) m x=_
  unfold bindL
  exact QhF (i:=i) (List.nodup_cons.mp nd).2 (by simpa using h1) (by simpa using h2) hk
theorem QhH {kindOf:Str->Option NameKind} {x:Str} {v:Value}:∀ {P:List Str} {vs:List Value} {i:Nat} {m:Str->Option Value},P.Nodup->P[i]?=some x->vs[i]?=some v->kindOf x≠some .local ->
  bindC kindOf (P.zip vs) m x=some v
 | [],_,_,_,_,h,_,_=>by simp at h
 | _::_,[],_,_,_,_,h,_=>by simp at h
 | p::P,w::vs,0,m,nd,h1,h2,hk=>by
  simp at h1 h2;subst h1;subst h2
  show bindC kindOf ((p,w)::P.zip vs) m p=_
  unfold bindC
  rw [QhG fun v hv=>(List.nodup_cons.mp nd).1 (List.of_mem_zip hv).1,if_neg hk]
  simp
 | p::P,w::vs,i+1,m,nd,h1,h2,hk=>by
  show bindC kindOf ((p,w)::P.zip vs) m x=_
  unfold bindC
  exact QhH (i:=i) (List.nodup_cons.mp nd).2 (by simpa using h1) (by simpa using h2) hk
def start (N:List Str) (vs:List V):St:=vs.map some++List.replicate (N.length-vs.length) none
def VV (CX:CXT) (P:Program) (w:World) (K:PySem.W.Frag) (mg:Str->Option Value) (base:Heap) (N:List Str) (qual:Str) (scope:Scope) (f:Addr) (cd:Value) (A:Around) (outer:List Env) (s:Shared) (H:Hp) (E:XK):Cx where
 prog:=P
 w:=w
 K:=K
 mg:=mg
 base:=base
 A:=A.deeper (envOfC qual scope s.heap.objs.size f cd)
 N:=N
 s₀:=s
 H₀:=H
 env:=envOfC qual scope s.heap.objs.size f cd
 outer:=outer
 stack:=envOfC qual scope s.heap.objs.size f cd::outer
 ex:=[]
 calm:=true
 fn:=fun _=>true
 pn:=[]
 xe:=fun e s'=>wpAny (model P w) (A.deeper (envOfC qual scope s.heap.objs.size f cd)) (leaving (envOfC qual scope s.heap.objs.size f cd) e) (fun _ s''=>CX outer H s E e s'') (fun e' s''=>CX outer H s E e' s'') s'
theorem Qja {sc:Scope} {n:Nat} {x:Str} (h:sc.names.lookup x=some .cell):∃ c,(cellsFrom n sc.names []).lookup x=some c:=by
 have q:=PySem.W.cellsFrom_some sc.names n [] (.inl h)
 exact Option.isSome_iff_exists.mp q
theorem Qn0 {CX:CXT} {P:Program} {w:World} {K:PySem.W.Frag} {mg:Str->Option Value} {base:Heap} {N ps:List Str} {qual:Str} {scope:Scope} {f:Addr} {cd:Value} {A:Around} {outer:List Env} {s s1:Shared} {H:Hp} {E:XK} {us:List Value} {vs:List V}
  (S:FnScope N ps scope) (hd:A.handled=none) (e0:Env0 P w K mg base A outer s H) (hl:vs.length=ps.length) (r:Vals vs us)
  (x:InCallC s s.heap.objs.size (bindL (envOfC qual scope s.heap.objs.size f cd).kindOf (ps.zip us) fun _=>none) (cellsFrom (s.heap.objs.size+1) scope.names []) (bindC (envOfC qual scope s.heap.objs.size f cd).kindOf (ps.zip us) fun _=>none) s1) :
  Inv (VV CX P w K mg base N qual scope f cd A outer s H E) [] (start N vs) H s1:=by
 have hpl:ps.length<=N.length:=by have:=congrArg List.length S.pre;rw [List.length_take] at this;omega
 obtain ⟨h1,tk,rfl,hk⟩:=x.done
 have noA:∀ b:Addr,b∉(VV CX P w K mg base N qual scope f cd A outer s H E).ex:=fun b z=>absurd (show b∈([]:List Addr) from z) (by simp)
 refine ⟨⟨e0.mod,S.kind,rfl,rfl,Nat.le_refl _,fun y z c h1 h2=>?_,fun y hy=>?_,fun y c _ h=>?_,fun _=>hd,Around.frames_deeper e0.frames,.inr ⟨rfl,rfl⟩,fun b z=>absurd z (noA b),e0.bs,e0.bsz,fun b _ _=>noA b,fun b z=>absurd z (noA b),e0.funs,e0.frf⟩,
  rfl,e0.bare,Un.kept hk,⟨_,x.toInCall.ns,fun i y v h1 h2 h3=>?_⟩,fun y c h=>⟨_,x.cell y c h⟩,e0.hok.fresh (Nat.le_refl _),fun y c h=>?_,fun p hp=>absurd (show p∈([]:List (Addr×Obj)) from hp) (by simp),e0.hok.kept hk,?_⟩
 ·exact name_of_addr x.apart (PySem.mem_of_lookup h1) (PySem.mem_of_lookup h2)
 ·have hy:scope.names.lookup y=some .cell\/scope.names.lookup y=some .free:=hy
  rcases hy with hy | hy
  ·exact Qja hy
  ·exact absurd rfl (S.nofree _ (PySem.mem_of_lookup hy))
 ·exact Nat.le_of_lt (x.above y c (PySem.mem_of_lookup h))
 ·have hi:i<vs.length:=by
   unfold start at h2
   by_cases hi:i<vs.length
   ·exact hi
   ·rw [List.getElem?_append_right (by simpa using hi)] at h2
    rw [List.getElem?_replicate] at h2
    split at h2<;>cases h2
  have ha:vs[i]?=some v:=by
   unfold start at h2
   rw [List.getElem?_append_left (by simpa using hi),List.getElem?_map] at h2
   cases e:vs[i]? with
   | none=>rw [e] at h2;cases h2
   | some a=>rw [e] at h2;cases h2;rfl
  obtain ⟨u,hu,rv⟩:=r.get ha
  have hp:ps[i]?=some y:=by
   rw [<- S.pre,List.getElem?_take_of_lt (by omega)];exact h1
  have ndP:ps.Nodup:=by rw [<- S.pre];exact S.nd.sublist (List.take_sublist _ _)
  refine ⟨u,rv,?_⟩
  rcases S.par y (List.mem_of_getElem? hp) with k | k
  ·exact .inl ⟨k,QhF ndP hp hu k⟩
  ·obtain ⟨c,e⟩:=Qja (n:=s.heap.objs.size+1) k
   refine .inr ⟨.inl k,c,e,?_⟩
   have q:=x.cell y c e
   rw [QhH ndP hp hu (by show scope.names.lookup y≠_;rw [k];decide)] at q
   exact q
 ·exact e0.hok.fresh (Nat.le_of_lt (x.above y c (PySem.mem_of_lookup h)))
 ·unfold start
  show _=N.length
  rw [List.length_append,List.length_map,List.length_replicate]
  omega
theorem Qtl {CX:CXT} {P:Program} {w:World} {K:PySem.W.Frag} {mg:Str->Option Value} {base:Heap} {k:Nat} {f:Addr} {name qual:Str} {params:Arguments} {body:List Stmt} {scope:Scope} {dV kV doc pm cdv ct oc:Value} {an od:Option Addr}
  {osl:Array (Option Value)} {N ps:List Str} {sp:Sp} (lk:K.lookup f=some ⟨oc,od,.func (PySem.W.fnOf name qual params body scope dV kV doc pm an cdv ct),osl⟩) (hcd:PySem.W.codeIn K cdv qual=true) (S:FnScope N ps scope)
  (len:∀ vs H Q E,sp vs H Q E->vs.length=ps.length)
  (hbody:∀ (A:Around) (outer:List Env) (s:Shared) (H:Hp) (vs:List V) (Q:VK) (E:XK),Room k (A.deeper (envOfC qual scope s.heap.objs.size f cdv))->sp vs H Q E ->
   ∃ t,PSs (VV CX P w K mg base N qual scope f cdv A outer s H E) body t/\t { nx:=fun _ H'=>Q .non H',rt:=Q } (start N vs) H) :
  FnOk P w K mg base CX (k+1) f (PySem.W.fnOf name qual params body scope dV kV doc pm an cdv ct) ps sp:=by
 refine ⟨len,fun A outer s H args us vs Q E hr e0 hb r hsp=>?_⟩
 have hl:=len _ _ _ _ hsp
 have KX:K.In s.heap:=e0.mod.kin.keeps fun b o e=>(e0.bs b o e).1
 have lim:s.heap.NoLimit:=e0.mod.nolimit.keeps fun b o e=>(e0.bs b o e).1
 have hkind:∀ y∈ps.zip us,scope.names.lookup y.1=some .local\/(scope.names.lookup y.1=some .cell/\((cellsFrom (s.heap.objs.size+1) scope.names []).lookup y.1).isSome=true):=fun ⟨n,v⟩ hy=>by
  rcases S.par n (List.of_mem_zip hy).1 with q | q
  ·exact .inl q
  ·exact .inr ⟨q,PySem.W.cellsFrom_some _ _ _ (.inl q)⟩
 refine codeAny_call_function hr.depth (KX _ _ lk) rfl S.co S.gen rfl (PySem.W.codeRec_of KX hcd) (hb _ _ _ _ ?_)
 refine wpAny_newFunctionEnv_cells S.kind hkind fun env he s1 x=>?_
 subst he
 refine ⟨lim.keeps x.toInCall.keep,codeAny_func ?_⟩
 obtain ⟨t,ht,hq⟩:=hbody A outer s H vs Q E (hr.deeper _) hsp
 have I:Inv (VV CX P w K mg base N qual scope f cdv A outer s H E) [] (start N vs) H s1:=Qn0 S hr.hd e0 hl r x
 refine wpAny_mono (ht [] s1 (start N vs) H _ I hq) (fun fl s' hs=>?_) fun e s' hs=>hs
 have fin:∀ {σ':St} {H':Hp} {v:V} {u:Value},Inv (VV CX P w K mg base N qual scope f cdv A outer s H E) [] σ' H' s'->RelV v u->Q v H'->CE outer P w H s Q u s' :=
  fun {σ' H' v u} J rv q=>⟨v,H',J.os,J.bare,J.base,J.hok,rv,q⟩
 cases fl with
 | ret u =>
  obtain ⟨v,σ',H',J,rv,q⟩:=hs
  exact fin J rv q
 | next =>
  obtain ⟨σ',H',J,q⟩:=hs
  exact fin (v:=V.non) (u:=Value.none) J rfl q
 | brk =>
  obtain ⟨_,_,_,q⟩:=hs
  exact False.elim q
 | cont =>
  obtain ⟨_,_,_,q⟩:=hs
  exact False.elim q
end L2
namespace L2
open PySem PySem.Spec PyProof.Rows
section
variable {X:Cx} {x:Str} {p pos:Pos} {e:Expr} {es:List Expr} {t:TA} {id T:String} {r:List V->Hp->VK->Prop}
def tCB (r:List V->Hp->VK->Prop) (t:TA):TE:=fun σ H Q=>t σ H fun vs H1=>r vs H1 Q
theorem Qfg (hc:CallR X (.builtin id) r) (hg:Gl X x) (hm:X.mg x=none) (hv:bootBuiltins x=some (.builtin id)) (ha:PA X (e::es) t) (hn:x≠"__name__":=by decide) (hdb:(x==("__debug__":Str))=false:=by decide)
  (he:starEach (e::es) X.env=(false,eval e X.env)::starEach es X.env:=by rfl) (hpl:(backTo pos (starEach es X.env)).any (·.1)=false:=by rfl):PE X (.Call (.Name x p) (e::es) [] pos) (tCB r t):=by
 intro pins s σ H Q I h
 refine wpAny_Call_Name_kw (Qd4 I hg hm hv ?_ hn hdb)
 exact PyProof.Rows.callWith_builtin1 (thn (ha pos pins s σ H _ I h) fun us s1 ⟨vs,H1,I1,r1,q1⟩=>hc pins s1 σ H1 vs us Q I1 r1 q1) he hpl
theorem Qhg (hc:CallR X (.type T) r) (hg:Gl X x) (hm:X.mg x=none) (hv:bootBuiltins x=some (.type T)) (ha:PA X (e::es) t) (hn:x≠"__name__":=by decide) (hdb:(x==("__debug__":Str))=false:=by decide)
  (he:starEach (e::es) X.env=(false,eval e X.env)::starEach es X.env:=by rfl) (hpl:(backTo pos (starEach es X.env)).any (·.1)=false:=by rfl):PE X (.Call (.Name x p) (e::es) [] pos) (tCB r t):=by
 intro pins s σ H Q I h
 refine wpAny_Call_Name_kw (Qd4 I hg hm hv ?_ hn hdb)
 exact PyProof.Rows.callWith_type1 (thn (ha pos pins s σ H _ I h) fun us s1 ⟨vs,H1,I1,r1,q1⟩=>hc pins s1 σ H1 vs us Q I1 r1 q1) he hpl
end
end L2
namespace HT
open PySem PyProof.Rows
theorem eqAt_int (A:Around) (s:Shared) (a:Int) (t:Tok) (c:Int) (u:Tok):∃ e,SeqAt.EqAt A s (.int a t) (.int c u) e/\(e=true↔a=c) :=
 ⟨(a==c),SeqAt.EqAt.int_int a t c u,by simp⟩
section
open PySem.SeqAt
open PySem.AutoSeq1 (wpAny_loadPart')
open PySem.MeetsSeq PySem.MeetsSeq2 PySem.MeetsSeq3
end
section
variable {prog:Program} {w:World} {A:Around} {E:Value->Shared->Prop} {s:Shared}
theorem cat_tup {t b:Addr} {vs ws:List Value} {Q:Value->Shared->Prop} (ht:IsTup s.heap t vs.toArray) (hb:IsTup s.heap b ws.toArray) (hv:vs≠[])
  (h1:ws=[]->Q (.ref t) s) (h2:ws≠[]->Q (.ref s.heap.objs.size) { s with heap:=s.heap.push { cls:=.type "tuple",data:=.seq (vs++ws).toArray } })
  (hsz:vs.length+ws.length<=sizeLine):wpAny (model prog w) A (binaryOp .Add (.ref t) (.ref b)) Q E s:=by
 obtain ⟨⟨cls,dd,data,sl⟩,ho,hc,n,hd⟩:=id ht
 obtain ⟨⟨cls2,dd2,data2,sl2⟩,ho2,hc2,n2,hd2⟩:=id hb
 simp only at hc hd hc2 hd2
 subst hc hd hc2 hd2
 have e:vs.toArray++ws.toArray=(vs++ws).toArray:=by simp
 by_cases hw:ws=[]
 ·exact concat_meets ⟨_,ho,rfl⟩ ⟨_,ho2,rfl⟩ noFill_tuple_add seq_tuple_add PySem.F.slot_tuple_add PySem.F.entry_tuple_add (PySem.F.args_tuple_add_2 _ _)
   (tuple_addW1 t b vs.toArray ws.toArray n n2 dd dd2 sl sl2 (by simpa using hv) (by simp [hw])) ⟨ho,ho2,h1 hw⟩
 ·refine concat_meets ⟨_,ho,rfl⟩ ⟨_,ho2,rfl⟩ noFill_tuple_add seq_tuple_add PySem.F.slot_tuple_add PySem.F.entry_tuple_add (PySem.F.args_tuple_add_2 _ _)
   (tuple_addW2 t b vs.toArray ws.toArray n n2 dd dd2 sl sl2 (by simpa using hv) (by simpa using hw) (by rw [List.size_toArray,List.size_toArray];exact hsz)) ⟨ho,ho2,?_⟩
  rw [e]
  exact h2 hw
def sIx (n d:Nat):Option Int->Nat
 | none=>d
 | some v=>if v<0 then (v+(n:Int)).toNat else min v.toNat n
theorem QrJ (n d:Nat) (hd:d<=n) (o:Option Int):sIx n d o<=n:=by
 cases o with
 | none=>exact hd
 | some v =>
  show (if v<0 then (v+(n:Int)).toNat else min v.toNat n)<=n
  by_cases hv:v<0
  ·rw [if_pos hv];omega
  ·rw [if_neg hv];exact Nat.min_le_right _ _
theorem Qlk (v:Int) (n d:Nat):(if v<0 then max (v+(n:Int)) 0 else min v (n:Int))=((sIx n d (some v):Nat):Int):=by
 show (if v<0 then max (v+(n:Int)) 0 else min v (n:Int))=(((if v<0 then (v+(n:Int)).toNat else min v.toNat n):Nat):Int)
 by_cases hv:v<0
 ·simp only [if_pos hv];omega
 ·simp only [if_neg hv];omega
theorem QmM (lo hi:Option Int) (n:Nat):Builtin.Slice.sliceAdjust lo hi 1 (n:Int)=(((sIx n 0 lo:Nat):Int),((sIx n n hi:Nat):Int)):=by
 have h1:¬ ((1:Int)<0):=by omega
 unfold Builtin.Slice.sliceAdjust
 simp only [h1,if_false]
 refine Prod.ext ?_ ?_
 ·cases lo with
  | none=>rfl
  | some v=>exact Qlk v n 0
 ·cases hi with
  | none=>rfl
  | some v=>exact Qlk v n n
theorem Qmb (i j:Nat):Builtin.Slice.slicePlaces (i:Int) (j:Int) 1=j-i:=by
 unfold Builtin.Slice.slicePlaces
 have h1:(1:Int) > 0:=by omega
 simp only [h1,if_true,Int.ediv_one]
 split<;>omega
theorem QfT {v:Value} {o:Option Int} {Q:Option Int->Shared->Prop} (p:IsPart v o) (h:Q o s):wpAny (model prog w) A (Builtin.Slice.slicePartIndex v) Q E s:=by
 cases p with
 | none=>exact slicePart_none h
 | int i t=>exact slicePart_int h
theorem Qfx {sl:Addr} {vl vu:Value} {lo hi:Option Int} {n:Nat} {Q:Int×Int×Nat->Shared->Prop} (hs:s.heap.IsSliceOf sl vl vu .none) (pl:IsPart vl lo) (pu:IsPart vu hi)
  (h:Q (((sIx n 0 lo:Nat):Int),1,sIx n n hi-sIx n 0 lo) s):wpAny (model prog w) A (Builtin.Slice.sliceApplied (.ref sl) (pure (n:Int))) Q E s:=by
 obtain ⟨os,hos,hcs,hds⟩:=id hs
 unfold Builtin.Slice.sliceApplied Builtin.Slice.sliceFields
 refine wpAny_bind (wpAny_bind (wpAny_field hos hds (x:=vl) rfl (wpAny_bind (wpAny_field hos hds (x:=vu) rfl (wpAny_bind (wpAny_field hos hds (x:=.none) rfl (wpAny_pure ?_)))))))
 refine wpAny_bind (slicePart_none ?_)
 show wpAny _ _ (if ((1:Int)==0)=true then _ else _) _ _ s
 rw [if_neg (by decide)]
 refine wpAny_bind (QfT pl (wpAny_bind (QfT pu (wpAny_bind (wpAny_pure ?_)))))
 show wpAny _ _ (match Builtin.Slice.sliceAdjust lo hi 1 (n:Int) with | (lo,hi)=>pure (lo,(1:Int),Builtin.Slice.slicePlaces lo hi 1)) _ _ s
 rw [QmM lo hi n]
 show wpAny _ _ (pure (((sIx n 0 lo:Nat):Int),(1:Int),Builtin.Slice.slicePlaces ((sIx n 0 lo:Nat):Int) ((sIx n n hi:Nat):Int) 1)) _ _ s
 rw [Qmb]
 exact wpAny_pure h
theorem QoZ (xs:Array Value) (i k:Nat):((List.range k).filterMap fun (m:Nat)=>xs[((i:Int)+(m:Int)*1).toNat]?).toArray=((xs.toList.drop i).take k).toArray:=by
 have e:(fun (m:Nat)=>xs[((i:Int)+(m:Int)*1).toNat]?)=fun m=>xs[i+m]?:=by
  funext m
  have:((i:Int)+(m:Int)*1).toNat=i+m:=by omega
  rw [this]
 rw [e]
 have:=pick_run xs i k
 rw [List.filterMap_map] at this
 have e2:((fun x=>xs[x]?)∘fun x=>i+x)=fun m=>xs[i+m]?:=rfl
 rw [e2] at this
 rw [this]
theorem getItem_tuple_cut {t sl:Addr} {items:Array Value} {vl vu:Value} {lo hi:Option Int} {Q:Value->Shared->Prop} (ht:IsTup s.heap t items) (hs:s.heap.IsSliceOf sl vl vu .none) (pl:IsPart vl lo) (pu:IsPart vu hi)
  (hw:¬ (sIx items.size 0 lo=0/\sIx items.size items.size hi=items.size))
  (h:Q (.ref s.heap.objs.size) { s with heap:=s.heap.push { cls:=.type "tuple",data:=.seq ((items.toList.drop (sIx items.size 0 lo)).take (sIx items.size items.size hi-sIx items.size 0 lo)).toArray } })
  (hsz:items.size<=sizeLine):wpAny (model prog w) A (getItem (.ref t) (.ref sl)) Q E s:=by
 have htake:sizeOk (.seq ((items.toList.drop (sIx items.size 0 lo)).take (sIx items.size items.size hi-sIx items.size 0 lo)).toArray):=by
  show ((items.toList.drop (sIx items.size 0 lo)).take (sIx items.size items.size hi-sIx items.size 0 lo)).toArray.size<=sizeLine
  rw [List.size_toArray,List.length_take,List.length_drop,Array.length_toList]
  omega
 have hj:sIx items.size items.size hi<=items.size:=QrJ _ _ (Nat.le_refl _) hi
 obtain ⟨os,hos,hcs,hds⟩:=id hs
 have hTs:s.TypeIs (.ref sl) "slice":=⟨os,hos,hcs⟩
 unfold getItem
 try with_reducible refine wpAny_holding ?_
 first | refine wpAny_bind (wpAny_pure ?_) | skip
 refine wpAny_bind (wpAny_sequenceKey ht.typeIs (by decide) ?_)
 refine wpAny_bind (wpAny_callSpecial?_slot (name:=Str.ofString "__getitem__") ht.typeIs PyProof.Rows.slot_tuple_getitem
  (wpAny_call_entry PyProof.Rows.slot_tuple_getitem ht.typeIs entry_tuple_getitem ?_ (args_tuple_getitem _ _)))
 show wpAny _ _ (Builtin.Tuple.tupleItemsOf (.ref t) >>= _) _ _ s
 refine wpAny_bind (tupleItemsOf_ ht ?_)
 refine wpAny_bind (wpAny_typeOf hTs ?_)
 rw [if_pos (by decide)]
 refine wpAny_bind (Qfx hs pl pu ?_)
 have hno:¬ ((((sIx items.size 0 lo:Nat):Int)==0&&(1:Int)==1&&(sIx items.size items.size hi-sIx items.size 0 lo)==items.size)=true):=by
  intro q
  rw [Bool.and_eq_true,Bool.and_eq_true] at q
  have q1:((sIx items.size 0 lo:Nat):Int)=0:=eq_of_beq q.1.1
  have q2:sIx items.size items.size hi-sIx items.size 0 lo=items.size:=eq_of_beq q.2
  exact hw ⟨by omega,by omega⟩
 show wpAny _ _ (if (((sIx items.size 0 lo:Nat):Int)==0&&(1:Int)==1&&(sIx items.size items.size hi-sIx items.size 0 lo)==items.size)=true then _ else _) _ _ s
 rw [if_neg hno,QoZ]
 first
  | exact wpAny_bind (m:=Builtin.Tuple.tupleExact _) (wpAny_newObj_type (wpAny_pure ⟨_,rfl,wpAny_pure h⟩) htake)
  | exact wpAny_bind (m:=Builtin.Tuple.tupleExact _) (wpAny_newObj_type (wpAny_bind (wpAny_pure (wpAny_pure ⟨_,rfl,wpAny_pure h⟩))) htake)
  | exact wpAny_bind (wpAny_bind (m:=Builtin.Tuple.tupleExact _) (wpAny_newObj_type (wpAny_pure (wpAny_pure ⟨_,rfl,wpAny_pure h⟩)) htake))
  | exact wpAny_bind (wpAny_bind (m:=Builtin.Tuple.tupleExact _) (wpAny_newObj_type (wpAny_pure ⟨_,rfl,wpAny_pure h⟩) htake))
end
end HT
namespace L2
open PySem PySem.Spec PyProof.Rows
abbrev TO:=St->Hp->(Option Int->Hp->Prop)->Prop
def PO (X:Cx) (e:Option Expr) (t:TO):Prop :=
 ∀ (pins:List (Addr×Obj)) (s:Shared) (σ:St) (H:Hp) (Q:Option Int->Hp->Prop),Inv X pins σ H s->t σ H Q ->
  wpAny (model X.prog X.w) X.A (evalPart e X.env) (fun u s'=>∃ o H',Inv X pins σ H' s'/\IsPart u o/\Q o H') X.xe s
def Qqf:TO:=fun _ H Q=>Q none H
def QsV (t:TE):TO:=fun σ H Q=>t σ H fun x H1=>∃ i,x=.int i/\Q (some i) H1
theorem Qf3 {ns:List Int}:∀ {us:List Value},Vals (ns.map V.int) us->IntsAre us ns:=by
 induction ns with
 | nil=>intro us r;rw [List.map_nil] at r;cases r;exact .nil
 | cons n ns ih =>
  intro us r
  rw [List.map_cons] at r
  cases r with
  | cons r1 r2 =>
   obtain ⟨t,e⟩:=r1
   subst e
   exact .cons n t (ih r2)
section
variable {X:Cx} {e:Expr} {te:TE} {lo hi:Option Expr} {tl th:TO} {pos p2:Pos}
theorem Qqz:PO X none Qqf:=by
 intro pins s σ H Q I h
 rw [evalPart_none]
 exact wpAny_pure ⟨none,H,I,.none,h⟩
theorem Qqy (h:PE X e te):PO X (some e) (QsV te):=by
 intro pins s σ H Q I hw
 rw [evalPart_some]
 refine thn (h pins s σ H _ I hw) fun u s1 ⟨x,H1,I1,r1,q1⟩=>?_
 obtain ⟨i,rfl,q⟩:=q1
 obtain ⟨t,rfl⟩:=r1
 exact ⟨some i,H1,I1,.int i t,q⟩
def SlR (X:Cx) (r:V->Option Int->Option Int->Hp->VK->Prop):Prop :=
 ∀ (pins:List (Addr×Obj)) (s:Shared) (σ:St) (H:Hp) (x:V) (v vl vu:Value) (lo hi:Option Int) (sl:Addr) (Q:VK),Inv X pins σ H s->RelV x v->s.heap.IsSliceOf sl vl vu .none->IsPart vl lo->IsPart vu hi->r x lo hi H Q ->
  ∃ T id,typeLookup (.type T) "__getitem__"=pure (some (.builtin id))/\s.TypeIs v T/\wpAny (model X.prog X.w) X.A (getItem v (.ref sl)) (EP X pins σ Q) X.xe s
theorem SlR.or {r r':V->Option Int->Option Int->Hp->VK->Prop} (h:SlR X r) (h':SlR X r'):SlR X (fun x lo hi H Q=>r x lo hi H Q\/r' x lo hi H Q):=by
 intro pins s σ H x v vl vu lo hi sl Q I rx hs pl pu q
 rcases q with q | q
 ·exact h pins s σ H x v vl vu lo hi sl Q I rx hs pl pu q
 ·exact h' pins s σ H x v vl vu lo hi sl Q I rx hs pl pu q
def tSl (r:V->Option Int->Option Int->Hp->VK->Prop) (te:TE) (tl th:TO):TE:=fun σ H Q=>te σ H fun x H1=>tl σ H1 fun l H2=>th σ H2 fun u H3=>r x l u H3 Q
theorem Qo1 {r:V->Option Int->Option Int->Hp->VK->Prop} (hr:SlR X r) (he:PE X e te) (hl:PO X lo tl) (hu:PO X hi th):PE X (.Subscript e (.Slice lo hi none p2) pos) (tSl r te tl th):=by
 intro pins s σ H Q I h
 refine Subscript_ (thn (he pins s σ H _ I h) fun v s1 ⟨x,H1,I1,r1,q1⟩=>?_)
 refine wpAny_Slice (thn (hl pins s1 σ H1 _ I1 q1) fun vl s2 ⟨l,H2,I2,pl,q2⟩=>thn (hu pins s2 σ H2 _ I2 q2) fun vu s3 ⟨u,H3,I3,pu,q3⟩=>?_)
 rw [evalPart_none]
 refine wpAny_pure ?_
 have I4:Inv X pins σ H3 { s3 with heap:=s3.heap.push { cls:=.type "slice",data:=.fields #[vl,vu,.none] } }:=I3.kept (t':=s3.toks) fun b ob q=>Heap.get?_push_of_some _ q
 obtain ⟨T,id,hT,ht,hg⟩:=hr pins { s3 with heap:=s3.heap.push { cls:=.type "slice",data:=.fields #[vl,vu,.none] } } σ H3 x v vl vu l u s3.heap.objs.size Q I4 r1 (Heap.IsSliceOf.new ..) pl pu q3
 show wpAny (model X.prog X.w) X.A (subscriptTail e (.Slice lo hi none p2) v (.ref s3.heap.objs.size)) (EP X pins σ Q) X.xe { s3 with heap:=s3.heap.push { cls:=.type "slice",data:=.fields #[vl,vu,.none] } }
 exact tail_any (ops:=[.ref s3.heap.objs.size,v]) ht hT hg (by with_unfolding_all rfl)
def Qa4 (xs:List V) (lo hi:Option Int):List V:=(xs.drop (HT.sIx xs.length 0 lo)).take (HT.sIx xs.length xs.length hi-HT.sIx xs.length 0 lo)
theorem QeN (xs:List V) (lo hi:Option Int):(Qa4 xs lo hi).length<=xs.length:=by
 unfold Qa4
 rw [List.length_take,List.length_drop]
 omega
def QtT (K:PySem.W.Frag):V->Option Int->Option Int->Hp->VK->Prop:=fun x lo hi H Q=>∃ a xs,x=.ref a/\SqT K H a xs /\
 ¬ (HT.sIx xs.length 0 lo=0/\HT.sIx xs.length xs.length hi=xs.length)/\∀ p,H p=none->Q (.ref p) (upd H p (.tup (Qa4 xs lo hi)))
theorem QrH:SlR X (QtT X.K):=by
 intro pins s σ H x v vl vu lo hi sl Q I rx hs pl pu h
 obtain ⟨a,xs,rfl,hx,hw,q⟩:=h
 cases rx
 obtain ⟨its,r,ht,hz⟩:=I.tuple hx
 have hlen:its.toArray.size=xs.length:=by rw [List.size_toArray];exact r.length.symm
 refine ⟨"tuple",_,PyProof.Rows.slot_tuple_getitem.lookup,ht.typeIs,?_⟩
 refine HT.getItem_tuple_cut ht hs pl pu (by rw [hlen];exact hw) ?_ (by rw [hlen];exact hz)
 rw [hlen]
 refine ⟨.ref s.heap.objs.size,_,I.laid (t':=s.toks) (o:=.tup (Qa4 xs lo hi)) (fun b ob q=>Heap.get?_push_of_some _ q) (Nat.le_refl _) ?_,rfl,q _ (I.hok.fresh (Nat.le_refl _))⟩
 exact ⟨Nat.le_trans (QeN xs lo hi) hz,_,(r.drop (HT.sIx xs.length 0 lo)).take (HT.sIx xs.length xs.length hi-HT.sIx xs.length 0 lo),IsTup.new _ _⟩
def QlL (K:PySem.W.Frag):R2:=fun x y H Q=>∃ a b xs ys,x=.ref a/\y=.ref b/\SqT K H a xs/\SqT K H b ys/\xs≠[]/\xs.length+ys.length<=sizeLine /\
 (ys=[]->Q (.ref a) H)/\(ys≠[]->∀ p,H p=none->Q (.ref p) (upd H p (.tup (xs++ys))))
theorem Vals.nil_iff {xs:List V} {us:List Value} (r:Vals xs us):us=[]↔xs=[]:=by
 cases r with
 | nil=>simp
 | cons _ _=>simp
theorem QqI:OpR X (binaryOp .Add) (QlL X.K):=by
 intro pins s σ H x y v u Q I rx ry h
 obtain ⟨a,b,xs,ys,rfl,rfl,ha,hb,hx,hz,q1,q2⟩:=h
 cases rx
 cases ry
 obtain ⟨its,r1,p1,_⟩:=I.tuple ha
 obtain ⟨its2,r2,p2,_⟩:=I.tuple hb
 refine HT.cat_tup p1 p2 (fun z=>hx (r1.nil_iff.mp z)) (fun z=>⟨.ref a,H,I,rfl,q1 (r2.nil_iff.mp z)⟩) (fun z=>?_) (by rw [<- r1.length,<- r2.length];exact hz)
 refine ⟨.ref s.heap.objs.size,_,I.laid (t':=s.toks) (o:=.tup (xs++ys)) (fun b ob q=>Heap.get?_push_of_some _ q) (Nat.le_refl _) ?_,rfl,q2 (fun w=>z (r2.nil_iff.mpr w)) _ (I.hok.fresh (Nat.le_refl _))⟩
 exact ⟨by rw [List.length_append];exact hz,_,r1.append r2,IsTup.new _ _⟩
end
end L2
namespace L2
open PySem PySem.Spec PyProof.Rows
def ixN (n:Nat) (i:Int):Option Nat:=if 0<=i then (if i<n then some i.toNat else none) else if -(n:Int)<=i then some (i+n).toNat else none
def atI {α:Type} (xs:List α) (i:Int):Option α:=(ixN xs.length i).bind fun j=>xs[j]?
theorem Qq2 {n:Nat} {i:Int} {j:Nat} (h:ixN n i=some j):seqIndex? i n=some j/\j<n/\-(n:Int)<=i/\i<n:=by
 unfold ixN at h
 by_cases h0:0<=i
 ·rw [if_pos h0] at h
  by_cases h1:i<n
  ·rw [if_pos h1] at h
   have e:i.toNat=j:=Option.some.inj h
   exact ⟨by rw [seqIndex_of h0 h1,e],by omega,by omega,h1⟩
  ·rw [if_neg h1] at h;cases h
 ·rw [if_neg h0] at h
  by_cases h1:-(n:Int)<=i
  ·rw [if_pos h1] at h
   have e:(i+n).toNat=j:=Option.some.inj h
   exact ⟨by rw [seqIndex_neg (by omega) h1,e],by omega,h1,by omega⟩
  ·rw [if_neg h1] at h;cases h
theorem QgX {α:Type} {xs:List α} {i:Int} {v:α} (h:atI xs i=some v):∃ j,seqIndex? i xs.length=some j/\xs[j]?=some v/\j<xs.length/\-(xs.length:Int)<=i/\i<xs.length:=by
 unfold atI at h
 cases e:ixN xs.length i with
 | none=>rw [e] at h;cases h
 | some j =>
  rw [e] at h
  obtain ⟨h1,h2,h3,h4⟩:=Qq2 e
  exact ⟨j,h1,h,h2,h3,h4⟩
def QgY (b:Expr):Prop:=∀ o i,subscripted b false o i=operate [o,i] (getItem o i)
def IxR (X:Cx) (r:R2):Prop :=
 ∀ (value slice:Expr) (pins:List (Addr×Obj)) (s:Shared) (σ:St) (H:Hp) (x y:V) (v u:Value) (Q:VK),Inv X pins σ H s->RelV x v->RelV y u->r x y H Q ->
  subscripted slice false v u=operate [v,u] (getItem v u)->wpAny (model X.prog X.w) X.A (subscriptTail value slice v u) (EP X pins σ Q) X.xe s
def MtR (X:Cx) (id:String) (r:V->List V->Hp->VK->Prop):Prop :=
 ∀ (pins:List (Addr×Obj)) (s:Shared) (σ:St) (H:Hp) (x:V) (xs:List V) (v:Value) (us:List Value) (Q:VK),Inv X pins σ H s->RelV x v->Vals xs us->r x xs H Q ->
  wpAny (model X.prog X.w) X.A (call (.builtin id) (v::us)) (EP X pins σ Q) X.xe s
section
variable {X:Cx} {a b:Expr} {ta tb:TE} {pos:Pos}
theorem IxR.or {r r':R2} (h:IxR X r) (h':IxR X r'):IxR X (fun x y H Q=>r x y H Q\/r' x y H Q):=by
 intro value slice pins s σ H x y v u Q I rx ry q hs
 rcases q with q | q
 ·exact h value slice pins s σ H x y v u Q I rx ry q hs
 ·exact h' value slice pins s σ H x y v u Q I rx ry q hs
theorem MtR.or {id:String} {r r':V->List V->Hp->VK->Prop} (h:MtR X id r) (h':MtR X id r'):MtR X id (fun x xs H Q=>r x xs H Q\/r' x xs H Q):=by
 intro pins s σ H x xs v us Q I rx rs q
 rcases q with q | q
 ·exact h pins s σ H x xs v us Q I rx rs q
 ·exact h' pins s σ H x xs v us Q I rx rs q
theorem Qs8 {r:R2} (hr:IxR X r) (ha:PE X a ta) (hb:PE X b tb) (hs:QgY b):PE X (.Subscript a b pos) (tOp r ta tb):=by
 intro pins s σ H Q I h
 exact Subscript_ (QoE ha hb I h fun v u s2 x y H2 I2 rx ry q=>hr a b pins s2 σ H2 x y v u Q I2 rx ry q (hs _ _))
def Qry (K:PySem.W.Frag):R2:=fun x y H Q=>∃ p xs i v,x=.ref p/\y=.int i/\SqL K H p xs/\atI xs i=some v/\Q v H
def Qrw (K:PySem.W.Frag):R2:=fun x y H Q=>∃ p xs i v,x=.ref p/\y=.int i/\SqT K H p xs/\atI xs i=some v/\Q v H
def Qrx:R2:=fun x y H Q=>∃ z i c,x=.str z/\y=.int i/\z.length<=sizeLine/\atI z.cps.toList i=some c/\Q (.str ⟨#[c]⟩) H
theorem ix_list:IxR X (Qry X.K):=by
 intro value slice pins s σ H x y v u Q I rx ry h hs
 obtain ⟨p,xs,i,z,rfl,rfl,hq,he,q⟩:=h
 cases rx
 obtain ⟨t,rfl⟩:=ry
 obtain ⟨its,r,pl,hz⟩:=I.list hq
 obtain ⟨j,h1,h2,h3,h4,h5⟩:=QgX he
 obtain ⟨w,ew,rw'⟩:=r.get h2
 have hl:=r.length
 have hn:=Qd3
 have fin:EP X pins σ Q w s:=⟨z,H,I,rw',q⟩
 by_cases h0:0<=i
 ·have hj:i.toNat=j:=by
   rw [seqIndex_of h0 h5] at h1
   exact Option.some.inj h1
  exact item_listR pl.isList h0 (by omega) (by rw [hj];simpa using ew) fin hs
 ·have hj:(i+(its.toArray.size:Int)).toNat=j:=by
   rw [seqIndex_neg (by omega) h4] at h1
   rw [List.size_toArray,<- hl]
   exact Option.some.inj h1
  exact subscriptTail_builtinR (x:=w) pl.isList.typeIs slot_list_getitem.lookup
   (wpAny_getItem_list_neg (Q:=fun r s'=>r=w/\EP X pins σ Q r s') pl.isList (by omega) (by rw [List.size_toArray]<;>omega) (by omega) (by rw [hj];simpa using ew) ⟨rfl,fin⟩) hs
theorem ix_tup:IxR X (Qrw X.K):=by
 intro value slice pins s σ H x y v u Q I rx ry h hs
 obtain ⟨p,xs,i,z,rfl,rfl,hq,he,q⟩:=h
 cases rx
 obtain ⟨t,rfl⟩:=ry
 obtain ⟨its,r,pl,hz⟩:=I.tuple hq
 obtain ⟨j,h1,h2,h3,h4,h5⟩:=QgX he
 obtain ⟨w,ew,rw'⟩:=r.get h2
 have hl:=r.length
 have hn:=Qd3
 have fin:EP X pins σ Q w s:=⟨z,H,I,rw',q⟩
 exact subscriptTail_builtinR (x:=w) pl.typeIs slot_tuple_getitem.lookup
  (getItem_tuple (j:=j) (Q:=fun r s'=>r=w/\EP X pins σ Q r s') pl (by omega) (by omega) (by rw [List.size_toArray,<- hl];exact h1) (by simpa using ew) ⟨rfl,fin⟩) hs
theorem Qss:IxR X Qrx:=by
 intro value slice pins s σ H x y v u Q I rx ry h hs
 obtain ⟨z,i,c,rfl,rfl,hz,he,q⟩:=h
 obtain ⟨t,rfl⟩:=rx
 obtain ⟨t',rfl⟩:=ry
 obtain ⟨j,h1,h2,h3,h4,h5⟩:=QgX he
 have hl:z.cps.toList.length=z.length:=by simp [Str.length]
 rw [hl] at h1 h4 h5
 have hn:=Qd3
 exact tail_any (typeIs_str s z t) slot_str_getitem.lookup (getItem_str (c:=c) (by
  have e1:decide (i < -(2^63:Int))=false:=decide_eq_false (by omega)
  have e2:decide (i ≥ 2^63)=false:=decide_eq_false (by omega)
  rw [e1,e2,Bool.or_false]) (by rw [h1];simpa using h2) ⟨.str ⟨#[c]⟩,H,I.tok _,⟨_,rfl⟩,q⟩) hs
def rIx (K:PySem.W.Frag):R2:=fun x y H Q=>Qry K x y H Q\/Qrw K x y H Q\/Qrx x y H Q
theorem Qst:IxR X (rIx X.K):=ix_list.or (ix_tup.or Qss)
theorem Inv.lst {pins:List (Addr×Obj)} {σ:St} {H:Hp} {s:Shared} {p:Addr} {xs:List V} (I:Inv X pins σ H s) (h:H p=some (.lst xs)) :
  ∃ (its:List Value) (n:Nat),Vals xs its/\s.heap.get? p=some { cls:=.type "list",data:=.seq its.toArray n }/\xs.length<=sizeLine:=by
 obtain ⟨z,its,n,r,e⟩:=I.hok p _ h
 exact ⟨its,n,r,e,z⟩
theorem Qjs (lo hi:Option Int) (n:Nat):(sliceBounds lo hi none n).1=((HT.sIx n 0 lo:Nat):Int)/\(sliceBounds lo hi none n).2.1=((HT.sIx n n hi:Nat):Int)/\(sliceBounds lo hi none n).2.2=1:=by
 refine ⟨?_,?_,rfl⟩
 ·cases lo with
  | none=>simp [sliceBounds,HT.sIx]
  | some i =>
   simp only [sliceBounds,HT.sIx,Option.getD_none,show (1:Int) > 0 by decide,if_true]
   by_cases h:i<0
   ·simp only [h,if_true]<;>omega
   ·simp only [h,if_false]<;>omega
 ·cases hi with
  | none=>simp [sliceBounds,HT.sIx]
  | some i =>
   simp only [sliceBounds,HT.sIx,Option.getD_none,show (1:Int) > 0 by decide,if_true]
   by_cases h:i<0
   ·simp only [h,if_true]<;>omega
   ·simp only [h,if_false]<;>omega
theorem QhQ (its:List Value) (lo hi:Option Int):slicePick its.toArray lo hi none=((its.drop (HT.sIx its.length 0 lo)).take (HT.sIx its.length its.length hi-HT.sIx its.length 0 lo)).toArray:=by
 obtain ⟨h1,h2,h3⟩:=Qjs lo hi its.toArray.size
 unfold slicePick
 rw [h1,h2,h3]
 simp only [sliceRange_one,pick_run,List.size_toArray]<;>rfl
def QtV (K:PySem.W.Frag):V->Option Int->Option Int->Hp->VK->Prop:=fun x lo hi H Q=>∃ a xs,x=.ref a/\SqL K H a xs/\∀ p,H p=none->Q (.ref p) (upd H p (.lst (Qa4 xs lo hi)))
theorem Qqh:SlR X (QtV X.K):=by
 intro pins s σ H x v vl vu lo hi sl Q I rx hs pl pu h
 obtain ⟨a,xs,rfl,hx,q⟩:=h
 cases rx
 obtain ⟨its,r,ht,hz⟩:=I.list hx
 have hlen:=r.length
 refine ⟨"list",_,slot_list_getitem.lookup,ht.isList.typeIs,?_⟩
 refine wpAny_getItem_list_slice ht.isList hs pl pu .none (by simp) ?_ (by rw [List.size_toArray]<;>omega)
 rw [QhQ,<- hlen]
 refine ⟨.ref s.heap.objs.size,_,I.laid (t':=s.toks) (o:=.lst (Qa4 xs lo hi)) (fun b ob q=>Heap.get?_push_of_some _ q) (Nat.le_refl _) ?_,rfl,q _ (I.hok.fresh (Nat.le_refl _))⟩
 exact ⟨Nat.le_trans (QeN xs lo hi) hz,_,0,(r.drop (HT.sIx xs.length 0 lo)).take (HT.sIx xs.length xs.length hi-HT.sIx xs.length 0 lo),Heap.get?_push_size _ rfl⟩
def QaJ:V->Bool
 | .non=>true
 | .bl _=>true
 | .int _=>true
 | .str _=>true
 | _=>false
def eqV:V->V->Bool
 | .non,.non=>true
 | .bl a,.bl b=>a==b
 | .bl a,.int b=>(if a then 1 else 0)==b
 | .int a,.bl b=>a==(if b then 1 else 0)
 | .int a,.int b=>a==b
 | .str a,.str b=>a==b
 | _,_=>false
theorem QsD {A:Around} {s:Shared} {y x:V} {u v:Value} (ry:RelV y u) (rx:RelV x v) (fy:QaJ y=true) (fx:QaJ x=true):SeqAt.EqAt A s u v (eqV y x):=by
 cases y with
 | non =>
  cases ry
  cases x with
  | non=>cases rx;exact SeqAt.EqAt.same _
  | bl b=>cases rx;exact SeqAt.EqAt.none_bool b
  | int b=>obtain ⟨t,rfl⟩:=rx;exact SeqAt.EqAt.none_int b t
  | str b=>obtain ⟨t,rfl⟩:=rx;exact SeqAt.EqAt.none_str b t
  | _=>exact absurd (show false=true from fx) Bool.false_ne_true
 | bl a =>
  cases ry
  cases x with
  | non=>cases rx;exact SeqAt.EqAt.bool_none a
  | bl b=>cases rx;exact SeqAt.EqAt.bool_bool a b
  | int b=>obtain ⟨t,rfl⟩:=rx;exact SeqAt.EqAt.bool_int a b t
  | str b=>obtain ⟨t,rfl⟩:=rx;exact SeqAt.EqAt.bool_str a b t
  | _=>exact absurd (show false=true from fx) Bool.false_ne_true
 | int a =>
  obtain ⟨t',rfl⟩:=ry
  cases x with
  | non=>cases rx;exact SeqAt.EqAt.int_none a t'
  | bl b=>cases rx;exact SeqAt.EqAt.int_bool a t' b
  | int b=>obtain ⟨t,rfl⟩:=rx;exact SeqAt.EqAt.int_int a t' b t
  | str b=>obtain ⟨t,rfl⟩:=rx;exact SeqAt.EqAt.int_str a t' b t
  | _=>exact absurd (show false=true from fx) Bool.false_ne_true
 | str a =>
  obtain ⟨t',rfl⟩:=ry
  cases x with
  | non=>cases rx;exact SeqAt.EqAt.str_none a t'
  | bl b=>cases rx;exact SeqAt.EqAt.str_bool a t' b
  | int b=>obtain ⟨t,rfl⟩:=rx;exact SeqAt.EqAt.str_int a t' b t
  | str b=>obtain ⟨t,rfl⟩:=rx;exact SeqAt.EqAt.str_str a t' b t
  | _=>exact absurd (show false=true from fx) Bool.false_ne_true
 | _=>exact absurd (show false=true from fy) Bool.false_ne_true
def eqU (x:V) (u:Value):Bool:=match u with
 | .none=>eqV .non x
 | .bool b=>eqV (.bl b) x
 | .int i _=>eqV (.int i) x
 | .str z _=>eqV (.str z) x
 | _=>false
theorem Qm6 {x y:V} {u:Value} (r:RelV y u) (f:QaJ y=true):eqU x u=eqV y x:=by
 cases y with
 | non=>cases r;rfl
 | bl b=>cases r;rfl
 | int i=>obtain ⟨t,rfl⟩:=r;rfl
 | str z=>obtain ⟨t,rfl⟩:=r;rfl
 | _=>exact absurd (show false=true from f) Bool.false_ne_true
theorem QcV {x:V}:∀ {xs:List V} {us:List Value},Vals xs us->xs.all QaJ=true->us.any (eqU x)=xs.any fun y=>eqV y x
 | _,_,.nil,_=>rfl
 | y::xs,u::us,.cons r t,f=>by
  rw [List.all_cons,Bool.and_eq_true] at f
  rw [List.any_cons,List.any_cons,Qm6 r f.1,QcV t f.2]
theorem QbK {A:Around} {s:Shared} {x:V} {v:Value} (rx:RelV x v) (fx:QaJ x=true):∀ {xs:List V} {us:List Value},Vals xs us->xs.all QaJ=true->∀ u∈us,SeqAt.EqAt A s u v (eqU x u)
 | _,_,.nil,_=>fun u hu=>by cases hu
 | y::xs,u::us,.cons r t,f=>fun u' hu=>by
  rw [List.all_cons,Bool.and_eq_true] at f
  rcases List.mem_cons.mp hu with rfl | hu
  ·rw [Qm6 r f.1];exact QsD r rx f.1 fx
  ·exact QbK rx fx t f.2 u' hu
def inV (x:V) (xs:List V):Bool:=xs.any fun y=>eqV y x
def rIn (K:PySem.W.Frag) (neg:Bool):R2:=fun x y H Q=>∃ p xs,y=.ref p/\(SqL K H p xs\/SqT K H p xs)/\QaJ x=true/\xs.all QaJ=true/\Q (.bl (if neg then !inV x xs else inV x xs)) H
theorem QnB:OpR X (compareOp .In) (rIn X.K false):=by
 intro pins s σ H x y v u Q I rx ry h
 obtain ⟨p,xs,rfl,hq,fx,fs,q⟩:=h
 cases ry
 rcases hq with hq | hq
 ·obtain ⟨its,r,pl,hz⟩:=I.list hq
  refine SeqAt.in_listAt (eqU x) pl.isList (fun w hw=>QbK rx fx r fs w (by simpa using hw)) ⟨.bl _,H,I,rfl,?_⟩
  rw [show its.toArray.any (eqU x)=its.any (eqU x) by simp,QcV r fs]
  exact q
 ·obtain ⟨its,r,pl,hz⟩:=I.tuple hq
  refine SeqAt.in_tupleAt (eqU x) pl (fun w hw=>QbK rx fx r fs w (by simpa using hw)) ⟨.bl _,H,I,rfl,?_⟩
  rw [show its.toArray.any (eqU x)=its.any (eqU x) by simp,QcV r fs]
  exact q
theorem QjC:OpR X (compareOp .NotIn) (rIn X.K true):=by
 intro pins s σ H x y v u Q I rx ry h
 obtain ⟨p,xs,rfl,hq,fx,fs,q⟩:=h
 cases ry
 rcases hq with hq | hq
 ·obtain ⟨its,r,pl,hz⟩:=I.list hq
  refine SeqAt.notIn_listAt (eqU x) pl.isList (fun w hw=>QbK rx fx r fs w (by simpa using hw)) ⟨.bl _,H,I,rfl,?_⟩
  rw [show its.toArray.any (eqU x)=its.any (eqU x) by simp,QcV r fs]
  exact q
 ·obtain ⟨its,r,pl,hz⟩:=I.tuple hq
  refine SeqAt.notIn_tupleAt (eqU x) pl (fun w hw=>QbK rx fx r fs w (by simpa using hw)) ⟨.bl _,H,I,rfl,?_⟩
  rw [show its.toArray.any (eqU x)=its.any (eqU x) by simp,QcV r fs]
  exact q
theorem QjZ:CallR X (.builtin "len") (fun xs H Q=>∃ p ys,xs=[.ref p]/\(SqL X.K H p ys\/SqT X.K H p ys)/\Q (.int ys.length) H):=by
 intro pins s σ H xs us Q I r h
 obtain ⟨p,ys,rfl,hq,q⟩:=h
 obtain ⟨u,rfl,rx⟩:=QaG r
 cases rx
 have hn:=Qd3
 rcases hq with hq | hq
 ·obtain ⟨its,r',pl,hz⟩:=I.list hq
  have hlen:=r'.length
  exact Calls.call_len_list pl.isList (by simp only [List.size_toArray]<;>omega) ⟨.int ys.length,H,I.tok _,⟨s.toks+1,by rw [List.size_toArray,hlen]⟩,q⟩
 ·obtain ⟨its,r',pl,hz⟩:=I.tuple hq
  have hlen:=r'.length
  exact len_tuple pl (by simp only [List.size_toArray]<;>omega) ⟨.int ys.length,H,I.tok _,⟨s.toks+1,by rw [List.size_toArray,hlen]⟩,q⟩
theorem QjY:CallR X (.builtin "len") (fun xs H Q=>∃ z,xs=[.str z]/\z.length<=sizeLine/\Q (.int z.length) H):=by
 intro pins s σ H xs us Q I r h
 obtain ⟨z,rfl,hz,q⟩:=h
 obtain ⟨u,rfl,t,rfl⟩:=QaG r
 have hn:=Qd3
 exact len_str (by omega) ⟨.int z.length,H,I.tok _,⟨_,rfl⟩,q⟩
theorem CallR.or {f:Value} {r r':List V->Hp->VK->Prop} (h:CallR X f r) (h':CallR X f r'):CallR X f (fun xs H Q=>r xs H Q\/r' xs H Q):=by
 intro pins s σ H xs us Q I rs q
 rcases q with q | q
 ·exact h pins s σ H xs us Q I rs q
 ·exact h' pins s σ H xs us Q I rs q
theorem QjX:CallR X (.type "list") (fun xs H Q=>∃ p ys,xs=[.ref p]/\(SqL X.K H p ys\/SqT X.K H p ys)/\∀ l,H l=none->Q (.ref l) (upd H l (.lst ys))):=by
 intro pins s σ H xs us Q I r h
 obtain ⟨p,ys,rfl,hq,q⟩:=h
 obtain ⟨u,rfl,rx⟩:=QaG r
 cases rx
 have fin:∀ (its:List Value),Vals ys its->ys.length<=sizeLine->∀ (h':Heap) (c':Nat),(∀ b o',s.heap.get? b=some o'->h'.get? b=some o') ->
   h'.get? s.heap.objs.size=some { cls:=.type "list",dict:=none,data:=.seq its.toArray c',slots:=#[] }->EP X pins σ Q (.ref s.heap.objs.size) { s with heap:=h' }:=fun its r' hz h' c' kp e =>
  ⟨.ref s.heap.objs.size,_,I.laid (t':=s.toks) kp (Nat.le_refl _) (show ObjOk X.prog X.w _ h' _ (.lst ys) from ⟨hz,its,c',r',e⟩),rfl,q _ (I.hok.fresh (Nat.le_refl _))⟩
 rcases hq with hq | hq
 ·obtain ⟨its,r',pl,hz⟩:=I.list hq
  have hlen:=r'.length
  obtain ⟨o,ho,hc,n,hd⟩:=pl.isList
  exact call_list_seq p (.inl rfl) ho hc hd (fun h' c' kp e=>fin its r' hz h' c' kp e) (by simp only [List.size_toArray]<;>omega)
 ·obtain ⟨its,r',pl,hz⟩:=I.tuple hq
  have hlen:=r'.length
  obtain ⟨o,ho,hc,n,hd⟩:=pl
  exact call_list_seq p (.inr rfl) ho hc hd (fun h' c' kp e=>fin its r' hz h' c' kp e) (by simp only [List.size_toArray]<;>omega)
def tyV (K:PySem.W.Frag) (T:String) (x:V) (H:Hp):Prop:=match x with
 | .str _=>T="str"
 | .int _=>T="int"
 | .ref p=>(T="list"/\∃ xs,SqL K H p xs)\/(T="tuple"/\∃ o,K.lookup p=some o/\o.cls=.type "tuple"/\o.dict=none) \/
   (T="dict"/\((∃ kvs,H p=some (.dK kvs))\/∃ kvs,H p=some (.dT kvs)))\/(T="set"/\∃ S n,H p=some (.set S n))
 | _=>False
theorem QmN {pins:List (Addr×Obj)} {σ:St} {H:Hp} {s:Shared} {T:String} {x:V} {v:Value} (I:Inv X pins σ H s) (r:RelV x v) (ty:tyV X.K T x H) :
  s.TypeIs v T/\∀ a,v=.ref a->∃ ob,s.heap.get? a=some ob/\ob.dict=none:=by
 cases x with
 | str z =>
  obtain ⟨t,rfl⟩:=r
  cases (show T="str" from ty)
  exact ⟨typeIs_str s z t,fun _ e=>nomatch e⟩
 | int i =>
  obtain ⟨t,rfl⟩:=r
  cases (show T="int" from ty)
  exact ⟨typeIs_int s i t,fun _ e=>nomatch e⟩
 | ref p =>
  cases r
  rcases ty with ⟨rfl,xs,hq⟩ | ⟨rfl,o,hk,hc,hd⟩ | ⟨rfl,hk⟩ | ⟨rfl,S,n,hk⟩
  ·obtain ⟨its,_,pl,_⟩:=I.list hq
   refine ⟨pl.isList.typeIs,fun a e=>?_⟩
   cases e
   obtain ⟨o,n,e,c,hd,_⟩:=pl
   exact ⟨o,e,hd⟩
  ·refine ⟨⟨o,I.kIn p o hk,hc⟩,fun a e=>?_⟩
   cases e
   exact ⟨o,I.kIn _ o hk,hd⟩
  ·have z:∃ o,s.heap.get? p=some o/\o.ExactDict:=by
    rcases hk with ⟨kvs,hk⟩ | ⟨kvs,hk⟩
    ·obtain ⟨_,_,_,_,o,_,_,e,ex,_⟩:=I.hok p _ hk
     exact ⟨o,e,ex⟩
    ·obtain ⟨_,_,_,_,o,_,_,e,ex,_⟩:=I.hok p _ hk
     exact ⟨o,e,ex⟩
   obtain ⟨o,e,ex⟩:=z
   refine ⟨⟨o,e,ex.1⟩,fun a e2=>?_⟩
   cases e2
   exact ⟨o,e,ex.2.1⟩
  ·obtain ⟨o,_,_,_,e,ex,_⟩:=I.hok p _ hk
   refine ⟨⟨o,e,ex.1⟩,fun a e2=>?_⟩
   cases e2
   exact ⟨o,e,ex.2.1⟩
 | _=>exact False.elim ty
def QtQ (K:PySem.W.Frag) (T:String) (r:V->List V->Hp->VK->Prop) (to:TE):TE:=fun σ H Q=>to σ H fun x H1=>tyV K T x H1/\r x [] H1 Q
def tBM (K:PySem.W.Frag) (T:String) (r:V->List V->Hp->VK->Prop) (to:TE) (t:TA):TE:=fun σ H Q=>to σ H fun x H1=>tyV K T x H1/\t σ H1 fun xs H2=>r x xs H2 Q
variable {o e:Expr} {es:List Expr} {to:TE} {t:TA} {name:Str} {apos cpos:Pos} {T id:String} {r:V->List V->Hp->VK->Prop}
theorem QmY (pa:PlainAttrs T) (slot:Slot T name id) (hty:typeOf (.builtin id)=pure (.type "method_descriptor")) (hm:MtR X id r) (ho:PE X o to)
  (hbase:attributeBase o name X.env (eval o X.env)=eval o X.env:=by rfl) (hline:(apos.endLine==cpos.line)=true:=by rfl):PE X (.Call (.Attribute o name apos) [] [] cpos) (QtQ X.K T r to):=by
 intro pins s σ H Q I h
 refine wpAny_Call_method0_late hbase hline (thn (ho pins s σ H _ I h) fun v s1 ⟨x,H1,I1,r1,ty,q1⟩=>?_)
 obtain ⟨h1,h2⟩:=QmN I1 r1 ty
 exact ⟨T,id,pa,slot,hty,h1,h2,Calls.callWith_builtin rfl (PySem.evalArgs_none (hm pins s1 σ H1 x [] v [] Q I1 r1 .nil q1))⟩
theorem QlN (pa:PlainAttrs T) (slot:Slot T name id) (hty:typeOf (.builtin id)=pure (.type "method_descriptor")) (hm:MtR X id r) (ho:PE X o to) (ha:PA X (e::es) t)
  (hbase:attributeBase o name X.env (eval o X.env)=eval o X.env:=by rfl)
  (hfew:((backTo cpos (starEach (e::es) X.env)).all (fun x=>!x.1)&&(backToKw cpos (keywordEach [] X.env)).all (fun x=>x.1.isSome)
   && decide ((e::es).length+([]:List Keyword).length+(if ([]:List Keyword).isEmpty then 0 else 1)<30))=true:=by rfl)
  (hline:(apos.endLine==cpos.line)=true:=by rfl) (hs:starEach (e::es) X.env=(false,eval e X.env)::starEach es X.env:=by rfl) (hplain:(backTo cpos (starEach es X.env)).any (·.1)=false:=by rfl) :
  PE X (.Call (.Attribute o name apos) (e::es) [] cpos) (tBM X.K T r to t):=by
 intro pins s σ H Q I h
 refine wpAny_Call_method_late hbase hfew hline rfl (thn (ho pins s σ H _ I h) fun v s1 ⟨x,H1,I1,r1,ty,q1⟩=>?_)
 obtain ⟨h1,h2⟩:=QmN I1 r1 ty
 refine ⟨T,id,pa,slot,hty,h1,h2,?_⟩
 have hA:=ha cpos pins s1 σ H1 _ I1 q1
 rw [hs] at hA ⊢
 refine Calls.callWith_builtin (by show (false||(backTo cpos (starEach es X.env)).any (·.1))=false;rw [hplain]<;>rfl) (Calls.evalArgs_plain ?_)
 exact thn hA fun us s2 ⟨vs,H2,I2,r2,q2⟩=>hm pins s2 σ H2 x vs v us Q I2 r1 r2 q2
end
end L2
namespace L2
open PySem PySem.Spec PyProof.Rows
def MtM (X:Cx) (id:String) (r:V->List V->Hp->VK->Prop):Prop :=
 ∀ (pins:List (Addr×Obj)) (s:Shared) (σ:St) (H:Hp) (x:V) (xs:List V) (v:Value) (us:List Value) (Q:VK),Inv X pins σ H s->RelV x v->Vals xs us->r x xs H Q ->
  wpAny (model X.prog X.w) X.A (call (.builtin id) (v::us)) (EP X pins σ Q) X.xe s
theorem Vals.one:∀ {x:V} {us:List Value},Vals [x] us->∃ u,us=[u]/\RelV x u
 | _,_,.cons r .nil=>⟨_,rfl,r⟩
theorem Vals.zero:∀ {us:List Value},Vals [] us->us=[]
 | _,.nil=>rfl
theorem Vals.eraseIdx:∀ {xs:List V} {us:List Value} (i:Nat),Vals xs us->Vals (xs.eraseIdx i) (us.eraseIdx i)
 | _,_,_,.nil=>.nil
 | _,_,0,.cons _ t=>t
 | _,_,i+1,.cons r t=>.cons r (Vals.eraseIdx i t)
theorem Vals.rep {xs:List V} {us:List Value} (h:Vals xs us):∀ k:Nat,Vals (List.replicate k xs).flatten (List.replicate k us).flatten
 | 0=>.nil
 | k+1=>by
  rw [List.replicate_succ,List.replicate_succ,List.flatten_cons,List.flatten_cons]
  exact Vals.append h (Vals.rep h k)
theorem Qho {α:Type}:∀ (l:List α) (i:Nat),(l.eraseIdx i).length<=l.length
 | [],_=>Nat.le_refl _
 | _::_,0=>Nat.le_succ _
 | _::r,i+1=>Nat.succ_le_succ (Qho r i)
theorem Qhs (its:List Value):∀ (k:Nat) (acc:List Value),
  List.foldl (fun x1 x2=>x1++x2) acc.toArray (List.replicate k its.toArray)=(acc++(List.replicate k its).flatten).toArray
 | 0,acc=>by simp
 | k+1,acc=>by
  have e:acc.toArray++its.toArray=(acc++its).toArray:=by simp
  have e2:(acc++its)++(List.replicate k its).flatten=acc++(List.replicate (k+1) its).flatten:=by
   rw [List.replicate_succ,List.flatten_cons,List.append_assoc]
  rw [<- e2,<- Qhs its k (acc++its),<- e,List.replicate_succ,List.foldl_cons]
section
variable {X:Cx} {pins:List (Addr×Obj)} {σ:St} {H:Hp} {s:Shared} {l b:Addr} {xs ys zs:List V}
theorem Inv.lset {its its':List Value} {n:Nat} {f:Array Value->Array Value} {t':Nat} (I:Inv X pins σ H s) (hH:H l=some (.lst xs))
  (e:s.heap.get? l=some { cls:=.type "list",data:=.seq its.toArray n }) (hf:f its.toArray=its'.toArray) (hv:Vals ys its') (hz:ys.length<=sizeLine) :
  Inv X pins σ (upd H l (.lst ys)) { s with heap:=s.heap.update l (Obj.mapSeq f),toks:=t' }:=by
 have q:=PySem.IsL.update e f
 rw [hf] at q
 refine I.write (x:=l) (e:=l) (by rw [hH];exact trivial) (.inl rfl) (fun b' u hb hu=>(Heap.get?_update_other s.heap (Obj.mapSeq f) (Ne.symm hb)).trans hu) ⟨_,q⟩ ?_
 exact ⟨hz,its',_,hv,q⟩
theorem Inv.lnew {its:List Value} {t':Nat} (I:Inv X pins σ H s) (hv:Vals ys its) (hz:ys.length<=sizeLine) :
  Inv X pins σ (upd H s.heap.objs.size (.lst ys)) { s with heap:=s.heap.push { cls:=.type "list",data:=.seq its.toArray },toks:=t' } :=
 I.laid (fun _ _ q=>Heap.get?_push_of_some _ q) (Nat.le_refl _) ⟨hz,its,0,hv,Heap.get?_push_size _ rfl⟩
theorem Inv.fresh (I:Inv X pins σ H s):H s.heap.objs.size=none:=I.hok.fresh (Nat.le_refl _)
theorem Inv.lstM (I:Inv X pins σ H s) (hH:H l=some (.lst xs)):xs.length<=sizeLine/\∃ (its:List Value) (n:Nat),Vals xs its/\xs.length=its.length/\s.heap.get? l=some { cls:=.type "list",data:=.seq its.toArray n }:=by
 obtain ⟨z,its,n,r,e⟩:=I.hok l _ hH
 exact ⟨z,its,n,r,r.length,e⟩
theorem QiQ {n:Nat} (h:n<=sizeLine):Builtin.List.listTooLong n=false:=by
 unfold Builtin.List.listTooLong
 exact decide_eq_false (by omega)
end
section
variable {X:Cx}
def Qqs:V->List V->Hp->VK->Prop:=fun x vs H Q=>∃ l xs y,x=.ref l/\vs=[y]/\H l=some (.lst xs)/\xs.length<sizeLine/\Q .non (upd H l (.lst (xs++[y])))
theorem Qhm:MtM X "list.append" Qqs:=by
 intro pins s σ H x vs v us Q I rx rv h
 obtain ⟨l,xs,y,rfl,rfl,hH,hz,q⟩:=h
 cases rx
 obtain ⟨u,rfl,ru⟩:=rv.one
 obtain ⟨z,its,n,r,hl,e⟩:=I.lstM hH
 refine call_meets F.slot_list_append ⟨_,e,rfl⟩ F.entry_list_append (F.args_list_append_2 _ _) (PySem.list_append l its.toArray n u (by rw [List.size_toArray];omega)) ⟨e,?_⟩
 refine ⟨.non,_,I.lset (its':=its++[u]) hH e (by simp) (r.append (.cons ru .nil)) ?_,rfl,q⟩
 rw [List.length_append,List.length_singleton]
 omega
def Qqr:V->List V->Hp->VK->Prop:=fun x vs H Q=>∃ l b xs zs,x=.ref l/\vs=[.ref b]/\H l=some (.lst xs)/\H b=some (.lst zs)/\xs.length+zs.length<=sizeLine/\Q .non (upd H l (.lst (xs++zs)))
theorem QnR:MtM X "list.extend" Qqr:=by
 intro pins s σ H x vs v us Q I rx rv h
 obtain ⟨l,b,xs,zs,rfl,rfl,hH,hB,hz,q⟩:=h
 cases rx
 obtain ⟨u,rfl,ru⟩:=rv.one
 cases ru
 obtain ⟨z,its,n,r,hl,e⟩:=I.lstM hH
 obtain ⟨z2,its2,n2,r2,hl2,e2⟩:=I.lstM hB
 have hsz:its.toArray.size+its2.toArray.size<=sizeLine:=by rw [List.size_toArray,List.size_toArray];omega
 have hlong:¬ (!its.toArray.isEmpty&&Builtin.List.listTooLong (its.toArray.size+its2.toArray.size))=true:=by
  rw [QiQ hsz,Bool.and_false]
  exact Bool.false_ne_true
 refine call_meets F.slot_list_extend ⟨_,e,rfl⟩ F.entry_list_extend (F.args_list_extend_2 _ _)
  (AutoSeq1.list_extend_list_list_0 l its.toArray n b its2.toArray n2 hlong (by rw [List.size_toArray];omega) (by omega)) ⟨e,e2,?_⟩
 refine ⟨.non,_,I.lset (its':=its++its2) hH e (by simp) (r.append r2) ?_,rfl,q⟩
 rw [List.length_append]
 omega
def QrO:V->List V->Hp->VK->Prop:=fun x vs H Q=>∃ l xs i k y,x=.ref l/\vs=[.int i]/\H l=some (.lst xs)/\-(2^63)<=i/\i<2^63/\seqIndex? i xs.length=some k/\xs[k]?=some y/\Q y (upd H l (.lst (xs.eraseIdx k)))
theorem Qpm:MtM X "list.pop" QrO:=by
 intro pins s σ H x vs v us Q I rx rv h
 obtain ⟨l,xs,i,k,y,rfl,rfl,hH,h1,h2,hk,hy,q⟩:=h
 cases rx
 obtain ⟨u,rfl,ru⟩:=rv.one
 obtain ⟨t,rfl⟩:=ru
 obtain ⟨z,its,n,r,hl,e⟩:=I.lstM hH
 obtain ⟨w,hw,rw'⟩:=r.get hy
 refine call_meets F.slot_list_pop ⟨_,e,rfl⟩ F.entry_list_pop (F.args_list_pop_2 _ _)
  (MeetsSeq.list_pop_at l its.toArray n i t k w (fitsIndex_both h1 h2) (by rw [List.size_toArray,<- hl];exact hk) (by rw [<- Array.getElem?_toList];exact hw) (by rw [List.size_toArray];omega)) ⟨e,?_⟩
 refine ⟨y,_,I.lset (its':=its.eraseIdx k) hH e ?_ (r.eraseIdx k) ?_,rw',q⟩
 ·show its.toArray.eraseIdxIfInBounds k=(its.eraseIdx k).toArray
  rw [List.eraseIdxIfInBounds_toArray]
 ·have:=Qho xs k
  omega
def QrP:V->List V->Hp->VK->Prop:=fun x vs H Q=>∃ l xs,x=.ref l/\vs=[]/\H l=some (.lst xs)/\Q .non (upd H l (.lst []))
theorem Qpn:MtM X "list.clear" QrP:=by
 intro pins s σ H x vs v us Q I rx rv h
 obtain ⟨l,xs,rfl,rfl,hH,q⟩:=h
 cases rx
 have hus:=rv.zero
 subst hus
 obtain ⟨z,its,n,r,hl,e⟩:=I.lstM hH
 refine call_meets F.slot_list_clear ⟨_,e,rfl⟩ F.entry_list_clear (F.args_list_clear_1 _) (AutoSeq1.list_clear_list_0 l its.toArray n (by rw [List.size_toArray];omega)) ⟨e,?_⟩
 exact ⟨.non,_,I.lset (its':=[]) (ys:=[]) hH e rfl .nil (Nat.zero_le _),rfl,q⟩
def QoA:R2:=fun x y H Q=>∃ l b xs zs,x=.ref l/\y=.ref b/\H l=some (.lst xs)/\H b=some (.lst zs)/\xs.length+zs.length<=sizeLine/\∀ p,H p=none->Q (.ref p) (upd H p (.lst (xs++zs)))
theorem Qsb:OpR X (binaryOp .Add) QoA:=by
 intro pins s σ H x y v u Q I rx ry h
 obtain ⟨l,b,xs,zs,rfl,rfl,hH,hB,hz,q⟩:=h
 cases rx
 cases ry
 obtain ⟨z,its,n,r,hl,e⟩:=I.lstM hH
 obtain ⟨z2,its2,n2,r2,hl2,e2⟩:=I.lstM hB
 refine PySem.P.add_list e e2 ?_ (by rw [List.size_toArray,List.size_toArray];omega)
 have ea:its.toArray++its2.toArray=(its++its2).toArray:=by simp
 rw [ea]
 exact ⟨.ref _,_,I.lnew (t':=s.toks) (r.append r2) (by rw [List.length_append];omega),rfl,q _ I.fresh⟩
def Qoy:R2:=fun x y H Q=>∃ l k xs,x=.ref l/\y=.int k/\H l=some (.lst xs)/\-(2^63)<=k/\k<2^63/\xs.length*k.toNat<=sizeLine /\
 ∀ p,H p=none->Q (.ref p) (upd H p (.lst (List.replicate k.toNat xs).flatten))
theorem QqV {α:Type} (xs:List α) (k:Nat):(List.replicate k xs).flatten.length=k*xs.length:=by
 induction k with
 | zero=>simp
 | succ k ih=>rw [List.replicate_succ,List.flatten_cons,List.length_append,ih,Nat.succ_mul,Nat.add_comm]
theorem Qr6:OpR X (binaryOp .Mult) Qoy:=by
 intro pins s σ H x y v u Q I rx ry h
 obtain ⟨l,k,xs,rfl,rfl,hH,h1,h2,hz,q⟩:=h
 cases rx
 obtain ⟨t,rfl⟩:=ry
 obtain ⟨z,its,n,r,hl,e⟩:=I.lstM hH
 have hlen:its.toArray.size*k.toNat<=sizeLine:=by rw [List.size_toArray,<- hl];exact hz
 have hcap:¬ its.toArray.size*k.toNat > (2^63-1)/8:=by
  have:(sizeLine:Nat)<=(2^63-1)/8:=by decide
  omega
 have hfit:¬ (!Builtin.List.listFitsIndex k)=true:=by
  rw [fitsIndex_both h1 h2]
  exact Bool.false_ne_true
 have hlong:¬ Builtin.List.listTooLong (its.toArray.size*k.toNat)=true:=by
  rw [QiQ hlen]
  exact Bool.false_ne_true
 have hnew:List.foldl (fun x1 x2=>x1++x2) #[] (List.replicate (if its.toArray.isEmpty=true then 0 else k.toNat) its.toArray)=(List.replicate k.toNat its).flatten.toArray:=by
  have f0:∀ m:Nat,List.foldl (fun x1 x2=>x1++x2) #[] (List.replicate m its.toArray)=(List.replicate m its).flatten.toArray:=fun m=>by
   have:=Qhs its m []
   rw [List.nil_append] at this
   exact this
  rw [f0]
  cases its with
  | nil=>simp
  | cons a r'=>rw [if_neg (by simp)]
 refine wpAny_binaryOp_repeat_ref (T:="list") (U:="int") (by decide) ⟨_,e,rfl⟩ (fun s'=>typeIs_int s' k t) noFill_list_mul F.fills_int_mul F.slot_int_rmul repeat_list F.slot_int_index.lookup
  (call_meets F.slot_int_rmul (typeIs_int s k t) F.entry_int_rmul (F.args_int_rmul_2 _ _) (int___rmul___int_list k t l its.toArray n)
   ⟨e,rfl,⟨_,e,rfl⟩,call_meets F.slot_list_mul ⟨_,e,rfl⟩ F.entry_list_mul (F.args_list_mul_2 _ _) (AutoListH.list___mul___list_int_3 l its.toArray n k t hfit hcap hlong) ⟨e,?_⟩⟩)
 rw [hnew]
 exact ⟨.ref _,_,I.lnew (t':=s.toks) (r.rep k.toNat) (by rw [QqV,Nat.mul_comm];exact hz),rfl,q _ I.fresh⟩
end
section
variable {prog:Program} {w:World} {A:Around} {E:Value->Shared->Prop} {s:Shared}
end
section
variable {X:Cx}
end
end L2
namespace Att
open PySem PySem.W PySem.Calls PyProof.Rows
theorem Qgu {P:Params} {h:Heap}:∀ (ns:List Int) (vs:List Value),WellAll P h vs (ns.map WData.int)->IntsAre vs ns:=by
 intro ns
 induction ns with
 | nil =>
  intro vs w
  rw [List.map_nil] at w
  cases w
  exact .nil
 | cons n ns ih =>
  intro vs w
  rw [List.map_cons] at w
  cases w with
  | cons a b =>
   cases a
   exact .cons _ _ (ih _ b)
theorem Qnl {l:OpenLaw} {n:Nat} (hn:l.most=some n) {P:Params} {h:Heap} {args:List WData} {vals:List Value}
  (hpre:l.row.toRowW.claim.pre args=true) (hwl:WellAll P h vals args) :
  ∃ a vs ns,vals=[Value.ref a]/\args=[WData.list (ns.map WData.int)]/\h.get? a=some { cls:=.type "list",data:=.seq vs.toArray }/\IntsAre vs ns/\ns.length<=n:=by
 have hsh:WShape.hasAll [] args [.list .int]=true:=(pre_splitW hpre).1
 have hc:l.pre.holds [] { args:=args }=true:=(pre_splitW hpre).2
 obtain ⟨d,r,rfl,h1,h2⟩:=hasAllW_cons hsh
 obtain rfl:=hasAllW_nil h2
 obtain ⟨xs,rfl,h3⟩:=hasW_list h1
 obtain ⟨ns,rfl⟩:=items_int h3
 have hlen:ns.length<=n:=by
  unfold OpenLaw.pre at hc
  have h4:(WTm.not (.lt (.lit (.int (n:Int))) (.len (.arg 0)))).holds [] { args:=[.list (ns.map .int)] }=true:=by
   have h4:=(holds_andW hc).1
   rw [hn] at h4
   exact h4
  have h5:=condW_of h4 (w_not (w_lt w_lit (w_len_list (w_arg rfl))))
  rw [List.length_map] at h5
  refine Nat.le_of_not_lt fun q=>?_
  have q':(n:Int)<((ns.length:Nat):Int):=by omega
  first
   | (rw [decide_eq_true q'] at h5;exact absurd h5 (by decide))
   | (simp at h5;omega)
 cases hwl with
 | cons w1 w2 =>
  cases w2
  cases w1 with
  | list ho hall=>exact ⟨_,_,ns,rfl,rfl,ho,Qgu ns _ hall,hlen⟩
theorem Qnw (l:OpenLaw) (args:List WData):l.row.toRowW.claim.post args (.bool true) args=true :=
 postW_of (r:=l.row.toRowW) (X:=(true==true))
  (show WShape.has [] (.bool true) .bool=true by first | rfl | decide | simp [WShape.has,WShape.arms,WShape.armsAll])
  (show (WTm.eq .res (.lit (.bool true))).value [] { args:=args,res:=some (.bool true),after:=args }=some (.bool (true==true)) from w_eq_bool (w_res rfl) w_lit) rfl
theorem attach_call {l:OpenLaw} {n:Nat} {q:Program} {loose:List Str} {XP:(Str->Option Value)->Heap->Prop} {YP:World->Heap->Prop} {d:DefRec}
  (hn:l.most=some n) (hdf:d.params.defaults=[])
  (call:∀ (w:World) (s₀ s₁:Shared) (mg mb:Str->Option Value) (fa:Addr) (o:Obj) (pm cd doc:Value) (a:Addr) (vs:List Value) (ns:List Int),
   Ground q loose [] XP w s₀ mg mb s₁.heap->YP w s₁.heap ->
   s₁.heap.get? fa=some o->o.data=.func (docDef d.name d.params d.body d.scope pm cd doc)->s₁.heap.CodeRec cd d.name->mg d.name=some (.ref fa) ->
   s₁.heap.get? a=some { cls:=.type "list",data:=.seq vs.toArray }->IntsAre vs ns->ns.length<=n->s₁.gens=#[] ->
   codeAny (model l.prog w) callerA (.call (.ref fa) ⟨[.ref a],[]⟩) (fun r s'=>r=.ok (.ret (.bool true))/\OldK s₁.heap s'.heap/\s'.os=s₁.os/\AllBare s'.gens) s₁) :
  WalkO q loose XP YP l.row.toRowW d [] (fun f vs=>PySem.call f vs):=by
 intro w s₀ s₁ mg mb G Y fa o pm cd doc dV kV ho hd hcd hD hmg hg args vals as hpre hlay hrd hwl hlo
 obtain rfl:dV=.none:=Dflts.none hD hdf
 obtain rfl:kV=.none:=Dflts.noKw hD
 obtain ⟨a,vs,ns,rfl,rfl,hobj,hints,hlen⟩:=Qnl hn hpre hwl
 refine enter_call (codeAny_mono (call w s₀ s₁ mg mb fa o pm cd doc a vs ns G Y ho (fd_plain hd) hcd hmg hobj hints hlen hg) fun r s' hq=>?_)
 obtain ⟨rfl,h2,h3,h4⟩:=hq
 exact ⟨.inl ⟨.bool true,.bool true,[],rfl,fun _=>rfl,.bool true,Qnw l _,fun _=>⟨List.Pairwise.nil,fun _ hm=>(nomatch hm)⟩⟩,h2,h3,h4⟩
section
variable {prog:Program} {w:World} {A:Around} {E:Value->Shared->Prop} {s:Shared} {K:Frag}
end
end Att
namespace L2
open PySem PySem.Spec PyProof.Rows
theorem Qhb:∀ {vs:List Value} {ns:List Int},IntsAre vs ns->Vals (ns.map V.int) vs
 | _,_,.nil=>.nil
 | _,_,.cons n t h=>.cons ⟨t,rfl⟩ (Qhb h)
def QoG (H:Hp):Prop:=∀ b,H b=none\/∃ o xs,H b=some (.frz o (.lst xs))
theorem Qpp {P:Program} {w:World} {K:PySem.W.Frag} {mg mb:Str->Option Value} {CX:CXT} {k:Nat} {fa a:Addr} {fd:FuncData} {x:Str} {sp:Sp} {s₁:Shared} {vs:List Value} {ns:List Int}
  (KX:K.In s₁.heap) (hns:s₁.heap.Ns mainGlobals mg) (hb:s₁.heap.Ns builtinsNs mb) (hbb:∀ x:Str,x≠"__name__"->mb x=bootBuiltins x) (hlim:s₁.heap.NoLimit) (hg:s₁.gens=#[])
  (ha:s₁.heap.get? a=some { cls:=.type "list",data:=.seq vs.toArray }) (hi:IntsAre vs ns) (hl:ns.length<=sizeLine) (hr:Room k callerA)
  (F:∀ base:Heap,K.In base->base.Ns mainGlobals mg->FnOk P w K mg base CX k fa fd [x] sp) (hbind:∀ (s:Shared) (u:Value),BindsTo s fd ⟨[u],[]⟩ [(x,u)])
  (hsp:∀ H:Hp,QoG H->SqL K H a (ns.map V.int)->sp [.ref a] H (fun v _=>v=.bl true) fun _ _ _=>False)
  (hCX:∀ H e s',CX [] H s₁ (fun _ _ _=>False) e s'->False) :
  codeAny (model P w) callerA (.call (.ref fa) ⟨[.ref a],[]⟩) (fun r s'=>r=.ok (.ret (.bool true))/\OldK s₁.heap s'.heap/\s'.os=s₁.os/\AllBare s'.gens) s₁:=by
 have rv:=Qhb hi
 have lenV:=hi.length
 have core:∀ H:Hp,QoG H->SqL K H a (ns.map V.int)->HOk P w H s₁.heap->(∀ b,H b≠none->b=a)->(H a≠none->K.lookup a=none) ->
   codeAny (model P w) callerA (.call (.ref fa) ⟨[.ref a],[]⟩) (fun r s'=>r=.ok (.ret (.bool true))/\OldK s₁.heap s'.heap/\s'.os=s₁.os/\AllBare s'.gens) s₁:=by
  intro H hO hS hok hA hK
  have base_of:∀ {b:Addr} {o:Obj},s₁.heap.get? b=some o->H b=none->(Qc8 s₁.heap H).get? b=some o:=fun e n=>Qpt e n
  have noA:∀ {b:Addr} {o:Obj} {es:Array DictEntry} {ep:Nat},s₁.heap.get? b=some o->o.data=.dict es ep->H b=none:=fun {b o es ep} e d=>by
   cases q:H b with
   | none=>rfl
   | some u =>
    have e':b=a:=hA b (by rw [q];simp)
    subst e'
    rw [ha] at e;cases e
    have d':Data.seq vs.toArray _=Data.dict es ep:=d
    cases d'
  have nsK:∀ {b:Addr} {m:Str->Option Value},s₁.heap.Ns b m->(Qc8 s₁.heap H).Ns b m:=fun {b m} ⟨o,es,ep,e,d,r⟩=>⟨o,es,ep,base_of e (noA e d),d,r⟩
  have hKb:K.In (Qc8 s₁.heap H):=fun b o e=>base_of (KX b o e) (by
   cases q:H b with
   | none=>rfl
   | some u =>
    have e':b=a:=hA b (by rw [q];simp)
    subst e'
    rw [hK (by rw [q];simp)] at e;cases e)
  have hM:Mod K mg (Qc8 s₁.heap H):=⟨hKb,nsK hns,⟨mb,nsK hb,hbb⟩,let ⟨mc,h1,h2⟩:=hlim;⟨mc,nsK h1,h2⟩⟩
  have e0:Env0 P w K mg (Qc8 s₁.heap H) callerA [] s₁ H:=⟨rfl,hM,fun b o e=>QqO e,Nat.le_of_eq (Qn1 _ _),trivial,fun b hb=>absurd (show b∈([]:List Addr) from hb) (by simp),hok,.of_eq hg⟩
  refine codeAny_mono ((F _ hKb (nsK hns)).run callerA [] s₁ H ⟨[.ref a],[]⟩ [.ref a] [.ref a] _ _ hr e0 (hbind s₁ (.ref a)) (.cons rfl .nil) (hsp H hO hS)) fun r s' h=>?_
  cases r with
  | error e=>exact (hCX H e s' h).elim
  | ok fl =>
   cases fl with
   | next=>exact False.elim h
   | brk=>exact False.elim h
   | cont=>exact False.elim h
   | ret u =>
    obtain ⟨v,H',os,bare,un,hok',r',q⟩:=h
    have q':v=.bl true:=q
    subst q'
    obtain rfl:u=Value.bool true:=r'
    refine ⟨rfl,OldK.of_keep fun b o e=>?_,os,bare⟩
    cases q:H b with
    | none=>exact un.keep b o e q (by intro z;exact absurd (show b∈([]:List Addr) from z) (by simp)) (by simp)
    | some u =>
     rcases hO b with z | ⟨ob,xs,z⟩
     ·rw [q] at z;cases z
     ·have z2:=un.frzs b ob _ z
      obtain ⟨e1,_⟩:=hok b _ z
      obtain ⟨e2,_⟩:=hok' b _ z2
      rw [e] at e1;cases e1
      exact e2
 cases hk:K.lookup a with
 | some o =>
  have e:=KX a o hk
  rw [ha] at e
  cases e
  refine core (fun _=>none) (fun _=>.inl rfl) (.inr ⟨_,vs.toArray,_,hk,rfl,rfl,rfl,by rw [List.size_toArray,lenV];exact hl,by simpa using rv⟩) (fun b u z=>by have z':(none:Option HO)=some u:=z;cases z') (fun b z=>absurd rfl z) fun z=>absurd rfl z
 | none =>
  refine core (fun b=>if b=a then some (.frz { cls:=.type "list",data:=.seq vs.toArray } (.lst (ns.map V.int))) else none) (fun b=>?_) (.inl (.inr ⟨{ cls:=.type "list",data:=.seq vs.toArray },if_pos rfl⟩)) (fun b u z=>?_) (fun b z=>?_) fun _=>hk
  ·by_cases hb:b=a
   ·exact .inr ⟨_,_,if_pos hb⟩
   ·exact .inl (if_neg hb)
  ·by_cases hb:b=a
   ·have z':=(if_pos hb).symm.trans z
    cases z'
    subst hb
    exact ⟨ha,by rw [List.length_map];exact hl,vs,_,rv,ha⟩
   ·have z':=(if_neg hb).symm.trans z
    cases z'
  ·by_cases hb:b=a
   ·exact hb
   ·exact absurd (if_neg hb) z
end L2
namespace L2
open PySem PySem.Spec PyProof.Rows
theorem walk_of {l:PySem.W.OpenLaw} {n k:Nat} {q:Program} {loose:List Str} {XP:(Str->Option Value)->Heap->Prop} {YP:World->Heap->Prop} {d:DefRec} {K:Params->PySem.W.Frag} {CX:World->CXT} {sp:World->Sp} {x:Str}
  (hn:l.most=some n) (hn2:n<=sizeLine) (hdf:d.params.defaults=[]) (hr:Room k callerA)
  (hY:∀ (w:World) (h:Heap),YP w h->(K w.params).In h)
  (F:∀ (w:World) (mg:Str->Option Value) (fa:Addr) (h:Heap),(K w.params).In h->h.Ns mainGlobals mg->mg d.name=some (.ref fa) ->
   ∃ fd:FuncData,(∀ (s:Shared) (u:Value),BindsTo s fd ⟨[u],[]⟩ [(x,u)]) /\
    ∀ base:Heap,(K w.params).In base->base.Ns mainGlobals mg->FnOk l.prog w (K w.params) mg base (CX w) k fa fd [x] (sp w))
  (hsp:∀ (w:World) (H:Hp) (a:Addr) (ns:List Int),ns.length<=n->QoG H->SqL (K w.params) H a (ns.map V.int)->sp w [.ref a] H (fun v _=>v=.bl true) fun _ _ _=>False)
  (hCX:∀ (w:World) (H:Hp) (s:Shared) (e:Value) (s':Shared),CX w [] H s (fun _ _ _=>False) e s'->False) :
  PySem.W.WalkO q loose XP YP l.row.toRowW d [] (fun f vs=>PySem.call f vs):=by
 refine Att.attach_call hn hdf fun w s₀ s₁ mg mb fa o pm cd doc a vs ns G Y ho hd hcd hmg hobj hints hlen hg=>?_
 have KX:=hY w _ Y
 obtain ⟨fd,hb,hF⟩:=F w mg fa _ KX G.T.g hmg
 exact Qpp KX G.T.g G.T.b G.T.builtins G.T.nolimit hg hobj hints (Nat.le_trans hlen hn2) hr hF hb (fun H hO hS=>hsp w H a ns hlen hO hS) fun H e s'=>hCX w H s₁ e s'
end L2
namespace L2
open PySem PySem.Spec PyProof.Rows
def ZZ (s:Stmt):Arguments:=match s with
 | .FunctionDef _ a _ _ _ _ _ _ _ _=>a
 | _=>{ posonlyargs:=[],args:=[],vararg:=none,kwonlyargs:=[],kw_defaults:=[],kwarg:=none,defaults:=[] }
def Zo (s:Stmt):List Stmt:=match s with
 | .FunctionDef _ _ b _ _ _ _ _ _ _=>b
 | _=>[]
def Qc (s:Stmt):Scope:=match s with
 | .FunctionDef _ _ _ _ _ _ sc _ _ _=>sc
 | _=>{ kind:=.function,names:=[],isGenerator:=false,isCoroutine:=false }
abbrev CX0:CXT:=fun _ _ _ _ _ _=>False
abbrev E0:XK:=fun _ _ _=>False
theorem Qh4 {X:Cx}:QiE CX0 X E0:=fun _ _ _ _ _ _ _ h=>h.elim
structure Fun (K:PySem.W.Frag) (x qual:Str) (st:Stmt) (f:Addr) (fd:FuncData):Prop where
 ex:∃ (oc:Value) (od:Option Addr) (kV doc pm:Value) (an:Option Addr) (cdv ct:Value) (osl:Array (Option Value)),
  fd=PySem.W.fnOf x qual (ZZ st) (Zo st) (Qc st) .none kV doc pm an cdv ct/\K.lookup f=some ⟨oc,od,.func fd,osl⟩/\PySem.W.codeIn K cdv qual=true
 kp:PySem.W.keepIn K (.ref f)=true
section
variable {P:Program} {w:World} {K:PySem.W.Frag} {mg:Str->Option Value} {base:Heap}
theorem Fun.ok {x qual:Str} {st:Stmt} {f:Addr} {fd:FuncData} {N ps:List Str} {k:Nat} {sp:Sp} (F:Fun K x qual st f fd) (S:FnScope N ps (Qc st)) (len:∀ vs H Q E,sp vs H Q E->vs.length=ps.length)
  (hbody:∀ (cdv:Value) (A:Around) (outer:List Env) (s:Shared) (H:Hp) (vs:List V) (Q:VK) (E:XK),Room k (A.deeper (envOfC qual (Qc st) s.heap.objs.size f cdv))->sp vs H Q E ->
   ∃ t,PSs (VV CX0 P w K mg base N qual (Qc st) f cdv A outer s H E).nox (Zo st) t/\t { nx:=fun _ H'=>Q .non H',rt:=Q } (start N vs) H):FnOk P w K mg base CX0 (k+1) f fd ps sp:=by
 obtain ⟨oc,od,kV,doc,pm,an,cdv,ct,osl,rfl,lk,hcd⟩:=F.ex
 refine Qtl lk hcd S len fun A outer s H vs Q E hr hsp=>?_
 obtain ⟨t,h,q⟩:=hbody cdv A outer s H vs Q E hr hsp
 exact ⟨t,h.nox,q⟩
theorem Fun.binds {x qual:Str} {st:Stmt} {f:Addr} {fd:FuncData} {ps:List Str} (F:Fun K x qual st f fd)
  (h:∀ (kV doc pm:Value) (an:Option Addr) (cdv ct:Value) (us:List Value),us.length=ps.length->bindArgs (PySem.W.fnOf x qual (ZZ st) (Zo st) (Qc st) .none kV doc pm an cdv ct) ⟨us,[]⟩=pure (ps.zip us)):Binds K fd ps []:=by
 obtain ⟨oc,od,kV,doc,pm,an,cdv,ct,osl,rfl,lk,hcd⟩:=F.ex
 exact .all (h kV doc pm an cdv ct)
theorem Qis {x qual:Str} {st:Stmt} {f:Addr} {oc:Value} {od an:Option Addr} {osl:Array (Option Value)} {kV doc pm cdv ct:Value} (l:K.lookup f=some ⟨oc,od,.func (PySem.W.fnOf x qual (ZZ st) (Zo st) (Qc st) .none kV doc pm an cdv ct),osl⟩)
  (c:PySem.W.codeIn K cdv qual=true) (k:PySem.W.keepIn K (.ref f)=true):Fun K x qual st f (PySem.W.fnOf x qual (ZZ st) (Zo st) (Qc st) .none kV doc pm an cdv ct):=⟨⟨oc,od,kV,doc,pm,an,cdv,ct,osl,rfl,l,c⟩,k⟩
end
section
variable {X:Cx}
end
theorem QdV {A B:Prop} (h:B):if false=true then A else B:=by
 rw [if_neg Bool.false_ne_true]
 exact h
theorem QdU {A B:Prop} (h:A):if true=true then A else B:=by
 rw [if_pos rfl]
 exact h
def Same (H H':Hp):Prop:=∀ b o,H b=some o->H' b=some o
theorem Same.refl (H:Hp):Same H H:=fun _ _ h=>h
theorem Same.trans {H H1 H2:Hp} (a:Same H H1) (b:Same H1 H2):Same H H2:=fun c o h=>b c o (a c o h)
theorem Same.free {H H':Hp} (e:Same H H') {l:Addr} (h:H' l=Option.none):H l=Option.none:=by
 cases q:H l with
 | none=>rfl
 | some o =>
  rw [e l o q] at h
  cases h
theorem Same.seq {K:PySem.W.Frag} {H H':Hp} {a:Addr} {xs:List V} (e:Same H H') (h:SqL K H a xs):SqL K H' a xs:=by
 rcases h with (h | ⟨o,h⟩) | h
 ·exact .inl (.inl (e _ _ h))
 ·exact .inl (.inr ⟨o,e _ _ h⟩)
 ·exact .inr h
end L2
namespace L2
open PySem PySem.Spec PyProof.Rows
section
variable {κ:Type} [DecidableEq κ]
def YW (kvs:List (κ×V)) (k:κ):Option V:=(kvs.find? fun kv=>decide (kv.1=k)).map (·.2)
def VH (kvs:List (κ×V)) (k:κ) (v:V):List (κ×V) :=
 if (kvs.any fun kv=>decide (kv.1=k))=true then kvs.map (fun kv=>if kv.1=k then (kv.1,v) else kv) else kvs++[(k,v)]
def Qp8 (kvs:List (κ×V)) (k:κ):List (κ×V):=kvs.filter fun kv=>decide (kv.1≠k)
theorem Qdc {p:κ×V} {r:List (κ×V)} {k:κ} (e:p.1=k):YW (p::r) k=some p.2:=by simp [YW,List.find?_cons,e]
theorem Qdd {p:κ×V} {r:List (κ×V)} {k:κ} (e:¬ p.1=k):YW (p::r) k=YW r k:=by simp [YW,List.find?_cons,e]
theorem QiH (k:κ):∀ kvs:List (κ×V),(kvs.any fun kv=>decide (kv.1=k))=(YW kvs k).isSome
 | []=>rfl
 | p::r=>by
  rw [List.any_cons]
  by_cases e:p.1=k
  ·simp only [Qdc e,decide_eq_true e,Bool.true_or,Option.isSome_some]
  ·rw [Qdd e,decide_eq_false e,Bool.false_or];exact QiH k r
theorem QeL (kvs:List (κ×V)) (k:κ) (v:V):(VH kvs k v).length<=kvs.length+1:=by
 unfold VH
 split
 ·rw [List.length_map];omega
 ·rw [List.length_append,List.length_cons,List.length_nil];omega
theorem RelO.isSome_eq {o:Option V} {u:Option Value} (r:RelO o u):o.isSome=u.isSome:=by
 cases o with
 | none=>cases u with
  | none=>rfl
  | some _=>exact (show False from r).elim
 | some _=>cases u with
  | none=>exact (show False from r).elim
  | some _=>rfl
theorem RelO.getD {o:Option V} {u:Option Value} {d:V} {d':Value} (r:RelO o u) (rd:RelV d d'):RelV (o.getD d) (u.getD d'):=by
 cases o with
 | none=>cases u with
  | none=>exact rd
  | some _=>exact (show False from r).elim
 | some _=>cases u with
  | none=>exact (show False from r).elim
  | some _=>exact r
theorem KV.val {kvs:List (κ×V)} {vs:List (κ×Value)} (r:KV kvs vs) (k:κ):RelO (YW kvs k) (valueAt vs k):=by
 unfold KV at r
 induction r with
 | nil=>exact True.intro
 | @cons p q ps qs h t ih =>
  obtain ⟨h1,h2⟩:=h
  by_cases e:p.1=k
  ·have e':q.1=k:=h1.symm.trans e
   have b:valueAt (q::qs) k=some q.2:=by simp [valueAt,List.find?_cons,e']
   rw [Qdc e,b];exact h2
  ·have e':¬ q.1=k:=fun z=>e (h1.trans z)
   have b:valueAt (q::qs) k=valueAt qs k:=by simp [valueAt,List.find?_cons,e']
   rw [Qdd e,b];exact ih
theorem KV.any {kvs:List (κ×V)} {vs:List (κ×Value)} (r:KV kvs vs) (k:κ):(kvs.any fun kv=>decide (kv.1=k))=vs.any fun kv=>decide (kv.1=k):=by
 unfold KV at r
 induction r with
 | nil=>rfl
 | cons h t ih=>rw [List.any_cons,List.any_cons,ih,h.1]
theorem KV.repl {kvs:List (κ×V)} {vs:List (κ×Value)} (r:KV kvs vs) (k:κ) {y:V} {u:Value} (ry:RelV y u) :
  KV (kvs.map fun kv=>if kv.1=k then (kv.1,y) else kv) (vs.map fun kv=>if kv.1=k then (kv.1,u) else kv):=by
 unfold KV at r ⊢
 induction r with
 | nil=>exact .nil
 | @cons p q ps qs h t ih =>
  rw [List.map_cons,List.map_cons]
  refine .cons ?_ ih
  obtain ⟨h1,h2⟩:=h
  by_cases e:p.1=k
  ·rw [if_pos e,if_pos (h1.symm.trans e)];exact ⟨h1,ry⟩
  ·rw [if_neg e,if_neg (fun z=>e (h1.trans z))];exact ⟨h1,h2⟩
theorem KV.put {kvs:List (κ×V)} {vs:List (κ×Value)} (r:KV kvs vs) (k:κ) {y:V} {u:Value} (ry:RelV y u):KV (VH kvs k y) (stored vs k u):=by
 unfold VH stored
 rw [r.any k]
 by_cases e:(vs.any fun kv=>decide (kv.1=k))=true
 ·rw [if_pos e,if_pos e];exact r.repl k ry
 ·rw [if_neg e,if_neg e];exact Paired.snoc r ⟨rfl,ry⟩
theorem KV.drop {kvs:List (κ×V)} {vs:List (κ×Value)} (r:KV kvs vs) (k:κ):KV (Qp8 kvs k) (without vs k):=by
 unfold KV at r ⊢
 unfold Qp8 without
 induction r with
 | nil=>exact .nil
 | @cons p q ps qs h t ih =>
  obtain ⟨h1,h2⟩:=h
  rw [List.filter_cons,List.filter_cons]
  by_cases e:p.1=k
  ·have a:¬ decide (p.1≠k)=true:=by simp [e]
   have b:¬ decide (q.1≠k)=true:=by simp [h1.symm.trans e]
   rw [if_neg a,if_neg b];exact ih
  ·have e':¬ q.1=k:=fun z=>e (h1.trans z)
   have a:decide (p.1≠k)=true:=by simp [e]
   have b:decide (q.1≠k)=true:=by simp [e']
   rw [if_pos a,if_pos b];exact .cons ⟨h1,h2⟩ ih
theorem KV.length {kvs:List (κ×V)} {vs:List (κ×Value)} (r:KV kvs vs):kvs.length=vs.length:=Paired.length r
end
theorem Qh9 {P:Program} {w:World} {k:Key} {u:Value} (r:RelV (kV k) u):(ZP P w).is k u=true:=by
 cases k with
 | inl i=>obtain ⟨t,e⟩:=(show ∃ t,u=Value.int i t from r);subst e;exact Qkw P w i t
 | inr x=>obtain ⟨t,e⟩:=(show ∃ t,u=Value.str x t from r);subst e;exact Qkv P w x t
theorem Qhq {P:Program} {w:World}:∀ {ks:List Key} {us:List Value},Vals (ks.map kV) us->ItemsAre (ZP P w) ks us
 | [],_,r=>by rw [List.map_nil] at r;cases r;exact .nil
 | k::ks,_,r=>by
  rw [List.map_cons] at r
  cases r with
  | cons h t=>exact .cons (Qh9 h) (Qhq t)
abbrev KT (H:Hp):List (List Key×V)->List (List Key×Addr×Value)->Prop:=Paired fun p q=>p.1=q.1/\H q.2.1=some (.tup (p.1.map kV))/\RelV p.2 q.2.2
theorem KT.val {H:Hp} {kvs:List (List Key×V)} {xs:List (List Key×Addr×Value)} (r:KT H kvs xs) (k:List Key):RelO (YW kvs k) ((atKey xs k).map (·.2)):=by
 induction r with
 | nil=>exact True.intro
 | @cons p q ps qs h t ih =>
  obtain ⟨h1,_,h2⟩:=h
  by_cases e:p.1=k
  ·have e':q.1=k:=h1.symm.trans e
   have b:atKey (q::qs) k=some q.2:=by simp [atKey,List.find?_cons,e']
   rw [Qdc e,b];exact h2
  ·have e':¬ q.1=k:=fun z=>e (h1.trans z)
   have b:atKey (q::qs) k=atKey qs k:=by simp [atKey,List.find?_cons,e']
   rw [Qdd e,b];exact ih
theorem KT.repl {H:Hp} {kvs:List (List Key×V)} {xs:List (List Key×Addr×Value)} (r:KT H kvs xs) (k:List Key) {y:V} {u:Value} (ry:RelV y u) :
  KT H (kvs.map fun kv=>if kv.1=k then (kv.1,y) else kv) (xs.map (putAt k u)):=by
 induction r with
 | nil=>exact .nil
 | @cons p q ps qs h t ih =>
  rw [List.map_cons,List.map_cons]
  refine .cons ?_ ih
  obtain ⟨h1,h2,h3⟩:=h
  unfold putAt
  by_cases e:p.1=k
  ·rw [if_pos e,if_pos (h1.symm.trans e)];exact ⟨h1,h2,ry⟩
  ·rw [if_neg e,if_neg (fun z=>e (h1.trans z))];exact ⟨h1,h2,h3⟩
theorem KT.put {H:Hp} {kvs:List (List Key×V)} {xs:List (List Key×Addr×Value)} (r:KT H kvs xs) (k:List Key) {b:Addr} {y:V} {u:Value} (hb:H b=some (.tup (k.map kV))) (ry:RelV y u) :
  KT H (VH kvs k y) (storedH xs k b u):=by
 have e:(kvs.any fun kv=>decide (kv.1=k))=(atKey xs k).isSome:=by
  rw [QiH,(r.val k).isSome_eq,Option.isSome_map]
 unfold VH storedH
 rw [e]
 by_cases q:(atKey xs k).isSome=true
 ·rw [if_pos q,if_pos q];exact r.repl k ry
 ·rw [if_neg q,if_neg q];exact Paired.snoc r ⟨rfl,hb,ry⟩
theorem KT.keeps {H H':Hp} {kvs:List (List Key×V)} {xs:List (List Key×Addr×Value)} (r:KT H kvs xs) (ht:∀ b ys,H b=some (.tup ys)->H' b=some (.tup ys)):KT H' kvs xs :=
 Paired.mapP r fun _ _ z=>⟨z.1,ht _ _ z.2.1,z.2.2⟩
section
variable {P:Program} {w:World} {H:Hp} {h:Heap} {a:Addr}
theorem QpY {u:HO} (ok:HOk P w H h) (e:Rd H a u):ObjOk P w H h a u:=e.ok ok
theorem QlU {kvs:List (Key×V)} (ok:HOk P w H h) (e:Rd H a (.dK kvs)):kvs.length<=sizeLine/\(a==sysModules)=false/\∃ vs,KV kvs vs/\h.DictOf (ZP P w) a vs :=
 show ObjOk P w H h a (.dK kvs) from QpY ok e
theorem Qts {kvs:List (Key×V)} (ok:HOk P w H h) (e:H a=some (.dK kvs)):kvs.length<=sizeLine/\(a==sysModules)=false/\∃ vs,KV kvs vs/\h.DictOf (ZP P w) a vs:=QlU ok (.inl e)
theorem QfL {ks:List Key} (ok:HOk P w H h) (e:H a=some (.tup (ks.map kV))):(tupleKind (ZP P w)).is h ks a:=by
 obtain ⟨_,its,r,o,h1,h2,n,h3⟩:=(show ObjOk P w H h a (.tup (ks.map kV)) from ok a _ e)
 exact ⟨o,its.toArray,n,h1,h2,h3,by simpa using Qhq r⟩
theorem QlT {kvs:List (List Key×V)} (ok:HOk P w H h) (e:Rd H a (.dT kvs)):kvs.length<=sizeLine/\(a==sysModules)=false /\
  ∃ xs,KT H kvs xs/\h.DictOfH (tupleKind (ZP P w)) a xs:=by
 obtain ⟨z,y,xs,r,o,es,ep,h1,h2,h3,h4,h5⟩:=(show ObjOk P w H h a (.dT kvs) from QpY ok e)
 refine ⟨z,y,xs,r,o,es,ep,h1,h2,h3,h4,fun x hx=>?_,h5⟩
 have all:∀ {l:List (List Key×V)} {m:List (List Key×Addr×Value)},KT H l m->∀ x∈m,(tupleKind (ZP P w)).is h x.1 x.2.1:=by
  intro l m q
  induction q with
  | nil=>intro x hx;exact nomatch hx
  | @cons p q ps qs hq t ih =>
   intro x hx
   rcases List.mem_cons.mp hx with e | hx
   ·subst e
    exact QfL ok (by rw [<- hq.1];exact hq.2.1)
   ·exact ih x hx
 exact all r x hx
theorem Qtr {kvs:List (List Key×V)} (ok:HOk P w H h) (e:H a=some (.dT kvs)):kvs.length<=sizeLine/\(a==sysModules)=false /\
  ∃ xs,KT H kvs xs/\h.DictOfH (tupleKind (ZP P w)) a xs:=QlT ok (.inl e)
end
def DGet (H:Hp) (a:Addr) (y:V) (r:Option V):Prop :=
 (∃ kvs k,Rd H a (.dK kvs)/\y=kV k/\r=YW kvs k)\/∃ kvs k b,Rd H a (.dT kvs)/\y=.ref b/\H b=some (.tup (k.map kV))/\r=YW kvs k
def DPut (H:Hp) (a:Addr) (y v:V) (H':Hp):Prop :=
 (∃ kvs k,H a=some (.dK kvs)/\y=kV k/\kvs.length<sizeLine/\H'=upd H a (.dK (VH kvs k v))) \/
 ∃ kvs k b,H a=some (.dT kvs)/\y=.ref b/\H b=some (.tup (k.map kV))/\kvs.length<sizeLine/\H'=upd H a (.dT (VH kvs k v))
theorem DGet.k {H:Hp} {a:Addr} {kvs:List (Key×V)} {k:Key} (e:H a=some (.dK kvs)):DGet H a (kV k) (YW kvs k):=.inl ⟨kvs,k,.inl e,rfl,rfl⟩
theorem DGet.t {H:Hp} {a b:Addr} {kvs:List (List Key×V)} {k:List Key} (e:H a=some (.dT kvs)) (eb:H b=some (.tup (k.map kV))):DGet H a (.ref b) (YW kvs k):=.inr ⟨kvs,k,b,.inl e,rfl,eb,rfl⟩
theorem DPut.k {H:Hp} {a:Addr} {kvs:List (Key×V)} {k:Key} {v:V} (e:H a=some (.dK kvs)) (hl:kvs.length<sizeLine):DPut H a (kV k) v (upd H a (.dK (VH kvs k v))):=.inl ⟨kvs,k,e,rfl,hl,rfl⟩
theorem DPut.t {H:Hp} {a b:Addr} {kvs:List (List Key×V)} {k:List Key} {v:V} (e:H a=some (.dT kvs)) (eb:H b=some (.tup (k.map kV))) (hl:kvs.length<sizeLine) :
  DPut H a (.ref b) v (upd H a (.dT (VH kvs k v))):=.inr ⟨kvs,k,b,e,rfl,eb,hl,rfl⟩
section
variable {X:Cx} {pins:List (Addr×Obj)} {σ:St} {H:Hp} {s:Shared} {a:Addr} {y v:V} {u r:Value} {o:Option V} {A:Around} {E:Value->Shared->Prop}
theorem Inv.big (I:Inv X pins σ H s):sysModules<s.heap.objs.size:=by
 have h:mainGlobals<s.heap.objs.size:=(I.mod.glob.keeps I.bk).lt
 exact Nat.lt_trans (by decide) h
theorem Qt2 {Q:Value->Shared->Prop} (hu:A.units+1<cLine) (I:Inv X pins σ H s) (g:DGet H a y o) (ry:RelV y u) (h:∀ s',Inv X pins σ H s'->Q (.bool o.isSome) s') :
  wpAny (model X.prog X.w) A (compareOp .In u (.ref a)) Q E s:=by
 rcases g with ⟨kvs,k,e,ey,l⟩ | ⟨kvs,k,b,e,ey,eb,l⟩
 ·subst ey
  obtain ⟨z,hd,vs,rel,dd⟩:=QlU I.hok e
  refine wpAny_in_of (Qh9 ry) hd dd.mapOf ?_
  rw [<- (rel.val k).isSome_eq,<- l]
  exact h _ (I.tok _)
 ·subst ey
  cases (show u=Value.ref b from ry)
  obtain ⟨z,hd,xs,rel,dd⟩:=QlT I.hok e
  refine wpAny_in_heap (tupleKind_room_in1 hu) (QfL I.hok eb) hd dd ?_
  have q:=(rel.val k).isSome_eq
  rw [Option.isSome_map] at q
  rw [<- q,<- l]
  exact h _ (I.tok _)
theorem Qrf {Q:Value->Shared->Prop} (hu:A.units+1<cLine) (I:Inv X pins σ H s) (g:DGet H a y o) (ry:RelV y u) (h:∀ s',Inv X pins σ H s'->Q (.bool (!o.isSome)) s') :
  wpAny (model X.prog X.w) A (compareOp .NotIn u (.ref a)) Q E s:=by
 rcases g with ⟨kvs,k,e,ey,l⟩ | ⟨kvs,k,b,e,ey,eb,l⟩
 ·subst ey
  obtain ⟨z,hd,vs,rel,dd⟩:=QlU I.hok e
  refine wpAny_notIn_of (Qh9 ry) hd dd.mapOf ?_
  rw [<- (rel.val k).isSome_eq,<- l]
  exact h _ (I.tok _)
 ·subst ey
  cases (show u=Value.ref b from ry)
  obtain ⟨z,hd,xs,rel,dd⟩:=QlT I.hok e
  refine wpAny_notIn_heap (tupleKind_room_in1 hu) (QfL I.hok eb) hd dd ?_
  have q:=(rel.val k).isSome_eq
  rw [Option.isSome_map] at q
  rw [<- q,<- l]
  exact h _ (I.tok _)
theorem Qlh {h':Heap} {t':Nat} {ob:HO} (I:Inv X pins σ H s) (mu:Mut (H a)) (hs:Heap.SameBut a s.heap h') (he:∃ q,h'.get? a=some q) (new:ObjOk X.prog X.w (upd H a ob) h' a ob) :
  Inv X pins σ (upd H a ob) { s with heap:=h',toks:=t' } :=
 I.write (x:=a) (e:=a) mu (.inl rfl) (fun b q hb z=>(hs.2 b hb).trans z) he new
theorem QsH {P:Program} {w:World} {H':Hp} {h':Heap} {kvs:List (Key×V)} {vs:List (Key×Value)} (z:kvs.length<=sizeLine) (hd:(a==sysModules)=false) (rel:KV kvs vs) (dd:h'.DictOf (ZP P w) a vs) :
  ObjOk P w H' h' a (.dK kvs):=⟨z,hd,vs,rel,dd⟩
theorem Qoa {H':Hp} {Q:Unit->Shared->Prop} (hu:A.units+1<cLine) (I:Inv X pins σ H s) (g:DPut H a y v H') (ry:RelV y u) (rv:RelV v r) (h:∀ s',Inv X pins σ H' s'->Q () s') :
  wpAny (model X.prog X.w) A (setItem (.ref a) u r) Q E s:=by
 rcases g with ⟨kvs,k,e,ey,l,eH⟩ | ⟨kvs,k,b,e,ey,eb,l,eH⟩
 ·subst ey eH
  obtain ⟨z,hd,vs,rel,dd⟩:=Qts I.hok e
  have hz:vs.length<=sizeLine:=by rw [<- rel.length];exact z
  have hl:(VH kvs k v).length<=sizeLine:=by have:=QeL kvs k v;omega
  refine wpAny_setItem_pairs (hsz:=hz) (Qh9 ry) dd fun h' dd' hs=>h _ ?_
  have he:∃ q,h'.get? a=some q:=let ⟨q,_,_,hq,_⟩:=dd';⟨q,hq⟩
  exact Qlh I (by rw [e];exact True.intro) hs he (QsH hl hd (rel.put k rv) dd')
 ·subst ey eH
  cases (show u=Value.ref b from ry)
  obtain ⟨z,hd,xs,rel,dd⟩:=Qtr I.hok e
  have hz:xs.length<=sizeLine:=by rw [<- Paired.length rel];exact z
  have hl:(VH kvs k v).length<=sizeLine:=by have:=QeL kvs k v;omega
  refine wpAny_setItem_heap (hsz:=hz) (tupleKind_room_in1 hu) (QfL I.hok eb) dd fun h' dd' hs=>h _ ?_
  obtain ⟨q,es,ep,hq,h2,h3,h4,_,h5⟩:=dd'
  refine Qlh I (by rw [e];exact True.intro) hs ⟨q,hq⟩ ⟨hl,hd,_,(rel.put k eb rv).keeps fun c ys ec=>?_,q,es,ep,hq,h2,h3,h4,h5⟩
  rw [QH (Qtd ec e (fun z=>nomatch z))]
  exact ec
end
section
variable {X:Cx} {pins:List (Addr×Obj)} {σ:St} {H:Hp} {s:Shared} {a:Addr} {kvs:List (Key×V)} {k:Key} {u:Value} {A:Around} {E:Value->Shared->Prop}
end
def QtP (ty td:TE):TE:=fun σ H Q=>ty σ H fun y H1=>td σ H1 fun x H2=>∃ a o,x=.ref a/\DGet H2 a y o/\Q (.bl o.isSome) H2
def Qqg (ty td:TE):TE:=fun σ H Q=>ty σ H fun y H1=>td σ H1 fun x H2=>∃ a o,x=.ref a/\DGet H2 a y o/\Q (.bl (!o.isSome)) H2
def Qs2 (td ty tv:TE):TS:=fun D σ H=>tv σ H fun v H1=>td σ H1 fun x H2=>ty σ H2 fun y H3=>∃ a H4,x=.ref a/\DPut H3 a y v H4/\D.nx σ H4
section
variable {X:Cx} {o i e value:Expr} {pos pos' tpos:Pos} {td ty tv:TE}
theorem Qr4 (hu:X.A.units+1<cLine) (hi:PE X i ty) (ho:PE X o td):PC X .In i o (QtP ty td):=by
 intro pins s σ H Q I h
 refine thn (hi pins s σ H _ I h) fun iv s1 ⟨y,H1,I1,ry,q1⟩=>thn (ho pins s1 σ H1 _ I1 q1) fun u s2 ⟨x,H2,I2,rx,a,ov,ex,g,q2⟩=>?_
 subst ex
 obtain rfl:u=Value.ref a:=rx
 exact Qt2 hu I2 g ry fun s3 I3=>⟨.bl ov.isSome,H2,I3,rfl,q2⟩
theorem QnA (hu:X.A.units+1<cLine) (hi:PE X i ty) (ho:PE X o td):PC X .NotIn i o (Qqg ty td):=by
 intro pins s σ H Q I h
 refine thn (hi pins s σ H _ I h) fun iv s1 ⟨y,H1,I1,ry,q1⟩=>thn (ho pins s1 σ H1 _ I1 q1) fun u s2 ⟨x,H2,I2,rx,a,ov,ex,g,q2⟩=>?_
 subst ex
 obtain rfl:u=Value.ref a:=rx
 exact Qrf hu I2 g ry fun s3 I3=>⟨.bl (!ov.isSome),H2,I3,rfl,q2⟩
theorem Qqx (hu:X.A.units+1<cLine) (ho:PE X o td) (hi:PE X i ty) (hv:PE X value tv) (hs:swapsWith value (some (.Subscript o i pos')) pos.line X.env=pure false) :
  PS X (.Assign [.Subscript o i pos'] value pos) (Qs2 td ty tv):=by
 intro pins s σ H D I h
 refine wpAny_Assign_Subscript (thn (hv pins s σ H _ I h) fun r s1 ⟨v,H1,I1,rv,q1⟩=>thn (ho pins s1 σ H1 _ I1 q1) fun u s2 ⟨x,H2,I2,rx,q2⟩=>thn (hi pins s2 σ H2 _ I2 q2) fun iv s3 ⟨y,H3,I3,ry,a,H4,ex,g,q3⟩=>?_) hs
 subst ex
 obtain rfl:u=Value.ref a:=rx
 exact Qoa hu I3 g ry rv fun s4 I4=>⟨σ,H4,I4,q3⟩
end
theorem Qpz {P:Program} {w:World} {H:Hp} (h:Heap) (hb:sysModules<h.objs.size):ObjOk P w H (h.push { cls:=.type "dict",data:=.dict #[] }) h.objs.size (.dK []) :=
 ⟨Nat.zero_le _,beq_eq_false_iff_ne.mpr (Ne.symm (Nat.ne_of_lt hb)),[],.nil,Heap.DictOf.new h⟩
def QrD:TE:=fun _ H Q=>∀ p,H p=none->Q (.ref p) (upd H p (.dK []))
section
variable {X:Cx} {pos:Pos}
theorem Qo3:PE X (.Dict [] [] pos) QrD:=fun pins s σ H Q I h =>
 wpAny_Dict_empty ⟨.ref s.heap.objs.size,_,I.laid (a:=s.heap.objs.size) (o:=.dK []) (t':=s.toks) (fun _ _ q=>Heap.get?_push_of_some _ q) (Nat.le_refl _) (Qpz s.heap I.big),rfl,h _ (I.hok.fresh (Nat.le_refl _))⟩
end
end L2
namespace Wd
open PySem
abbrev Kd:=Sum Int Str
inductive D where
 | non | bl (b:Bool) | int (i:Int) | str (x:Str) | tup (xs:List D) | lst (xs:List D) | scr (ns:List Int) | dic (ks:List Kd) (xs:List D)
abbrev Qr:=List (Option D)
abbrev EvE:=Qr->Option D
abbrev EvL:=Qr->Option (List D)
abbrev EvO:=Qr->Option (Option Int)
abbrev EvG:=D->Qr->Option Qr
inductive Fl where
 | nx (e:Qr) | rt (d:D) | bk (e:Qr) | ct (e:Qr)
abbrev EvS:=Qr->Option Fl
def lI:Nat:=16777216
def ifO {α:Type}:Option D->Option α->Option α->Option α
 | some (.bl c),x,y=>if c=true then x else y
 | _,_,_=>none
def Qe1:Option D->Option D
 | some (.bl c)=>some (.bl (!c))
 | _=>none
theorem Qq {α:Type} (c:Bool) (x y:Option α):ifO (some (.bl c)) x y=if c=true then x else y:=rfl
theorem JM (c:Bool):Qe1 (some (.bl c))=some (.bl (!c)):=rfl
theorem JO {α:Type} {p:Prop} [Decidable p] (a b:Option D) (x y:Option α):ifO (if p then a else b) x y=if p then ifO a x y else ifO b x y:=by split<;>rfl
theorem Jv {p:Prop} [Decidable p] (a b:Option D):Qe1 (if p then a else b)=if p then Qe1 a else Qe1 b:=by split<;>rfl
mutual
def D.dep:D->Nat
 | .tup xs=>D.depL xs+1
 | .lst xs=>D.depL xs+1
 | .scr _=>1
 | .dic _ xs=>D.depL xs+1
 | _=>0
def D.depL:List D->Nat
 | []=>0
 | x::xs=>max (D.dep x) (D.depL xs)
end
theorem JC:D.dep .non=0:=by rw [D.dep];all_goals simp
theorem J1 (b:Bool):D.dep (.bl b)=0:=by rw [D.dep];all_goals simp
theorem Qy (i:Int):D.dep (.int i)=0:=by rw [D.dep];all_goals simp
theorem QB (x:Str):D.dep (.str x)=0:=by rw [D.dep];all_goals simp
theorem Q9 (xs:List D):D.dep (.tup xs)=D.depL xs+1:=by rw [D.dep]
theorem Jd (xs:List D):D.dep (.lst xs)=D.depL xs+1:=by rw [D.dep]
theorem QY:D.depL []=0:=by rw [D.depL]
theorem QQ (x:D) (xs:List D):D.depL (x::xs)=max (D.dep x) (D.depL xs):=by rw [D.depL]
def b2i (b:Bool):Int:=if b then 1 else 0
def Qih:Option Bool->Option Bool->Option Bool
 | some a,some b=>some (a&&b)
 | _,_=>none
theorem Jb (a b:Bool):Qih (some a) (some b)=some (a&&b):=rfl
mutual
def D.eq:D->D->Option Bool
 | .non,.non=>some true
 | .bl a,.bl b=>some (a==b)
 | .bl a,.int j=>some (decide (b2i a=j))
 | .int i,.bl b=>some (decide (i=b2i b))
 | .int i,.int j=>some (decide (i=j))
 | .str x,.str y=>some (decide (x=y))
 | .tup xs,.tup ys=>D.eqL xs ys
 | .lst xs,.lst ys=>D.eqL xs ys
 | .scr _,_=>none
 | _,.scr _=>none
 | .dic _ _,_=>none
 | _,.dic _ _=>none
 | _,_=>some false
def D.eqL:List D->List D->Option Bool
 | [],[]=>some true
 | x::xs,y::ys=>Qih (D.eq x y) (D.eqL xs ys)
 | _,_=>some false
end
theorem QD (i j:Int):D.eq (.int i) (.int j)=some (decide (i=j)):=by rw [D.eq]
theorem ZB (i j:Bool):D.eq (.bl i) (.bl j)=some (i==j):=by rw [D.eq]
theorem QK (i j:Str):D.eq (.str i) (.str j)=some (decide (i=j)):=by rw [D.eq]
theorem Jg (xs ys:List D):D.eq (.tup xs) (.tup ys)=D.eqL xs ys:=by rw [D.eq]
theorem JS (xs ys:List D):D.eq (.lst xs) (.lst ys)=D.eqL xs ys:=by rw [D.eq]
theorem Jn:D.eqL [] []=some true:=by rw [D.eqL]
theorem Jf (x y:D) (xs ys:List D):D.eqL (x::xs) (y::ys)=Qih (D.eq x y) (D.eqL xs ys):=by rw [D.eqL]
def D.cmp (o:Option Bool):Option D:=o.map .bl
def D.cmpN (o:Option Bool):Option D:=o.map fun b=>.bl (!b)
def D.eqO (x y:D):Option D:=if x.dep<=40 then D.cmp (D.eq x y) else none
def D.neO (x y:D):Option D:=if x.dep<=40 then D.cmpN (D.eq x y) else none
def intsOf:List D->Option (List Int)
 | []=>some []
 | .int i::r=>(intsOf r).map (i::·)
 | _=>none
def VF:List Int->List Int->Bool
 | [],_=>true
 | _::_,[]=>false
 | x::xs,y::ys=>if x=y then VF xs ys else decide (x<y)
def D.lt:D->D->Option D
 | .int i,.int j=>some (.bl (decide (i<j)))
 | _,_=>none
def D.le:D->D->Option D
 | .int i,.int j=>some (.bl (decide (i<=j)))
 | .tup xs,.tup ys=>match intsOf xs,intsOf ys with
  | some a,some b=>some (.bl (VF a b))
  | _,_=>none
 | _,_=>none
def D.gt:D->D->Option D
 | .int i,.int j=>some (.bl (decide (j<i)))
 | _,_=>none
def D.ge:D->D->Option D
 | .int i,.int j=>some (.bl (decide (j<=i)))
 | _,_=>none
def D.len:D->Option D
 | .str x=>if x.length<=lI then some (.int x.length) else none
 | .tup xs=>some (.int xs.length)
 | .lst xs=>some (.int xs.length)
 | .scr ns=>some (.int ns.length)
 | _=>none
def D.add:D->D->Option D
 | .int i,.int j=>some (.int (i+j))
 | .str x,.str y=>if x.length+y.length<=lI then some (.str (x++y)) else none
 | .lst xs,.lst ys=>if xs.length+ys.length<=lI then some (.lst (xs++ys)) else none
 | .tup (x::xs),.tup ys=>if xs.length+1+ys.length<=lI then some (.tup (x::xs++ys)) else none
 | _,_=>none
def D.addI:D->D->Option D
 | .int i,.int j=>some (.int (i+j))
 | .str x,.str y=>if x.length+y.length<=lI then some (.str (x++y)) else none
 | _,_=>none
def D.sub:D->D->Option D
 | .int i,.int j=>some (.int (i-j))
 | _,_=>none
def D.mul:D->D->Option D
 | .int i,.int j=>if (-(2^64)<i/\i<2^64)\/(-(2^64)<j/\j<2^64) then some (.int (i*j)) else none
 | _,_=>none
def D.mod:D->D->Option D
 | .int i,.int j=>if 0<j then some (.int (i%j)) else none
 | _,_=>none
def D.fdiv:D->D->Option D
 | .int i,.int j=>if 0<j/\j<1073741824 then some (.int (i/j)) else none
 | _,_=>none
def D.pow:D->D->Option D
 | .int i,.int j=>if 0<=j/\j<=1000000/\i.natAbs<2^64 then some (.int (i^j.toNat)) else none
 | _,_=>none
def D.neg:D->Option D
 | .int i=>some (.int (-i))
 | _=>none
theorem Qeu {i j:Int} (h:-(2^64)<i/\i<2^64):D.mul (.int i) (.int j)=some (.int (i*j)):=if_pos (.inl h)
theorem Qh8 {i j:Int} (h:-(2^64)<j/\j<2^64):D.mul (.int i) (.int j)=some (.int (i*j)):=if_pos (.inr h)
theorem VE {i j:Int} (h:0<j):D.mod (.int i) (.int j)=some (.int (i%j)):=if_pos h
theorem QsA {i j:Int} (h:0<j/\j<1073741824):D.fdiv (.int i) (.int j)=some (.int (i/j)):=if_pos h
theorem Qp0 {i j:Int} (h:0<=j/\j<=1000000/\i.natAbs<2^64):D.pow (.int i) (.int j)=some (.int (i^j.toNat)):=if_pos h
def D.strI:D->Option D
 | .int i=>if i.natAbs<2^1900 then some (.str (Str.ofString (toString i))) else none
 | _=>none
def D.intB:D->Option D
 | .int i=>some (.int i)
 | .bl b=>some (.int (if b then 1 else 0))
 | _=>none
def D.min2:D->D->Option D
 | .int i,.int j=>some (.int (if j<i then j else i))
 | _,_=>none
def D.max2:D->D->Option D
 | .int i,.int j=>some (.int (if j > i then j else i))
 | _,_=>none
def D.isT:D->Option D
 | .bl b=>some (.bl b)
 | .int _=>some (.bl false)
 | _=>none
def tyD:D->String
 | .non=>"NoneType"
 | .bl _=>"bool"
 | .int _=>"int"
 | .str _=>"str"
 | .tup _=>"tuple"
 | .lst _=>"list"
 | .scr _=>"list"
 | .dic _ _=>"dict"
def D.inst (t:String) (d:D):Option D:=match d with
 | .scr _=>none
 | d=>some (.bl (decide (tyD d=t)||(decide (t="int")&&decide (tyD d="bool"))))
def ixD (n:Nat) (i:Int):Option Nat:=if 0<=i then (if i<n then some i.toNat else none) else if -(n:Int)<=i then some (i+n).toNat else none
def D.ix:D->D->Option D
 | .tup xs,.int i=>(ixD xs.length i).bind fun k=>xs[k]?
 | .lst xs,.int i=>(ixD xs.length i).bind fun k=>xs[k]?
 | .scr ns,.int i=>(ixD ns.length i).bind fun k=>(ns[k]?).map .int
 | .str x,.int i=>if x.length<=lI then (ixD x.length i).bind fun k=>(x.cps[k]?).map fun c=>.str ⟨#[c]⟩ else none
 | _,_=>none
def Z8 (n d:Nat):Option Int->Nat
 | none=>d
 | some v=>if v<0 then (v+(n:Int)).toNat else min v.toNat n
def Zf {α:Type} (xs:List α) (lo hi:Option Int):List α:=(xs.drop (Z8 xs.length 0 lo)).take (Z8 xs.length xs.length hi-Z8 xs.length 0 lo)
def D.cut:D->Option Int->Option Int->Option D
 | .lst xs,lo,hi=>some (.lst (Zf xs lo hi))
 | .tup xs,lo,hi=>if Z8 xs.length 0 lo=0/\Z8 xs.length xs.length hi=xs.length then none else some (.tup (Zf xs lo hi))
 | .scr ns,lo,hi=>some (.lst ((Zf ns lo hi).map .int))
 | _,_,_=>none
def Qt3 (x:D) (lo hi:Option Int):Option D:=D.cut x lo hi
def eV (i:Nat):EvE:=fun e=>(e[i]?).join
def eC (d:D):EvE:=fun _=>some d
def eOp (g:D->D->Option D) (a b:EvE):EvE:=fun e=>(a e).bind fun x=>(b e).bind fun y=>g x y
def eUn (g:D->Option D) (a:EvE):EvE:=fun e=>(a e).bind fun x=>g x
def Q1 (a:EvE):EvE:=fun e=>Qe1 (a e)
def QG (a b:EvE):EvE:=fun e=>ifO (a e) (b e) (some (.bl false))
def eOr (a b:EvE):EvE:=fun e=>ifO (a e) (some (.bl true)) (b e)
def eIf (c a b:EvE):EvE:=fun e=>ifO (c e) (a e) (b e)
def JF (g g':D->D->Option D) (a b c:EvE):EvE:=fun e=>(a e).bind fun x=>(b e).bind fun y=>ifO (g x y) ((c e).bind fun z=>g' y z) (some (.bl false))
def lN:EvL:=fun _=>some []
def lC (a:EvE) (l:EvL):EvL:=fun e=>(a e).bind fun x=>(l e).map fun xs=>x::xs
def Qn (l:EvL):EvE:=fun e=>(l e).map .tup
def Qo (l:EvL):EvE:=fun e=>(l e).map .lst
def eK (f:List D->Option D) (l:EvL):EvE:=fun e=>(l e).bind f
def JJ (t:String) (a:EvE):EvE:=fun e=>(a e).bind fun x=>D.inst t x
def oNo:EvO:=fun _=>some none
def oAt (a:EvE):EvO:=fun e=>(a e).bind fun d=>match d with
 | .int i=>some (some i)
 | _=>none
def ZC (a:EvE) (lo hi:EvO):EvE:=fun e=>(a e).bind fun x=>(lo e).bind fun l=>(hi e).bind fun h=>Qt3 x l h
def gS (i:Nat):EvG:=fun d e=>some (e.set i (some d))
def J6:List EvG->List D->Qr->Option Qr
 | [],[],e=>some e
 | g::gs,d::ds,e=>(g d e).bind fun e'=>J6 gs ds e'
 | _,_,_=>none
def Js (gs:List EvG):EvG:=fun d e=>match d with
 | .tup ds=>J6 gs ds e
 | _=>none
def Qbp:Option Fl->EvS->Option Fl
 | some (.nx e),k=>k e
 | some (.rt d),_=>some (.rt d)
 | some (.bk e),_=>some (.bk e)
 | some (.ct e),_=>some (.ct e)
 | none,_=>none
theorem QM (e:Qr) (k:EvS):Qbp (some (.nx e)) k=k e:=rfl
theorem QS (d:D) (k:EvS):Qbp (some (.rt d)) k=some (.rt d):=rfl
theorem JL (e:Qr) (k:EvS):Qbp (some (.bk e)) k=some (.bk e):=rfl
theorem JK (e:Qr) (k:EvS):Qbp (some (.ct e)) k=some (.ct e):=rfl
theorem Jh (k:EvS):Qbp none k=none:=rfl
theorem Ju {c:Prop} [Decidable c] (a b:Option Fl) (k:EvS):Qbp (if c then a else b) k=if c then Qbp a k else Qbp b k:=by split<;>rfl
def sQ (a b:EvS):EvS:=fun e=>Qbp (a e) b
def sIf (c:EvE) (a b:EvS):EvS:=fun e=>ifO (c e) (a e) (b e)
def Qk (a:EvE):EvS:=fun e=>(a e).map .rt
def ZA:EvS:=fun _=>some (.rt .non)
def Qd (a:EvE) (g:EvG):EvS:=fun e=>(a e).bind fun d=>(g d e).map .nx
def Zr (i:Nat) (g:D->D->Option D) (a:EvE):EvS:=fun e=>(eV i e).bind fun x=>(a e).bind fun y=>(g x y).map fun z=>.nx (e.set i (some z))
def J4 (a:EvE):EvS:=fun e=>(a e).map fun _=>.nx e
def sNx:EvS:=fun e=>some (.nx e)
def Z9:EvS:=fun e=>some (.bk e)
def ZM:EvS:=fun e=>some (.ct e)
def D.app:D->D->Option D
 | .lst xs,d=>if xs.length<lI then some (.lst (xs++[d])) else none
 | _,_=>none
def D.ext:D->D->Option D
 | .lst xs,.lst ys=>if xs.length+ys.length<=lI then some (.lst (xs++ys)) else none
 | _,_=>none
def sP (i:Nat) (a:EvE):EvS:=fun e=>(eV i e).bind fun x=>(a e).bind fun d=>(D.app x d).map fun z=>.nx (e.set i (some z))
def Qox (i:Nat) (a:EvE):EvS:=fun e=>(eV i e).bind fun x=>(a e).bind fun d=>(D.ext x d).map fun z=>.nx (e.set i (some z))
def Qc9:Option Fl->EvS->Option Fl
 | some (.nx e),k=>k e
 | some (.ct e),k=>k e
 | some (.bk e),_=>some (.nx e)
 | some (.rt d),_=>some (.rt d)
 | none,_=>none
theorem QiI (e:Qr) (k:EvS):Qc9 (some (.nx e)) k=k e:=rfl
def Ym (g:EvG) (b:EvS):List D->EvS
 | [],e=>some (.nx e)
 | d::ds,e=>Qc9 ((g d e).bind b) (Ym g b ds)
abbrev EvI:=Qr->Option (List D)
def Ja (it:EvI) (g:EvG) (b:EvS):EvS:=fun e=>(it e).bind fun ds=>Ym g b ds e
def rD (lo:Int) (n:Nat):List D:=(List.range n).map fun i:Nat=>.int (lo+(i:Int))
def Vl:Nat->List D->List D
 | _,[]=>[]
 | n,d::ds=>.tup [.int n,d]::Vl (n+1) ds
def D.rng:D->Option (List D)
 | .int n=>if n.natAbs<4611686018427387904 then some (rD 0 n.toNat) else none
 | _=>none
def D.its:D->Option (List D)
 | .lst xs=>some xs
 | .scr ns=>some (ns.map .int)
 | _=>none
def D.itsT:D->Option (List D)
 | .tup xs=>some xs
 | _=>none
def Yy (a:EvE):EvI:=fun e=>(a e).bind fun d=>D.rng d
def QW (a:EvE):EvI:=fun e=>(a e).bind fun d=>D.its d
def QaI (a:EvE):EvI:=fun e=>(a e).bind fun d=>(D.its d).map fun ds=>Vl 0 ds
def QdW:Option Fl->Option D
 | some (.rt d)=>some d
 | some (.nx _)=>some .non
 | _=>none
theorem JP (d:D):QdW (some (.rt d))=some d:=rfl
theorem JQ (e:Qr):QdW (some (.nx e))=some .non:=rfl
theorem Jw {c:Prop} [Decidable c] (a b:Option Fl):QdW (if c then a else b)=if c then QdW a else QdW b:=by split<;>rfl
theorem Jx {α β:Type} {c:Prop} [Decidable c] (a b:Option α) (f:α->Option β):(if c then a else b).bind f=if c then a.bind f else b.bind f:=by split<;>rfl
theorem JN {α β:Type} {c:Prop} [Decidable c] (a b:Option α) (f:α->β):(if c then a else b).map f=if c then a.map f else b.map f:=by split<;>rfl
def sD (n:Nat) (ds:List D):Qr:=ds.map some++List.replicate (n-ds.length) none
def QC (n k:Nat) (b:EvS) (ds:List D):Option D:=if ds.length=k then QdW (b (sD n ds)) else none
end Wd
namespace Wd
open PySem
def V0 (g:EvG) (c el:EvE):List D->Qr->Option (List D)
 | [],_=>some []
 | d::ds,e=>(g d e).bind fun e1=>ifO (c e1) ((el e1).bind fun x=>(V0 g c el ds e1).map fun r=>x::r) (V0 g c el ds e1)
def Qci (n:Nat) (caps:List Nat) (e:Qr):Qr:=List.replicate n none++caps.map fun i=>(e[i]?).join
def QX (n:Nat) (caps:List Nat) (it:EvI) (g:EvG) (c el:EvE):EvE:=fun e=>(it e).bind fun ds=>if ds.length<=lI then (V0 g c el ds (Qci n caps e)).map .lst else none
end Wd
namespace Wd
open PySem
def VW (x:Str) (lo hi:Option Int):Str:=⟨(Zf x.cps.toList lo hi).toArray⟩
def YX (x:Str) (n:Int):Str:=⟨(List.replicate n.toNat x.cps.toList).flatten.toArray⟩
def Zg (x:D) (lo hi:Option Int):Option D:=match x with
 | .str z=>if z.length<=lI then some (.str (VW z lo hi)) else none
 | d=>D.cut d lo hi
def JT (a:EvE) (lo hi:EvO):EvE:=fun e=>(a e).bind fun x=>(lo e).bind fun l=>(hi e).bind fun h=>Zg x l h
def D.strip:D->Option D
 | .str x=>if x.length<=lI then some (.str (Txt.strip x)) else none
 | _=>none
def D.mulA:D->D->Option D
 | .int i,.int j=>D.mul (.int i) (.int j)
 | .str x,.int n=>if -1073741824<n/\n<1073741824/\x.length*n.toNat<=lI then some (.str (YX x n)) else none
 | .lst xs,.int n=>if -1073741824<n/\n<1073741824/\xs.length*n.toNat<=lI then some (.lst (List.replicate n.toNat xs).flatten) else none
 | _,_=>none
def J7:D->Bool
 | .non | .bl _ | .int _ | .str _=>true
 | _=>false
def inD (x:D):List D->Bool
 | []=>false
 | y::ys=>(D.eq y x==some true)||inD x ys
def D.inO (x y:D):Option D:=match y with
 | .tup ys=>if J7 x=true/\ys.all J7=true then some (.bl (inD x ys)) else none
 | .lst ys=>if J7 x=true/\ys.all J7=true then some (.bl (inD x ys)) else none
 | _=>none
def D.notInO (x y:D):Option D:=match y with
 | .tup ys=>if J7 x=true/\ys.all J7=true then some (.bl (!inD x ys)) else none
 | .lst ys=>if J7 x=true/\ys.all J7=true then some (.bl (!inD x ys)) else none
 | _=>none
def D.listOf:D->Option D
 | .lst xs=>some (.lst xs)
 | .tup xs=>some (.lst xs)
 | .scr ns=>some (.lst (ns.map .int))
 | _=>none
end Wd
namespace Wd
open PySem
def JX:Int->List Int->Int
 | m,[]=>m
 | m,n::ns=>JX (if n > m then n else m) ns
theorem QaX:∀ (ns:List Int) (m:Int),(JX m ns=m\/JX m ns∈ns)/\m<=JX m ns/\∀ a∈ns,a<=JX m ns
 | [],m=>⟨.inl rfl,Int.le_refl _,fun _ h=>by cases h⟩
 | n::ns,m=>by
  obtain ⟨h1,h2,h3⟩:=QaX ns (if n > m then n else m)
  show (JX (if n > m then n else m) ns=m\/_)/\_
  refine ⟨?_,?_,fun a ha=>?_⟩
  ·rcases h1 with h | h
   ·by_cases z:n > m
    ·right;show JX (if n > m then n else m) ns∈n::ns;rw [h,if_pos z];exact List.mem_cons_self
    ·left;rw [h,if_neg z]
   ·right;exact List.mem_cons_of_mem _ h
  ·show m<=JX (if n > m then n else m) ns
   refine Int.le_trans ?_ h2
   split<;>omega
  ·show a<=JX (if n > m then n else m) ns
   rcases List.mem_cons.mp ha with z | z
   ·subst z
    refine Int.le_trans ?_ h2
    split<;>omega
   ·exact h3 a z
def D.maxL:D->Option D
 | .lst xs=>match intsOf xs with
  | some (m::ns)=>some (.int (JX m ns))
  | _=>none
 | _=>none
def D.sumL:D->Option D
 | .lst xs=>(intsOf xs).map fun ns=>.int ns.sum
 | _=>none
def Vq:List D->Option (List Bool)
 | []=>some []
 | .bl b::r=>(Vq r).map (b::·)
 | _=>none
def D.anyL:D->Option D
 | .lst xs=>(Vq xs).map fun bs=>.bl (bs.any id)
 | _=>none
end Wd
namespace Wd
open PySem
def YM:EvS:=fun _=>none
theorem QI (i j:Int):D.mulA (.int i) (.int j)=D.mul (.int i) (.int j):=rfl
theorem Qqp {a:EvE}:∀ e en,Qk a e≠some (.nx en):=fun e en h=>by
 unfold Qk at h
 cases q:a e with
 | none=>rw [q] at h;cases h
 | some d=>rw [q] at h;cases h
end Wd
namespace Wd
open PySem
def kOf:D->Option Kd
 | .str x=>some (.inr x)
 | .int i=>some (.inl i)
 | _=>none
def hasK (k:Kd) (ks:List Kd):Bool:=ks.any fun c=>decide (c=k)
def QgB:List Kd->List D->Kd->Option D
 | c::ks,d::ds,k=>if c=k then some d else QgB ks ds k
 | _,_,_=>none
def QlF:List Kd->List D->Kd->D->List D
 | c::ks,d::ds,k,v=>(if c=k then v else d)::QlF ks ds k v
 | _,_,_,_=>[]
def D.dget:D->D->Option D
 | .dic ks ds,y=>(kOf y).bind fun k=>QgB ks ds k
 | _,_=>none
def D.dIn (y d:D):Option D:=match d with
 | .dic ks _=>(kOf y).map fun k=>.bl (hasK k ks)
 | _=>none
def D.dNotIn (y d:D):Option D:=match d with
 | .dic ks _=>(kOf y).map fun k=>.bl (!hasK k ks)
 | _=>none
def QgC (ks:List Kd) (ds:List D) (k:Kd) (v:D):D:=if hasK k ks=true then .dic ks (QlF ks ds k v) else .dic (ks++[k]) (ds++[v])
def D.put (x y v:D):Option D:=match x with
 | .dic ks ds=>(kOf y).bind fun k=>if ks.length<lI then some (QgC ks ds k v) else none
 | _=>none
def QpX (i:Nat) (key val:EvE):EvS:=fun e=>(val e).bind fun v=>(eV i e).bind fun x=>(key e).bind fun y=>(D.put x y v).map fun z=>.nx (e.set i (some z))
def Qch (n k:Nat) (b:EvS) (ds:List D):Option D:=if ds.length=k then match b (sD n ds) with
 | some (.nx e)=>(e[k-1]?).join
 | _=>none else none
def Y9 (i:Nat) (f:List D->Option D) (l:EvL):EvS:=fun e=>(l e).bind fun ds=>(eV i e).bind fun d=>(f (ds++[d])).map fun z=>.nx (e.set i (some z))
end Wd
namespace Wd
open PySem
end Wd
namespace Wd
open PySem
end Wd
namespace Wd
open PySem
end Wd
namespace Wd
open PySem
end Wd
namespace Wd
open PySem
def QlJ (i:Nat) (a:D->EvE) (g:EvG):EvS:=fun e=>match eV i e with
 | some (.lst (x::r))=>Qd (a x) g (e.set i (some (.lst r)))
 | _=>none
def QlD:D->Bool
 | .tup [.int _,.int _,.int _]=>true
 | _=>false
def QoD:List D->Bool
 | d::_=>QlD d
 | []=>false
mutual
inductive NoPl:D->Prop where
 | non:NoPl .non
 | bl (b:Bool):NoPl (.bl b)
 | int (i:Int):NoPl (.int i)
 | str (x:Str):NoPl (.str x)
 | tup {ds:List D} (h:NoPls ds):NoPl (.tup ds)
 | lst {ds:List D} (h:NoPls ds) (hd:QoD ds=false):NoPl (.lst ds)
inductive NoPls:List D->Prop where
 | nil:NoPls []
 | cons {d:D} {ds:List D} (h:NoPl d) (r:NoPls ds):NoPls (d::ds)
end
def Qie:D->Prop
 | .lst ts=>∀ t∈ts,∃ es,t=.lst es/\∀ d∈es,QlD d=true
 | _=>False
open Classical in
noncomputable def QfJ (i j:Nat) (f:List D->Option D) (l:EvL) (c:EvE) (a b:EvS):EvS:=fun e=>(l e).bind fun ds=>(f ds).bind fun T=>if NoPls ds/\Qie T/\i<e.length/\j<e.length then ifO (c (e.set i (some T))) (a (e.set i (some T))) (b ((e.set i none).set j none)) else none
end Wd
namespace Wd
open PySem PySem.Spec PyProof.Rows L2
abbrev Fg:=PySem.W.Frag
def Sm (F H:Hp):Prop:=∀ a o,F a=some o->H a=some o
theorem Sm.refl (F:Hp):Sm F F:=fun _ _ h=>h
theorem Sm.trans {F G H:Hp} (a:Sm F G) (b:Sm G H):Sm F H:=fun x o h=>b x o (a x o h)
theorem Sm.none {F H:Hp} (s:Sm F H) {a:Addr} (h:H a=none):F a=none:=by
 cases e:F a with
 | none=>rfl
 | some o=>rw [s a o e] at h;cases h
theorem Sm.upd {F H:Hp} (s:Sm F H) {p:Addr} (o:HO) (h:F p=Option.none):Sm F (L2.upd H p o):=fun a x e=>by
 have:a≠p:=fun z=>by rw [z,h] at e;cases e
 rw [QH this];exact s a x e
theorem Sm.upd2 {F H:Hp} (s:Sm F H) (p:Addr) (o:HO):Sm (L2.upd F p o) (L2.upd H p o):=fun a x e=>by
 by_cases z:a=p
 ·subst z;rw [Q7] at e ⊢;exact e
 ·rw [QH z] at e ⊢;exact s a x e
theorem Sm.sqL {K:Fg} {F H:Hp} (s:Sm F H) {a:Addr} {xs:List V} (h:SqL K F a xs):SqL K H a xs:=by
 rcases h with (h | ⟨o,h⟩) | h
 ·exact .inl (.inl (s _ _ h))
 ·exact .inl (.inr ⟨o,s _ _ h⟩)
 ·exact .inr h
mutual
inductive Rep (K:Fg) (F:Hp):V->D->Prop where
 | non:Rep K F .non .non
 | bl (b:Bool):Rep K F (.bl b) (.bl b)
 | int (i:Int):Rep K F (.int i) (.int i)
 | str (x:Str):Rep K F (.str x) (.str x)
 | tup {a:Addr} {xs:List V} {ds:List D} (h:F a=some (.tup xs)) (r:Reps K F xs ds):Rep K F (.ref a) (.tup ds)
 | lst {a:Addr} {xs:List V} {ds:List D} (h:F a=some (.lst xs)) (r:Reps K F xs ds):Rep K F (.ref a) (.lst ds)
 | scr {a:Addr} {ns:List Int} (h:SqL K F a (ns.map V.int)):Rep K F (.ref a) (.scr ns)
 | dic {a:Addr} {o:Obj} {ks:List Kd} {xs:List V} {ds:List D} (h:F a=some (.frz o (.dK (ks.zip xs)))) (hl:ks.length=xs.length) (r:Reps K F xs ds):Rep K F (.ref a) (.dic ks ds)
inductive Reps (K:Fg) (F:Hp):List V->List D->Prop where
 | nil:Reps K F [] []
 | cons {x:V} {d:D} {xs:List V} {ds:List D} (h:Rep K F x d) (r:Reps K F xs ds):Reps K F (x::xs) (d::ds)
end
mutual
theorem Rep.mono {K:Fg} {F F':Hp} (s:Sm F F'):∀ {v:V} {d:D},Rep K F v d->Rep K F' v d
 | _,_,.non=>.non
 | _,_,.bl b=>.bl b
 | _,_,.int i=>.int i
 | _,_,.str x=>.str x
 | _,_,.tup h r=>.tup (s _ _ h) (Reps.mono s r)
 | _,_,.lst h r=>.lst (s _ _ h) (Reps.mono s r)
 | _,_,.scr h=>.scr (s.sqL h)
 | _,_,.dic h hl r=>.dic (s _ _ h) hl (Reps.mono s r)
theorem Reps.mono {K:Fg} {F F':Hp} (s:Sm F F'):∀ {vs:List V} {ds:List D},Reps K F vs ds->Reps K F' vs ds
 | _,_,.nil=>.nil
 | _,_,.cons h r=>.cons (Rep.mono s h) (Reps.mono s r)
end
section
variable {K:Fg} {F H:Hp}
theorem Reps.length:∀ {vs:List V} {ds:List D},Reps K F vs ds->vs.length=ds.length
 | _,_,.nil=>rfl
 | _,_,.cons _ r=>by rw [List.length_cons,List.length_cons,r.length]
theorem Reps.get:∀ {vs:List V} {ds:List D} {i:Nat} {d:D},Reps K F vs ds->ds[i]?=some d->∃ v,vs[i]?=some v/\Rep K F v d
 | _,_,_,_,.nil,e=>by simp at e
 | _,_,0,_,.cons h _,e=>by simp at e;subst e;exact ⟨_,rfl,h⟩
 | _,_,i+1,d,.cons _ r,e=>by
  obtain ⟨v,h1,h2⟩:=Reps.get (i:=i) (d:=d) r (by simpa using e)
  exact ⟨v,by simpa using h1,h2⟩
theorem Reps.getV:∀ {vs:List V} {ds:List D} {i:Nat} {v:V},Reps K F vs ds->vs[i]?=some v->∃ d,ds[i]?=some d/\Rep K F v d
 | _,_,_,_,.nil,e=>by simp at e
 | _,_,0,_,.cons h _,e=>by simp at e;subst e;exact ⟨_,rfl,h⟩
 | _,_,i+1,v,.cons _ r,e=>by
  obtain ⟨d,h1,h2⟩:=Reps.getV (i:=i) (v:=v) r (by simpa using e)
  exact ⟨d,by simpa using h1,h2⟩
theorem Reps.append:∀ {vs ws:List V} {ds es:List D},Reps K F vs ds->Reps K F ws es->Reps K F (vs++ws) (ds++es)
 | _,_,_,_,.nil,s=>s
 | _,_,_,_,.cons h r,s=>.cons h (Reps.append r s)
theorem Reps.drop:∀ {vs:List V} {ds:List D} (n:Nat),Reps K F vs ds->Reps K F (vs.drop n) (ds.drop n)
 | _,_,0,r=>r
 | _,_,_+1,.nil=>.nil
 | _,_,n+1,.cons _ r=>Reps.drop n r
theorem Reps.take:∀ {vs:List V} {ds:List D} (n:Nat),Reps K F vs ds->Reps K F (vs.take n) (ds.take n)
 | _,_,0,_=>.nil
 | _,_,_+1,.nil=>.nil
 | _,_,n+1,.cons h r=>.cons h (Reps.take n r)
theorem Reps.ints:∀ (ns:List Int),Reps K F (ns.map V.int) (ns.map D.int)
 | []=>.nil
 | n::ns=>.cons (.int n) (Reps.ints ns)
theorem Reps.intsOf:∀ {vs:List V} {ds:List D} {ns:List Int},Reps K F vs ds->Wd.intsOf ds=some ns->vs=ns.map V.int
 | _,_,ns,.nil,e=>by cases e;rfl
 | _,_,ns,.cons (d:=d) h r,e=>by
  cases h with
  | int i =>
   simp only [Wd.intsOf] at e
   cases q:Wd.intsOf _ with
   | none=>rw [q] at e;cases e
   | some ms =>
    rw [q] at e
    cases e
    rw [Reps.intsOf r q];rfl
  | _=>simp [Wd.intsOf] at e
end
def ho:Option (List Kd)->List V->HO
 | none,xs=>.lst xs
 | some ks,xs=>.dK (ks.zip xs)
def dOf:Option (List Kd)->List D->D
 | none,ds=>.lst ds
 | some ks,ds=>.dic ks ds
def VX:Option (List Kd)->List V->Prop
 | none,_=>True
 | some ks,xs=>ks.length=xs.length
def hz (o:Obj):Option (List Kd)->List V->HO
 | none,xs=>.lst xs
 | some ks,xs=>.frz o (.dK (ks.zip xs))
theorem Rep.hz {K:Fg} {F:Hp} {p:Addr} {o:Obj}:∀ {k:Option (List Kd)} {xs:List V} {ds:List D},F p=some (hz o k xs)->VX k xs->Reps K F xs ds->Rep K F (.ref p) (dOf k ds)
 | none,_,_,h,_,r=>.lst h r
 | some _,_,_,h,hl,r=>.dic h hl r
def RdD (K:Fg) (F H:Hp) (v:V) (d:D):Prop:=Rep K F v d\/∃ p k xs ds,v=.ref p/\H p=some (ho k xs)/\Reps K F xs ds/\d=dOf k ds/\VX k xs
structure Gr (F H F' H':Hp):Prop where
 ff:Sm F F'
 hh:Sm H H'
 fh:Sm F' H'
 fr:∀ a o,F' a=some o->F a=some o\/H a=none
theorem Gr.refl {F H:Hp} (s:Sm F H):Gr F H F H:=⟨.refl _,.refl _,s,fun _ _ h=>.inl h⟩
theorem Gr.trans {F H F1 H1 F2 H2:Hp} (a:Gr F H F1 H1) (b:Gr F1 H1 F2 H2):Gr F H F2 H2 :=
 ⟨a.ff.trans b.ff,a.hh.trans b.hh,b.fh,fun x o h=>by
  rcases b.fr x o h with h | h
  ·exact a.fr x o h
  ·exact .inr (a.hh.none h)⟩
theorem Gr.new {F H:Hp} (s:Sm F H) {p:Addr} (h:H p=none) (o:HO):Gr F H (upd F p o) (upd H p o) :=
 ⟨(Sm.refl F).upd o (s.none h),(Sm.refl H).upd o h,s.upd2 p o,fun a x e=>by
  by_cases z:a=p
  ·subst z;exact .inr h
  ·rw [QH z] at e;exact .inl e⟩
theorem Gr.newO {F H:Hp} (s:Sm F H) {p:Addr} (h:H p=none) (o:HO):Gr F H F (upd H p o) :=
 ⟨.refl F,(Sm.refl H).upd o h,s.upd o (s.none h),fun _ _ e=>.inl e⟩
theorem RdD.gr {K:Fg} {F H F' H':Hp} {v:V} {d:D} (g:Gr F H F' H') (r:RdD K F H v d):RdD K F' H' v d:=by
 rcases r with r | ⟨p,k,xs,ds,rfl,h,r,rfl,hk⟩
 ·exact .inl (r.mono g.ff)
 ·exact .inr ⟨p,k,xs,ds,rfl,g.hh _ _ h,r.mono g.ff,rfl,hk⟩
structure Fz where
 f:Hp
 h:Hp
 p:Option Addr
def Ze (i:Nat):Nat:=1000+i
structure RS (K:Fg) (H₀:Hp) (F0:Fz) (F H:Hp) (σ:L2.St) (e:Qr) (O:List Nat):Prop where
 fh:Sm F H
 hh:Sm F0.h H
 ff:Sm F0.f F
 fr:∀ a o,F a=some o->F0.f a=some o\/F0.h a=none
 slot:∀ i d,e[i]?=some (some d)->i∉O->∃ v,σ[i]?=some (some v)/\Rep K F v d
 own:∀ i d,e[i]?=some (some d)->i∈O->∃ p k xs ds,σ[i]?=some (some (.ref p))/\F0.h p=none/\F p=none/\H p=some (ho k xs)/\Reps K F xs ds/\d=dOf k ds/\VX k xs
 dis:∀ i j p d d',i∈O->j∈O->e[i]?=some (some d)->e[j]?=some (some d')->σ[i]?=some (some (.ref p))->σ[j]?=some (some (.ref p))->i=j
 pin:∀ i,Ze i∈O->∃ p,F0.p=some p/\σ[i]?=some (some (.ref p))
 len:σ.length=e.length
theorem RS.grow {K:Fg} {H₀:Hp} {F0:Fz} {F H F' H':Hp} {σ:L2.St} {e:Qr} {O:List Nat} (r:RS K H₀ F0 F H σ e O) (g:Gr F H F' H'):RS K H₀ F0 F' H' σ e O where
 fh:=g.fh
 hh:=r.hh.trans g.hh
 ff:=r.ff.trans g.ff
 fr:=fun a o h=>by
  rcases g.fr a o h with h | h
  ·exact r.fr a o h
  ·exact .inr (r.hh.none h)
 slot:=fun i d h hi=>by
  obtain ⟨v,h1,h2⟩:=r.slot i d h hi
  exact ⟨v,h1,h2.mono g.ff⟩
 own:=fun i d h hi=>by
  obtain ⟨p,k,xs,ds,h1,h2,h3,h4,h5,h6⟩:=r.own i d h hi
  refine ⟨p,k,xs,ds,h1,h2,?_,g.hh _ _ h4,h5.mono g.ff,h6⟩
  cases q:F' p with
  | none=>rfl
  | some o =>
   rcases g.fr p o q with z | z
   ·rw [h3] at z;cases z
   ·rw [h4] at z;cases z
 dis:=r.dis
 pin:=r.pin
 len:=r.len
section
variable (X:Cx) (O:List Nat)
def tD (ev:EvE):TE:=fun σ H Q=>∃ F0 F e d,RS X.K X.H₀ F0 F H σ e O/\ev e=some d/\∀ v F' H',Gr F H F' H'->Rep X.K F' v d->Q v H'
def tR (ev:EvE):TE:=fun σ H Q=>∃ F0 F e d,RS X.K X.H₀ F0 F H σ e O/\ev e=some d/\∀ v F' H',Gr F H F' H'->RdD X.K F' H' v d->Q v H'
def tO (ev:EvE):TE:=fun σ H Q=>∃ F0 F e d,RS X.K X.H₀ F0 F H σ e O/\ev e=some d/\∀ p k xs ds F' H',Gr F H F' H'->H p=none->F' p=none->H' p=some (ho k xs)->Reps X.K F' xs ds->d=dOf k ds->VX k xs->Q (.ref p) H'
def tDT (ev:EvE):TT:=fun σ H Q=>∃ F0 F e b,RS X.K X.H₀ F0 F H σ e O/\ev e=some (.bl b)/\∀ F' H',Gr F H F' H'->Q b H'
def tL (l:EvL):TA:=fun σ H Q=>∃ F0 F e ds,RS X.K X.H₀ F0 F H σ e O/\l e=some ds/\∀ vs F' H',Gr F H F' H'->Reps X.K F' vs ds->Q vs H'
def tOI (l:EvO):TO:=fun σ H Q=>∃ F0 F e o,RS X.K X.H₀ F0 F H σ e O/\l e=some o/\∀ F' H',Gr F H F' H'->Q o H'
end
section
variable {X:Cx} {O:List Nat} {e a b c:Expr} {pos:Pos}
theorem PE.imp {t t':TE} (h:PE X e t) (q:∀ σ H Q,t' σ H Q->t σ H Q):PE X e t':=fun pins s σ H Q I z=>h pins s σ H Q I (q σ H Q z)
theorem PT.imp {t t':TT} (h:PT X e t) (q:∀ σ H Q,t' σ H Q->t σ H Q):PT X e t':=fun pins s σ H Q I z=>h pins s σ H Q I (q σ H Q z)
theorem PW.imp {t t':TT} (h:PW X e t) (q:∀ σ H Q,t' σ H Q->t σ H Q):PW X e t':=fun w pins s σ H Q I z=>h w pins s σ H Q I (q σ H Q z)
theorem PA.imp {es:List Expr} {t t':TA} (h:PA X es t) (q:∀ σ H Q,t' σ H Q->t σ H Q):PA X es t':=fun p pins s σ H Q I z=>h p pins s σ H Q I (q σ H Q z)
theorem PS.imp {st:Stmt} {t t':TS} (h:PS X st t) (q:∀ D σ H,t' D σ H->t D σ H):PS X st t':=fun pins s σ H D I z=>h pins s σ H D I (q D σ H z)
theorem PSs.imp {st:List Stmt} {t t':TS} (h:PSs X st t) (q:∀ D σ H,t' D σ H->t D σ H):PSs X st t':=fun pins s σ H D I z=>h pins s σ H D I (q D σ H z)
theorem dr {ev:EvE} (h:PE X e (tD X O ev)):PE X e (tR X O ev):=PE.imp h fun σ H Q ⟨F0,F,en,d,r,w,k⟩=>⟨F0,F,en,d,r,w,fun v F' H' g q=>k v F' H' g (.inl q)⟩
theorem dC {v:V} {d:D} (hr:∀ K F,Rep K F v d) (h:PE X e (tC v)):PE X e (tD X O (eC d)) :=
 PE.imp h fun σ H Q ⟨F0,F,en,d',r,w,k⟩=>by
  cases w
  exact k v F H (.refl r.fh) (hr _ _)
theorem Qb3 {b:Bool} {j}:PE X (.Constant (.bool b) j pos) (tD X O (eC (.bl b))):=dC (fun _ _=>.bl b) Qs9
theorem Qj {i:Int} {j}:PE X (.Constant (.int i) j pos) (tD X O (eC (.int i))):=dC (fun _ _=>.int i) Qr2
theorem Qf {x:Str} {j}:PE X (.Constant (.str x) j pos) (tD X O (eC (.str x))):=dC (fun _ _=>.str x) QrZ
theorem QU {x:Str} {i:Int} (hm:∃ t,X.mg x=some (.int i t)) (hg:Gl X x) (hd:(x==("__debug__":Str))=false:=by decide):PE X (.Name x pos) (tD X O (eC (.int i))):=by
 obtain ⟨t,hm⟩:=hm
 exact dC (fun _ _=>.int i) (QqC hg hm (show RelV (.int i) _ from ⟨t,rfl⟩) hd)
theorem JV {i:Nat} {en:Qr} {d:D} (h:eV i en=some d):en[i]?=some (some d):=by
 unfold eV at h
 cases q:en[i]? with
 | none=>rw [q] at h;cases h
 | some o=>rw [q] at h;cases o with
  | none=>cases h
  | some x=>cases h;rfl
theorem Qx (i:Nat) {x:Str} (hN:X.N[i]?=some x:=by rfl) (hv:Vis X.env.scope x:=by first | exact Or.inl rfl | exact Or.inr (Or.inl rfl) | exact Or.inr (Or.inr rfl)) (hO:i∉O:=by decide) (hd:(x==("__debug__":Str))=false:=by decide) (hcd:(x==("__classdict__":Str))=false:=by decide) :
  PE X (.Name x pos) (tD X O (eV i)) :=
 PE.imp (V2 hN hv hd hcd) fun σ H Q ⟨F0,F,en,d,r,w,k⟩=>by
  obtain ⟨v,h1,h2⟩:=r.slot i d (JV w) hO
  exact ⟨v,h1,k v F H (.refl r.fh) h2⟩
theorem Yr (i:Nat) {x:Str} (hN:X.N[i]?=some x:=by rfl) (hv:Vis X.env.scope x:=by first | exact Or.inl rfl | exact Or.inr (Or.inl rfl) | exact Or.inr (Or.inr rfl)) (hd:(x==("__debug__":Str))=false:=by decide) (hcd:(x==("__classdict__":Str))=false:=by decide) :
  PE X (.Name x pos) (tR X O (eV i)) :=
 PE.imp (V2 hN hv hd hcd) fun σ H Q ⟨F0,F,en,d,r,w,k⟩=>by
  by_cases hO:i∈O
  ·obtain ⟨p,kk,xs,ds,h1,_,_,h4,h5,h6,h7⟩:=r.own i d (JV w) hO
   exact ⟨_,h1,k _ F H (.refl r.fh) (.inr ⟨p,kk,xs,ds,rfl,h4,h5,h6,h7⟩)⟩
  ·obtain ⟨v,h1,h2⟩:=r.slot i d (JV w) hO
   exact ⟨v,h1,k v F H (.refl r.fh) (.inl h2)⟩
def Op2 (X:Cx) (r:R2) (g:D->D->Option D):Prop:=∀ (F H:Hp) (x y:V) (dx dy d:D) (Q:VK),Sm F H->RdD X.K F H x dx->RdD X.K F H y dy->g dx dy=some d->(∀ v F' H',Gr F H F' H'->Rep X.K F' v d->Q v H')->r x y H Q
theorem QaK {α β γ:Type} {a:Option α} {b:Option β} {g:α->β->Option γ} {d:γ} (h:(a.bind fun x=>b.bind fun y=>g x y)=some d):∃ x y,a=some x/\b=some y/\g x y=some d:=by
 cases a with
 | none=>cases h
 | some x=>cases b with
  | none=>cases h
  | some y=>exact ⟨x,y,rfl,rfl,h⟩
theorem Q8 {α β:Type} {a:Option α} {g:α->Option β} {d:β} (h:(a.bind fun x=>g x)=some d):∃ x,a=some x/\g x=some d:=by
 cases a with
 | none=>cases h
 | some x=>exact ⟨x,rfl,h⟩
theorem J8 {α β:Type} {a:Option α} {g:α->β} {d:β} (h:a.map g=some d):∃ x,a=some x/\g x=d:=by
 cases a with
 | none=>cases h
 | some x=>cases h;exact ⟨x,rfl,rfl⟩
theorem Qh5 {r:R2} {g:D->D->Option D} {ea eb:EvE} (ho:Op2 X r g) {σ:L2.St} {H:Hp} {Q:VK} (h:tD X O (eOp g ea eb) σ H Q):tOp r (tR X O ea) (tR X O eb) σ H Q:=by
 obtain ⟨F0,F,en,d,rs,w,k⟩:=h
 obtain ⟨dx,dy,e1,e2,e3⟩:=QaK w
 refine ⟨F0,F,en,dx,rs,e1,fun x F1 H1 g1 r1=>?_⟩
 refine ⟨F0,F1,en,dy,rs.grow g1,e2,fun y F2 H2 g2 r2=>?_⟩
 exact ho F2 H2 x y dx dy d Q g2.fh (r1.gr g2) r2 e3 fun v F' H' g3 r3=>k v F' H' ((g1.trans g2).trans g3) r3
theorem Qa {op:Operator} {r:R2} {g:D->D->Option D} {ea eb:EvE} (ho:OpR X (binaryOp op) r/\Op2 X r g) (ha:PE X a (tR X O ea)) (hb:PE X b (tR X O eb)):PE X (.BinOp a op b pos) (tD X O (eOp g ea eb)) :=
 PE.imp (QlM ho.1 ha hb) fun σ H Q=>Qh5 ho.2
theorem Zi {op:CmpOp} {r:R2} {g:D->D->Option D} {ea eb:EvE} (ho:OpR X (compareOp op) r/\Op2 X r g) (ha:PE X a (tR X O ea)) (hb:PE X b (tR X O eb)) (hm:behindInMarks op b=false):PE X (.Compare a [op] [b] pos) (tD X O (eOp g ea eb)) :=
 PE.imp (QqD ho.1 ha hb hm) fun σ H Q=>Qh5 ho.2
theorem QsN {ea eb:EvE} {r:R2} (ho:IxR X r/\Op2 X r D.ix) (ha:PE X a (tR X O ea)) (hb:PE X b (tR X O eb)) (hs:QgY b:=by intro _ _;rfl):PE X (.Subscript a b pos) (tD X O (eOp D.ix ea eb)) :=
 PE.imp (Qs8 ho.1 ha hb hs) fun σ H Q=>Qh5 ho.2
end
end Wd
namespace Wd
open PySem PySem.Spec PyProof.Rows L2
section
variable {K:Fg} {F H:Hp} {v:V}
theorem RdD.int {i:Int} (r:RdD K F H v (.int i)):v=.int i:=by
 rcases r with r | ⟨_,k,_,_,_,_,_,z,_⟩
 ·cases r;rfl
 ·cases k<;>cases z
theorem RdD.bl {b:Bool} (r:RdD K F H v (.bl b)):v=.bl b:=by
 rcases r with r | ⟨_,k,_,_,_,_,_,z,_⟩
 ·cases r;rfl
 ·cases k<;>cases z
theorem RdD.str {x:Str} (r:RdD K F H v (.str x)):v=.str x:=by
 rcases r with r | ⟨_,k,_,_,_,_,_,z,_⟩
 ·cases r;rfl
 ·cases k<;>cases z
theorem RdD.non (r:RdD K F H v .non):v=.non:=by
 rcases r with r | ⟨_,k,_,_,_,_,_,z,_⟩
 ·cases r;rfl
 ·cases k<;>cases z
theorem RdD.tup {ds:List D} (r:RdD K F H v (.tup ds)):∃ p xs,v=.ref p/\F p=some (.tup xs)/\Reps K F xs ds:=by
 rcases r with r | ⟨_,k,_,_,_,_,_,z,_⟩
 ·cases r with
  | tup h r=>exact ⟨_,_,rfl,h,r⟩
 ·cases k<;>cases z
theorem RdD.lst {ds:List D} (s:Sm F H) (r:RdD K F H v (.lst ds)):∃ p xs,v=.ref p/\H p=some (.lst xs)/\Reps K F xs ds:=by
 rcases r with r | ⟨p,k,xs,ds',h1,h2,h3,z,_⟩
 ·cases r with
  | lst h r=>exact ⟨_,_,rfl,s _ _ h,r⟩
 ·cases k with
  | none=>cases z;exact ⟨p,xs,h1,h2,h3⟩
  | some ks=>cases z
theorem RdD.dic {ks:List Kd} {ds:List D} (s:Sm F H) (r:RdD K F H v (.dic ks ds)):∃ p xs,v=.ref p/\Rd H p (.dK (ks.zip xs))/\ks.length=xs.length/\Reps K F xs ds:=by
 rcases r with r | ⟨p,k,xs,ds',h1,h2,h3,z,h4⟩
 ·cases r with
  | dic h hl r=>exact ⟨_,_,rfl,.inr ⟨_,s _ _ h⟩,hl,r⟩
 ·cases k with
  | none=>cases z
  | some ks'=>cases z;exact ⟨p,xs,h1,.inl h2,h4,h3⟩
theorem RdD.scr {ns:List Int} (r:RdD K F H v (.scr ns)):∃ p,v=.ref p/\SqL K F p (ns.map V.int):=by
 rcases r with r | ⟨_,k,_,_,_,_,_,z,_⟩
 ·cases r with
  | scr h=>exact ⟨_,rfl,h⟩
 ·cases k<;>cases z
theorem RdD.rep {d:D} (s:Sm F H) (hd:∀ ks ds,d≠.dic ks ds) (r:RdD K F H v d):Rep K H v d:=by
 rcases r with r | ⟨p,k,xs,ds',rfl,h2,h3,rfl,h4⟩
 ·exact r.mono s
 ·cases k with
  | none=>exact .lst h2 (h3.mono s)
  | some ks=>exact absurd rfl (hd ks ds')
end
section
variable {X:Cx}
theorem Z0:sizeLine=lI:=by decide
theorem Qe:OpR X (binaryOp .Add) (fun x y H Q=>((∃ i j,x=.int i/\y=.int j/\Q (.int (i+j)) H)\/(∃ i j,x=.str i/\y=.str j/\i.length+j.length<=sizeLine/\Q (.str (i++j)) H))\/(QoA x y H Q\/QlL X.K x y H Q)) /\
  Op2 X (fun x y H Q=>((∃ i j,x=.int i/\y=.int j/\Q (.int (i+j)) H)\/(∃ i j,x=.str i/\y=.str j/\i.length+j.length<=sizeLine/\Q (.str (i++j)) H))\/(QoA x y H Q\/QlL X.K x y H Q)) D.add:=by
 refine ⟨(OpR.or (OpR.or Qsc Qmc) (OpR.or Qsb QqI)),fun F H x y dx dy d Q s rx ry e k=>?_⟩
 cases dx<;>cases dy<;>try (simp [D.add] at e;done)
 case int.int i j =>
  cases e
  exact .inl (.inl ⟨i,j,rx.int,ry.int,k _ F H (.refl s) (.int _)⟩)
 case str.str i j =>
  simp only [D.add] at e
  split at e
  ·rename_i hz
   cases e
   exact .inl (.inr ⟨i,j,rx.str,ry.str,by rw [Z0];exact hz,k _ F H (.refl s) (.str _)⟩)
  ·cases e
 case lst.lst xs ys =>
  simp only [D.add] at e
  split at e
  ·rename_i hz
   cases e
   obtain ⟨p,us,rfl,h1,r1⟩:=rx.lst s
   obtain ⟨q,ws,rfl,h2,r2⟩:=ry.lst s
   refine .inr (.inl ⟨p,q,us,ws,rfl,rfl,h1,h2,by rw [Z0,r1.length,r2.length];exact hz,fun l hl=>?_⟩)
   have g:=Gr.new s hl (.lst (us++ws))
   exact k _ _ _ g (.lst Q7 ((r1.append r2).mono g.ff))
  ·cases e
 case tup.tup xs ys =>
  cases xs with
  | nil=>simp [D.add] at e
  | cons z xs =>
   simp only [D.add] at e
   split at e
   ·rename_i hz
    cases e
    obtain ⟨p,us,rfl,h1,r1⟩:=rx.tup
    obtain ⟨q,ws,rfl,h2,r2⟩:=ry.tup
    have hu:us≠[]:=fun z=>by subst z;cases r1
    refine .inr (.inr ⟨p,q,us,ws,rfl,rfl,SqT.of (s _ _ h1),SqT.of (s _ _ h2),hu,?_,fun z=>?_,fun _ l hl=>?_⟩)
    ·rw [Z0,r1.length,r2.length];exact hz
    ·subst z
     cases r2
     refine k _ F H (.refl s) ?_
     rw [List.append_nil]
     exact .tup h1 r1
    ·have g:=Gr.new s hl (.tup (us++ws))
     exact k _ _ _ g (.tup Q7 ((r1.append r2).mono g.ff))
   ·cases e
theorem Qia {g:D->D->Option D} (h:∀ dx dy d,g dx dy=some d->∃ i j,dx=.int i/\dy=.int j) {C:Int->Int->Prop} {f:Int->Int->V} {fd:Int->Int->D} (hg:∀ i j d,g (.int i) (.int j)=some d->C i j/\d=fd i j) (hf:∀ K F i j,Rep K F (f i j) (fd i j)):Op2 X (rI C f) g:=fun F H x y dx dy d Q s rx ry e k=>by
 obtain ⟨i,j,rfl,rfl⟩:=h dx dy d e
 obtain ⟨c,rfl⟩:=hg i j d e
 exact ⟨i,j,rx.int,ry.int,c,k _ F H (.refl s) (hf _ _ i j)⟩
theorem QfN {g:D->D->Option D} (h:∀ dx dy d,g dx dy=some d->∃ i j,dx=.int i/\dy=.int j) {f:Int->Int->V} {fd:Int->Int->D} (hg:∀ i j d,g (.int i) (.int j)=some d->d=fd i j) (hf:∀ K F i j,Rep K F (f i j) (fd i j)):Op2 X (rI0 f) g:=fun F H x y dx dy d Q s rx ry e k=>by
 obtain ⟨i,j,rfl,rfl⟩:=h dx dy d e
 cases hg i j d e
 exact ⟨i,j,rx.int,ry.int,k _ F H (.refl s) (hf _ _ i j)⟩
theorem Vn:OpR X (binaryOp .Sub) (rI0 fun i j=>.int (i-j))/\Op2 X (rI0 fun i j=>.int (i-j)) D.sub :=
 ⟨Qr5,QfN (fd:=fun i j=>.int (i-j)) (fun dx dy d e=>by cases dx<;>cases dy<;>simp [D.sub] at e ⊢) (fun i j d e=>by cases e;rfl) fun _ _ _ _=>.int _⟩
theorem QqG:OpR X (binaryOp .Mult) (rI CMul fun i j=>.int (i*j))/\Op2 X (rI CMul fun i j=>.int (i*j)) D.mul :=
 ⟨QmZ,Qia (fd:=fun i j=>.int (i*j)) (fun dx dy d e=>by cases dx<;>cases dy<;>simp [D.mul] at e ⊢) (fun i j d e=>by
  simp only [D.mul] at e
  split at e
  ·rename_i h;cases e;exact ⟨h,rfl⟩
  ·cases e) fun _ _ _ _=>.int _⟩
theorem QR:OpR X (binaryOp .Mod) (rI (fun _ j=>0<j) fun i j=>.int (i%j))/\Op2 X (rI (fun _ j=>0<j) fun i j=>.int (i%j)) D.mod :=
 ⟨Qr8,Qia (fd:=fun i j=>.int (i%j)) (fun dx dy d e=>by cases dx<;>cases dy<;>simp [D.mod] at e ⊢) (fun i j d e=>by
  simp only [D.mod] at e
  split at e
  ·rename_i h;cases e;exact ⟨h,rfl⟩
  ·cases e) fun _ _ _ _=>.int _⟩
theorem JE:OpR X (binaryOp .FloorDiv) (rI QoI fun i j=>.int (i/j))/\Op2 X (rI QoI fun i j=>.int (i/j)) D.fdiv :=
 ⟨QqH,Qia (fd:=fun i j=>.int (i/j)) (fun dx dy d e=>by cases dx<;>cases dy<;>simp [D.fdiv] at e ⊢) (fun i j d e=>by
  simp only [D.fdiv] at e
  split at e
  ·rename_i h;cases e;exact ⟨h,rfl⟩
  ·cases e) fun _ _ _ _=>.int _⟩
theorem QkU:OpR X (binaryOp .Pow) (rI QoH fun i j=>.int (i^j.toNat))/\Op2 X (rI QoH fun i j=>.int (i^j.toNat)) D.pow :=
 ⟨Qr7,Qia (fd:=fun i j=>.int (i^j.toNat)) (fun dx dy d e=>by cases dx<;>cases dy<;>simp [D.pow] at e ⊢) (fun i j d e=>by
  simp only [D.pow] at e
  split at e
  ·rename_i h;cases e;exact ⟨h,rfl⟩
  ·cases e) fun _ _ _ _=>.int _⟩
theorem Qip:OpR X (compareOp .Lt) (rI0 fun i j=>.bl (decide (i<j)))/\Op2 X (rI0 fun i j=>.bl (decide (i<j))) D.lt :=
 ⟨Qta,QfN (fd:=fun i j=>.bl (decide (i<j))) (fun dx dy d e=>by cases dx<;>cases dy<;>simp [D.lt] at e ⊢) (fun i j d e=>by cases e;rfl) fun _ _ _ _=>.bl _⟩
theorem YN:OpR X (compareOp .Gt) (rI0 fun i j=>.bl (decide (j<i)))/\Op2 X (rI0 fun i j=>.bl (decide (j<i))) D.gt :=
 ⟨Qtc,QfN (fd:=fun i j=>.bl (decide (j<i))) (fun dx dy d e=>by cases dx<;>cases dy<;>simp [D.gt] at e ⊢) (fun i j d e=>by cases e;rfl) fun _ _ _ _=>.bl _⟩
theorem QiA {xs:List V} {ds:List D} {F:Hp} {i:Int} {d:D} (r:Reps X.K F xs ds) (e:((ixD ds.length i).bind fun k=>ds[k]?)=some d):∃ v,atI xs i=some v/\Rep X.K F v d:=by
 obtain ⟨k,e1,e2⟩:=Q8 e
 obtain ⟨v,h1,h2⟩:=r.get e2
 refine ⟨v,?_,h2⟩
 unfold atI
 rw [r.length,show ixN ds.length i=some k from e1]
 exact h1
theorem Qsd:Op2 X (rIx X.K) D.ix:=fun F H x y dx dy d Q s rx ry e k=>by
 cases dx<;>cases dy<;>try (simp [D.ix] at e;done)
 case str.int z i =>
  simp only [D.ix] at e
  split at e
  ·rename_i hz
   obtain ⟨j,e1,e2⟩:=Q8 e
   obtain ⟨c,e3,rfl⟩:=J8 e2
   refine .inr (.inr ⟨z,i,c,rx.str,ry.int,by rw [Z0];exact hz,?_,k _ F H (.refl s) (.str _)⟩)
   unfold atI
   have hl:z.cps.toList.length=z.length:=by simp [Str.length]
   rw [hl,show ixN z.length i=some j from e1]
   simpa using e3
  ·cases e
 case tup.int ds i =>
  obtain ⟨p,xs,rfl,h,r⟩:=rx.tup
  obtain ⟨v,h1,h2⟩:=QiA r e
  exact .inr (.inl ⟨p,xs,i,v,rfl,ry.int,SqT.of (s _ _ h),h1,k _ F H (.refl s) h2⟩)
 case lst.int ds i =>
  obtain ⟨p,xs,rfl,h,r⟩:=rx.lst s
  obtain ⟨v,h1,h2⟩:=QiA r e
  exact .inl ⟨p,xs,i,v,rfl,ry.int,SqL.of h,h1,k _ F H (.refl s) h2⟩
 case scr.int ns i =>
  obtain ⟨p,rfl,h⟩:=rx.scr
  have r:Reps X.K F (ns.map V.int) (ns.map D.int):=Reps.ints ns
  have e':((ixD (ns.map D.int).length i).bind fun k=>(ns.map D.int)[k]?)=some d:=by
   rw [List.length_map]
   simp only [D.ix] at e
   simpa using e
  obtain ⟨v,h1,h2⟩:=QiA r e'
  exact .inl ⟨p,_,i,v,rfl,ry.int,s.sqL h,h1,k _ F H (.refl s) h2⟩
theorem Qsa:IxR X (rIx X.K)/\Op2 X (rIx X.K) D.ix:=⟨Qst,Qsd⟩
theorem Qb {O:List Nat} {a b:Expr} {pos:Pos} {ea eb:EvE} (ha:PE X a (tR X O ea)) (hb:PE X b (tR X O eb)) (hs:QgY b:=by intro _ _;rfl):PE X (.Subscript a b pos) (tD X O (eOp D.ix ea eb)):=QsN Qsa ha hb hs
end
end Wd
namespace Wd
open PySem PySem.Spec PyProof.Rows L2
def eAt (ds es:List D) (j:Nat):Bool:=match ds[j]?,es[j]? with
 | some d,some e=>(D.eq d e).getD false
 | _,_=>false
theorem Qpw (d e:D) (ds es:List D) (j:Nat):eAt (d::ds) (e::es) (j+1)=eAt ds es j:=by simp [eAt]
theorem Qdg:∀ (ds es:List D) (b:Bool),D.eqL ds es=some b ->
  (∀ (j:Nat) (d e:D),ds[j]?=some d->es[j]?=some e->∃ c,D.eq d e=some c)/\b=((List.range (min ds.length es.length)).all (eAt ds es)&&ds.length==es.length)
 | [],[],b,h=>by
  rw [D.eqL] at h;cases h
  exact ⟨fun j d e h=>by simp at h,by simp⟩
 | [],e::es,b,h=>by
  rw [D.eqL] at h
  ·cases h;exact ⟨fun j d e h=>by simp at h,by simp⟩
  all_goals simp
 | d::ds,[],b,h=>by
  rw [D.eqL] at h
  ·cases h;exact ⟨fun j d e _ h=>by simp at h,by simp⟩
  all_goals simp
 | d::ds,e::es,b,h=>by
  rw [D.eqL] at h
  cases q1:D.eq d e with
  | none=>rw [q1] at h;cases h
  | some b1 =>
   cases q2:D.eqL ds es with
   | none=>rw [q1,q2] at h;cases h
   | some b2 =>
    rw [q1,q2,Jb] at h
    cases h
    obtain ⟨i1,i2⟩:=Qdg ds es b2 q2
    refine ⟨fun j d' e' h1 h2=>?_,?_⟩
    ·cases j with
     | zero=>simp at h1 h2;subst h1 h2;exact ⟨b1,q1⟩
     | succ j=>exact i1 j d' e' (by simpa using h1) (by simpa using h2)
    ·have hm:min (d::ds).length (e::es).length=min ds.length es.length+1:=by simp only [List.length_cons];omega
     rw [hm,List.range_succ_eq_map,List.all_cons,List.all_map]
     have h0:eAt (d::ds) (e::es) 0=b1:=by simp [eAt,q1]
     have hf:(eAt (d::ds) (e::es)∘Nat.succ)=eAt ds es:=funext fun j=>Qpw d e ds es j
     rw [h0,hf,i2]
     simp [Bool.and_assoc]
mutual
theorem Qq8 {K:Fg} {H:Hp}:∀ {x:V} {d e:D} {b:Bool},Rep K H x d->Rep K H x e->D.eq d e=some b->b=true
 | _,_,_,b,.non,r,h=>by cases r;simp [D.eq] at h;exact h
 | _,_,_,b,.bl c,r,h=>by cases r;simp [D.eq] at h;exact h
 | _,_,_,b,.int c,r,h=>by cases r;simp [D.eq] at h;exact h
 | _,_,_,b,.str c,r,h=>by cases r;simp [D.eq] at h;exact h
 | _,_,_,b,.tup h1 r1,r,h=>by
  cases r with
  | tup h2 r2 =>
   rw [h1] at h2;cases h2
   rw [D.eq] at h
   exact eqs_same r1 r2 h
  | lst h2 r2=>rw [h1] at h2;cases h2
  | scr h2=>simp [D.eq] at h
  | dic h2 hl2 r2=>simp [D.eq] at h
 | _,_,_,b,.lst h1 r1,r,h=>by
  cases r with
  | lst h2 r2 =>
   rw [h1] at h2;cases h2
   rw [D.eq] at h
   exact eqs_same r1 r2 h
  | tup h2 r2=>rw [h1] at h2;cases h2
  | scr h2=>simp [D.eq] at h
  | dic h2 hl2 r2=>simp [D.eq] at h
 | _,_,_,b,.scr h1,r,h=>by
  rw [D.eq] at h
  ·cases h
  all_goals simp
 | _,_,_,b,.dic h1 _ _,r,h=>by
  cases r<;>simp [D.eq] at h
theorem eqs_same {K:Fg} {H:Hp}:∀ {xs:List V} {ds es:List D} {b:Bool},Reps K H xs ds->Reps K H xs es->D.eqL ds es=some b->b=true
 | _,_,_,b,.nil,r,h=>by cases r;rw [D.eqL] at h;cases h;rfl
 | _,_,_,b,.cons (d:=d) (ds:=ds) h1 r1,.cons (d:=e) (ds:=es) h2 r2,h=>by
  rw [D.eqL] at h
  cases q1:D.eq d e with
  | none=>rw [q1] at h;cases h
  | some b1 =>
   cases q2:D.eqL ds es with
   | none=>rw [q1,q2] at h;cases h
   | some b2 =>
    rw [q1,q2,Jb] at h
    cases h
    rw [Qq8 h1 h2 q1,eqs_same r1 r2 q2]
    rfl
end
theorem QgQ (i j:Int):(i==j)=decide (i=j):=by by_cases h:i=j<;>simp [h]
theorem Qi4:∀ {ds:List D} {j:Nat} {d:D},ds[j]?=some d->d.dep<=D.depL ds
 | [],_,_,h=>by simp at h
 | d::ds,0,_,h=>by simp at h;subst h;rw [QQ];exact Nat.le_max_left _ _
 | d::ds,j+1,x,h=>by
  rw [QQ]
  exact Nat.le_trans (Qi4 (ds:=ds) (j:=j) (by simpa using h)) (Nat.le_max_right _ _)
section
variable {X:Cx} {pins:List (Addr×Obj)} {σ:L2.St} {H:Hp} {s:Shared}
def QlH (A:Around) (s:Shared) (v u:Value) (b:Bool):Prop:=SeqAt.RcAt A s v u b/\SeqAt.EqAt A s v u b/\SeqAt.RcNeAt A s v u (!b)
theorem QiZ (I:Inv X pins σ H s) {n:Nat} {ds es:List D} {xs ys:List V} {us ws:List Value} {A:Around} {b:Bool} (hn:D.depL ds<=n) (hA:A.units+n<cLine)
  (ih:∀ (d e:D) (x y:V) (v u:Value) (b:Bool),d.dep<=n->Rep X.K H x d->Rep X.K H y e->RelV x v->RelV y u->D.eq d e=some b->QlH A s v u b)
  (r1:Reps X.K H xs ds) (r2:Reps X.K H ys es) (v1:Vals xs us) (v2:Vals ys ws) (h:D.eqL ds es=some b) :
  ∀ j (h1:j<us.toArray.size) (h2:j<ws.toArray.size),SeqAt.EqAt A s us.toArray[j] ws.toArray[j] (eAt ds es j):=fun j h1 h2=>by
 obtain ⟨q1,q2⟩:=Qdg ds es b h
 have l1:=r1.length
 have l2:=r2.length
 have l3:=v1.length
 have l4:=v2.length
 simp only [List.size_toArray] at h1 h2
 have hd:j<ds.length:=by omega
 have he:j<es.length:=by omega
 obtain ⟨x,hx,rx⟩:=r1.get (List.getElem?_eq_getElem hd)
 obtain ⟨y,hy,ry⟩:=r2.get (List.getElem?_eq_getElem he)
 obtain ⟨u,hu,ru⟩:=v1.get hx
 obtain ⟨w,hw,rw'⟩:=v2.get hy
 obtain ⟨c,hc⟩:=q1 j _ _ (List.getElem?_eq_getElem hd) (List.getElem?_eq_getElem he)
 have e1:us.toArray[j]=u:=by
  rw [List.getElem?_eq_getElem h1] at hu
  simpa using Option.some.inj hu
 have e2:ws.toArray[j]=w:=by
  rw [List.getElem?_eq_getElem h2] at hw
  simpa using Option.some.inj hw
 have e3:eAt ds es j=c:=by simp [eAt,List.getElem?_eq_getElem hd,List.getElem?_eq_getElem he,hc]
 rw [e1,e2,e3]
 exact (ih _ _ x y u w c (Nat.le_trans (Qi4 (List.getElem?_eq_getElem hd)) hn) rx ry ru rw' hc).2.1
theorem Qff {A:Around} {p q:Addr} {b:Bool} (h:SeqAt.RcAt A s (.ref p) (.ref q) b) (hn:SeqAt.RcNeAt A s (.ref p) (.ref q) (!b)) (hs:p=q->b=true):QlH A s (.ref p) (.ref q) b:=by
 refine ⟨h,?_,hn⟩
 by_cases e:p=q
 ·rw [hs e,e];exact SeqAt.EqAt.same _
 ·exact SeqAt.EqAt.of_refs e h
theorem Qla (I:Inv X pins σ H s) {d e:D} {x y:V} {v u:Value} {A:Around} {b:Bool} (hd:d.dep=0) (hu:A.units<cLine) (rx:Rep X.K H x d) (ry:Rep X.K H y e) (rv:RelV x v) (ru:RelV y u) (h:D.eq d e=some b):QlH A s v u b:=by
 have L:∀ {a:Addr} {xs:List V},H a=some (.lst xs)->∃ its,s.heap.IsList a its:=fun h=>let ⟨its,_,pl,_⟩:=I.list (SqL.of h);⟨_,pl.isList⟩
 have T:∀ {a:Addr} {xs:List V},H a=some (.tup xs)->∃ its,s.heap.IsTuple a its:=fun h=>let ⟨its,_,pl,_⟩:=I.tuple (SqT.of h);⟨_,pl⟩
 cases rx with
 | tup h1 r1=>rw [Q9] at hd;omega
 | lst h1 r1=>rw [Jd] at hd;omega
 | scr h1 =>
  rw [D.eq] at h
  ·cases h
  all_goals simp
 | dic h1 hl1 r1=>cases ry<;>simp [D.eq] at h
 | non =>
  cases (show v=Value.none from rv)
  cases ry with
  | non =>
   cases (show u=Value.none from ru)
   simp [D.eq] at h;subst h
   exact ⟨SeqAt.RcAt.none_none,SeqAt.EqAt.same _,SeqAt.RcNeAt.none_none⟩
  | bl c2 =>
   cases (show u=Value.bool c2 from ru)
   simp [D.eq] at h;subst h
   exact ⟨SeqAt.RcAt.none_bool _,SeqAt.EqAt.none_bool _,SeqAt.RcNeAt.none_bool _⟩
  | int i2 =>
   obtain ⟨tu,qu⟩:=(show ∃ t,u=Value.int i2 t from ru);cases qu
   simp [D.eq] at h;subst h
   exact ⟨SeqAt.RcAt.none_int _ _,SeqAt.EqAt.none_int _ _,SeqAt.RcNeAt.none_int _ _⟩
  | str z2 =>
   obtain ⟨tu,qu⟩:=(show ∃ t,u=Value.str z2 t from ru);cases qu
   simp [D.eq] at h;subst h
   exact ⟨SeqAt.RcAt.none_str _ _,SeqAt.EqAt.none_str _ _,SeqAt.RcNeAt.none_str _ _⟩
  | tup h2 r2 =>
   cases (show u=Value.ref _ from ru)
   simp [D.eq] at h;subst h
   obtain ⟨its,hi⟩:=T h2
   exact ⟨SeqAt.RcAt.none_tuple hi hu,SeqAt.EqAt.none_tuple hi hu,SeqAt.RcNeAt.none_tuple hi hu⟩
  | lst h2 r2 =>
   cases (show u=Value.ref _ from ru)
   simp [D.eq] at h;subst h
   obtain ⟨its,hi⟩:=L h2
   exact ⟨SeqAt.RcAt.none_list hi hu,SeqAt.EqAt.none_list hi hu,SeqAt.RcNeAt.none_list hi hu⟩
  | scr h2=>simp [D.eq] at h
  | dic h2 hl2 r2=>simp [D.eq] at h
 | bl c =>
  cases (show v=Value.bool c from rv)
  cases ry with
  | non =>
   cases (show u=Value.none from ru)
   simp [D.eq] at h;subst h
   exact ⟨SeqAt.RcAt.bool_none _,SeqAt.EqAt.bool_none _,SeqAt.RcNeAt.bool_none _⟩
  | bl c2 =>
   cases (show u=Value.bool c2 from ru)
   simp only [D.eq] at h
   have hb:b=(c==c2):=(Option.some.inj h).symm
   subst hb
   exact ⟨SeqAt.RcAt.bool_bool _ _,SeqAt.EqAt.bool_bool _ _,SeqAt.RcNeAt.bool_bool _ _⟩
  | int i2 =>
   obtain ⟨tu,qu⟩:=(show ∃ t,u=Value.int i2 t from ru);cases qu
   simp only [D.eq] at h
   have hb:b=((if c then 1 else 0)==i2):=by rw [<- Option.some.inj h,QgQ];rfl
   subst hb
   exact ⟨SeqAt.RcAt.bool_int _ _ _,SeqAt.EqAt.bool_int _ _ _,SeqAt.RcNeAt.bool_int _ _ _⟩
  | str z2 =>
   obtain ⟨tu,qu⟩:=(show ∃ t,u=Value.str z2 t from ru);cases qu
   simp [D.eq] at h;subst h
   exact ⟨SeqAt.RcAt.bool_str _ _ _,SeqAt.EqAt.bool_str _ _ _,SeqAt.RcNeAt.bool_str _ _ _⟩
  | tup h2 r2 =>
   cases (show u=Value.ref _ from ru)
   simp [D.eq] at h;subst h
   obtain ⟨its,hi⟩:=T h2
   exact ⟨SeqAt.RcAt.bool_tuple _ hi hu,SeqAt.EqAt.bool_tuple _ hi hu,SeqAt.RcNeAt.bool_tuple _ hi hu⟩
  | lst h2 r2 =>
   cases (show u=Value.ref _ from ru)
   simp [D.eq] at h;subst h
   obtain ⟨its,hi⟩:=L h2
   exact ⟨SeqAt.RcAt.bool_list _ hi hu,SeqAt.EqAt.bool_list _ hi hu,SeqAt.RcNeAt.bool_list _ hi hu⟩
  | scr h2=>simp [D.eq] at h
  | dic h2 hl2 r2=>simp [D.eq] at h
 | int i =>
  obtain ⟨tv,qv⟩:=(show ∃ t,v=Value.int i t from rv);cases qv
  cases ry with
  | non =>
   cases (show u=Value.none from ru)
   simp [D.eq] at h;subst h
   exact ⟨SeqAt.RcAt.int_none _ _,SeqAt.EqAt.int_none _ _,SeqAt.RcNeAt.int_none _ _⟩
  | bl c2 =>
   cases (show u=Value.bool c2 from ru)
   simp only [D.eq] at h
   have hb:b=(i==(if c2 then 1 else 0)):=by rw [<- Option.some.inj h,QgQ];rfl
   subst hb
   exact ⟨SeqAt.RcAt.int_bool _ _ _,SeqAt.EqAt.int_bool _ _ _,SeqAt.RcNeAt.int_bool _ _ _⟩
  | int i2 =>
   obtain ⟨tu,qu⟩:=(show ∃ t,u=Value.int i2 t from ru);cases qu
   simp only [D.eq] at h
   have hb:b=(i==i2):=by rw [<- Option.some.inj h,QgQ]
   subst hb
   exact ⟨SeqAt.RcAt.int_int _ _ _ _,SeqAt.EqAt.int_int _ _ _ _,SeqAt.RcNeAt.int_int _ _ _ _⟩
  | str z2 =>
   obtain ⟨tu,qu⟩:=(show ∃ t,u=Value.str z2 t from ru);cases qu
   simp [D.eq] at h;subst h
   exact ⟨SeqAt.RcAt.int_str _ _ _ _,SeqAt.EqAt.int_str _ _ _ _,SeqAt.RcNeAt.int_str _ _ _ _⟩
  | tup h2 r2 =>
   cases (show u=Value.ref _ from ru)
   simp [D.eq] at h;subst h
   obtain ⟨its,hi⟩:=T h2
   exact ⟨SeqAt.RcAt.int_tuple _ _ hi hu,SeqAt.EqAt.int_tuple _ _ hi hu,SeqAt.RcNeAt.int_tuple _ _ hi hu⟩
  | lst h2 r2 =>
   cases (show u=Value.ref _ from ru)
   simp [D.eq] at h;subst h
   obtain ⟨its,hi⟩:=L h2
   exact ⟨SeqAt.RcAt.int_list _ _ hi hu,SeqAt.EqAt.int_list _ _ hi hu,SeqAt.RcNeAt.int_list _ _ hi hu⟩
  | scr h2=>simp [D.eq] at h
  | dic h2 hl2 r2=>simp [D.eq] at h
 | str z =>
  obtain ⟨tv,qv⟩:=(show ∃ t,v=Value.str z t from rv);cases qv
  cases ry with
  | non =>
   cases (show u=Value.none from ru)
   simp [D.eq] at h;subst h
   exact ⟨SeqAt.RcAt.str_none _ _,SeqAt.EqAt.str_none _ _,SeqAt.RcNeAt.str_none _ _⟩
  | bl c2 =>
   cases (show u=Value.bool c2 from ru)
   simp [D.eq] at h;subst h
   exact ⟨SeqAt.RcAt.str_bool _ _ _,SeqAt.EqAt.str_bool _ _ _,SeqAt.RcNeAt.str_bool _ _ _⟩
  | int i2 =>
   obtain ⟨tu,qu⟩:=(show ∃ t,u=Value.int i2 t from ru);cases qu
   simp [D.eq] at h;subst h
   exact ⟨SeqAt.RcAt.str_int _ _ _ _,SeqAt.EqAt.str_int _ _ _ _,SeqAt.RcNeAt.str_int _ _ _ _⟩
  | str z2 =>
   obtain ⟨tu,qu⟩:=(show ∃ t,u=Value.str z2 t from ru);cases qu
   simp only [D.eq] at h
   have hb:b=(z==z2):=by
    rw [<- Option.some.inj h]
    by_cases q:z=z2<;>simp [q]
   subst hb
   exact ⟨SeqAt.RcAt.str_str _ _ _ _,SeqAt.EqAt.str_str _ _ _ _,SeqAt.RcNeAt.str_str _ _ _ _⟩
  | tup h2 r2 =>
   cases (show u=Value.ref _ from ru)
   simp [D.eq] at h;subst h
   obtain ⟨its,hi⟩:=T h2
   exact ⟨SeqAt.RcAt.str_tuple _ _ hi hu,SeqAt.EqAt.str_tuple _ _ hi hu,SeqAt.RcNeAt.str_tuple _ _ hi hu⟩
  | lst h2 r2 =>
   cases (show u=Value.ref _ from ru)
   simp [D.eq] at h;subst h
   obtain ⟨its,hi⟩:=L h2
   exact ⟨SeqAt.RcAt.str_list _ _ hi hu,SeqAt.EqAt.str_list _ _ hi hu,SeqAt.RcNeAt.str_list _ _ hi hu⟩
  | scr h2=>simp [D.eq] at h
  | dic h2 hl2 r2=>simp [D.eq] at h
theorem Qlb (I:Inv X pins σ H s):∀ (n:Nat) (d e:D) (x y:V) (v u:Value) (A:Around) (b:Bool),d.dep<=n->A.units+n<cLine->Rep X.K H x d->Rep X.K H y e->RelV x v->RelV y u->D.eq d e=some b->QlH A s v u b:=by
 have L:∀ {a:Addr} {xs:List V},H a=some (.lst xs)->∃ its:List Value,Vals xs its/\s.heap.IsList a its.toArray:=fun h=>let ⟨its,r,pl,_⟩:=I.list (SqL.of h);⟨its,r,pl.isList⟩
 have T:∀ {a:Addr} {xs:List V},H a=some (.tup xs)->∃ its:List Value,Vals xs its/\s.heap.IsTuple a its.toArray:=fun h=>let ⟨its,r,pl,_⟩:=I.tuple (SqT.of h);⟨its,r,pl⟩
 intro n
 induction n with
 | zero =>
  intro d e x y v u A b hd hA rx ry rv ru h
  exact Qla I (by omega) (by omega) rx ry rv ru h
 | succ n ih =>
  intro d e x y v u A b hd hA rx ry rv ru h
  have hu:A.units<cLine:=by omega
  have hA1:A.in1.units+n<cLine:=by show A.units+1+n<cLine;omega
  by_cases h0:d.dep=0
  ·exact Qla I h0 hu rx ry rv ru h
  cases rx with
  | non=>exact absurd JC h0
  | bl c=>exact absurd (J1 c) h0
  | int c=>exact absurd (Qy c) h0
  | str c=>exact absurd (QB c) h0
  | scr h1 =>
   rw [D.eq] at h
   ·cases h
   all_goals simp
  | dic h1 hl1 r1=>cases ry<;>simp [D.eq] at h
  | @tup p xs ds h1 r1 =>
   cases (show v=Value.ref p from rv)
   rw [Q9] at hd
   obtain ⟨us,v1,t1⟩:=T h1
   cases ry with
   | scr h2=>simp [D.eq] at h
   | dic h2 hl2 r2=>simp [D.eq] at h
   | non =>
    cases (show u=Value.none from ru)
    simp [D.eq] at h;subst h
    exact ⟨SeqAt.RcAt.tuple_none t1 hu,SeqAt.EqAt.tuple_none t1 hu,SeqAt.RcNeAt.tuple_none t1 hu⟩
   | bl c2 =>
    cases (show u=Value.bool c2 from ru)
    simp [D.eq] at h;subst h
    exact ⟨SeqAt.RcAt.tuple_bool _ t1 hu,SeqAt.EqAt.tuple_bool _ t1 hu,SeqAt.RcNeAt.tuple_bool _ t1 hu⟩
   | int i2 =>
    obtain ⟨tu,qu⟩:=(show ∃ t,u=Value.int i2 t from ru);cases qu
    simp [D.eq] at h;subst h
    exact ⟨SeqAt.RcAt.tuple_int _ _ t1 hu,SeqAt.EqAt.tuple_int _ _ t1 hu,SeqAt.RcNeAt.tuple_int _ _ t1 hu⟩
   | str z2 =>
    obtain ⟨tu,qu⟩:=(show ∃ t,u=Value.str z2 t from ru);cases qu
    simp [D.eq] at h;subst h
    exact ⟨SeqAt.RcAt.tuple_str _ _ t1 hu,SeqAt.EqAt.tuple_str _ _ t1 hu,SeqAt.RcNeAt.tuple_str _ _ t1 hu⟩
   | @lst q ys es h2 r2 =>
    cases (show u=Value.ref q from ru)
    obtain ⟨ws,v2,t2⟩:=L h2
    simp [D.eq] at h;subst h
    exact ⟨SeqAt.RcAt.tuple_list t1 t2 hu,SeqAt.EqAt.tuple_list t1 t2 hu,SeqAt.RcNeAt.tuple_list t1 t2 hu⟩
   | @tup q ys es h2 r2 =>
    cases (show u=Value.ref q from ru)
    obtain ⟨ws,v2,t2⟩:=T h2
    rw [D.eq] at h
    have hi:=QiZ (A:=A.in1) I (by omega) hA1 (fun d e x y v u b hd rx ry rv ru h=>ih d e x y v u A.in1 b hd hA1 rx ry rv ru h) r1 r2 v1 v2 h
    have hr:=SeqAt.RcAt.tuples t1 t2 hu hi
    have hn:=SeqAt.RcNeAt.tuples t1 t2 hu hi
    have hb:b=((List.range (min us.toArray.size ws.toArray.size)).all (eAt ds es)&&us.toArray.size==ws.toArray.size):=by
     rw [(Qdg ds es b h).2]
     simp only [List.size_toArray]
     rw [<- v1.length,<- v2.length,r1.length,r2.length]
    rw [<- hb] at hr hn
    refine Qff hr hn fun z=>?_
    subst z
    rw [h1] at h2;cases h2
    exact eqs_same r1 r2 h
  | @lst p xs ds h1 r1 =>
   cases (show v=Value.ref p from rv)
   rw [Jd] at hd
   obtain ⟨us,v1,t1⟩:=L h1
   cases ry with
   | scr h2=>simp [D.eq] at h
   | dic h2 hl2 r2=>simp [D.eq] at h
   | non =>
    cases (show u=Value.none from ru)
    simp [D.eq] at h;subst h
    exact ⟨SeqAt.RcAt.list_none t1 hu,SeqAt.EqAt.list_none t1 hu,SeqAt.RcNeAt.list_none t1 hu⟩
   | bl c2 =>
    cases (show u=Value.bool c2 from ru)
    simp [D.eq] at h;subst h
    exact ⟨SeqAt.RcAt.list_bool _ t1 hu,SeqAt.EqAt.list_bool _ t1 hu,SeqAt.RcNeAt.list_bool _ t1 hu⟩
   | int i2 =>
    obtain ⟨tu,qu⟩:=(show ∃ t,u=Value.int i2 t from ru);cases qu
    simp [D.eq] at h;subst h
    exact ⟨SeqAt.RcAt.list_int _ _ t1 hu,SeqAt.EqAt.list_int _ _ t1 hu,SeqAt.RcNeAt.list_int _ _ t1 hu⟩
   | str z2 =>
    obtain ⟨tu,qu⟩:=(show ∃ t,u=Value.str z2 t from ru);cases qu
    simp [D.eq] at h;subst h
    exact ⟨SeqAt.RcAt.list_str _ _ t1 hu,SeqAt.EqAt.list_str _ _ t1 hu,SeqAt.RcNeAt.list_str _ _ t1 hu⟩
   | @tup q ys es h2 r2 =>
    cases (show u=Value.ref q from ru)
    obtain ⟨ws,v2,t2⟩:=T h2
    simp [D.eq] at h;subst h
    exact ⟨SeqAt.RcAt.list_tuple t1 t2 hu,SeqAt.EqAt.list_tuple t1 t2 hu,SeqAt.RcNeAt.list_tuple t1 t2 hu⟩
   | @lst q ys es h2 r2 =>
    cases (show u=Value.ref q from ru)
    obtain ⟨ws,v2,t2⟩:=L h2
    rw [D.eq] at h
    have hb:=(Qdg ds es b h).2
    have l1:=r1.length
    have l2:=r2.length
    have l3:=v1.length
    have l4:=v2.length
    by_cases hz:ds.length=es.length
    ·have hi:=QiZ (A:=A.in1) I (by omega) hA1 (fun d e x y v u b hd rx ry rv ru h=>ih d e x y v u A.in1 b hd hA1 rx ry rv ru h) r1 r2 v1 v2 h
     have hr:=SeqAt.RcAt.lists t1 t2 (by simp only [List.size_toArray];omega) hu hi
     have hn:=SeqAt.RcNeAt.lists t1 t2 (by simp only [List.size_toArray];omega) hu hi
     have hb':b=((List.range us.toArray.size).all (eAt ds es)):=by
      rw [hb]
      simp only [List.size_toArray]
      rw [<- l3,l1,hz,Nat.min_self]
      simp
     rw [<- hb'] at hr hn
     refine Qff hr hn fun z=>?_
     subst z
     rw [h1] at h2;cases h2
     exact eqs_same r1 r2 h
    ·have hr:=SeqAt.RcAt.lists_lengths (A:=A) t1 t2 (by simp only [List.size_toArray,bne_iff_ne];omega) hu
     have hn:=SeqAt.RcNeAt.lists_lengths (A:=A) t1 t2 (by simp only [List.size_toArray,bne_iff_ne];omega) hu
     have hb':b=false:=by rw [hb];simp [hz]
     rw [hb']
     refine Qff hr hn fun z=>?_
     subst z
     rw [h1] at h2;cases h2
     omega
theorem Qi2 {dx dy:D} {b:Bool} (h:D.eq dx dy=some b) (ks:List Kd) (ds:List D):dx≠.dic ks ds:=by
 rintro rfl
 cases dy<;>simp [D.eq] at h
theorem Qi1 {dx dy:D} {b:Bool} (h:D.eq dx dy=some b) (ks:List Kd) (ds:List D):dy≠.dic ks ds:=by
 rintro rfl
 cases dx<;>simp [D.eq] at h
def QlA (X:Cx) (g:Bool->Bool):R2:=fun x y H Q=>∃ F dx dy b,Sm F H/\RdD X.K F H x dx/\RdD X.K F H y dy/\dx.dep<=40/\D.eq dx dy=some b/\Q (.bl (g b)) H
theorem Qs (hu:X.A.units+64<cLine):OpR X (compareOp .Eq) (QlA X id)/\Op2 X (QlA X id) D.eqO:=by
 refine ⟨fun pins s σ H x y v u Q I rx ry ⟨F,dx,dy,b,sm,r1,r2,hd,h,q⟩=>?_,fun F H x y dx dy d Q sm rx ry e k=>?_⟩
 ·have:=(Qlb I 40 dx dy x y v u X.A b hd (by omega) (r1.rep sm (Qi2 h)) (r2.rep sm (Qi1 h)) rx ry h).1
  exact this X.prog X.w X.xe _ ⟨.bl b,H,I,rfl,q⟩
 ·simp only [D.eqO] at e
  split at e
  ·rename_i hd
   obtain ⟨b,e1,rfl⟩:=J8 e
   exact ⟨F,dx,dy,b,sm,rx,ry,hd,e1,k _ F H (.refl sm) (.bl b)⟩
  ·cases e
theorem Yq (hu:X.A.units+64<cLine):OpR X (compareOp .NotEq) (QlA X (!·))/\Op2 X (QlA X (!·)) D.neO:=by
 refine ⟨fun pins s σ H x y v u Q I rx ry ⟨F,dx,dy,b,sm,r1,r2,hd,h,q⟩=>?_,fun F H x y dx dy d Q sm rx ry e k=>?_⟩
 ·have:=(Qlb I 40 dx dy x y v u X.A b hd (by omega) (r1.rep sm (Qi2 h)) (r2.rep sm (Qi1 h)) rx ry h).2.2
  exact this X.prog X.w X.xe _ ⟨.bl (!b),H,I,rfl,q⟩
 ·simp only [D.neO] at e
  split at e
  ·rename_i hd
   obtain ⟨b,e1,rfl⟩:=J8 e
   exact ⟨F,dx,dy,b,sm,rx,ry,hd,e1,k _ F H (.refl sm) (.bl (!b))⟩
  ·cases e
end
end Wd
namespace Wd
open PySem PySem.Spec PyProof.Rows L2
theorem QoX (A:Around) (s:Shared) (a:Int) (t:Tok) (c:Int) (u:Tok) (prog:Program) (w:World) (E:Value->Shared->Prop) (Q:Value->Shared->Prop) (h:Q (.bool (decide (a<=c))) s) :
  wpAny (model prog w) A (richCompare .LtE (.int a t) (.int c u)) Q E s :=
 (PyProof.Rows.le_int h:wpAny (model prog w) A (compareOp .LtE (.int a t) (.int c u)) Q E s)
section
open PySem.SeqAt
open PySem.AutoSeq1 (wpAny_loadPart')
open PySem.MeetsSeq PySem.MeetsSeq2 PySem.MeetsSeq3
theorem Qmi (x y:Int) (xs ys:List Int):VF (x::xs) (y::ys)=if x=y then VF xs ys else decide (x<y):=rfl
theorem QhP (l b:Addr) (items items2:Array Value) (n n2:Nat) (dd dd2:Option Addr) (sl sl2:Array (Option Value)) (ns ms:List Int) (hi:IntsAre items.toList ns) (hj:IntsAre items2.toList ms) :
  Meets (Builtin.«tuple.__le__» ⟨[.ref l,.ref b],[]⟩)
   (fun _ R s=>s.heap.get? l=some { cls:=.type "tuple",dict:=dd,data:=.seq items n,slots:=sl }/\s.heap.get? b=some { cls:=.type "tuple",dict:=dd2,data:=.seq items2 n2,slots:=sl2 } /\
    R (.ok (.ret (.bool (VF ns ms)))) s) :=
 .of_wp fun prog w A R s h=>by
  obtain ⟨hp,g,d,tk,os⟩:=s;obtain ⟨hl,hb,h⟩:=h
  have f2:=AutoSeq1.sub_tuple_tuple
  have z1:items.size=ns.length:=by rw [<- hi.length];simp
  have z2:items2.size=ms.length:=by rw [<- hj.length];simp
  wp_walk using wpAny_loadPart' hl,wpAny_loadPart' hb,wpAny_forIn_list _ (fun Ji b s'=>b.1=none/\s'=⟨hp,g,d,tk,os⟩/\∃ (vs ws:List Value) (ns' ms':List Int),Ji=vs.zip ws /\
   IntsAre vs ns'/\IntsAre ws ms'/\ns'.length+items2.size=ms'.length+items.size/\R (.ok (.ret (.bool (VF ns' ms')))) ⟨hp,g,d,tk,os⟩) _
  case turn =>
   rintro ⟨y,x⟩ Ji b s' ⟨hb',rfl,vs,ws,ns',ms',hz,hvi,hwi,hlen,hR⟩
   cases hvi with
   | nil=>rw [List.zip_nil_left] at hz;cases hz
   | cons a t hvi' =>
    cases hwi with
    | nil=>rw [List.zip_nil_right] at hz;cases hz
    | cons c u hwi' =>
     rw [List.zip_cons_cons] at hz
     injection hz with hyx hrest
     injection hyx with hy hx
     subst hy hx
     rw [Qmi] at hR
     simp only [List.length_cons] at hlen
     obtain ⟨e,he,hiff⟩:=HT.eqAt_int A.in1 ⟨hp,g,d,tk,os⟩ a t c u
     refine wpAny_bind (he prog w _ _ ?_)
     cases e with
     | true =>
      rw [if_pos (hiff.mp rfl)] at hR
      wp_walk
      exact ⟨rfl,rfl,_,_,_,_,hrest,hvi',hwi',by omega,hR⟩
     | false =>
      have hac:a≠c:=fun q=>absurd (hiff.mpr q) Bool.false_ne_true
      rw [if_neg hac] at hR
      have hd:decide (a<c)=decide (a<=c):=by
       by_cases z:a<c
       ·rw [decide_eq_true z,decide_eq_true (by omega)]
       ·rw [decide_eq_false z,decide_eq_false (by omega)]
      rw [hd] at hR
      have hri:=QoX A.in1 ⟨hp,g,d,tk,os⟩ a t c u prog w
      wp_walk using hri
      exact ⟨_,rfl,by simpa using hR⟩
  case fin =>
   rintro ⟨b1,b2⟩ s' ⟨hb',rfl,vs,ws,ns',ms',hz,hvi,hwi,hlen,hR⟩
   simp only at hb'
   subst hb'
   have hv:VF ns' ms'=decide (items.size<=items2.size):=by
    cases hvi with
    | nil =>
     simp only [List.length_nil] at hlen
     show true=_
     exact (decide_eq_true (by omega)).symm
    | cons a t hv =>
     cases hwi with
     | nil =>
      simp only [List.length_nil,List.length_cons] at hlen
      show false=_
      exact (decide_eq_false (by omega)).symm
     | cons c u hw =>
      rw [List.zip_cons_cons] at hz
      cases hz
   rw [hv] at hR
   wp_walk
   exact ⟨_,rfl,by simpa [Builtin.Tuple.tupleCompareSizes] using hR⟩
  case h =>
   exact ⟨rfl,rfl,items.toList,items2.toList,ns,ms,rfl,hi,hj,by omega,h⟩
end
theorem Qmj {prog:Program} {w:World} {A:Around} {E:Value->Shared->Prop} {s:Shared} {l b:Addr} {items items2:Array Value} {ns ms:List Int} {Q:Value->Shared->Prop} (hl:IsTup s.heap l items) (hb:IsTup s.heap b items2) (hi:IntsAre items.toList ns) (hj:IntsAre items2.toList ms)
  (hu:A.units<cLine) (h:Q (.bool (VF ns ms)) s):wpAny (model prog w) A (compareOp .LtE (.ref l) (.ref b)) Q E s:=by
 obtain ⟨⟨cls,dd,data,sl⟩,ho,hc,n,hd⟩:=id hl
 obtain ⟨⟨cls2,dd2,data2,sl2⟩,ho2,hc2,n2,hd2⟩:=id hb
 simp only at hc hd hc2 hd2
 subst hc hd hc2 hd2
 exact richCompare_meets_room (op:=.LtE) ⟨_,ho,rfl⟩ ⟨_,ho2,rfl⟩ PySem.F.slot_tuple_le PySem.F.entry_tuple_le (PySem.F.args_tuple_le_2 _ _) (QhP l b items items2 n n2 dd dd2 sl sl2 ns ms hi hj)
  ⟨ho,ho2,show Value.bool (VF ns ms)≠Value.notImplemented/\Q (.bool (VF ns ms)) s from ⟨(fun x=>nomatch x),h⟩⟩ hu
section
variable {X:Cx} {O:List Nat} {e a b c:Expr} {pos:Pos}
def Qoz (K:Fg):R2:=fun x y H Q=>∃ a b ns ms,x=.ref a/\y=.ref b/\SqT K H a (ns.map V.int)/\SqT K H b (ms.map V.int)/\Q (.bl (VF ns ms)) H
theorem Qr9 (hu:X.A.units<cLine):OpR X (compareOp .LtE) (Qoz X.K):=by
 intro pins s σ H x y v u Q I rx ry h
 obtain ⟨a,b,ns,ms,rfl,rfl,ha,hb,q⟩:=h
 cases rx
 cases ry
 obtain ⟨its,r1,p1,_⟩:=I.tuple ha
 obtain ⟨its2,r2,p2,_⟩:=I.tuple hb
 have i1:IntsAre its.toArray.toList ns:=Qf3 r1
 have i2:IntsAre its2.toArray.toList ms:=Qf3 r2
 exact Qmj p1 p2 i1 i2 hu ⟨.bl (VF ns ms),H,I,rfl,q⟩
theorem Va (hu:X.A.units<cLine):OpR X (compareOp .LtE) (fun x y H Q=>(rI0 fun i j=>.bl (decide (i<=j))) x y H Q\/Qoz X.K x y H Q)/\Op2 X (fun x y H Q=>(rI0 fun i j=>.bl (decide (i<=j))) x y H Q\/Qoz X.K x y H Q) D.le:=by
 refine ⟨OpR.or Qtb (Qr9 hu),fun F H x y dx dy d Q s rx ry e k=>?_⟩
 cases dx<;>cases dy<;>try (simp [D.le] at e;done)
 case int.int i j =>
  cases e
  exact .inl ⟨i,j,rx.int,ry.int,k _ F H (.refl s) (.bl _)⟩
 case tup.tup xs ys =>
  simp only [D.le] at e
  split at e
  ·rename_i na nb e1 e2
   cases e
   obtain ⟨p,us,rfl,h1,r1⟩:=rx.tup
   obtain ⟨q,ws,rfl,h2,r2⟩:=ry.tup
   have z1:=r1.intsOf e1
   have z2:=r2.intsOf e2
   subst z1 z2
   exact .inr ⟨p,q,na,nb,rfl,rfl,SqT.of (s _ _ h1),SqT.of (s _ _ h2),k _ F H (.refl s) (.bl _)⟩
  ·cases e
theorem QtO {ev:EvE} {σ:L2.St} {H:Hp} {Q:Bool->Hp->Prop} (h:tDT X O ev σ H Q):tD X O ev σ H fun x H'=>∃ k,x=.bl k/\Q k H':=by
 obtain ⟨F0,F,en,b,rs,w,k⟩:=h
 refine ⟨F0,F,en,.bl b,rs,w,fun v F' H' g r=>?_⟩
 cases r
 exact ⟨b,rfl,k F' H' g⟩
theorem QtI {ev:EvE} {σ:L2.St} {H:Hp} {Q:Bool->Hp->Prop} (h:tDT X O ev σ H Q):tR X O ev σ H fun x H'=>∃ k,x=.bl k/\Q k H':=by
 obtain ⟨F0,F,en,b,rs,w,k⟩:=h
 refine ⟨F0,F,en,.bl b,rs,w,fun v F' H' g r=>?_⟩
 exact ⟨b,r.bl,k F' H' g⟩
theorem Qh {op:CmpOp} {r:R2} {g:D->D->Option D} {ea eb:EvE} (ho:OpR X (compareOp op) r/\Op2 X r g) (ha:PE X a (tR X O ea)) (hb:PE X b (tR X O eb)) (hm:behindInMarks op b=false):PT X (.Compare a [op] [b] pos) (tDT X O (eOp g ea eb)) :=
 PT.imp (Qqv ho.1 ha hb hm) fun σ H Q h=>Qh5 ho.2 (QtO h)
theorem Jk {ev:EvE} (h:PE X e (tR X O ev)) (he:∀ whole,isTrue e X.env whole=(do let v <- whole;standAt e.pos;holding [v] (truthy v)):=by intro _;rfl):PT X e (tDT X O ev) :=
 PT.imp (QrS h he) fun σ H Q h=>QtI h
theorem YB {α:Type} {o:Option D} {x y:Option α} {r:α} (h:ifO o x y=some r):∃ c,o=some (.bl c)/\(if c=true then x else y)=some r:=by
 cases o with
 | none=>cases h
 | some d=>cases d with
  | bl c=>exact ⟨c,rfl,h⟩
  | _=>cases h
theorem tDT.of {ev:EvE} {F0:Fz} {F:Hp} {en:Qr} {σ:L2.St} {H:Hp} {Q:Bool->Hp->Prop} {b:Bool} (rs:RS X.K X.H₀ F0 F H σ en O) (w:ev en=some (.bl b)) (k:∀ F' H',Gr F H F' H'->Q b H'):tDT X O ev σ H Q:=⟨F0,F,en,b,rs,w,k⟩
theorem Qtz {ea eb:EvE} {σ:L2.St} {H:Hp} {Q:Bool->Hp->Prop} (h:tDT X O (QG ea eb) σ H Q):Qru (tDT X O ea) (tDT X O eb) σ H Q:=by
 obtain ⟨F0,F,en,b,rs,w,k⟩:=h
 obtain ⟨c,e1,e2⟩:=YB w
 refine ⟨F0,F,en,c,rs,e1,fun F1 H1 g1=>?_⟩
 cases c with
 | true=>exact QdU (.of (rs.grow g1) e2 fun F' H' g=>k F' H' (g1.trans g))
 | false=>cases e2;exact QdV (k F1 H1 g1)
theorem QtX {ea eb:EvE} {σ:L2.St} {H:Hp} {Q:Bool->Hp->Prop} (h:tDT X O (eOr ea eb) σ H Q):tOr (tDT X O ea) (tDT X O eb) σ H Q:=by
 obtain ⟨F0,F,en,b,rs,w,k⟩:=h
 obtain ⟨c,e1,e2⟩:=YB w
 refine ⟨F0,F,en,c,rs,e1,fun F1 H1 g1=>?_⟩
 cases c with
 | true=>cases e2;exact QdU (k F1 H1 g1)
 | false=>exact QdV (.of (rs.grow g1) e2 fun F' H' g=>k F' H' (g1.trans g))
theorem JG {ev:EvE} {op} (h:PT X a (tDT X O ev)):PW X (.BoolOp op [a] pos) (tDT X O ev):=by
 cases op
 ·exact Qqt h
 ·exact QrQ h
theorem ZK {Ji:List Expr} {ea eb:EvE} (ha:PT X a (tDT X O ea)) (hb:PW X (.BoolOp .And (b::Ji) pos) (tDT X O eb)):PW X (.BoolOp .And (a::b::Ji) pos) (tDT X O (QG ea eb)) :=
 PW.imp (QrR ha hb) fun σ H Q h=>Qtz h
theorem Y3 {Ji:List Expr} {ea eb:EvE} (ha:PT X a (tDT X O ea)) (hb:PW X (.BoolOp .Or (b::Ji) pos) (tDT X O eb)):PW X (.BoolOp .Or (a::b::Ji) pos) (tDT X O (eOr ea eb)) :=
 PW.imp (Qs4 ha hb) fun σ H Q h=>QtX h
theorem Vv {ev:EvE} (ha:PT X a (tDT X O ev)):PT X (.UnaryOp .Not a pos) (tDT X O (Q1 ev)) :=
 PT.imp (QrU ha) fun σ H Q ⟨F0,F,en,b,rs,w,k⟩=>by
  have w':Qe1 (ev en)=some (.bl b):=w
  cases q:ev en with
  | none=>rw [q] at w';cases w'
  | some d =>
   rw [q] at w'
   cases d with
   | bl c=>cases w';exact ⟨F0,F,en,c,rs,q,k⟩
   | _=>cases w'
theorem Qbx {ev:EvE} {op} (h:PE X a (tD X O ev)):PE X (.BoolOp op [a] pos) (tD X O ev):=Qr0 h
theorem QcC {Ji:List Expr} {ea eb:EvE} (ha:PE X a (tR X O ea)) (hb:PE X (.BoolOp .And (b::Ji) pos) (tD X O eb)):PE X (.BoolOp .And (a::b::Ji) pos) (tD X O (QG ea eb)) :=
 PE.imp (Qr3 ha hb) fun σ H Q ⟨F0,F,en,d,rs,w,k⟩=>by
  obtain ⟨c,e1,e2⟩:=YB w
  refine ⟨F0,F,en,.bl c,rs,e1,fun v F1 H1 g1 r1=>⟨c,r1.bl,?_⟩⟩
  cases c with
  | true=>exact QdU ⟨F0,F1,en,d,rs.grow g1,e2,fun v F' H' g r=>k v F' H' (g1.trans g) r⟩
  | false=>cases e2;exact QdV (k _ F1 H1 g1 (.bl _))
theorem Qtt {Ji:List Expr} {ea eb:EvE} (ha:PE X a (tR X O ea)) (hb:PE X (.BoolOp .Or (b::Ji) pos) (tD X O eb)):PE X (.BoolOp .Or (a::b::Ji) pos) (tD X O (eOr ea eb)) :=
 PE.imp (Qs7 ha hb) fun σ H Q ⟨F0,F,en,d,rs,w,k⟩=>by
  obtain ⟨c,e1,e2⟩:=YB w
  refine ⟨F0,F,en,.bl c,rs,e1,fun v F1 H1 g1 r1=>⟨c,r1.bl,?_⟩⟩
  cases c with
  | true=>cases e2;exact QdU (k _ F1 H1 g1 (.bl _))
  | false=>exact QdV ⟨F0,F1,en,d,rs.grow g1,e2,fun v F' H' g r=>k v F' H' (g1.trans g) r⟩
theorem QsM {ev:EvE} (ha:PE X a (tR X O ev)):PE X (.UnaryOp .Not a pos) (tD X O (Q1 ev)) :=
 PE.imp (Qr1 ha) fun σ H Q ⟨F0,F,en,d,rs,w,k⟩=>by
  have w':Qe1 (ev en)=some d:=w
  cases q:ev en with
  | none=>rw [q] at w';cases w'
  | some x =>
   rw [q] at w'
   cases x with
   | bl c=>cases w';exact ⟨F0,F,en,.bl c,rs,q,fun v F' H' g r=>⟨c,r.bl,k _ F' H' g (.bl _)⟩⟩
   | _=>cases w'
theorem Qic {ec ea eb:EvE} (hc:PT X c (tDT X O ec)) (ha:PE X a (tD X O ea)) (hb:PE X b (tD X O eb)):PE X (.IfExp c a b pos) (tD X O (eIf ec ea eb)) :=
 PE.imp (Qo2 hc ha hb) fun σ H Q ⟨F0,F,en,d,rs,w,k⟩=>by
  obtain ⟨c,e1,e2⟩:=YB w
  refine ⟨F0,F,en,c,rs,e1,fun F1 H1 g1=>?_⟩
  cases c with
  | true=>exact QdU ⟨F0,F1,en,d,rs.grow g1,e2,fun v F' H' g r=>k v F' H' (g1.trans g) r⟩
  | false=>exact QdV ⟨F0,F1,en,d,rs.grow g1,e2,fun v F' H' g r=>k v F' H' (g1.trans g) r⟩
theorem QfP {ev:EvE} (ha:PE X a (tR X O ev)):PE X (.UnaryOp .USub a pos) (tD X O (eUn D.neg ev)) :=
 PE.imp (Qs6 QrB ha) fun σ H Q ⟨F0,F,en,d,rs,w,k⟩=>by
  obtain ⟨x,e1,e2⟩:=Q8 w
  cases x with
  | int i=>cases e2;exact ⟨F0,F,en,.int i,rs,e1,fun v F' H' g r=>⟨i,r.int,k _ F' H' g (.int _)⟩⟩
  | _=>cases e2
theorem Qrp {g g':D->D->Option D} {r r':R2} {ea eb ec:EvE} (ho:Op2 X r g) (ho':Op2 X r' g') {σ:L2.St} {H:Hp} {Q:VK} (h:tD X O (JF g g' ea eb ec) σ H Q):QmP r r' (tR X O ea) (tR X O eb) (tR X O ec) σ H Q:=by
 obtain ⟨F0,F,en,d,rs,w,k⟩:=h
 obtain ⟨dx,dy,e1,e2,e3⟩:=QaK w
 obtain ⟨c,e4,e5⟩:=YB e3
 refine ⟨F0,F,en,dx,rs,e1,fun x F1 H1 g1 r1=>?_⟩
 refine ⟨F0,F1,en,dy,rs.grow g1,e2,fun y F2 H2 g2 r2=>?_⟩
 refine ho F2 H2 x y dx dy (.bl c) _ g2.fh (r1.gr g2) r2 e4 fun v F3 H3 g3 r3=>?_
 cases r3
 refine ⟨c,rfl,?_⟩
 have g13:=(g1.trans g2).trans g3
 cases c with
 | true =>
  obtain ⟨dz,e6,e7⟩:=Q8 e5
  refine QdU ⟨F0,F3,en,dz,rs.grow g13,e6,fun z F4 H4 g4 r4=>?_⟩
  exact ho' F4 H4 y z dy dz d _ g4.fh ((r2.gr g3).gr g4) r4 e7 fun v F' H' g5 r5=>k v F' H' ((g13.trans g4).trans g5) r5
 | false=>cases e5;exact QdV (k _ F3 H3 g13 (.bl _))
theorem Qi6 {op op':CmpOp} {g g':D->D->Option D} {r r':R2} {ea eb ec:EvE} (ho:OpR X (compareOp op) r/\Op2 X r g) (ho':OpR X (compareOp op') r'/\Op2 X r' g') (ha:PE X a (tR X O ea)) (hb:PE X b (tR X O eb)) (hc:PE X c (tR X O ec)) (hm:lastMarks [op,op'] [b,c]=false:=by with_unfolding_all rfl) :
  PE X (.Compare a [op,op'] [b,c] pos) (tD X O (JF g g' ea eb ec)):=PE.imp (Qo4 ho.1 ho'.1 ha hb hc hm) fun σ H Q h=>Qrp ho.2 ho'.2 h
theorem Dz:PA X [] (tL X O lN):=PA.imp Qbs fun σ H Q ⟨F0,F,en,ds,rs,w,k⟩=>by cases w;exact k [] F H (.refl rs.fh) .nil
theorem Vp {es:List Expr} {ea:EvE} {l:EvL} (ha:PE X a (tD X O ea)) (hr:PA X es (tL X O l)) (hs:starEach (a::es) X.env=(false,eval a X.env)::starEach es X.env:=by rfl):PA X (a::es) (tL X O (lC ea l)) :=
 PA.imp (ZY ha hr hs) fun σ H Q ⟨F0,F,en,ds,rs,w,k⟩=>by
  obtain ⟨d,e1,e2⟩:=Q8 w
  obtain ⟨ds',e3,rfl⟩:=J8 e2
  refine ⟨F0,F,en,d,rs,e1,fun v F1 H1 g1 r1=>?_⟩
  exact ⟨F0,F1,en,ds',rs.grow g1,e3,fun vs F2 H2 g2 r2=>k (v::vs) F2 H2 (g1.trans g2) (.cons (r1.mono g2.ff) r2)⟩
theorem QbM:∀ (e:Qr) (d:List D),lN e=some d->d.length<=0:=fun e d h=>by cases h;exact Nat.le_refl 0
theorem ZO {n:Nat} {ea:EvE} {l:EvL} (h:∀ (e:Qr) (d:List D),l e=some d->d.length<=n):∀ (e:Qr) (d:List D),lC ea l e=some d->d.length<=n+1:=fun e d w=>by
 obtain ⟨x,e1,e2⟩:=Q8 w
 obtain ⟨ds,e3,rfl⟩:=J8 e2
 exact Nat.succ_le_succ (h e ds e3)
theorem Qu {es:List Expr} {l:EvL} {x1} (h:PA X es (tL X O l)) (hz:∀ (e:Qr) (d:List D),l e=some d->d.length<=lI):PE X (.Tuple es x1 pos) (tD X O (Qn l)) :=
 PE.imp (QrY h) fun σ H Q ⟨F0,F,en,d,rs,w,k⟩=>by
  obtain ⟨ds,e1,rfl⟩:=J8 w
  refine ⟨F0,F,en,ds,rs,e1,fun vs F1 H1 g1 r1=>⟨by rw [r1.length,Z0];exact hz en ds e1,fun p hp=>?_⟩⟩
  have g:=Gr.new g1.fh hp (.tup vs)
  exact k _ _ _ (g1.trans g) (.tup Q7 (r1.mono g.ff))
theorem Jc {es:List Expr} {l:EvL} (h:PA X es (tL X O l)) (hz:∀ (e:Qr) (d:List D),l e=some d->d.length<=lI):PE X (.List es pos) (tD X O (Qo l)) :=
 PE.imp (QmX h) fun σ H Q ⟨F0,F,en,d,rs,w,k⟩=>by
  obtain ⟨ds,e1,rfl⟩:=J8 w
  refine ⟨F0,F,en,ds,rs,e1,fun vs F1 H1 g1 r1=>⟨by rw [r1.length,Z0];exact hz en ds e1,fun p hp=>?_⟩⟩
  have g:=Gr.new g1.fh hp (.lst vs)
  exact k _ _ _ (g1.trans g) (.lst Q7 (r1.mono g.ff))
theorem ZQ {es:List Expr} {l:EvL} (h:PA X es (tL X O l)) (hz:∀ (e:Qr) (d:List D),l e=some d->d.length<=lI):PE X (.List es pos) (tO X O (Qo l)) :=
 PE.imp (QmX h) fun σ H Q ⟨F0,F,en,d,rs,w,k⟩=>by
  obtain ⟨ds,e1,rfl⟩:=J8 w
  refine ⟨F0,F,en,ds,rs,e1,fun vs F1 H1 g1 r1=>⟨by rw [r1.length,Z0];exact hz en ds e1,fun p hp=>?_⟩⟩
  have g:=Gr.newO g1.fh hp (.lst vs)
  exact k p none vs ds F1 _ (g1.trans g) (g1.hh.none hp) (g1.fh.none hp) Q7 r1 rfl trivial
theorem Vo:PO X none (tOI X O oNo):=fun pins s σ H Q I ⟨F0,F,en,o,rs,w,k⟩=>by
 cases w
 exact Qqz pins s σ H Q I (k F H (.refl rs.fh))
theorem Ys {ev:EvE} (h:PE X e (tR X O ev)):PO X (some e) (tOI X O (oAt ev)):=fun pins s σ H Q I ⟨F0,F,en,o,rs,w,k⟩=>by
 obtain ⟨d,e1,e2⟩:=Q8 w
 cases d with
 | int i=>cases e2;exact Qqy h pins s σ H Q I ⟨F0,F,en,.int i,rs,e1,fun v F' H' g r=>⟨i,r.int,k F' H' g⟩⟩
 | _=>cases e2
theorem Qfl {K:Fg} {F:Hp} {xs:List V} {ds:List D} (r:Reps K F xs ds) (lo hi:Option Int):Reps K F (Qa4 xs lo hi) (Zf ds lo hi):=by
 unfold Qa4 Zf
 rw [r.length]
 exact (r.drop _).take _
def C1 (X:Cx) (r:List V->Hp->VK->Prop) (g:D->Option D):Prop:=∀ (F H:Hp) (x:V) (dx d:D) (Q:VK),Sm F H->RdD X.K F H x dx->g dx=some d->(∀ v F' H',Gr F H F' H'->Rep X.K F' v d->Q v H')->r [x] H Q
theorem QgA {ev:EvE} (ha:PE X a (tR X O ev)) (hs:starEach [a] X.env=[(false,eval a X.env)]:=by rfl):PA X [a] (QpU (tR X O ev) Qrt):=ZY ha Qbs hs
theorem QV {id:String} {x:Str} {p:Pos} {r:List V->Hp->VK->Prop} {g:D->Option D} {ev:EvE} (hc:CallR X (.builtin id) r/\C1 X r g) (hg:Gl X x) (hm:X.mg x=none) (hv:bootBuiltins x=some (.builtin id)) (ha:PE X a (tR X O ev)) (hn:x≠"__name__":=by decide) (hdb:(x==("__debug__":Str))=false:=by decide)
  (he:starEach [a] X.env=[(false,eval a X.env)]:=by rfl):PE X (.Call (.Name x p) [a] [] pos) (tD X O (eUn g ev)) :=
 PE.imp (Qfg hc.1 hg hm hv (QgA ha he) hn hdb he rfl) fun σ H Q ⟨F0,F,en,d,rs,w,k⟩=>by
  obtain ⟨dx,e1,e2⟩:=Q8 w
  exact ⟨F0,F,en,dx,rs,e1,fun v F' H' g r=>hc.2 F' H' v dx d Q g.fh r e2 fun v2 F2 H2 g2 r2=>k v2 F2 H2 (g.trans g2) r2⟩
theorem QfO {T:String} {x:Str} {p:Pos} {r:List V->Hp->VK->Prop} {g:D->Option D} {ev:EvE} (hc:CallR X (.type T) r/\C1 X r g) (hg:Gl X x) (hm:X.mg x=none) (hv:bootBuiltins x=some (.type T)) (ha:PE X a (tR X O ev)) (hn:x≠"__name__":=by decide) (hdb:(x==("__debug__":Str))=false:=by decide)
  (he:starEach [a] X.env=[(false,eval a X.env)]:=by rfl):PE X (.Call (.Name x p) [a] [] pos) (tD X O (eUn g ev)) :=
 PE.imp (Qhg hc.1 hg hm hv (QgA ha he) hn hdb he rfl) fun σ H Q ⟨F0,F,en,d,rs,w,k⟩=>by
  obtain ⟨dx,e1,e2⟩:=Q8 w
  exact ⟨F0,F,en,dx,rs,e1,fun v F' H' g r=>hc.2 F' H' v dx d Q g.fh r e2 fun v2 F2 H2 g2 r2=>k v2 F2 H2 (g.trans g2) r2⟩
theorem Qw:CallR X (.builtin "len") (fun xs H Q=>(∃ p ys,xs=[.ref p]/\(SqL X.K H p ys\/SqT X.K H p ys)/\Q (.int ys.length) H)\/∃ z,xs=[.str z]/\z.length<=sizeLine/\Q (.int z.length) H) /\
  C1 X (fun xs H Q=>(∃ p ys,xs=[.ref p]/\(SqL X.K H p ys\/SqT X.K H p ys)/\Q (.int ys.length) H)\/∃ z,xs=[.str z]/\z.length<=sizeLine/\Q (.int z.length) H) D.len:=by
 refine ⟨CallR.or QjZ QjY,fun F H x dx d Q s rx e k=>?_⟩
 cases dx with
 | str z =>
  simp only [D.len] at e
  split at e
  ·rename_i hz
   cases e
   exact .inr ⟨z,by rw [rx.str],by rw [Z0];exact hz,k _ F H (.refl s) (.int _)⟩
  ·cases e
 | tup ds =>
  cases e
  obtain ⟨p,xs,rfl,h,r⟩:=rx.tup
  exact .inl ⟨p,xs,rfl,.inr (SqT.of (s _ _ h)),by rw [r.length];exact k _ F H (.refl s) (.int _)⟩
 | lst ds =>
  cases e
  obtain ⟨p,xs,rfl,h,r⟩:=rx.lst s
  exact .inl ⟨p,xs,rfl,.inl (SqL.of h),by rw [r.length];exact k _ F H (.refl s) (.int _)⟩
 | scr ns =>
  cases e
  obtain ⟨p,rfl,h⟩:=rx.scr
  exact .inl ⟨p,_,rfl,.inl (s.sqL h),by rw [List.length_map];exact k _ F H (.refl s) (.int _)⟩
 | _=>cases e
theorem log2_lt {n:Nat} (h:n<2^1900):n.log2<1920:=by
 by_cases z:n=0
 ·subst z;decide
 ·have:=(Nat.log2_lt z (k:=1900)).mpr h
  omega
theorem QhC:CallR X (.type "str") (fun xs H Q=>∃ i,xs=[.int i]/\i.natAbs.log2<1920/\Q (.str (toString i)) H)/\C1 X (fun xs H Q=>∃ i,xs=[.int i]/\i.natAbs.log2<1920/\Q (.str (toString i)) H) D.strI:=by
 refine ⟨QjW,fun F H x dx d Q s rx e k=>?_⟩
 cases dx with
 | int i =>
  simp only [D.strI] at e
  split at e
  ·rename_i hz
   cases e
   exact ⟨i,by rw [rx.int],log2_lt hz,k _ F H (.refl s) (.str _)⟩
  ·cases e
 | _=>cases e
theorem QhD:CallR X (.type "int") (fun xs H Q=>(∃ i,xs=[.int i]/\Q (.int i) H)\/∃ k,xs=[.bl k]/\Q (.int (if k then 1 else 0)) H)/\C1 X (fun xs H Q=>(∃ i,xs=[.int i]/\Q (.int i) H)\/∃ k,xs=[.bl k]/\Q (.int (if k then 1 else 0)) H) D.intB:=by
 refine ⟨Qor,fun F H x dx d Q s rx e k=>?_⟩
 cases dx with
 | int i=>cases e;exact .inl ⟨i,by rw [rx.int],k _ F H (.refl s) (.int _)⟩
 | bl b=>cases e;exact .inr ⟨b,by rw [rx.bl],k _ F H (.refl s) (.int _)⟩
 | _=>cases e
def C2 (X:Cx) (r:List V->Hp->VK->Prop) (g:D->D->Option D):Prop:=∀ (F H:Hp) (x y:V) (dx dy d:D) (Q:VK),Sm F H->RdD X.K F H x dx->RdD X.K F H y dy->g dx dy=some d->(∀ v F' H',Gr F H F' H'->Rep X.K F' v d->Q v H')->r [x,y] H Q
theorem Qa9 {id:String} {x:Str} {p:Pos} {r:List V->Hp->VK->Prop} {g:D->D->Option D} {ea eb:EvE} (hc:CallR X (.builtin id) r/\C2 X r g) (hg:Gl X x) (hm:X.mg x=none) (hv:bootBuiltins x=some (.builtin id)) (ha:PE X a (tR X O ea)) (hb:PE X b (tR X O eb)) (hn:x≠"__name__":=by decide) (hdb:(x==("__debug__":Str))=false:=by decide)
  (he:starEach [a,b] X.env=[(false,eval a X.env),(false,eval b X.env)]:=by rfl) (he2:starEach [b] X.env=[(false,eval b X.env)]:=by rfl):PE X (.Call (.Name x p) [a,b] [] pos) (tD X O (eOp g ea eb)) :=
 PE.imp (Qfg hc.1 hg hm hv (ZY ha (QgA hb he2) (by rw [he,he2])) hn hdb (by rw [he,he2]) (by rw [he2];rfl)) fun σ H Q ⟨F0,F,en,d,rs,w,k⟩=>by
  obtain ⟨dx,dy,e1,e2,e3⟩:=QaK w
  refine ⟨F0,F,en,dx,rs,e1,fun v F1 H1 g1 r1=>?_⟩
  exact ⟨F0,F1,en,dy,rs.grow g1,e2,fun u F2 H2 g2 r2=>hc.2 F2 H2 v u dx dy d Q g2.fh (r1.gr g2) r2 e3 fun v3 F3 H3 g3 r3=>k v3 F3 H3 ((g1.trans g2).trans g3) r3⟩
theorem Z3 (hc:X.calm=true):CallR X (.builtin "max") (fun xs H Q=>∃ i j,xs=[.int i,.int j]/\Q (.int (if j > i then j else i)) H)/\C2 X (fun xs H Q=>∃ i j,xs=[.int i,.int j]/\Q (.int (if j > i then j else i)) H) D.max2:=by
 refine ⟨Qoq hc,fun F H x y dx dy d Q s rx ry e k=>?_⟩
 cases dx<;>cases dy<;>try (simp [D.max2] at e;done)
 case int.int i j=>cases e;exact ⟨i,j,by rw [rx.int,ry.int],k _ F H (.refl s) (.int _)⟩
def Qs3 (X:Cx) (T:String):List V->Hp->VK->Prop:=fun xs H Q=>∃ x t b,xs=[x,.ty T]/\TyOf X.K H x t/\PySem.W.kitOne X.K t (.type T)=some b/\Q (.bl b) H
theorem QmJ (T:String):CallR X (.builtin "isinstance") (Qs3 X T):=by
 intro pins s σ H xs us Q I r ⟨x,t,b,hx,ty,e,q⟩
 subst hx
 obtain ⟨u,w,rfl,rx,rw'⟩:=QpT r
 cases (show w=Value.type T from rw')
 exact QnZ I rx ty e fun tk=>⟨.bl b,H,I.tok tk,rfl,q⟩
def Kit (K:Fg) (T:String):Prop:=∀ d:D,(∀ ns,d≠.scr ns)->PySem.W.kitOne K (.type (tyD d)) (.type T)=some (decide (tyD d=T)||(decide (T="int")&&decide (tyD d="bool")))
theorem Qqc {F H:Hp} {x:V} {d:D} (s:Sm F H) (hd:∀ ns,d≠.scr ns) (r:RdD X.K F H x d):TyOf X.K H x (.type (tyD d)):=by
 cases d with
 | non=>rw [r.non];exact .non
 | bl b=>rw [r.bl];exact .bl b
 | int i=>rw [r.int];exact .int i
 | str z=>rw [r.str];exact .str z
 | tup ds=>obtain ⟨p,xs,rfl,h,_⟩:=r.tup;exact .tup (s _ _ h)
 | lst ds=>obtain ⟨p,xs,rfl,h,_⟩:=r.lst s;exact .lst h
 | dic ks ds=>obtain ⟨p,xs,rfl,h,_⟩:=r.dic s;rcases h with h | ⟨o,h⟩;exact .dK h;exact .frzD h
 | scr ns=>exact absurd rfl (hd ns)
theorem QcT {T:String} {x y:Str} {p p2:Pos} {ev:EvE} (kt:Kit X.K T) (hg:Gl X x) (hm:X.mg x=none) (hv:bootBuiltins x=some (.builtin "isinstance")) (hg2:Gl X y) (hm2:X.mg y=none) (hv2:bootBuiltins y=some (.type T)) (ha:PE X a (tR X O ev)) (hn:x≠"__name__":=by decide) (hdb:(x==("__debug__":Str))=false:=by decide)
  (hn2:y≠"__name__":=by decide) (hdb2:(y==("__debug__":Str))=false:=by decide)
  (he:starEach [a,.Name y p2] X.env=[(false,eval a X.env),(false,eval (.Name y p2) X.env)]:=by rfl) (he2:starEach [.Name y p2] X.env=[(false,eval (.Name y p2) X.env)]:=by rfl):PE X (.Call (.Name x p) [a,.Name y p2] [] pos) (tD X O (JJ T ev)) :=
 PE.imp (Qfg (QmJ T) hg hm hv (ZY ha (ZY (QqE hg2 hm2 hv2 (show RelV (.ty T) (.type T) from rfl) hn2 hdb2) Qbs he2) (by rw [he,he2])) hn hdb (by rw [he,he2]) (by rw [he2];rfl)) fun σ H Q ⟨F0,F,en,d,rs,w,k⟩=>by
  obtain ⟨dx,e1,e2⟩:=Q8 w
  have hs:(∀ ns,dx≠.scr ns)/\d=.bl (decide (tyD dx=T)||(decide (T="int")&&decide (tyD dx="bool"))):=by
   cases dx with
   | scr ns=>cases e2
   | _=>cases e2;exact ⟨(fun _ z=>nomatch z),rfl⟩
  refine ⟨F0,F,en,dx,rs,e1,fun v F1 H1 g1 r1=>?_⟩
  refine ⟨v,_,_,rfl,Qqc g1.fh hs.1 r1,kt dx hs.1,?_⟩
  rw [hs.2] at k
  exact k _ F1 H1 g1 (.bl _)
end
end Wd
namespace Wd
open PySem PySem.Spec PyProof.Rows L2
structure Ex (H₀:Hp) (F0:Fz) (F H:Hp):Prop where
 fh:Sm F H
 hh:Sm F0.h H
 ff:Sm F0.f F
 fr:∀ a o,F a=some o->F0.f a=some o\/F0.h a=none
theorem RS.ex {K:Fg} {H₀:Hp} {F0:Fz} {F H:Hp} {σ:L2.St} {e:Qr} {O:List Nat} (r:RS K H₀ F0 F H σ e O):Ex H₀ F0 F H:=⟨r.fh,r.hh,r.ff,r.fr⟩
theorem Ex.gr {H₀:Hp} {F0:Fz} {F H:Hp} (x:Ex H₀ F0 F H):Gr F0.f F0.h F H:=⟨x.ff,x.hh,x.fh,x.fr⟩
def Qt6 (K:Fg) (H₀ F H:Hp) (w:Bool) (v:V) (d:D):Prop :=
 if w=true then ∃ p k xs ds,v=.ref p/\H₀ p=none/\F p=none/\H p=some (ho k xs)/\Reps K F xs ds/\d=dOf k ds/\VX k xs else Rep K F v d
def FlOk (X:Cx) (O' OL:List Nat) (w:Bool) (F0:Fz) (F:Hp) (Dn:Ends):Fl->Prop
 | .nx e'=>∀ σ' F' H',Sm F F'->RS X.K X.H₀ F0 F' H' σ' e' O'->Dn.nx σ' H'
 | .bk e'=>∀ σ' F' H',Sm F F'->RS X.K X.H₀ F0 F' H' σ' e' OL->Dn.bk σ' H'
 | .ct e'=>∀ σ' F' H',Sm F F'->RS X.K X.H₀ F0 F' H' σ' e' OL->Dn.ct σ' H'
 | .rt d=>∀ v F' H',Ex X.H₀ F0 F' H'->Qt6 X.K F0.h F' H' w v d->Dn.rt v H'
def tS (X:Cx) (O O' OL:List Nat) (w:Bool) (b:EvS):TS:=fun Dn σ H=>∃ F0 F e fl,RS X.K X.H₀ F0 F H σ e O/\b e=some fl/\FlOk X O' OL w F0 F Dn fl
theorem FlOk.mono {X:Cx} {O' OL:List Nat} {w:Bool} {F0:Fz} {F F1:Hp} {Dn:Ends} {fl:Fl} (h:FlOk X O' OL w F0 F Dn fl) (s:Sm F F1):FlOk X O' OL w F0 F1 Dn fl:=by
 cases fl with
 | nx e=>exact fun σ' F' H' q r=>h σ' F' H' (s.trans q) r
 | bk e=>exact fun σ' F' H' q r=>h σ' F' H' (s.trans q) r
 | ct e=>exact fun σ' F' H' q r=>h σ' F' H' (s.trans q) r
 | rt d=>exact h
section
variable {X:Cx} {O O1 O2 O' OL:List Nat} {w:Bool} {st:Stmt} {Ji:List Stmt} {e:Expr} {pos:Pos}
theorem Sn:PSs X [] (tS X O O OL w sNx):=PSs.imp QgI fun Dn σ H ⟨F0,F,en,fl,rs,z,k⟩=>by
 cases z
 exact k σ F H (.refl _) rs
theorem So {b:EvS} (h:PS X st (tS X O O' OL w b)):PSs X [st] (tS X O O' OL w b):=Qqw h
theorem Ss {a b:EvS} (h1:PS X st (tS X O O1 OL w a)) (h2:PSs X Ji (tS X O1 O' OL w b)):PSs X (st::Ji) (tS X O O' OL w (sQ a b)) :=
 PSs.imp (QbC h1 h2) fun Dn σ H ⟨F0,F,en,fl,rs,z,k⟩=>by
  have z':Qbp (a en) b=some fl:=z
  cases q:a en with
  | none=>rw [q] at z';cases z'
  | some f1 =>
   rw [q] at z'
   refine ⟨F0,F,en,f1,rs,q,?_⟩
   cases f1 with
   | nx e1=>exact fun σ' F' H' s r=>⟨F0,F',e1,fl,r,z',k.mono s⟩
   | bk e1=>cases z';exact k
   | ct e1=>cases z';exact k
   | rt d=>cases z';exact k
theorem Qrb:PS X (.Continue pos) (tS X O O' O w ZM):=PS.imp Qki fun Dn σ H ⟨F0,F,en,fl,rs,z,k⟩=>by
 cases z
 exact k σ F H (.refl _) rs
theorem RS.exg {K:Fg} {H₀:Hp} {F0:Fz} {F H F' H':Hp} {σ:L2.St} {e:Qr} {O:List Nat} (r:RS K H₀ F0 F H σ e O) (g:Gr F H F' H'):Ex H₀ F0 F' H':=(r.grow g).ex
theorem Qm {ev:EvE} (h:PE X e (tD X O ev)):PS X (.Return (some e) pos) (tS X O O' OL false (Qk ev)):=PS.imp (QrV h) fun Dn σ H ⟨F0,F,en,fl,rs,z,k⟩=>by
 obtain ⟨d,e1,rfl⟩:=J8 z
 exact ⟨F0,F,en,d,rs,e1,fun v F' H' g r=>k v F' H' (rs.exg g) r⟩
theorem Qle {ev:EvE} (h:PE X e (tD X O ev)) (hs:swapsWith e none pos.line X.env=pure false:=by rfl):PS X (.Expr e pos) (tS X O O OL w (J4 ev)):=PS.imp (QcH h hs) fun Dn σ H ⟨F0,F,en,fl,rs,z,k⟩=>by
 obtain ⟨d,e1,rfl⟩:=J8 z
 exact ⟨F0,F,en,d,rs,e1,fun v F' H' g r=>k σ F' H' g.ff (rs.grow g)⟩
theorem Qt {c:Expr} {a b:List Stmt} {ec:EvE} {ea eb:EvS} (hc:PT X c (tDT X O ec)) (ha:PSs X a (tS X O O' OL w ea)) (hb:PSs X b (tS X O O' OL w eb)):PS X (.If c a b pos) (tS X O O' OL w (sIf ec ea eb)) :=
 PS.imp (QpZ hc ha hb) fun Dn σ H ⟨F0,F,en,fl,rs,z,k⟩=>by
  obtain ⟨c,e1,e2⟩:=YB z
  refine ⟨F0,F,en,c,rs,e1,fun F1 H1 g1=>?_⟩
  cases c with
  | true=>exact QdU ⟨F0,F1,en,fl,rs.grow g1,e2,k.mono g1.ff⟩
  | false=>exact QdV ⟨F0,F1,en,fl,rs.grow g1,e2,k.mono g1.ff⟩
def dl (i:Nat) (O:List Nat):List Nat:=O.filter fun j=>!(j==i)
def ad (i:Nat) (O:List Nat):List Nat:=O.filter (fun j=>decide (j<i))++i::O.filter (fun j=>decide (i<j))
theorem mem_dl {i j:Nat}:j∈dl i O↔j∈O/\j≠i:=by unfold dl;simp
theorem mem_ad {i j:Nat}:j∈ad i O↔j=i\/j∈O:=by
 unfold ad
 simp only [List.mem_append,List.mem_filter,List.mem_cons,decide_eq_true_eq]
 constructor
 ·rintro (h | h | h)
  ·exact .inr h.1
  ·exact .inl h
  ·exact .inr h.1
 ·rintro (h | h)
  ·exact .inr (.inl h)
  ·rcases Nat.lt_trichotomy j i with z | z | z
   ·exact .inl ⟨h,z⟩
   ·exact .inr (.inl z)
   ·exact .inr (.inr ⟨h,z⟩)
theorem JU {α:Type} {l:List α} {i j:Nat} {x:α} (hi:i<l.length):(l.set i x)[j]?=if i=j then some x else l[j]?:=by
 rw [List.getElem?_set]
 split
 ·rename_i h;subst h;simp [hi]
 ·rfl
theorem RS.put {K:Fg} {H₀:Hp} {F0:Fz} {F H:Hp} {σ:L2.St} {en:Qr} {i:Nat} {v:V} {d:D} (r:RS K H₀ F0 F H σ en O) (h:Rep K F v d) (hi:i<en.length) (hq:Ze i∉O):RS K H₀ F0 F H (σ.set i (some v)) (en.set i (some d)) (dl i O) where
 fh:=r.fh
 hh:=r.hh
 ff:=r.ff
 fr:=r.fr
 slot:=fun j d' e1 hj=>by
  rw [JU hi] at e1
  rw [JU (by rw [r.len];exact hi)]
  split at e1
  ·rename_i z;cases e1;rw [if_pos z];exact ⟨v,rfl,h⟩
  ·rename_i z
   rw [if_neg z]
   exact r.slot j d' e1 fun q=>hj (mem_dl.mpr ⟨q,fun w=>z w.symm⟩)
 own:=fun j d' e1 hj=>by
  obtain ⟨h1,h2⟩:=mem_dl.mp hj
  rw [JU hi,if_neg (Ne.symm h2)] at e1
  rw [JU (by rw [r.len];exact hi),if_neg (Ne.symm h2)]
  exact r.own j d' e1 h1
 dis:=fun j k p d1 d2 hj hk f1 f2 e1 e2=>by
  obtain ⟨h1,h2⟩:=mem_dl.mp hj
  obtain ⟨h3,h4⟩:=mem_dl.mp hk
  rw [JU (by rw [r.len];exact hi),if_neg (Ne.symm h2)] at e1
  rw [JU (by rw [r.len];exact hi),if_neg (Ne.symm h4)] at e2
  rw [JU hi,if_neg (Ne.symm h2)] at f1
  rw [JU hi,if_neg (Ne.symm h4)] at f2
  exact r.dis j k p d1 d2 h1 h3 f1 f2 e1 e2
 pin:=fun j hj=>by
  obtain ⟨h1,_⟩:=mem_dl.mp hj
  obtain ⟨p,e1,e2⟩:=r.pin j h1
  refine ⟨p,e1,?_⟩
  rw [List.getElem?_set_ne (fun z:i=j=>hq (by rw [z];exact h1))]
  exact e2
 len:=by rw [List.length_set,List.length_set];exact r.len
theorem RS.putO {K:Fg} {H₀:Hp} {F0:Fz} {F H:Hp} {σ:L2.St} {en:Qr} {i:Nat} {p:Addr} {kk:Option (List Kd)} {xs:List V} {ds:List D} (r:RS K H₀ F0 F H σ en O) (h0:F0.h p=none) (hf:F p=none) (hp:H p=some (ho kk xs)) (hk:VX kk xs) (hr:Reps K F xs ds) (hi:i<en.length) (hq:Ze i∉O) (hiq:∀ j,i≠Ze j)
  (hn:∀ j d,j∈O->en[j]?=some (some d)->j≠i->σ[j]?≠some (some (.ref p))):RS K H₀ F0 F H (σ.set i (some (.ref p))) (en.set i (some (dOf kk ds))) (ad i O) where
 fh:=r.fh
 hh:=r.hh
 ff:=r.ff
 fr:=r.fr
 slot:=fun j d' e1 hj=>by
  have hj1:j≠i:=fun z=>hj (mem_ad.mpr (.inl z))
  have hj2:j∉O:=fun z=>hj (mem_ad.mpr (.inr z))
  rw [JU hi,if_neg (Ne.symm hj1)] at e1
  rw [JU (by rw [r.len];exact hi),if_neg (Ne.symm hj1)]
  exact r.slot j d' e1 hj2
 own:=fun j d' e1 hj=>by
  rw [JU hi] at e1
  rw [JU (by rw [r.len];exact hi)]
  split at e1
  ·rename_i z;cases e1;rw [if_pos z];exact ⟨p,kk,xs,ds,rfl,h0,hf,hp,hr,rfl,hk⟩
  ·rename_i z
   rw [if_neg z]
   rcases mem_ad.mp hj with q | q
   ·exact absurd q.symm z
   ·exact r.own j d' e1 q
 dis:=fun j k q d1 d2 hj hk f1 f2 e1 e2=>by
  rw [JU (by rw [r.len];exact hi)] at e1 e2
  rw [JU hi] at f1 f2
  by_cases z1:i=j
  ·by_cases z2:i=k
   ·rw [<- z1,<- z2]
   ·rw [if_pos z1] at e1
    cases e1
    rw [if_neg z2] at e2
    rcases mem_ad.mp hk with w | w
    ·exact absurd w.symm z2
    ·rw [if_neg z2] at f2
     exact absurd e2 (hn k d2 w f2 (Ne.symm z2))
  ·rw [if_neg z1] at e1
   rcases mem_ad.mp hj with w | w
   ·exact absurd w.symm z1
   ·by_cases z2:i=k
    ·rw [if_pos z2] at e2
     cases e2
     rw [if_neg z1] at f1
     exact absurd e1 (hn j d1 w f1 (Ne.symm z1))
    ·rw [if_neg z2] at e2
     rcases mem_ad.mp hk with w2 | w2
     ·exact absurd w2.symm z2
     ·rw [if_neg z1] at f1
      rw [if_neg z2] at f2
      exact r.dis j k q d1 d2 w w2 f1 f2 e1 e2
 pin:=fun j hj=>by
  rcases mem_ad.mp hj with z | h1
  ·exact absurd z.symm (hiq j)
  ·obtain ⟨p,e1,e2⟩:=r.pin j h1
   refine ⟨p,e1,?_⟩
   rw [List.getElem?_set_ne (fun z:i=j=>hq (by rw [z];exact h1))]
   exact e2
 len:=by rw [List.length_set,List.length_set];exact r.len
theorem RS.write {K:Fg} {H₀:Hp} {F0:Fz} {F H:Hp} {σ:L2.St} {en:Qr} {i:Nat} {p:Addr} {kk:Option (List Kd)} {xs:List V} {ds:List D} (r:RS K H₀ F0 F H σ en O) (hi:i∈O) {d0:D} (he:en[i]?=some (some d0)) (hσ:σ[i]?=some (some (.ref p))) (h0:F0.h p=none) (hf:F p=none) (hk:VX kk xs) (hr:Reps K F xs ds) :
  RS K H₀ F0 F (upd H p (ho kk xs)) σ (en.set i (some (dOf kk ds))) O :=
 have hl:i<en.length:=by
  cases Nat.lt_or_ge i en.length with
  | inl h=>exact h
  | inr h=>rw [List.getElem?_eq_none h] at he;cases he
 {
 fh:=r.fh.upd _ hf
 hh:=r.hh.upd _ h0
 ff:=r.ff
 fr:=r.fr
 slot:=fun j d' e1 hj=>by
  have z:i≠j:=fun z=>hj (z▸hi)
  rw [JU hl,if_neg z] at e1
  exact r.slot j d' e1 hj
 own:=fun j d' e1 hj=>by
  rw [JU hl] at e1
  split at e1
  ·rename_i z;cases e1;subst z
   exact ⟨p,kk,xs,ds,hσ,h0,hf,Q7,hr,rfl,hk⟩
  ·rename_i z
   obtain ⟨q,k2,ys,es,h1,h2,h3,h4,h5,h6⟩:=r.own j d' e1 hj
   refine ⟨q,k2,ys,es,h1,h2,h3,?_,h5,h6⟩
   rw [QH (fun w:q=p=>z (r.dis i j p _ _ hi hj he e1 hσ (by rw [<- w];exact h1)))]
   exact h4
 dis:=fun j k q d1 d2 hj hk f1 f2 g1 g2=>by
  rw [JU hl] at f1 f2
  have k1:∃ d,en[j]?=some (some d):=by
   split at f1
   ·rename_i z;subst z;exact ⟨_,he⟩
   ·exact ⟨_,f1⟩
  have k2:∃ d,en[k]?=some (some d):=by
   split at f2
   ·rename_i z;subst z;exact ⟨_,he⟩
   ·exact ⟨_,f2⟩
  obtain ⟨_,k1⟩:=k1
  obtain ⟨_,k2⟩:=k2
  exact r.dis j k q _ _ hj hk k1 k2 g1 g2
 pin:=r.pin
 len:=by rw [List.length_set];exact r.len }
theorem RS.rel {K:Fg} {H₀:Hp} {F0:Fz} {F H:Hp} {σ:L2.St} {en:Qr} (ob:Addr->Obj) (i:Nat) (r:RS K H₀ F0 F H σ en O) :
  ∃ F' H',Sm F F'/\RS K H₀ F0 F' H' σ en (dl i O)/\(H'=H\/∃ p kk xs,H p=some (ho kk xs)/\H'=upd H p (hz (ob p) kk xs)):=by
 have none_:(∀ d,en[i]?=some (some d)->i∉O)->∃ F' H',Sm F F'/\RS K H₀ F0 F' H' σ en (dl i O)/\(H'=H\/∃ p kk xs,H p=some (ho kk xs)/\H'=upd H p (hz (ob p) kk xs)):=fun hn=>by
  refine ⟨F,H,.refl F,⟨r.fh,r.hh,r.ff,r.fr,fun j d e1 hj=>?_,fun j d e1 hj=>r.own j d e1 (mem_dl.mp hj).1,fun j k p d1 d2 hj hk=>r.dis j k p d1 d2 (mem_dl.mp hj).1 (mem_dl.mp hk).1,fun j hj=>r.pin j (mem_dl.mp hj).1,r.len⟩,.inl rfl⟩
  exact r.slot j d e1 fun w=>hj (mem_dl.mpr ⟨w,fun z=>hn d (z▸e1) (z▸w)⟩)
 by_cases hi:i∈O
 ·cases q:en[i]? with
  | none=>exact none_ fun d e=>by rw [q] at e;cases e
  | some o =>
   cases o with
   | none=>exact none_ fun d e=>by rw [q] at e;cases e
   | some d0 =>
    obtain ⟨p,kk,xs,ds,h1,h2,h3,h4,h5,h6,h7⟩:=r.own i d0 q hi
    have sf:Sm F (upd F p (hz (ob p) kk xs)):=(Sm.refl F).upd _ h3
    refine ⟨upd F p (hz (ob p) kk xs),upd H p (hz (ob p) kk xs),sf,⟨fun a o e1=>?_,fun a o e1=>?_,r.ff.trans sf,fun a o e1=>?_,fun j d e1 hj=>?_,fun j d e1 hj=>?_,fun j k p d1 d2 hj hk=>r.dis j k p d1 d2 (mem_dl.mp hj).1 (mem_dl.mp hk).1,fun j hj=>r.pin j (mem_dl.mp hj).1,r.len⟩,.inr ⟨p,kk,xs,h4,rfl⟩⟩
    ·by_cases z:a=p
     ·subst z;rw [Q7] at e1 ⊢;exact e1
     ·rw [QH z] at e1 ⊢;exact r.fh a o e1
    ·have z:a≠p:=fun z=>by rw [z,h2] at e1;cases e1
     rw [QH z];exact r.hh a o e1
    ·by_cases z:a=p
     ·subst z;exact .inr h2
     ·rw [QH z] at e1;exact r.fr a o e1
    ·by_cases z:j=i
     ·subst z
      rw [q] at e1;cases e1
      subst h6
      exact ⟨_,h1,Rep.hz Q7 h7 (h5.mono sf)⟩
     ·obtain ⟨v,w1,w2⟩:=r.slot j d e1 fun w=>hj (mem_dl.mpr ⟨w,z⟩)
      exact ⟨v,w1,w2.mono sf⟩
    ·obtain ⟨w1,w2⟩:=mem_dl.mp hj
     obtain ⟨p',k2',ys,es,k1,k2,k3,k4,k5,k6⟩:=r.own j d e1 w1
     have ne:p'≠p:=fun z:p'=p=>w2 (r.dis j i p _ _ w1 hi e1 q (by rw [<- z];exact k1) h1)
     refine ⟨p',k2',ys,es,k1,k2,?_,?_,k5.mono sf,k6⟩
     ·rw [QH ne];exact k3
     ·rw [QH ne];exact k4
 ·exact none_ fun _ _=>hi
theorem RS.put' {K:Fg} {H₀:Hp} {F0:Fz} {F H:Hp} {σ:L2.St} {en:Qr} (i:Nat) {v:V} {d:D} (r:RS K H₀ F0 F H σ en O) (h:Rep K F v d) (hq:Ze i∉O):RS K H₀ F0 F H (σ.set i (some v)) (en.set i (some d)) (dl i O):=by
 by_cases hi:i<en.length
 ·exact r.put h hi hq
 ·have e1:en.set i (some d)=en:=List.set_eq_of_length_le (by omega)
  have e2:σ.set i (some v)=σ:=List.set_eq_of_length_le (by rw [r.len];omega)
  rw [e1,e2]
  refine ⟨r.fh,r.hh,r.ff,r.fr,fun j d f1 hj=>?_,fun j d f1 hj=>r.own j d f1 (mem_dl.mp hj).1,fun j k p d1 d2 hj hk=>r.dis j k p d1 d2 (mem_dl.mp hj).1 (mem_dl.mp hk).1,fun j hj=>r.pin j (mem_dl.mp hj).1,r.len⟩
  have:j≠i:=fun z=>by
   rw [z,List.getElem?_eq_none (by omega)] at f1
   cases f1
  exact r.slot j d f1 fun w=>hj (mem_dl.mpr ⟨w,this⟩)
theorem RS.putO' {K:Fg} {H₀:Hp} {F0:Fz} {F H:Hp} {σ:L2.St} {en:Qr} (i:Nat) {p:Addr} {kk:Option (List Kd)} {xs:List V} {ds:List D} (r:RS K H₀ F0 F H σ en O) (h0:F0.h p=none) (hf:F p=none) (hp:H p=some (ho kk xs)) (hk:VX kk xs) (hr:Reps K F xs ds)
  (hn:∀ j d,j∈O->en[j]?=some (some d)->j≠i->σ[j]?≠some (some (.ref p))) (hq:Ze i∉O) (hiq:∀ j,i≠Ze j):RS K H₀ F0 F H (σ.set i (some (.ref p))) (en.set i (some (dOf kk ds))) (ad i O):=by
 by_cases hi:i<en.length
 ·exact r.putO h0 hf hp hk hr hi hq hiq hn
 ·have e1:en.set i (some (dOf kk ds))=en:=List.set_eq_of_length_le (by omega)
  have e2:σ.set i (some (V.ref p))=σ:=List.set_eq_of_length_le (by rw [r.len];omega)
  have n1:en[i]?=none:=List.getElem?_eq_none (by omega)
  have n2:σ[i]?=none:=List.getElem?_eq_none (by rw [r.len];omega)
  rw [e1,e2]
  refine ⟨r.fh,r.hh,r.ff,r.fr,fun j d f1 hj=>r.slot j d f1 fun w=>hj (mem_ad.mpr (.inr w)),fun j d f1 hj=>?_,fun j k q d1 d2 hj hk g1 g2 f1 f2=>?_,fun j hj=>?_,r.len⟩
  ·rcases mem_ad.mp hj with z | z
   ·rw [z,n1] at f1;cases f1
   ·exact r.own j d f1 z
  ·rcases mem_ad.mp hj with z | z
   ·rw [z,n2] at f1;cases f1
   ·rcases mem_ad.mp hk with z2 | z2
    ·rw [z2,n2] at f2;cases f2
    ·exact r.dis j k q d1 d2 z z2 g1 g2 f1 f2
  ·rcases mem_ad.mp hj with z | h1
   ·exact absurd z.symm (hiq j)
   ·exact r.pin j h1
theorem Qp4 {X:Cx} {pins:List (Addr×Obj)} {σ:L2.St} {H:Hp} {s:Shared} (I:Inv X pins σ H s) {p:Addr} {kk:Option (List Kd)} {xs:List V} (h:H p=some (ho kk xs)):Inv X pins σ (upd H p (hz ((s.heap.get? p).getD default) kk xs)) s:=by
 cases kk with
 | none =>
  have e:upd H p (hz ((s.heap.get? p).getD default) none xs)=H:=by
   funext b
   by_cases z:b=p
   ·subst z;rw [Q7];exact h.symm
   ·rw [QH z]
  rw [e];exact I
 | some ks =>
  have h':H p=some (.dK (ks.zip xs)):=h
  have ok:ObjOk X.prog X.w H s.heap p (.dK (ks.zip xs)):=I.hok p _ h'
  obtain ⟨z1,z2,vs,rel,o,es,ep,ho,Ji⟩:=ok
  rw [ho]
  show Inv X pins σ (upd H p (.frz o (.dK (ks.zip xs)))) s
  have ne:∀ {b:Addr} {u:HO},H b=some u->(∀ kvs,u≠.dK kvs)->b≠p:=fun e n z=>by rw [z,h'] at e;cases e;exact n _ rfl
  have I2:=I.step (h':=s.heap) (H':=upd H p (.frz o (.dK (ks.zip xs)))) (g':=s.gens) (d':=s.drawn) (t':=s.toks) (ch:=[]) (fun b hb=>by cases hb) (fun b o _ _ _ e _=>e) (fun b o _ _ _ e _=>⟨o.slots,e⟩) (fun b o _ e n=>by rw [QH (fun z=>by rw [z,h'] at n;cases n)];exact n)
   (fun b o _ e=>⟨o,e⟩) (fun b xs e=>by rw [QH (ne e (fun _ z=>nomatch z))];exact e) (fun b xs u e=>by rw [QH (ne e (fun _ z=>nomatch z))];exact e) (fun b ps e=>⟨#[],by rw [QH (ne e (fun _ z=>nomatch z)),e];simp⟩) (fun m hm=>hm) (fun b u e=>?_) I.bare
  ·exact I2
  ·by_cases hb:b=p
   ·subst hb
    rw [Q7] at e
    cases e
    exact ⟨ho,z1,z2,vs,rel,o,es,ep,ho,Ji⟩
   ·rw [QH hb] at e
    exact (I.hok b u e).stay (fun c v _ q=>q) (fun c q=>by rw [QH (ne q (fun _ z=>nomatch z))];exact q) fun c xs q=>by rw [QH (ne q (fun _ z=>nomatch z))];exact q
theorem Qrv {X:Cx} {pins:List (Addr×Obj)} {F0:Fz} {F H:Hp} {σ:L2.St} {en:Qr} {s:Shared} (i:Nat) (I:Inv X pins σ H s) (r:RS X.K X.H₀ F0 F H σ en O):∃ F' H',Inv X pins σ H' s/\Sm F F'/\RS X.K X.H₀ F0 F' H' σ en (dl i O):=by
 obtain ⟨F',H',sf,r',h⟩:=r.rel (fun p=>(s.heap.get? p).getD default) i
 refine ⟨F',H',?_,sf,r'⟩
 rcases h with h | ⟨p,kk,xs,hp,h⟩
 ·rw [h];exact I
 ·rw [h];exact Qp4 I hp
theorem Zc (i:Nat) {b:EvS} {sts:List Stmt} (h:PSs X sts (tS X (dl i O) O' OL w b)):PSs X sts (tS X O O' OL w b):=by
 rintro pins s σ H D I ⟨F0,F,en,fl,rs,z,k⟩
 obtain ⟨F',H',I',sf,rs'⟩:=Qrv i I rs
 exact h pins s σ H' D I' ⟨F0,F',en,fl,rs',z,k.mono sf⟩
theorem Qpx (i:Nat) (O1:List Nat) {b:EvS} {sts:List Stmt} (h:PSs X sts (tS X O O1 OL w b)) (e:O'=dl i O1:=by rfl):PSs X sts (tS X O O' OL w b):=by
 subst e
 rintro pins s σ H D I ⟨F0,F,en,fl,rs,z,k⟩
 refine thn (h pins s σ H { D with nx:=fun σ' H'=>∃ F' e',fl=.nx e'/\Sm F F'/\RS X.K X.H₀ F0 F' H' σ' e' O1 } I ⟨F0,F,en,fl,rs,z,?_⟩) fun f s' sp=>?_
 ·cases fl with
  | nx e=>exact fun σ' F' H' s r=>⟨F',e,rfl,s,r⟩
  | bk e=>exact k
  | ct e=>exact k
  | rt d=>exact k
 ·cases f with
  | next =>
   obtain ⟨σ',H',I',F',e',rfl,s1,r⟩:=sp
   obtain ⟨F2,H2,I2,s2,r2⟩:=Qrv i I' r
   exact ⟨σ',H2,I2,k σ' F2 H2 (s1.trans s2) r2⟩
  | _=>exact sp
end
end Wd
namespace Wd
open PySem PySem.Spec PyProof.Rows L2
section
variable {X:Cx} {O O1 O2 O' OL:List Nat} {w:Bool} {st:Stmt} {Ji:List Stmt} {e:Expr} {pos:Pos}
def tG (X:Cx) (O O':List Nat) (g:EvG):TG:=fun v σ H Q=>∃ F0 F en d e',RS X.K X.H₀ F0 F H σ en O/\Rep X.K F v d/\g d en=some e'/\∀ σ' H' F',Gr F H F' H'->RS X.K X.H₀ F0 F' H' σ' e' O'->Q σ' H'
def tGs (X:Cx) (O O':List Nat) (gs:List EvG):TGs:=fun vs σ H Q=>∃ F0 F en ds e',RS X.K X.H₀ F0 F H σ en O/\Reps X.K F vs ds/\J6 gs ds en=some e'/\∀ σ' H' F',Gr F H F' H'->RS X.K X.H₀ F0 F' H' σ' e' O'->Q σ' H'
theorem PG.imp {t t':TG} (h:PG X e t) (q:∀ v σ H Q,t' v σ H Q->t v σ H Q):PG X e t':=fun pins s σ H v u Q I r z=>h pins s σ H v u Q I r (q v σ H Q z)
theorem PGs.imp {es:List Expr} {t t':TGs} (h:PGs X es t) (q:∀ v σ H Q,t' v σ H Q->t v σ H Q):PGs X es t':=fun pins s σ H v u Q I r z=>h pins s σ H v u Q I r (q v σ H Q z)
theorem Ql (i:Nat) {x:Str} (hN:X.N.Nodup) (hi:X.N[i]?=some x:=by rfl) (hx:Loc X.env.scope x:=by first | exact Or.inl rfl | exact Or.inr rfl) (hf:X.fn x=true\/X.env.scope.names.lookup x=some .local:=by first | exact .inl rfl | exact .inr rfl) (hq:Ze i∉O:=by decide):PG X (.Name x pos) (tG X O (dl i O) (gS i)) :=
 PG.imp (QkS hN hi hx hf) fun v σ H Q ⟨F0,F,en,d,e',rs,r,z,k⟩=>by
  cases z
  exact k _ H F (.refl rs.fh) (rs.put' i r hq)
theorem Zn:PGs X [] (tGs X O O []):=PGs.imp QqB fun vs σ H Q ⟨F0,F,en,ds,e',rs,r,z,k⟩=>by
 cases r with
 | nil=>cases z;exact ⟨rfl,k σ H F (.refl rs.fh) rs⟩
 | cons h r=>simp [J6] at z
theorem QL {es:List Expr} {g:EvG} {gs:List EvG} (h1:PG X e (tG X O O1 g)) (h2:PGs X es (tGs X O1 O' gs)) (hs:(assignEach (e::es) X.env).map (·.2)=assign e X.env::(assignEach es X.env).map (·.2):=by rfl):PGs X (e::es) (tGs X O O' (g::gs)) :=
 PGs.imp (Qo0 h1 h2 hs) fun vs σ H Q ⟨F0,F,en,ds,e',rs,r,z,k⟩=>by
  cases r with
  | nil=>simp [J6] at z
  | @cons x d xs ds h r =>
   have z':((g d en).bind fun e'=>J6 gs ds e')=some e':=z
   obtain ⟨e1,q1,q2⟩:=Q8 z'
   refine ⟨x,xs,rfl,F0,F,en,d,e1,rs,h,q1,fun σ' H' F' s rs'=>?_⟩
   exact ⟨F0,F',e1,ds,e',rs',r.mono s.ff,q2,fun σ2 H2 F2 s2 rs2=>k σ2 H2 F2 (s.trans s2) rs2⟩
theorem ZL {es:List Expr} {k0:Nat} {gs:List EvG} (hc:X.calm=true) (h:PGs X es (tGs X O O' gs)) (hl:gs.length=es.length) (hn:(assignEach es X.env).length=es.length:=by rfl) (hst:(assignEach es X.env).findIdx? (·.1)=none:=by rfl):PG X (.Tuple es k0 pos) (tG X O O' (Js gs)) :=
 PG.imp (QrX hc h hn hst) fun v σ H Q ⟨F0,F,en,d,e',rs,r,z,k⟩=>by
  cases r with
  | @tup a xs ds h r =>
   have z':J6 gs ds en=some e':=z
   have len:∀ (gs:List EvG) (ds:List D) (en e':Qr),J6 gs ds en=some e'->ds.length=gs.length:=by
    intro gs
    induction gs with
    | nil=>intro ds en e' h;cases ds with
     | nil=>rfl
     | cons _ _=>simp [J6] at h
    | cons g gs ih=>intro ds en e' h;cases ds with
     | nil=>simp [J6] at h
     | cons d ds =>
      have h':((g d en).bind fun e'=>J6 gs ds e')=some e':=h
      obtain ⟨e1,_,q2⟩:=Q8 h'
      rw [List.length_cons,List.length_cons,ih ds e1 e' q2]
   exact ⟨a,xs,rfl,SqT.of (rs.fh _ _ h),by rw [r.length,len gs ds en e' z',hl],F0,F,en,ds,e',rs,r,z',k⟩
  | _=>cases z
theorem Qtx {ev:EvE} {g:EvG} {Dn:Ends} {σ:L2.St} {H:Hp} (h:tS X O O' OL w (Qd ev g) Dn σ H):Qow (tD X O ev) (tG X O O' g) Dn σ H:=by
 obtain ⟨F0,F,en,fl,rs,z,k⟩:=h
 obtain ⟨d,e1,e2⟩:=Q8 z
 obtain ⟨e',e3,rfl⟩:=J8 e2
 refine ⟨F0,F,en,d,rs,e1,fun v F1 H1 g1 r1=>?_⟩
 exact ⟨F0,F1,en,d,e',rs.grow g1,r1,e3,fun σ' H' F' s rs'=>k σ' F' H' (g1.ff.trans s.ff) rs'⟩
theorem Vc {tg:Expr} {ev:EvE} {g:EvG} (he:PE X e (tD X O ev)) (hg:PG X tg (tG X O O' g)) (hs:swapsWithSole [tg] e pos.line X.env=pure false:=by rfl) (hw:swappedStores [tg] e X.env=pure none:=by rfl)
  (h1:(assignEach [tg] X.env).map (·.2)=[assign tg X.env]:=by rfl):PS X (.Assign [tg] e pos) (tS X O O' OL w (Qd ev g)):=PS.imp (QmW he hg hs hw h1) fun Dn σ H h=>Qtx h
theorem Qi (i:Nat) {x:Str} {p:Pos} {ev:EvE} (hN:X.N.Nodup) (he:PE X e (tD X O ev)) (hi:X.N[i]?=some x:=by rfl) (hx:Loc X.env.scope x:=by first | exact Or.inl rfl | exact Or.inr rfl) (hs:swapsWith e (some (.Name x p)) pos.line X.env=pure false:=by rfl)
  (hf:X.fn x=true\/X.env.scope.names.lookup x=some .local:=by first | exact .inl rfl | exact .inr rfl) (hq:Ze i∉O:=by decide):PS X (.Assign [.Name x p] e pos) (tS X O (dl i O) OL w (Qd ev (gS i))) :=
 PS.imp (Qio hN hi hx he hs hf) fun Dn σ H ⟨F0,F,en,fl,rs,z,k⟩=>by
  obtain ⟨d,e1,e2⟩:=Q8 z
  obtain ⟨e',e3,rfl⟩:=J8 e2
  cases e3
  exact ⟨F0,F,en,d,rs,e1,fun v F1 H1 g1 r1=>k _ F1 H1 g1.ff ((rs.grow g1).put' i r1 hq)⟩
theorem Zd (i:Nat) {x:Str} {p:Pos} {ev:EvE} (hN:X.N.Nodup) (he:PE X e (tO X O ev)) (hi:X.N[i]?=some x:=by rfl) (hx:Loc X.env.scope x:=by first | exact Or.inl rfl | exact Or.inr rfl) (hs:swapsWith e (some (.Name x p)) pos.line X.env=pure false:=by rfl)
  (hf:X.fn x=true\/X.env.scope.names.lookup x=some .local:=by first | exact .inl rfl | exact .inr rfl) (hq:Ze i∉O:=by decide) (hil:i<1000:=by decide):PS X (.Assign [.Name x p] e pos) (tS X O (ad i O) OL w (Qd ev (gS i))) :=
 PS.imp (Qio hN hi hx he hs hf) fun Dn σ H ⟨F0,F,en,fl,rs,z,k⟩=>by
  obtain ⟨d,e1,e2⟩:=Q8 z
  obtain ⟨e',e3,rfl⟩:=J8 e2
  cases e3
  refine ⟨F0,F,en,d,rs,e1,fun p kk xs ds F1 H1 g1 n1 n2 h r e4 hk=>?_⟩
  subst e4
  refine k _ F1 H1 g1.ff ((rs.grow g1).putO' i (rs.hh.none n1) n2 h hk r (fun j d' hj q2 _ q=>?_) hq (fun j z=>by unfold Ze at z;omega))
  obtain ⟨p',_,ys,es,h1,_,_,h4,_⟩:=rs.own j d' q2 hj
  rw [h1] at q
  cases q
  rw [n1] at h4
  cases h4
end
end Wd
namespace Wd
open PySem PySem.Spec PyProof.Rows L2
section
variable {X:Cx} {O O1 O2 O' OL:List Nat} {w:Bool} {st:Stmt} {Ji:List Stmt} {e a:Expr} {pos:Pos}
theorem Qk4:PIp X .Add (fun x y H Q=>(rI0 fun i j=>.int (i+j)) x y H Q\/∃ i j,x=.str i/\y=.str j/\i.length+j.length<=sizeLine/\Q (.str (i++j)) H) /\
  Op2 X (fun x y H Q=>(rI0 fun i j=>.int (i+j)) x y H Q\/∃ i j,x=.str i/\y=.str j/\i.length+j.length<=sizeLine/\Q (.str (i++j)) H) D.addI:=by
 refine ⟨OpR.or Qq5 QkA,fun F H x y dx dy d Q s rx ry e k=>?_⟩
 cases dx<;>cases dy<;>try (simp [D.addI] at e;done)
 case int.int i j =>
  cases e
  exact .inl ⟨i,j,rx.int,ry.int,k _ F H (.refl s) (.int _)⟩
 case str.str i j =>
  simp only [D.addI] at e
  split at e
  ·rename_i hz
   cases e
   exact .inr ⟨i,j,rx.str,ry.str,by rw [Z0];exact hz,k _ F H (.refl s) (.str _)⟩
  ·cases e
theorem Qq3:PIp X .Sub (rI0 fun i j=>.int (i-j))/\Op2 X (rI0 fun i j=>.int (i-j)) D.sub :=
 ⟨Qq4,QfN (fd:=fun i j=>.int (i-j)) (fun dx dy d e=>by cases dx<;>cases dy<;>simp [D.sub] at e ⊢) (fun i j d e=>by cases e;rfl) fun _ _ _ _=>.int _⟩
theorem Qit (i:Nat) {x:Str} {p:Pos} {op:Operator} {r:R2} {g:D->D->Option D} {ev:EvE} (hN:X.N.Nodup) (hO:i∉O) (he:PE X e (tR X O ev)) (ho:PIp X op r/\Op2 X r g) (hi:X.N[i]?=some x:=by rfl) (hx:Loc X.env.scope x:=by first | exact Or.inl rfl | exact Or.inr rfl)
  (hf:X.fn x=true\/X.env.scope.names.lookup x=some .local:=by first | exact .inl rfl | exact .inr rfl) (hq:Ze i∉O:=by decide):PS X (.AugAssign (.Name x p) op e pos) (tS X O (dl i O) OL w (Zr i g ev)) :=
 PS.imp (QrW hN hi hx he ho.1 hf) fun Dn σ H ⟨F0,F,en,fl,rs,z,k⟩=>by
  obtain ⟨dx,dy,e1,e2,e3⟩:=QaK z
  obtain ⟨dz,e4,rfl⟩:=J8 e3
  obtain ⟨v,h1,h2⟩:=rs.slot i dx (JV e1) hO
  refine ⟨v,h1,F0,F,en,dy,rs,e2,fun y F1 H1 g1 r1=>?_⟩
  exact ho.2 F1 H1 v y dx dy dz _ g1.fh (.inl (h2.mono g1.ff)) r1 e4 fun u F2 H2 g2 r2=>k _ F2 H2 (g1.ff.trans g2.ff) ((rs.grow (g1.trans g2)).put' i r2 hq)
theorem JY (i:Nat) (hi:i∈O) {x:Str} {p apos cpos:Pos} {ev:EvE} (he:PE X e (tD X O ev)) (hN:X.N[i]?=some x:=by rfl) (hv:Vis X.env.scope x:=by first | exact Or.inl rfl | exact Or.inr (Or.inl rfl) | exact Or.inr (Or.inr rfl)) (hd:(x==("__debug__":Str))=false:=by decide) (hcd:(x==("__classdict__":Str))=false:=by decide)
  (hbase:attributeBase (.Name x p) "append" X.env (eval (.Name x p) X.env)=eval (.Name x p) X.env:=by rfl) (hline:(apos.endLine==cpos.line)=true:=by rfl) (hs:starEach [e] X.env=[(false,eval e X.env)]:=by rfl)
  (hfew:((backTo cpos (starEach [e] X.env)).all (fun x=>!x.1)&&(backToKw cpos (keywordEach [] X.env)).all (fun x=>x.1.isSome)&&decide ([e].length+([]:List Keyword).length+(if ([]:List Keyword).isEmpty then 0 else 1)<30))=true:=by rfl)
  (hsw:swapsWith (.Call (.Attribute (.Name x p) "append" apos) [e] [] cpos) none pos.line X.env=pure false:=by rfl) :
  PS X (.Expr (.Call (.Attribute (.Name x p) "append" apos) [e] [] cpos) pos) (tS X O O OL w (sP i ev)) :=
 PS.imp (QcH (QlN PySem.F.plainAttrs_list PySem.F.slot_list_append PySem.F.type_list_append Qhm (V2 hN hv hd hcd) (ZY he Qbs hs) hbase hfew hline hs rfl) hsw) fun Dn σ H ⟨F0,F,en,fl,rs,z,k⟩=>by
  obtain ⟨dx,dy,e1,e2,e3⟩:=QaK z
  obtain ⟨dz,e4,rfl⟩:=J8 e3
  obtain ⟨q,kk,xs,ds,h1,h2,h3,h4,h5,h6,h7⟩:=rs.own i dx (JV e1) hi
  subst h6
  cases kk with
  | some ks=>cases e4
  | none =>
  simp only [ho,dOf] at h4 e4 e1
  refine ⟨_,h1,.inl ⟨rfl,xs,SqL.of h4⟩,F0,F,en,dy,rs,e2,fun y F1 H1 g1 r1=>?_⟩
  simp only [D.app] at e4
  split at e4
  ·rename_i hz
   cases e4
   have rs1:=rs.grow g1
   obtain ⟨q',kk',xs',ds',k1,k2,k3,k4,k5,k6,k7⟩:=rs1.own i _ (JV e1) hi
   rw [h1] at k1
   cases k1
   cases kk' with
   | some ks=>cases k6
   | none =>
   cases k6
   simp only [ho] at k4
   have hx:xs'=xs:=by
    have:=g1.hh _ _ h4
    rw [k4] at this
    cases this;rfl
   subst hx
   refine ⟨q,xs',y,rfl,rfl,k4,?_,?_⟩
   ·rw [Z0,k5.length];exact hz
   ·exact k _ F1 _ g1.ff (rs1.write (kk:=none) hi (JV e1) h1 k2 k3 trivial (k5.append (.cons r1 .nil)))
  ·cases e4
theorem QsG (i:Nat) (hi:i∈O) {x:Str} {p apos cpos:Pos} {ev:EvE} (he:PE X e (tR X O ev)) (hN:X.N[i]?=some x:=by rfl) (hv:Vis X.env.scope x:=by first | exact Or.inl rfl | exact Or.inr (Or.inl rfl) | exact Or.inr (Or.inr rfl)) (hd:(x==("__debug__":Str))=false:=by decide) (hcd:(x==("__classdict__":Str))=false:=by decide)
  (hbase:attributeBase (.Name x p) "extend" X.env (eval (.Name x p) X.env)=eval (.Name x p) X.env:=by rfl) (hline:(apos.endLine==cpos.line)=true:=by rfl) (hs:starEach [e] X.env=[(false,eval e X.env)]:=by rfl)
  (hfew:((backTo cpos (starEach [e] X.env)).all (fun x=>!x.1)&&(backToKw cpos (keywordEach [] X.env)).all (fun x=>x.1.isSome)&&decide ([e].length+([]:List Keyword).length+(if ([]:List Keyword).isEmpty then 0 else 1)<30))=true:=by rfl)
  (hsw:swapsWith (.Call (.Attribute (.Name x p) "extend" apos) [e] [] cpos) none pos.line X.env=pure false:=by rfl) :
  PS X (.Expr (.Call (.Attribute (.Name x p) "extend" apos) [e] [] cpos) pos) (tS X O O OL w (Qox i ev)) :=
 PS.imp (QcH (QlN PySem.F.plainAttrs_list PySem.F.slot_list_extend PySem.F.type_list_extend QnR (V2 hN hv hd hcd) (QgA he hs) hbase hfew hline hs rfl) hsw) fun Dn σ H ⟨F0,F,en,fl,rs,z,k⟩=>by
  obtain ⟨dx,dy,e1,e2,e3⟩:=QaK z
  obtain ⟨dz,e4,rfl⟩:=J8 e3
  obtain ⟨q,kk,xs,ds,h1,h2,h3,h4,h5,h6,h7⟩:=rs.own i dx (JV e1) hi
  subst h6
  cases kk with
  | some ks=>cases e4
  | none =>
  simp only [ho,dOf] at h4 e4 e1
  refine ⟨_,h1,.inl ⟨rfl,xs,SqL.of h4⟩,F0,F,en,dy,rs,e2,fun y F1 H1 g1 r1=>?_⟩
  cases dy with
  | lst es =>
   simp only [D.ext] at e4
   split at e4
   ·rename_i hz
    cases e4
    obtain ⟨q2,ys,rfl,m1,m2⟩:=r1.lst g1.fh
    have rs1:=rs.grow g1
    obtain ⟨q',kk',xs',ds',k1,k2,k3,k4,k5,k6,k7⟩:=rs1.own i _ (JV e1) hi
    rw [h1] at k1
    cases k1
    cases kk' with
    | some ks=>cases k6
    | none =>
    cases k6
    simp only [ho] at k4
    have hx:xs'=xs:=by
     have:=g1.hh _ _ h4
     rw [k4] at this
     cases this;rfl
    subst hx
    refine ⟨q,q2,xs',ys,rfl,rfl,k4,m1,?_,?_⟩
    ·rw [Z0,k5.length,m2.length];exact hz
    ·exact k _ F1 _ g1.ff (rs1.write (kk:=none) hi (JV e1) h1 k2 k3 trivial (k5.append m2))
   ·cases e4
  | _=>cases e4
end
def spD (K:Fg) (f:List D->Option D):Sp:=fun vs H Q _=>∃ F ds d,Sm F H/\Reps K F vs ds/\f ds=some d/\∀ v F' H',Gr F H F' H'->Rep K F' v d->Q v H'
def Cal (P:Program) (w:World) (K:Fg) (mg:Str->Option Value) (base:Heap) (k:Nat) (x:Str) (ps:List Str) (sp:Sp):Prop :=
 ∃ f fd,FnOk P w K mg base CX0 k f fd ps sp/\Binds K fd ps []/\PySem.W.keepIn K (.ref f)=true/\mg x=some (.ref f)
def Df (K:Fg) (mg:Str->Option Value) (x:Str) (st:Stmt) (ps:List Str):Prop:=∃ f fd,Fun K x x st f fd/\Binds K fd ps []/\mg x=some (.ref f)
section
variable {X:Cx} {O:List Nat} {e:Expr} {es:List Expr} {p pos:Pos} {x:Str} {ps:List Str} {k:Nat}
theorem QpC {f:List D->Option D} {l:EvL} (c:Cal X.prog X.w X.K X.mg X.base k x ps (spD X.K f)) (hr:Room k X.A) (hg:Gl X x) (ha:PA X (e::es) (tL X O l)) (hdb:(x==("__debug__":Str))=false:=by decide) (he:starEach (e::es) X.env=(false,eval e X.env)::starEach es X.env:=by rfl)
  (hpl:(backTo pos (starEach es X.env)).any (·.1)=false:=by rfl):PE X (.Call (.Name x p) (e::es) [] pos) (tD X O (eK f l)):=by
 obtain ⟨fa,fd,F,hb,hk,hm⟩:=c
 refine PE.imp (QeB F hr hg hm hk hb (.nil:Vals [] []) Qh4 ha hdb he hpl) fun σ H Q ⟨F0,F,en,d,rs,z,k⟩=>?_
 obtain ⟨ds,e1,e2⟩:=Q8 z
 refine ⟨F0,F,en,ds,rs,e1,fun vs F1 H1 g1 r1=>⟨F1,ds,d,g1.fh,?_,e2,fun v F' H' g r=>k v F' H' (g1.trans g) r⟩⟩
 rw [List.append_nil];exact r1
theorem Zh {ev:EvE} (h:PE X e (tO X O ev)):PE X e (tD X O ev):=by
 rintro pins s σ H Q I ⟨F0,F,en,d,rs,z,k⟩
 refine thn (h pins s σ H (fun x H'=>∃ p kk xs ds F',x=.ref p/\Gr F H F' H'/\H p=none/\F' p=none/\H' p=some (ho kk xs)/\Reps X.K F' xs ds/\d=dOf kk ds/\VX kk xs) I ⟨F0,F,en,d,rs,z,fun p kk xs ds F' H' g n1 n2 hp r e3 hk=>⟨p,kk,xs,ds,F',rfl,g,n1,n2,hp,r,e3,hk⟩⟩)
  fun v s1 ⟨x,H1,I1,r1,p,kk,xs,ds,F',hx,g,n1,n2,hp,r,e3,hk⟩=>?_
 subst hx e3
 have s2:Sm F' (upd F' p (hz ((s1.heap.get? p).getD default) kk xs)):=(Sm.refl F').upd _ n2
 refine ⟨.ref p,_,Qp4 I1 hp,r1,k _ (upd F' p (hz ((s1.heap.get? p).getD default) kk xs)) _ ⟨g.ff.trans s2,fun a o q=>?_,fun a o q=>?_,fun a o q=>?_⟩ (Rep.hz Q7 hk (r.mono s2))⟩
 ·rw [QH (fun w:a=p=>by rw [w,n1] at q;cases q)];exact g.hh a o q
 ·by_cases w:a=p
  ·subst w;rw [Q7] at q ⊢;exact q
  ·rw [QH w] at q ⊢;exact g.fh a o q
 ·by_cases w:a=p
  ·subst w;exact .inr n1
  ·rw [QH w] at q;exact g.fr a o q
end
section
variable {P:Program} {w:World} {K:Fg} {mg:Str->Option Value} {base:Heap} {x:Str} {st:Stmt} {N ps:List Str} {k:Nat} {b:EvS}
theorem QiN {F H:Hp} {vs:List V} {ds:List D} (n:Nat) (s:Sm F H) (r:Reps K F vs ds):RS K H ⟨F,H,none⟩ F H (vs.map some++List.replicate (n-vs.length) none) (sD n ds) [] where
 fh:=s
 hh:=.refl H
 ff:=.refl F
 fr:=fun _ _ h=>.inl h
 slot:=fun i d h _=>by
  unfold sD at h
  rcases Nat.lt_or_ge i ds.length with hi | hi
  ·rw [List.getElem?_append_left (by rw [List.length_map];exact hi),List.getElem?_map,List.getElem?_eq_getElem hi] at h
   have hd:ds[i]?=some d:=by rw [List.getElem?_eq_getElem hi];simpa using h
   obtain ⟨v,h1,h2⟩:=r.get hd
   refine ⟨v,?_,h2⟩
   rw [List.getElem?_append_left (by rw [List.length_map,r.length];exact hi),List.getElem?_map,h1];rfl
  ·rw [List.getElem?_append_right (by rw [List.length_map];exact hi),List.getElem?_replicate] at h
   split at h<;>cases h
 own:=fun i d _ h=>by cases h
 dis:=fun i j p _ _ h=>by cases h
 pin:=fun i h=>by cases h
 len:=by unfold sD;simp [r.length]
theorem okC (h:Df K mg x st ps) (S:FnScope N ps (Qc st)) {O' OL:List Nat}
  (hb:∀ (f:Addr) (cdv:Value) (A:Around) (outer:List Env) (s:Shared) (H:Hp) (E:XK),Room k (A.deeper (envOfC x (Qc st) s.heap.objs.size f cdv))->PSs (VV CX0 P w K mg base N x (Qc st) f cdv A outer s H E).nox (Zo st) (tS (VV CX0 P w K mg base N x (Qc st) f cdv A outer s H E).nox [] O' OL false b)) :
  Cal P w K mg base (k+1) x ps (spD K (QC N.length ps.length b)):=by
 obtain ⟨f,fd,F,hbd,hm⟩:=h
 refine ⟨f,fd,F.ok S (fun vs H Q E ⟨F,ds,d,s,r,e,_⟩=>?_) (fun cdv A outer s H vs Q E hr ⟨Fz,ds,d,sm,r,e,k⟩=>?_),hbd,F.kp,hm⟩
 ·unfold QC at e
  split at e
  ·rename_i z;rw [r.length];exact z
  ·cases e
 ·refine ⟨_,hb f cdv A outer s H E hr,?_⟩
  unfold QC at e
  split at e
  ·rename_i z
   have e':QdW (b (sD N.length ds))=some d:=e
   cases q:b (sD N.length ds) with
   | none=>rw [q] at e';cases e'
   | some fl =>
    rw [q] at e'
    have hst:start N vs=vs.map some++List.replicate (N.length-vs.length) none:=rfl
    rw [hst]
    refine ⟨⟨Fz,H,none⟩,Fz,sD N.length ds,fl,QiN N.length sm r,q,?_⟩
    cases fl with
    | nx en=>cases e';exact fun σ' F' H' s' rs=>k .non F' H' rs.ex.gr .non
    | rt d'=>cases e';exact fun v F' H' x r=>k v F' H' x.gr r
    | bk en=>cases e'
    | ct en=>cases e'
  ·cases e
end
structure ItOk (K:Fg) (F:Hp) (J:It) (ds:List D):Prop where
 go:∀ i F' H',Sm F F'->Sm F' H'->i<ds.length->J.go i H'
 yld:∀ i F' H' x H2,Sm F F'->Sm F' H'->i<ds.length->J.yld i H' x H2->∃ F2 d,Gr F' H' F2 H2/\ds[i]?=some d/\Rep K F2 x d
 stop:∀ i F' H',Sm F F'->Sm F' H'->ds.length<=i->J.stop i H'
def tI (X:Cx) (O:List Nat) (it:EvI):TI:=fun σ H R=>∃ F0 F e ds,RS X.K X.H₀ F0 F H σ e O/\it e=some ds/\∀ F' H' J,Gr F H F' H'->ItOk X.K F' J ds->R J H'
section
variable {X:Cx} {O OL:List Nat} {w:Bool} {tg iter:Expr} {body:List Stmt} {pos:Pos}
theorem PI.imp {t t':TI} (h:PI X tg iter t) (q:∀ σ H R,t' σ H R->t σ H R):PI X tg iter t':=fun pins s σ H R I z=>h pins s σ H R I (q σ H R z)
theorem Qnh {o:Option Fl} {k:EvS} {fl:Fl} (h:Qc9 o k=some fl):∃ f,o=some f/\Qc9 (some f) k=some fl:=by
 cases o with
 | none=>cases h
 | some f=>exact ⟨f,rfl,h⟩
theorem JB {it:EvI} {g:EvG} {b:EvS} (hc:X.calm=true) (hp:PassesOwn (model X.prog X.w) X.A X.env X.xe) (hi:PI X tg iter (tI X O it)) (hg:PG X tg (tG X O O g)) (hb:PSs X body (tS X O O O w b)) (hs:∀ x,foldedSetIterable iter X.env x=pure x:=by intro _;rfl) :
  PS X (.For tg iter body [] pos) (tS X O O OL w (Ja it g b)) :=
 PS.imp (QmV hp hc hi hg hb hs) fun Dn σ H ⟨F0,F,en,fl,rs,z,k⟩=>by
  obtain ⟨ds,e1,e2⟩:=Q8 z
  refine ⟨F0,F,en,ds,rs,e1,fun F1 H1 J g1 io=>?_⟩
  refine ⟨fun i m σ' H'=>m=ds.length-i/\i<=ds.length/\∃ F' en',Sm F1 F'/\RS X.K X.H₀ F0 F' H' σ' en' O/\Ym g b (ds.drop i) en'=some fl,⟨ds.length,by omega,by omega,F1,en,.refl F1,rs.grow g1,by rw [List.drop_zero];exact e2⟩,?_⟩
  rintro i m σ' H' ⟨rfl,hle,F',en',s',rs',e3⟩
  rcases Nat.lt_or_ge i ds.length with hi | hi
  ·refine .inr ⟨io.go i F' H' s' rs'.fh hi,fun σ2 H2=>∃ m',m'<ds.length-i/\m'=ds.length-(i+1)/\i+1<=ds.length/\∃ F' en',Sm F1 F'/\RS X.K X.H₀ F0 F' H2 σ2 en' O/\Ym g b (ds.drop (i+1)) en'=some fl,
    fun σ2 H2 ⟨m',h1,h2⟩=>⟨m',h1,h2⟩,fun x H2 hy=>?_⟩
   obtain ⟨F2,d,g2,hd,r2⟩:=io.yld i F' H' x H2 s' rs'.fh hi hy
   have hdr:ds.drop i=d::ds.drop (i+1):=by
    rw [List.drop_eq_getElem_cons hi]
    rw [List.getElem?_eq_getElem hi] at hd
    cases hd;rfl
   rw [hdr] at e3
   obtain ⟨f,e4,e5⟩:=Qnh (show Qc9 ((g d en').bind b) (Ym g b (ds.drop (i+1)))=some fl from e3)
   obtain ⟨en2,e6,e7⟩:=Q8 (show ((g d en').bind fun x=>b x)=some f from e4)
   refine ⟨F0,F2,en',d,en2,rs'.grow g2,r2,e6,fun σ3 H3 F3 s3 rs3=>?_⟩
   refine ⟨F0,F3,en2,f,rs3,e7,?_⟩
   have sA:Sm F1 F3:=(s'.trans g2.ff).trans s3.ff
   cases f with
   | nx e=>exact fun σ4 F4 H4 s4 rs4=>⟨_,by omega,rfl,hi,F4,e,sA.trans s4,rs4,e5⟩
   | ct e=>exact fun σ4 F4 H4 s4 rs4=>⟨_,by omega,rfl,hi,F4,e,sA.trans s4,rs4,e5⟩
   | bk e=>cases e5;exact fun σ4 F4 H4 s4 rs4=>k σ4 F4 H4 (g1.ff.trans (sA.trans s4)) rs4
   | rt d=>cases e5;exact k
  ·have hz:ds.drop i=[]:=List.drop_eq_nil_of_le hi
   rw [hz] at e3
   cases e3
   exact .inl ⟨io.stop i F' H' s' rs'.fh hi,k σ' F' H' (g1.ff.trans s') rs'⟩
theorem Qee (lo:Int) (n:Nat):(rD lo n).length=n:=by unfold rD;simp
theorem Jo {ev:EvE} (h:PE X iter (tD X O ev)):PI X tg iter (tI X O (QW ev)):=PI.imp (QgJ h) fun σ H R ⟨F0,F,en,ds,rs,z,k⟩=>by
 obtain ⟨d,e1,e2⟩:=Q8 z
 refine ⟨F0,F,en,d,rs,e1,fun v F1 H1 g1 r1=>?_⟩
 have fin:∀ (a:Addr) (xs:List V),SqL X.K F1 a xs->Reps X.K F1 xs ds->R (Itl X.K a) H1:=fun a xs ha r=>k F1 H1 _ g1
  ⟨fun i F' H' s s' hi=>by
   obtain ⟨v,h1,_⟩:=r.get (List.getElem?_eq_getElem hi)
   exact ⟨xs,v,s'.sqL (s.sqL ha),h1⟩,
  fun i F' H' x H2 s s' hi ⟨hH,hx⟩=>by
   subst hH
   have hx':=hx xs (s'.sqL (s.sqL ha))
   obtain ⟨d,h1,h2⟩:=r.getV hx'
   exact ⟨F',d,.refl s',h1,h2.mono s⟩,
  fun i F' H' s s' hi=>⟨xs,s'.sqL (s.sqL ha),by rw [r.length];exact hi⟩⟩
 cases r1 with
 | @lst a xs ds' ha r=>cases e2;exact ⟨a,rfl,⟨xs,SqL.of (g1.fh _ _ ha)⟩,fin a xs (SqL.of ha) r⟩
 | @scr a ns ha=>cases e2;exact ⟨a,rfl,⟨_,g1.fh.sqL ha⟩,fin a _ ha (Reps.ints ns)⟩
 | _=>cases e2
theorem V4 {a:Expr} {p:Pos} {ev:EvE} (hg:Gl X "range") (hm:X.mg "range"=none) (ha:PE X a (tR X O ev)) (hs:starEach [a] X.env=[(false,eval a X.env)]:=by rfl):PI X tg (.Call (.Name "range" p) [a] [] pos) (tI X O (Yy ev)) :=
 PI.imp (Qnz hg hm (QgA ha hs) hs) fun σ H R ⟨F0,F,en,ds,rs,z,k⟩=>by
  obtain ⟨d,e1,e2⟩:=Q8 z
  cases d with
  | int n =>
   simp only [D.rng] at e2
   split at e2
   ·rename_i hz
    cases e2
    refine ⟨F0,F,en,.int n,rs,e1,fun v F1 H1 g1 r1=>⟨n,by rw [r1.int],by omega,by omega,k F1 H1 _ g1 ⟨fun i F' H' s s' hi=>?_,fun i F' H' x H2 s s' hi ⟨hH,hx⟩=>?_,fun i F' H' s s' hi=>?_⟩⟩⟩
    ·rw [Qee] at hi;exact hi
    ·subst hH hx
     have hi':i<n.toNat:=by rw [Qee] at hi;exact hi
     exact ⟨F',.int (0+(i:Int)),.refl s',by simp [rD,hi'],.int _⟩
    ·rw [Qee] at hi;exact hi
   ·cases e2
  | _=>cases e2
end
end Wd
namespace Wd
open PySem PySem.Spec PyProof.Rows L2
section
variable {P:Program} {w:World} {K:Fg} {mg:Str->Option Value} {base:Heap} {x:Str} {st:Stmt} {N ps:List Str} {k:Nat} {b:EvS}
theorem okF {f:Addr} {fd:FuncData} (F:Fun K x x st f fd) (S:FnScope N ps (Qc st)) {O' OL:List Nat}
  (hb:∀ (cdv:Value) (A:Around) (outer:List Env) (s:Shared) (H:Hp) (E:XK),Room k (A.deeper (envOfC x (Qc st) s.heap.objs.size f cdv))->PSs (VV CX0 P w K mg base N x (Qc st) f cdv A outer s H E).nox (Zo st) (tS (VV CX0 P w K mg base N x (Qc st) f cdv A outer s H E).nox [] O' OL false b)) :
  FnOk P w K mg base CX0 (k+1) f fd ps (spD K (QC N.length ps.length b)):=by
 refine F.ok S (fun vs H Q E ⟨F,ds,d,s,r,e,_⟩=>?_) (fun cdv A outer s H vs Q E hr ⟨Fz,ds,d,sm,r,e,k⟩=>?_)
 ·unfold QC at e
  split at e
  ·rename_i z;rw [r.length];exact z
  ·cases e
 ·refine ⟨_,hb cdv A outer s H E hr,?_⟩
  unfold QC at e
  split at e
  ·rename_i z
   have e':QdW (b (sD N.length ds))=some d:=e
   cases q:b (sD N.length ds) with
   | none=>rw [q] at e';cases e'
   | some fl =>
    rw [q] at e'
    have hst:start N vs=vs.map some++List.replicate (N.length-vs.length) none:=rfl
    rw [hst]
    refine ⟨⟨Fz,H,none⟩,Fz,sD N.length ds,fl,QiN N.length sm r,q,?_⟩
    cases fl with
    | nx en=>cases e';exact fun σ' F' H' s' rs=>k .non F' H' rs.ex.gr .non
    | rt d'=>cases e';exact fun v F' H' x r=>k v F' H' x.gr r
    | bk en=>cases e'
    | ct en=>cases e'
  ·cases e
section
variable {h:Heap} {f:Addr} {oc kV dc pm cd ct:Value} {od an:Option Addr} {osl:Array (Option Value)}
theorem df_mk (X:K.In h) (G:h.Ns mainGlobals mg) (hb:∀ (kV doc pm:Value) (an:Option Addr) (cdv ct:Value) (us:List Value),us.length=ps.length->bindArgs (PySem.W.fnOf x x (ZZ st) (Zo st) (Qc st) .none kV doc pm an cdv ct) ⟨us,[]⟩=pure (ps.zip us))
  (a:PySem.W.nsIn K mainGlobals x=some (some (.ref f))) (l:K.lookup f=some ⟨oc,od,.func (PySem.W.fnOf x x (ZZ st) (Zo st) (Qc st) .none kV dc pm an cd ct),osl⟩) (c:PySem.W.codeIn K cd x=true) (k:PySem.W.keepIn K (.ref f)=true):Df K mg x st ps :=
 ⟨f,_,Qis l c k,(Qis l c k).binds hb,PySem.W.mg_of X G a⟩
theorem gint_mk {v:Value} {i:Int} (X:K.In h) (G:h.Ns mainGlobals mg) (a:PySem.W.nsIn K mainGlobals x=some (some v)) (e:∃ t,v=.int i t):∃ t,mg x=some (.int i t):=by
 obtain ⟨t,rfl⟩:=e
 exact ⟨t,PySem.W.mg_of X G a⟩
theorem law_mk {fa:Addr} {y:Str} (X:K.In h) (G:h.Ns mainGlobals mg) (hfa:mg x=some (.ref fa)) (hb:∀ (kV doc pm:Value) (an:Option Addr) (cdv ct:Value) (u:Value),bindArgs (PySem.W.fnOf x x (ZZ st) (Zo st) (Qc st) .none kV doc pm an cdv ct) ⟨[u],[]⟩=pure [(y,u)])
  (a:PySem.W.nsIn K mainGlobals x=some (some (.ref f))) (l:K.lookup f=some ⟨oc,od,.func (PySem.W.fnOf x x (ZZ st) (Zo st) (Qc st) .none kV dc pm an cd ct),osl⟩) (c:PySem.W.codeIn K cd x=true) (k:PySem.W.keepIn K (.ref f)=true) :
  ∃ fd,(∀ (s:Shared) (u:Value),BindsTo s fd ⟨[u],[]⟩ [(y,u)])/\Fun K x x st fa fd:=by
 have e:=hfa.symm.trans (PySem.W.mg_of X G a)
 cases e
 exact ⟨_,fun s u=>.of_eq (hb _ _ _ _ _ _ u),Qis l c k⟩
end
end
theorem Qsm (K:Fg) (f:List D->Option D) (h:∀ ns,f [.scr ns]=some (.bl true)) (H:Hp) (a:Addr) (ns:List Int) (hS:SqL K H a (ns.map V.int)):spD K f [.ref a] H (fun v _=>v=.bl true) fun _ _ _=>False :=
 ⟨H,[.scr ns],.bl true,.refl H,.cons (.scr hS) .nil,h ns,fun v F' H' g r=>by cases r;rfl⟩
theorem Qq1 (K:Fg):Kit K "int":=fun d hd=>by cases d<;>first | rfl | exact absurd rfl (hd _)
theorem Qpq (K:Fg):Kit K "bool":=fun d hd=>by cases d<;>first | rfl | exact absurd rfl (hd _)
theorem QnW (K:Fg):Kit K "tuple":=fun d hd=>by cases d<;>first | rfl | exact absurd rfl (hd _)
theorem QiY (K:Fg):Kit K "list":=fun d hd=>by cases d<;>first | rfl | exact absurd rfl (hd _)
end Wd
namespace Wd
open PySem PySem.Spec PyProof.Rows L2
section
variable {X:Cx} {pins:List (Addr×Obj)} {σ:L2.St} {H:Hp} {s:Shared} {h':Heap}
theorem Qqd {t':Nat} {ch:List Addr} {p:Addr} {o:HO} (I:Inv X pins σ H s) (k:∀ b u,b∉ch->s.heap.get? b=some u->h'.get? b=some u) (hf:∀ b∈ch,VY X pins H b) (hp:s.heap.objs.size<=p) (new:ObjOk X.prog X.w (upd H p o) h' p o) :
  Inv X pins σ (upd H p o) { s with heap:=h',toks:=t' }:=by
 have hn:H p=none:=I.hok.fresh hp
 have nit:∀ b u,H b=some u->b∉ch:=fun b u e z=>by rw [(hf b z).1] at e;cases e
 refine I.step (g':=s.gens) (d':=s.drawn) (ch:=ch) (fun b hb=>?_) (fun b o _ _ hc e _=>k b o hc e) (fun b o _ _ hc e _=>⟨o.slots,k b o hc e⟩) (fun b o _ e n=>?_)
  (fun b o hc e=>⟨o,k b o hc e⟩) (fun b xs e=>?_) (fun b xs u e=>?_) (fun b ps e=>⟨#[],?_⟩) (fun m hm=>?_) (fun b u e=>?_) I.bare
 ·obtain ⟨f0,f1,f2,f3,f4,f5⟩:=hf b hb
  exact ⟨f3,f1,f4,f5⟩
 ·rw [QH (Nat.ne_of_lt (Nat.lt_of_lt_of_le (Heap.lt_size e) hp))];exact n
 ·rw [QH (J0 e hn)];exact e
 ·rw [QH (J0 e hn)];exact e
 ·rw [QH (J0 e hn),e];simp
 ·obtain ⟨o,es,ep,ho,r⟩:=hm
  exact ⟨o,es,ep,k _ o (fun z=>(hf _ z).2.1 rfl) ho,r⟩
 ·by_cases hb:b=p
  ·subst hb;rw [Q7] at e;cases e;exact new
  ·rw [QH hb] at e
   refine (I.hok b u e).stay (fun c v hc q=>k c v ?_ q) (fun c q=>by rw [QH (J0 q hn)];exact q) fun c xs q=>by rw [QH (J0 q hn)];exact q
   rcases hc with z | z
   ·rw [z];exact nit b u e
   ·exact nit c _ z
theorem Qqe {t':Nat} {ch:List Addr} (I:Inv X pins σ H s) (k:∀ b u,b∉ch->s.heap.get? b=some u->h'.get? b=some u) (hf:∀ b∈ch,VY X pins H b):Inv X pins σ H { s with heap:=h',toks:=t' }:=by
 have nit:∀ b u,H b=some u->b∉ch:=fun b u e z=>by rw [(hf b z).1] at e;cases e
 refine I.step (g':=s.gens) (d':=s.drawn) (ch:=ch) (fun b hb=>?_) (fun b o _ _ hc e _=>k b o hc e) (fun b o _ _ hc e _=>⟨o.slots,k b o hc e⟩) (fun _ _ _ _ n=>n)
  (fun b o hc e=>⟨o,k b o hc e⟩) (fun _ _ e=>e) (fun _ _ _ e=>e) (fun b ps e=>⟨#[],by rw [e];simp⟩) (fun m hm=>?_) (fun b u e=>?_) I.bare
 ·obtain ⟨f0,f1,f2,f3,f4,f5⟩:=hf b hb
  exact ⟨f3,f1,f4,f5⟩
 ·obtain ⟨o,es,ep,ho,r⟩:=hm
  exact ⟨o,es,ep,k _ o (fun z=>(hf _ z).2.1 rfl) ho,r⟩
 ·refine (I.hok b u e).stay (fun c v hc q=>k c v ?_ q) (fun _ q=>q) fun _ _ q=>q
  rcases hc with z | z
  ·rw [z];exact nit b u e
  ·exact nit c _ z
end
def Ite (K:Fg) (a:Addr):It :=
 ⟨fun i H=>∃ xs x,SqL K H a xs/\xs[i]?=some x,fun i H x H'=>∃ p y,H p=none/\x=.ref p/\H'=upd H p (.tup [.int i,y])/\∀ xs,SqL K H a xs->xs[i]?=some y,fun i H=>∃ xs,SqL K H a xs/\xs.length<=i⟩
theorem Qnj {P:Program} {w:World} {K:Fg} {elts:List Expr} {x1:Nat} {pos:Pos} (a e it:Addr) (hne:e≠it):Turn P w K (.Tuple elts x1 pos) (Ite K a) [e,it] e (fun i h=>∃ old,IsEnum h e it i old/\h.IsListIter it a i) where
 mem:=by simp
 obj:=fun i h st b hb=>by
  obtain ⟨old,he,o,ho,c,d⟩:=st
  rcases List.mem_cons.mp hb with z | z
  ·subst z
   exact ⟨_,he,fun v z=>by
    have z':Data.fields _=Data.cell v:=z
    cases z'⟩
  ·have z:=List.mem_singleton.mp z
   subst z
   exact ⟨o,ho,fun v z=>by rw [d] at z;cases z⟩
 keep:=fun i h h' st k=>by
  obtain ⟨old,he,hi⟩:=st
  exact ⟨old,k e (by simp) _ he,hi.at fun o q=>k it (by simp) o q⟩
 item:=by
  intro X hP hw hK hc i pins s σ H E I hf st hg
  subst hP hw hK
  obtain ⟨old,he,hi⟩:=st
  obtain ⟨xs,x,hq,hx⟩:=hg
  obtain ⟨its,rv,p,hz⟩:=I.list hq
  obtain ⟨u,hu,ru⟩:=rv.get hx
  refine wpAny_pyNext_enum_item he hi p.isList (x:=u) (by simpa using hu) hne fun h' eo hi' ht hsz kk=>?_
  refine ⟨_,rfl,wpAny_letOwnedTupleGo_enum eo fun h2 he2 sb=>?_⟩
  have k2:∀ b o,b∉[e,it]->s.heap.get? b=some o->h2.get? b=some o:=fun b o hb q=>by
   have h1:b≠e:=fun z=>hb (by simp [z])
   have h3:b≠it:=fun z=>hb (by simp [z])
   exact (sb.2 b h1).trans (kk b o h1 h3 q)
  have fe:H s.heap.objs.size=none:=I.hok.fresh (Nat.le_refl _)
  have le:e<s.heap.objs.size:=Heap.lt_size he
  have ht2:h2.get? s.heap.objs.size=some { cls:=.type "tuple",data:=.seq #[.int i s.toks,u] }:=(sb.2 _ (Nat.ne_of_gt le)).trans ht
  have li:it<s.heap.objs.size:=by obtain ⟨o,ho,_⟩:=hi;exact Heap.lt_size ho
  have I2:Inv X pins σ (upd H s.heap.objs.size (.tup [.int i,x])) { s with heap:=h2,toks:=s.toks+1 } :=
   Qqd (t':=s.toks+1) I k2 hf (Nat.le_refl _) (show ObjOk X.prog X.w _ h2 _ (.tup [.int i,x]) from ⟨by show 2<=sizeLine;decide,[.int i s.toks,u],.cons ⟨_,rfl⟩ (.cons ru .nil),⟨_,ht2,rfl,_,rfl⟩⟩)
  refine ⟨.ref s.heap.objs.size,_,I2,rfl,⟨_,x,fe,rfl,rfl,fun ys hy=>by rw [I.list_inj hy hq];exact hx⟩,⟨u,he2,?_⟩,fun b hb=>?_⟩
  ·exact hi'.at fun o q=>(sb.2 it (Ne.symm hne)).trans q
  ·have:b≠s.heap.objs.size:=by
    rcases List.mem_cons.mp hb with z | z
    ·rw [z];exact Nat.ne_of_lt le
    ·rw [List.mem_singleton.mp z];exact Nat.ne_of_lt li
   rw [QH this]
   exact (hf b hb).1
 done:=by
  intro X hP hw hK hc i pins s σ H E I hf st hg
  subst hP hw hK
  obtain ⟨old,he,hi⟩:=st
  obtain ⟨xs,hq,hx⟩:=hg
  obtain ⟨its,rv,p,hz⟩:=I.list hq
  have hl:=rv.length
  exact wpAny_pyNext_enum_end (I.ok.hd hc) he hi p.isList (by simp;omega) fun h' eb=>⟨rfl,Qqe (t':=s.toks) I (fun b o hb q=>eb b o (fun z=>hb (by simp [z])) q) hf⟩
 self:=fun _ _ _ _ _ st h=>by
  obtain ⟨old,he,_⟩:=st
  exact wpAny_pyIter_enum he h
section
variable {X:Cx} {O:List Nat} {a:Expr} {p pos:Pos}
def Qsy (K:Fg) (ta:TA):TI:=fun σ H R=>ta σ H fun vs H1=>∃ l,vs=[.ref l]/\(∃ xs,SqL K H1 l xs)/\R (Ite K l) H1
theorem QqA {elts:List Expr} {x1:Nat} {tpos:Pos} {ta:TA} (hg:Gl X "enumerate") (hm:X.mg "enumerate"=none) (ha:PA X [a] ta) (hs:starEach [a] X.env=[(false,eval a X.env)]:=by rfl):PI X (.Tuple elts x1 tpos) (.Call (.Name "enumerate" p) [a] [] pos) (Qsy X.K ta):=by
 intro pins s σ H R I h
 refine Call_ (Qd4 I hg hm boot_enumerate (PyProof.Rows.callWith_type1 (thn (ha pos pins s σ H _ I h) fun us s1 ⟨vs,H1,I1,r1,q1⟩=>?_) hs rfl))
 obtain ⟨l,e,⟨xs,hq⟩,q⟩:=q1
 subst e
 obtain ⟨u,rfl,rx⟩:=QaG r1
 cases rx
 obtain ⟨its,rv,pl,hz⟩:=I1.list hq
 refine call_enumerate_list pl.isList fun h' he hi hsz hk=>?_
 have I2:Inv X pins σ H1 { s1 with heap:=h' }:=I1.kept (t':=s1.toks) hk
 have fe:∀ b,s1.heap.objs.size<=b->H1 b=none:=fun b hb=>I1.hok.fresh hb
 refine wpAny_pyIter_enum he ⟨_,[s1.heap.objs.size+1,s1.heap.objs.size],_,_,H1,rfl,I2,Qnj l _ _ (Nat.succ_ne_self _),⟨.none,he,hi⟩,fun b hb=>?_,q⟩
 have:s1.heap.objs.size<=b:=by
  rcases List.mem_cons.mp hb with z | z
  ·rw [z];exact Nat.le_succ _
  ·rw [List.mem_singleton.mp z];exact Nat.le_refl _
 exact I1.fpOk this (fe b this)
theorem Qhx:∀ (ds:List D) (n i:Nat) (d:D),ds[i]?=some d->(Vl n ds)[i]?=some (.tup [.int ((n+i:Nat):Int),d])
 | [],_,_,_,h=>by simp at h
 | d::ds,n,0,_,h=>by simp at h;subst h;simp [Vl]
 | d::ds,n,i+1,x,h=>by
  have:=Qhx ds (n+1) i x (by simpa using h)
  rw [Vl,List.getElem?_cons_succ,this,show n+1+i=n+(i+1) by omega]
theorem Qeg:∀ (ds:List D) (n:Nat),(Vl n ds).length=ds.length
 | [],_=>rfl
 | d::ds,n=>by rw [Vl,List.length_cons,List.length_cons,Qeg]
theorem QeF {elts:List Expr} {x1:Nat} {tpos:Pos} {ev:EvE} (hg:Gl X "enumerate") (hm:X.mg "enumerate"=none) (ha:PE X a (tD X O ev)) (hs:starEach [a] X.env=[(false,eval a X.env)]:=by rfl):PI X (.Tuple elts x1 tpos) (.Call (.Name "enumerate" p) [a] [] pos) (tI X O (QaI ev)) :=
 PI.imp (QqA hg hm (ZY ha Qbs hs) hs) fun σ H R ⟨F0,F,en,ds0,rs,z,k⟩=>by
  obtain ⟨d,e1,e2⟩:=Q8 z
  obtain ⟨ds,e3,rfl⟩:=J8 e2
  refine ⟨F0,F,en,d,rs,e1,fun v F1 H1 g1 r1=>?_⟩
  have fin:∀ (l:Addr) (xs:List V),SqL X.K F1 l xs->Reps X.K F1 xs ds->R (Ite X.K l) H1:=fun l xs hl r=>k F1 H1 _ g1
   ⟨fun i F' H' s s' hi=>by
    rw [Qeg] at hi
    obtain ⟨v,h1,_⟩:=r.get (List.getElem?_eq_getElem hi)
    exact ⟨xs,v,s'.sqL (s.sqL hl),h1⟩,
   fun i F' H' x H2 s s' hi hy=>by
    obtain ⟨p,y,hp,rfl,rfl,hx⟩:=hy
    have hx':=hx xs (s'.sqL (s.sqL hl))
    obtain ⟨d,h1,h2⟩:=r.getV hx'
    have g:=Gr.new s' hp (.tup [.int i,y])
    refine ⟨_,.tup [.int i,d],g,?_,.tup Q7 (.cons (.int _) (.cons ((h2.mono s).mono g.ff) .nil))⟩
    have:=Qhx ds 0 i d h1
    rw [this,Nat.zero_add],
   fun i F' H' s s' hi=>⟨xs,s'.sqL (s.sqL hl),by rw [Qeg] at hi;rw [r.length];exact hi⟩⟩
  cases r1 with
  | @lst l xs ds' hl r=>cases e3;exact ⟨l,rfl,⟨xs,SqL.of (g1.fh _ _ hl)⟩,fin l xs (SqL.of hl) r⟩
  | @scr l ns hl=>cases e3;exact ⟨l,rfl,⟨_,g1.fh.sqL hl⟩,fin l _ hl (Reps.ints ns)⟩
  | _=>cases e3
end
end Wd
namespace Wd
open PySem PySem.Spec PyProof.Rows L2
section
variable {env:Env}
theorem Qdz:∀ (names:List (Str×NameKind)) (cs:List (Str×Addr)),(∀ x∈names,x.2=.free->∃ c,env.cells.lookup x.1=some c)->(∀ x c,cs.lookup x=some c->env.cells.lookup x=some c) ->
  ∃ cl,(forIn (m:=Sem) names cs ((fun x r=>match x with | (name,kind)=>if (kind==NameKind.free)=true then do let c <- cellOf env name;pure (ForInStep.yield ((name,c)::r)) else pure (ForInStep.yield r)):(Str×NameKind)->List (Str×Addr)->Sem (ForInStep (List (Str×Addr)))))=pure cl /\
   (∀ x c,cl.lookup x=some c->env.cells.lookup x=some c)/\∀ x,((∃ c,cs.lookup x=some c)\/(x,NameKind.free)∈names)->∃ c,cl.lookup x=some c
 | [],cs,_,hP=>⟨cs,rfl,hP,fun x h=>by
   rcases h with h | h
   ·exact h
   ·cases h⟩
 | (n,k)::names,cs,hf,hP=>by
  rw [List.forIn_cons]
  by_cases hk:k=.free
  ·subst hk
   obtain ⟨c,hc⟩:=hf (n,.free) List.mem_cons_self rfl
   have hcell:cellOf env n=pure c:=by unfold cellOf;rw [hc]
   obtain ⟨cl,h1,h2,h3⟩:=Qdz names ((n,c)::cs) (fun x hx=>hf x (List.mem_cons_of_mem _ hx)) (fun x c' h=>by
    rw [List.lookup_cons] at h
    split at h
    ·rename_i z
     cases h
     rw [eq_of_beq z];exact hc
    ·exact hP x c' h)
   refine ⟨cl,?_,h2,fun x h=>h3 x ?_⟩
   ·rw [<- h1]
    simp only [beq_self_eq_true,if_true,hcell]
    rfl
   ·rcases h with ⟨c',h⟩ | h
    ·left
     rw [List.lookup_cons]
     split
     ·exact ⟨_,rfl⟩
     ·exact ⟨c',h⟩
    ·rcases List.mem_cons.mp h with h | h
     ·cases h
      left
      exact ⟨c,by simp⟩
     ·exact .inr h
  ·have hb:(k==NameKind.free)=false:=by simpa using hk
   obtain ⟨cl,h1,h2,h3⟩:=Qdz names cs (fun x hx=>hf x (List.mem_cons_of_mem _ hx)) hP
   refine ⟨cl,?_,h2,fun x h=>h3 x ?_⟩
   ·rw [<- h1]
    simp only [hb,Bool.false_eq_true,if_false]
    rfl
   ·rcases h with h | h
    ·exact .inl h
    ·rcases List.mem_cons.mp h with h | h
     ·cases h
      exact absurd rfl hk
     ·exact .inr h
theorem Qh1 {scope:Scope} (hf:∀ x∈scope.names,x.2=.free->∃ c,env.cells.lookup x.1=some c) :
  ∃ cl,closureFor scope env=pure cl/\(∀ x c,cl.lookup x=some c->env.cells.lookup x=some c)/\∀ x,(x,NameKind.free)∈scope.names->∃ c,cl.lookup x=some c:=by
 obtain ⟨cl,h1,h2,h3⟩:=Qdz scope.names [] hf (fun x c h=>by cases h)
 refine ⟨cl,?_,h2,fun x h=>h3 x (.inr h)⟩
 have e:closureFor scope env=((forIn (m:=Sem) scope.names [] ((fun x r=>match x with | (name,kind)=>if (kind==NameKind.free)=true then do let c <- cellOf env name;pure (ForInStep.yield ((name,c)::r)) else pure (ForInStep.yield r)):(Str×NameKind)->List (Str×Addr)->Sem (ForInStep (List (Str×Addr))))) >>= fun r=>pure r):=rfl
 rw [e,h1]
 rfl
theorem Qaz (env:Env):∀ (names:List (Str×NameKind)) (x:Str),(names.map fun (n,k)=>if (k==NameKind.free&&env.scope.kind==.function&&env.kindOf n==some .cell) then (n,NameKind.cell) else (n,k)).lookup x =
  (names.lookup x).map fun k=>if (k==NameKind.free&&env.scope.kind==.function&&env.kindOf x==some .cell) then NameKind.cell else k
 | [],_=>rfl
 | (n,k)::names,x=>by
  have ih:=Qaz env names x
  rw [List.map_cons,List.lookup_cons]
  show List.lookup x ((if (k==NameKind.free&&env.scope.kind==.function&&env.kindOf n==some .cell)=true then (n,NameKind.cell) else (n,k))::_)=_
  cases hx:x==n with
  | true =>
   have:=eq_of_beq hx
   subst this
   by_cases hc:(k==NameKind.free&&env.scope.kind==.function&&env.kindOf x==some .cell)=true
   ·rw [if_pos hc,List.lookup_cons,hx]
    rw [List.lookup_cons,hx]
    simp only [Option.map_some]
    rw [if_pos hc]
   ·rw [if_neg hc,List.lookup_cons,hx]
    rw [List.lookup_cons,hx]
    simp only [Option.map_some]
    rw [if_neg hc]
  | false =>
   by_cases hc:(k==NameKind.free&&env.scope.kind==.function&&env.kindOf n==some .cell)=true
   ·rw [if_pos hc,List.lookup_cons,List.lookup_cons,hx];exact ih
   ·rw [if_neg hc,List.lookup_cons,List.lookup_cons,hx];exact ih
theorem mem_of_lookup {α β:Type} [BEq α] [LawfulBEq α]:∀ {l:List (α×β)} {x:α} {y:β},l.lookup x=some y->(x,y)∈l
 | [],_,_,h=>by cases h
 | (a,b)::l,x,y,h=>by
  rw [List.lookup_cons] at h
  split at h
  ·rename_i z;cases h;rw [eq_of_beq z];exact List.mem_cons_self
  ·exact List.mem_cons_of_mem _ (mem_of_lookup h)
end
def Qby (X:Cx) (scope:Scope) (N':List Str) (cl:List (Str×Addr)) (C:Addr) (ex:List Addr) (s:Shared) (H:Hp) (pn:List (Addr×Obj)):Cx :=
 { X with N:=N',env:=compEnvC scope cl C X.env,s₀:=s,H₀:=H,outer:=X.stack,ex:=ex,fn:=fun _=>false,pn:=pn,xe:=fun _ _=>False }
structure CompSc (X:Cx) (scope:Scope) (n:Nat) (N':List Str) (caps:List Nat):Prop where
 kind:scope.kind=.function
 nocell:∀ y∈scope.names,y.2≠.cell
 loc:∀ x∈scope.names,x.2=.local->scope.names.lookup x.1=some .local
 fre:∀ x∈scope.names,x.2=.free->X.env.kindOf x.1=some .cell\/X.env.kindOf x.1=some .free
 len:N'.length=n+caps.length
 cap:∀ (j i:Nat),caps[j]?=some i->∃ x,N'[n+j]?=some x/\X.N[i]?=some x/\scope.names.lookup x=some .free
 nd:N'.Nodup
section
variable {X:Cx} {pins:List (Addr×Obj)} {σ:L2.St} {H:Hp} {s:Shared} {scope:Scope} {n:Nat} {N':List Str} {caps:List Nat} {cl:List (Str×Addr)} {C:Addr} {ex:List Addr}
theorem Qok (S:CompSc X scope n N' caps) {x:Str} (h:(compEnvC scope cl C X.env).kindOf x=some .cell\/(compEnvC scope cl C X.env).kindOf x=some .free):(x,NameKind.free)∈scope.names:=by
 have e:(compEnvC scope cl C X.env).kindOf x=(scope.names.lookup x).map fun k=>if (k==NameKind.free&&X.env.scope.kind==.function&&X.env.kindOf x==some .cell) then NameKind.cell else k:=Qaz X.env scope.names x
 rw [e] at h
 cases q:scope.names.lookup x with
 | none=>rw [q] at h;rcases h with h | h<;>cases h
 | some k =>
  have m:=mem_of_lookup q
  cases k with
  | free=>exact m
  | cell=>exact absurd rfl (S.nocell _ m)
  | _ =>
   rw [q] at h
   rcases h with h | h<;>simp at h
theorem Qol (I:Inv X pins σ H s) (S:CompSc X scope n N' caps) (hC:s.heap.objs.size<=C) (hcl:∀ x c,cl.lookup x=some c->X.env.cells.lookup x=some c) (hhas:∀ x,(x,NameKind.free)∈scope.names->∃ c,cl.lookup x=some c)
  (hex:∀ b∈ex,VY X pins H b/\b≠C) (pn:List (Addr×Obj)):(Qby X scope N' cl C ex s H pn).Ok where
 mod:=I.ok.mod
 kind:=S.kind
 glob:=I.ok.glob
 blt:=I.ok.blt
 above:=hC
 inj:=fun x y c h1 h2=>I.ok.inj x y c (hcl x c h1) (hcl y c h2)
 has:=fun x h=>hhas x (Qok (cl:=cl) (C:=C) S h)
 cab:=fun x c h=>by cases h
 hd:=I.ok.hd
 frames:=I.ok.frames
 stk:=.inl rfl
 exf:=fun b hb=>⟨(hex b hb).2,fun x c h=>(hex b hb).1.2.2.2.2.1 x c (hcl x c h)⟩
 bs:=I.bs
 bsz:=Nat.le_trans I.ok.bsz I.sz
 noex:=fun b o e hb=>by
  rcases (hex b hb).1.2.2.2.1 with z | z
  ·exact I.ok.noex b o e z
  ·exact absurd (Nat.lt_of_lt_of_le (Heap.lt_size e) (Nat.le_trans I.ok.bsz z)) (Nat.lt_irrefl _)
 exfs:=fun b hb hf=>by
  obtain ⟨⟨_,h1,h2,_⟩,_⟩:=hex b hb
  rcases List.mem_cons.mp (I.stkSub b hf) with z | z
  ·exact h1 z
  ·exact h2 z
 funs:=I.stack
 frf:=I.stkFree
end
end Wd
namespace Wd
open PySem PySem.Spec PyProof.Rows L2
theorem Qoj {prog:Program} {w:World} {A:Around} {R:Result->Shared->Prop} {s:Shared} {elt target iter:Expr} {ifs:List Expr} {scope:Scope} {pos:Pos} {it acc:Value} {env:Env} {E:Value->Shared->Prop} (hE:∀ x s,¬ E x s) (J:Nat->Shared->Prop)
  (turn:∀ n s,J n s->wpAny (model prog w) A (pyNext it) (fun r s₁=>match r with
   | none=>R (.ok .next) s₁
   | some v=>wpAny (model prog w) A (letOwnedTupleGo target it v) (fun _ s₁=>wpAny (model prog w) A (assign target env v) (fun _ s₂ =>
     wpAny (model prog w) A (forIn ifs true fun c r=>if r=true then do let ok <- isTrue c env (eval c env);pure (ForInStep.yield ok) else pure (ForInStep.yield r)) (fun ok s₃ =>
      if ok=true then wpAny (model prog w) A (eval elt env) (fun x s₄ =>
       wpAny (model prog w) A (call (.builtin "list.append") [acc,x]) (fun _ s₅=>∃ m,m<n/\J m s₅) E s₄) E s₃
      else ∃ m,m<n/\J m s₃) E s₂) E s₁) E s₁) E s)
  (n:Nat) (h:J n s):codeAny (model prog w) A (.compLoop (.ListComp elt [⟨target,iter,ifs,0⟩] scope pos) 0 it acc env) R s:=by
 have no:∀ {E':Value->Shared->Prop} x s,E x s->E' x s:=fun x s h=>absurd h (hE x s)
 refine codeAny_loop rfl J (fun n s hI=>?_) n h
 show wpAny _ A ((compTurn (.ListComp elt [⟨target,iter,ifs,0⟩] scope pos) 0 it acc env).onRaise (fun x=>do noteFrame x env;theTreesLotGoes x)) _ _ s
 refine wpAny_noted ?_
 rw [compTurn_list]
 refine wpAny_bind (wpAny_standAt (wpAny_bind (wpAny_mono (turn n s hI) (fun r s₁ h₁=>?_) fun x s h'=>no x s h')))
 cases r with
 | none=>exact wpAny_pure h₁
 | some v =>
  refine wpAny_bind (wpAny_mono h₁ (fun _ s₂ h₂=>wpAny_bind (wpAny_mono h₂ (fun _ s₂ h₂=>wpAny_bind (wpAny_mono h₂ (fun ok s₃ h₃=>?_) fun x s h'=>no x s h')) fun x s h'=>no x s h')) fun x s h'=>no x s h')
  cases ok with
  | false=>exact wpAny_pure ⟨rfl,h₃⟩
  | true =>
   exact wpAny_bind (wpAny_bind (wpAny_mono h₃ (fun x s₄ h₄=>wpAny_bind (wpAny_mono h₄ (fun _ s₅ h₅=>wpAny_pure (wpAny_pure ⟨rfl,h₅⟩)) fun x s h'=>no x s h')) fun x s h'=>no x s h'))
def PIf (X:Cx) (ifs:List Expr) (t:TT):Prop :=
 ∀ (pins:List (Addr×Obj)) (s:Shared) (σ:L2.St) (H:Hp) (Q:Bool->Hp->Prop),Inv X pins σ H s->t σ H Q ->
  wpAny (model X.prog X.w) X.A (forIn ifs true fun c r=>if r=true then do let ok <- isTrue c X.env (eval c X.env);pure (ForInStep.yield ok) else pure (ForInStep.yield r)) (TP X pins σ Q) X.xe s
section
variable {X:Cx}
theorem Yd {O:List Nat}:PIf X [] (tDT X O (eC (.bl true))):=fun pins s σ H Q I ⟨F0,F,en,b,rs,w,k⟩=>by
 cases w
 exact wpAny_pure ⟨H,I,k F H (.refl rs.fh)⟩
theorem VQ {O:List Nat} {c:Expr} {ev:EvE} (h:PT X c (tDT X O ev)):PIf X [c] (tDT X O ev):=fun pins s σ H Q I t=>by
 simp only [List.forIn_cons,List.forIn_nil,if_true]
 exact wpAny_bind (wpAny_bind (wpAny_mono (h pins s σ H Q I t) (fun b s' hb=>wpAny_pure (wpAny_pure hb)) fun _ _ x=>x))
end
section
variable {X:Cx} {pins:List (Addr×Obj)} {σ:L2.St} {H:Hp} {s:Shared} {scope:Scope} {n:Nat} {N':List Str} {caps:List Nat} {cl:List (Str×Addr)} {fp:List Addr}
def QdX (n:Nat) (caps:List Nat) (σ:L2.St):L2.St:=List.replicate n none++caps.map fun i=>(σ[i]?).join
theorem QmH (I:Inv X pins σ H s) (S:CompSc X scope n N' caps) (hcl:∀ x c,cl.lookup x=some c->X.env.cells.lookup x=some c) (hhas:∀ x,(x,NameKind.free)∈scope.names->∃ c,cl.lookup x=some c) (hfp:∀ b∈fp,VY X pins H b/\b<s.heap.objs.size)
  {h1:Heap} {tk:Nat} (hns:h1.Ns (s.heap.objs.size+1) fun _=>none) (old:∀ b o,(s.heap.push { cls:=.type "list",data:=.seq #[] }).get? b=some o->h1.get? b=some o) :
  Inv (Qby X scope N' cl (s.heap.objs.size+1) (s.heap.objs.size::fp) { s with heap:=s.heap.push { cls:=.type "list",data:=.seq #[] } } H (X.pn++pins)) [] (QdX n caps σ) (upd H s.heap.objs.size (.lst [])) { s with heap:=h1,toks:=tk }:=by
 have hz:(s.heap.push { cls:=.type "list",data:=.seq #[] }).objs.size=s.heap.objs.size+1:=Heap.size_push ..
 have up:∀ b o,s.heap.get? b=some o->h1.get? b=some o:=fun b o e=>old b o (Heap.get?_push_of_some _ e)
 have hacc:H s.heap.objs.size=none:=I.hok.fresh (Nat.le_refl _)
 have hC:H (s.heap.objs.size+1)=none:=I.hok.fresh (Nat.le_succ _)
 have I3:Inv X pins σ H { s with heap:=s.heap.push { cls:=.type "list",data:=.seq #[] } }:=I.kept (t':=s.toks) fun b o e=>Heap.get?_push_of_some _ e
 have cellLt:∀ x c,X.env.cells.lookup x=some c->c<s.heap.objs.size:=fun x c e=>by
  obtain ⟨v,o,ho,_⟩:=I.cell x c e
  exact Heap.lt_size ho
 refine ⟨Qol I3 S (by rw [hz];exact Nat.le_refl _) hcl hhas (fun b hb=>?_) _,rfl,I.bare,⟨fun b o e _ _ _=>old b o e,fun b o e _ _ _=>⟨o.slots,old b o e⟩,fun b o e n hb=>?_,fun b o e _=>⟨o,old b o e⟩,fun b xs e=>?_,fun b o u e=>?_,fun b ps e=>⟨#[],?_⟩⟩,
  ⟨_,hns,fun i x v e1 e2 _=>?_⟩,fun x c e=>?_,?_,fun x c e=>?_,fun p hp=>?_,I.hok.laid up (Nat.le_refl _) ⟨Nat.zero_le _,[],0,.nil,old _ _ (Heap.get?_push_size _ rfl)⟩,?_⟩
 ·rcases List.mem_cons.mp hb with z | z
  ·subst z
   exact ⟨I.fpOk (Nat.le_refl _) hacc,Nat.ne_of_lt (Nat.lt_succ_self _)⟩
  ·exact ⟨(hfp b z).1,Nat.ne_of_lt (Nat.lt_succ_of_lt (hfp b z).2)⟩
 ·rw [QH (fun z=>hb (by rw [z];exact List.mem_cons_self))];exact n
 ·rw [QH (J0 e hacc)];exact e
 ·rw [QH (J0 e hacc)];exact e
 ·have e':H b=some (.tbl ps):=e
  rw [QH (J0 e' hacc),e'];simp
 ·unfold QdX at e2
  rcases Nat.lt_or_ge i n with hi | hi
  ·rw [List.getElem?_append_left (by simpa using hi),List.getElem?_replicate,if_pos hi] at e2
   cases e2
  ·rw [List.getElem?_append_right (by simpa using hi),List.length_replicate,List.getElem?_map] at e2
   cases q:caps[i-n]? with
   | none=>rw [q] at e2;cases e2
   | some j =>
    rw [q] at e2
    obtain ⟨x',f1,f2,f3⟩:=S.cap (i-n) j q
    rw [show n+(i-n)=i by omega] at f1
    have e1':N'[i]?=some x:=e1
    rw [f1] at e1'
    cases e1'
    have e2':(σ[j]?).join=some v:=Option.some.inj e2
    have e3:σ[j]?=some (some v):=by
     cases w:σ[j]? with
     | none=>rw [w] at e2';cases e2'
     | some o=>rw [w] at e2';cases o with
      | none=>cases e2'
      | some u=>cases e2';rfl
    have hm:=mem_of_lookup f3
    have kx:=S.fre _ hm rfl
    obtain ⟨m,_,hl⟩:=I.loc
    obtain ⟨u,r,lk⟩:=hl j x v f2 e3 (by
     rcases kx with z | z
     ·exact .inr (.inl z)
     ·exact .inr (.inr z))
    refine ⟨u,r,.inr ⟨?_,?_⟩⟩
    ·have e:(compEnvC scope cl (s.heap.objs.size+1) X.env).kindOf x=(scope.names.lookup x).map fun k=>if (k==NameKind.free&&X.env.scope.kind==.function&&X.env.kindOf x==some .cell) then NameKind.cell else k:=Qaz X.env scope.names x
     have e':(compEnvC scope cl (s.heap.objs.size+1) X.env).kindOf x=some (if (NameKind.free==NameKind.free&&X.env.scope.kind==.function&&X.env.kindOf x==some .cell) then NameKind.cell else NameKind.free):=by rw [e,f3];rfl
     show (compEnvC scope cl (s.heap.objs.size+1) X.env).kindOf x=some .cell\/(compEnvC scope cl (s.heap.objs.size+1) X.env).kindOf x=some .free
     rw [e']
     split
     ·exact .inl rfl
     ·exact .inr rfl
    ·obtain ⟨c,hc⟩:=hhas x hm
     rcases lk with ⟨z,_⟩ | ⟨_,c',hc',o,ho,hd⟩
     ·rcases kx with w | w<;>(rw [z] at w;cases w)
     ·have:=hcl x c hc
      rw [hc'] at this
      cases this
      exact ⟨c,hc,o,up c o ho,hd⟩
 ·obtain ⟨v,o,ho,hd⟩:=I.cell x c (hcl x c e)
  exact ⟨v,o,up c o ho,hd⟩
 ·show upd H s.heap.objs.size (.lst []) (s.heap.objs.size+1)=none
  rw [QH (Nat.succ_ne_self _)];exact hC
 ·rw [QH (Nat.ne_of_lt (cellLt x c (hcl x c e)))];exact I.freeC x c (hcl x c e)
 ·have hp':p∈X.pn++pins:=by simpa [Qby] using hp
  obtain ⟨k1,k2,k3,k4,k5⟩:=I.pin p hp'
  have lt:p.1<s.heap.objs.size:=Heap.lt_size k1
  refine ⟨up _ _ k1,?_,Nat.ne_of_lt (Nat.lt_succ_of_lt lt),fun hb=>?_,k5⟩
  ·rw [QH (Nat.ne_of_lt lt)];exact k2
  ·rcases List.mem_cons.mp (I.stkSub _ hb) with z | z
   ·exact k3 z
   ·exact k4 z
 ·show (QdX n caps σ).length=N'.length
  rw [S.len];simp [QdX]
end
end Wd
namespace Wd
open PySem PySem.Spec PyProof.Rows L2
def Qbb (X:Cx) (scope:Scope) (N':List Str) (P:Cx->Prop):Prop :=
 ∀ (cl:List (Str×Addr)) (C:Addr) (ex:List Addr) (s:Shared) (H:Hp) (pn:List (Addr×Obj)),P (Qby X scope N' cl C ex s H pn)
section
variable {X:Cx} {O:List Nat} {scope:Scope} {n:Nat} {N':List Str} {caps:List Nat} {tg iter elt:Expr} {ifs:List Expr} {pos:Pos} {it:EvI} {g:EvG} {c el:EvE}
theorem QrL {K:Fg} {H₀:Hp} {F0:Fz} {F H:Hp} {σ:L2.St} {en:Qr} (r:RS K H₀ F0 F H σ en O) (hO:∀ i∈caps,i∉O):RS K H ⟨F,H,none⟩ F H (QdX n caps σ) (Qci n caps en) [] where
 fh:=r.fh
 hh:=.refl H
 ff:=.refl F
 fr:=fun _ _ h=>.inl h
 slot:=fun i d h _=>by
  unfold Qci at h
  unfold QdX
  rcases Nat.lt_or_ge i n with hi | hi
  ·rw [List.getElem?_append_left (by simpa using hi),List.getElem?_replicate,if_pos hi] at h
   cases h
  ·rw [List.getElem?_append_right (by simpa using hi),List.length_replicate,List.getElem?_map] at h
   rw [List.getElem?_append_right (by simpa using hi),List.length_replicate,List.getElem?_map]
   cases q:caps[i-n]? with
   | none=>rw [q] at h;cases h
   | some j =>
    rw [q] at h
    have h':(en[j]?).join=some d:=Option.some.inj h
    have e3:en[j]?=some (some d):=by
     cases w:en[j]? with
     | none=>rw [w] at h';cases h'
     | some o=>rw [w] at h';cases o with
      | none=>cases h'
      | some u=>cases h';rfl
    have hj:j∈caps:=List.mem_of_getElem? q
    obtain ⟨v,h1,h2⟩:=r.slot j d e3 (hO j hj)
    refine ⟨v,?_,h2⟩
    simp [h1]
 own:=fun i d _ h=>by cases h
 dis:=fun i j p _ _ h=>by cases h
 pin:=fun i h=>by cases h
 len:=by unfold QdX Qci;simp
theorem QmS {K:Fg} {H₀:Hp} {F0:Fz} {F H:Hp} {σ:L2.St} {en:Qr} {p:Addr} {o:HO} (r:RS K H₀ F0 F H σ en []) (h0:F0.h p=none) (hf:F p=none):RS K H₀ F0 F (upd H p o) σ en [] where
 fh:=r.fh.upd o hf
 hh:=r.hh.upd o h0
 ff:=r.ff
 fr:=r.fr
 slot:=r.slot
 own:=fun i d _ h=>by cases h
 dis:=fun i j p _ _ h=>by cases h
 pin:=fun i h=>by cases h
 len:=r.len
theorem Qps {α:Type} {o:Option D} {x y:Option α} {r:α} (h:ifO o x y=some r):∃ b,o=some (.bl b)/\(b=true->x=some r)/\(b=false->y=some r):=by
 obtain ⟨b,h1,h2⟩:=YB h
 refine ⟨b,h1,fun z=>?_,fun z=>?_⟩
 ·subst z;exact h2
 ·subst z;exact h2
structure ItOkH (K:Fg) (F H:Hp) (J:It) (ds:List D):Prop where
 go:∀ i F' H',Sm F F'->Sm F' H'->Sm H H'->i<ds.length->J.go i H'
 yld:∀ i F' H' x H2,Sm F F'->Sm F' H'->Sm H H'->i<ds.length->J.yld i H' x H2->∃ F2 d,Gr F' H' F2 H2/\ds[i]?=some d/\Rep K F2 x d
 stop:∀ i F' H',Sm F F'->Sm F' H'->Sm H H'->ds.length<=i->J.stop i H'
def tIH (X:Cx) (O:List Nat) (it:EvI):TI:=fun σ H R=>∃ F0 F e ds,RS X.K X.H₀ F0 F H σ e O/\it e=some ds/\∀ F' H' J,Gr F H F' H'->ItOkH X.K F' H' J ds->R J H'
theorem dih (h:PI X tg iter (tI X O it)):PI X tg iter (tIH X O it):=PI.imp h fun σ H R ⟨F0,F,en,ds,rs,z,k⟩=>⟨F0,F,en,ds,rs,z,fun F' H' J g io=>k F' H' J g ⟨fun i F2 H2 a b _=>io.go i F2 H2 a b,fun i F2 H2 x H3 a b _=>io.yld i F2 H2 x H3 a b,fun i F2 H2 a b _=>io.stop i F2 H2 a b⟩⟩
theorem QsI (i:Nat) {x:Str} {p:Pos} (hN:X.N[i]?=some x:=by rfl) (hv:Vis X.env.scope x:=by first | exact Or.inl rfl | exact Or.inr (Or.inl rfl) | exact Or.inr (Or.inr rfl)) (hd:(x==("__debug__":Str))=false:=by decide) (hcd:(x==("__classdict__":Str))=false:=by decide):PI X tg (.Name x p) (tIH X O (QW (eV i))):=PI.imp (QgJ (Yr (O:=O) i hN hv hd hcd)) fun σ H R ⟨F0,F,en,ds,rs,z,k⟩=>by
 obtain ⟨d,e1,e2⟩:=Q8 z
 refine ⟨F0,F,en,d,rs,e1,fun v F1 H1 g1 r1=>?_⟩
 have fin:∀ (a:Addr) (xs:List V),SqL X.K H1 a xs->Reps X.K F1 xs ds->R (Itl X.K a) H1:=fun a xs ha r=>k F1 H1 _ g1
  ⟨fun i F' H' s s' sh hi=>by
   obtain ⟨v,h1,_⟩:=r.get (List.getElem?_eq_getElem hi)
   exact ⟨xs,v,sh.sqL ha,h1⟩,
  fun i F' H' x H2 s s' sh hi ⟨hH,hx⟩=>by
   subst hH
   have hx':=hx xs (sh.sqL ha)
   obtain ⟨d,h1,h2⟩:=r.getV hx'
   exact ⟨F',d,.refl s',h1,h2.mono s⟩,
  fun i F' H' s s' sh hi=>⟨xs,sh.sqL ha,by rw [r.length];exact hi⟩⟩
 cases d with
 | lst ds'=>cases e2;obtain ⟨a,xs,rfl,h,r⟩:=r1.lst g1.fh;exact ⟨a,rfl,⟨xs,SqL.of h⟩,fin a xs (SqL.of h) r⟩
 | scr ns=>cases e2;obtain ⟨a,rfl,h⟩:=r1.scr;exact ⟨a,rfl,⟨_,g1.fh.sqL h⟩,fin a _ (g1.fh.sqL h) (Reps.ints ns)⟩
 | _=>cases e2
theorem QhB (hx:X.xe=fun _ _=>False) (hc:X.calm=true) (S:CompSc X scope n N' caps) (hO:∀ i∈caps,i∉O) (hi:PI X tg iter (tIH X O it)) (hg:Qbb X scope N' fun Y=>PG Y tg (tG Y [] [] g)) (ht:Qbb X scope N' fun Y=>PIf Y ifs (tDT Y [] c)) (he:Qbb X scope N' fun Y=>PE Y elt (tD Y [] el))
  (hs:∀ x,foldedSetIterable iter X.env x=pure x) {use:Option (Value->Sem Unit)} {Qv:Value->Shared->Prop} {cpos:Pos} {pins:List (Addr×Obj)} {σ:L2.St} {H:Hp} {s:Shared} (I:Inv X pins σ H s) {F0:Fz} {F:Hp} {en:Qr} {ds tot:List D} (rs:RS X.K X.H₀ F0 F H σ en O) (e1:it en=some ds) (hlen:ds.length<=lI)
  (e3:V0 g c el ds (Qci n caps en)=some tot)
  (fin0:∀ acc C s' H' F' xs m,H acc=none->Inv X pins σ H' s'->VY X pins H' C->s'.heap.Ns C m->Gr F H F' H'->F' acc=none->H' acc=some (.lst xs)->Reps X.K F' xs tot->compPost (model X.prog X.w) X.A X.xe use Qv (.ref acc) C (.ok .next) s') :
  wpAny (model X.prog X.w) X.A (comprehension (.ListComp elt [⟨tg,iter,ifs,0⟩] scope pos) scope X.env cpos (newList []) false (eval iter X.env) use) Qv X.xe s:=by
 obtain ⟨cl,hclo,hcl,hhas⟩:=Qh1 (scope:=scope) (env:=X.env) fun x hx hk=>I.ok.has x.1 (S.fre x hx hk)
 refine wpAny_comprehension_free (use:=use) rfl hs hclo S.kind S.loc ?_
 refine thn (hi pins s σ H _ I ⟨F0,F,en,ds,rs,e1,fun F' H' J gr io=>⟨F',gr,io⟩⟩:wpAny (model X.prog X.w) X.A (eval iter X.env) (fun v s1=>wpAny (model X.prog X.w) X.A (pyIter v) (PIE X pins σ tg fun J H'=>∃ F',Gr F H F' H'/\ItOkH X.K F' H' J ds) X.xe s1) X.xe s) fun v s1 h1=>?_
 refine thn h1 fun itv s2 h2=>?_
 obtain ⟨ita,fp,tn,J,H2,rfl,I2,T,st2,f2,F2,gr,io⟩:=h2
 have fpo:∀ b∈fp,VY X pins H2 b/\b<s2.heap.objs.size:=fun b hb=>by
  obtain ⟨o,ho,_⟩:=T.obj 0 _ st2 b hb
  exact ⟨f2 b hb,Heap.lt_size ho⟩
 have hacc:H2 s2.heap.objs.size=none:=I2.hok.fresh (Nat.le_refl _)
 have hz:(s2.heap.push { cls:=.type "list",data:=.seq #[] }).objs.size=s2.heap.objs.size+1:=Heap.size_push ..
 refine wpAny_newObj_type (wpAny_newFunctionEnv S.nocell (by intro y hy;simp at hy) (fun h1 hns1 hsb1=>?_) S.kind)
 dsimp only at hns1 hsb1 ⊢
 have hns:h1.Ns (s2.heap.objs.size+1) fun _=>none:=by
  have q:=hns1
  rw [hz] at q
  exact q
 have old:∀ b o,(s2.heap.push { cls:=.type "list",data:=.seq #[] }).get? b=some o->h1.get? b=some o:=fun b o e =>
  hsb1.extBut b o (Nat.ne_of_lt (Heap.lt_size e)) (Heap.get?_push_of_some _ e)
 have I4:=QmH (tk:=s2.toks+([]:List (Str×Value)).length) I2 S hcl hhas fpo hns old
 have loop:∀ (R:Result->Shared->Prop),(∀ s' H' F' xs m,Inv (Qby X scope N' cl (s2.heap.objs.size+1) (s2.heap.objs.size::fp) { s2 with heap:=s2.heap.push { cls:=.type "list",data:=.seq #[] } } H2 (X.pn++pins)) [] m H' s'->Gr F2 H2 F' H'->F' s2.heap.objs.size=none->H' s2.heap.objs.size=some (.lst xs)->Reps X.K F' xs tot->R (.ok .next) s') ->
   codeAny (model X.prog X.w) X.A (.compLoop (.ListComp elt [⟨tg,iter,ifs,0⟩] scope pos) 0 (.ref ita) (.ref s2.heap.objs.size) (compEnvC scope cl (s2.heap.objs.size+1) X.env)) R { s2 with heap:=h1,toks:=s2.toks+([]:List (Str×Value)).length }:=by
  intro R hR
  have gY:=hg cl (s2.heap.objs.size+1) (s2.heap.objs.size::fp) { s2 with heap:=s2.heap.push { cls:=.type "list",data:=.seq #[] } } H2 (X.pn++pins)
  have tY:=ht cl (s2.heap.objs.size+1) (s2.heap.objs.size::fp) { s2 with heap:=s2.heap.push { cls:=.type "list",data:=.seq #[] } } H2 (X.pn++pins)
  have eY:=he cl (s2.heap.objs.size+1) (s2.heap.objs.size::fp) { s2 with heap:=s2.heap.push { cls:=.type "list",data:=.seq #[] } } H2 (X.pn++pins)
  generalize hY:Qby X scope N' cl (s2.heap.objs.size+1) (s2.heap.objs.size::fp) { s2 with heap:=s2.heap.push { cls:=.type "list",data:=.seq #[] } } H2 (X.pn++pins)=Y at I4 gY tY eY hR
  have yK:Y.K=X.K:=by rw [<- hY];rfl
  have yP:Y.prog=X.prog:=by rw [<- hY];rfl
  have yW:Y.w=X.w:=by rw [<- hY];rfl
  have yA:Y.A=X.A:=by rw [<- hY];rfl
  have yH:Y.H₀=H2:=by rw [<- hY];rfl
  have yE:Y.env=compEnvC scope cl (s2.heap.objs.size+1) X.env:=by rw [<- hY];rfl
  have yX:Y.xe=fun _ _=>False:=by rw [<- hY];rfl
  have yc:Y.calm=true:=by rw [<- hY];exact hc
  have yf:Y.fs=frs X.stack:=by rw [<- hY];rfl
  have yx:Y.ex=s2.heap.objs.size::fp:=by rw [<- hY];rfl
  have yp:Y.pn=X.pn++pins:=by rw [<- hY];rfl
  have stat:∀ {H':Hp},(∀ b∈fp,H' b=none)->∀ b∈fp,VY Y [] H' b:=fun hn b hb=>by
   obtain ⟨⟨_,q1,q2,q3,q4,q5⟩,q6⟩:=fpo b hb
   refine ⟨hn b hb,?_,?_,.inl ?_,fun x c e=>?_,fun p hp=>q5 p ?_⟩
   ·rw [yE];exact Nat.ne_of_lt (Nat.lt_succ_of_lt q6)
   ·rw [yf]
    intro hf
    rcases List.mem_cons.mp (I2.stkSub b hf) with w | w
    ·exact q1 w
    ·exact q2 w
   ·rw [yx];exact List.mem_cons_of_mem _ hb
   ·rw [yE] at e;exact q4 x c (hcl x c e)
   ·rw [yp] at hp;simpa using hp
  rw [<- yP,<- yW,<- yA,<- yE]
  have T':Turn Y.prog Y.w Y.K tg J fp ita tn:=by rw [yP,yW,yK];exact T
  have nofp:∀ b∈fp,b≠s2.heap.objs.size:=fun b hb=>Nat.ne_of_lt (fpo b hb).2
  refine Qoj (E:=Y.xe) (fun x s h=>by rw [yX] at h;exact h) (fun m s'=>∃ i σ' H' F' en' xs done Ji,m=ds.length-i/\i<=ds.length/\Inv Y [] σ' H' s'/\tn i s'.heap/\(∀ b∈fp,H' b=none)/\RS X.K H2 ⟨F2,H2,none⟩ F' H' σ' en' []/\H' s2.heap.objs.size=some (.lst xs)/\F' s2.heap.objs.size=none /\
   Reps X.K F' xs done/\V0 g c el (ds.drop i) en'=some Ji/\done++Ji=tot/\done.length<=i) ?_ ds.length
   ⟨0,QdX n caps σ,_,F2,Qci n caps en,[],[],tot,by omega,by omega,I4,T.keep 0 _ _ st2 (fun b hb o e=>old b o (Heap.get?_push_of_some _ e)),fun b hb=>?_,QmS (QrL (rs.grow gr) hO) hacc ((rs.grow gr).fh.none hacc),Q7,(rs.grow gr).fh.none hacc,.nil,by rw [List.drop_zero];exact e3,rfl,Nat.le_refl _⟩
  ·rintro m s3 ⟨i,σ3,H3,F3,en3,xs,done,Ji,rfl,hle,I3,st3,fr3,rs3,ha3,fa3,r3,q3,tot3,dl3⟩
   have gr3:Gr F2 H2 F3 H3:=rs3.ex.gr
   rcases Nat.lt_or_ge i ds.length with hi | hi
   ·refine thn (T'.item Y rfl rfl rfl yc i [] s3 σ3 H3 Y.xe I3 (stat fr3) st3 (io.go i F3 H3 gr3.ff rs3.fh rs3.hh hi)) fun r s4 ⟨u,hr,h4⟩=>?_
    subst hr
    refine thn h4 fun _ s5 ⟨x,H5,I5,r5,y5,st5,fr5⟩=>?_
    obtain ⟨F5,dx,g5,hd5,rx5⟩:=io.yld i F3 H3 x H5 gr3.ff rs3.fh rs3.hh hi y5
    have hdr:ds.drop i=dx::ds.drop (i+1):=by
     rw [List.drop_eq_getElem_cons hi]
     rw [List.getElem?_eq_getElem hi] at hd5
     cases hd5;rfl
    rw [hdr] at q3
    obtain ⟨en6,q4,q5⟩:=Q8 (show ((g dx en3).bind fun e1=>ifO (c e1) ((el e1).bind fun x=>(V0 g c el (ds.drop (i+1)) e1).map fun r=>x::r) (V0 g c el (ds.drop (i+1)) e1))=some Ji from q3)
    obtain ⟨b,q6,qt,qf⟩:=Qps q5
    have I5':=I5.pinned (stat fr5) (T.obj _ _ st5)
    have a5:H5 s2.heap.objs.size=some (.lst xs):=g5.hh _ _ ha3
    have n5:F5 s2.heap.objs.size=none:=by
     cases w:F5 s2.heap.objs.size with
     | none=>rfl
     | some o =>
      rcases g5.fr _ o w with z | z
      ·rw [fa3] at z;cases z
      ·rw [ha3] at z;cases z
    have rs5:RS Y.K Y.H₀ ⟨F2,H2,none⟩ F5 H5 σ3 en3 []:=by rw [yK,yH];exact rs3.grow g5
    refine thn (gY _ s5 σ3 H5 x u (fun σ' H'=>∃ F',Gr F5 H5 F' H'/\RS Y.K Y.H₀ ⟨F2,H2,none⟩ F' H' σ' en6 []) I5' r5 ⟨⟨F2,H2,none⟩,F5,en3,dx,en6,rs5,by rw [yK];exact rx5,q4,fun σ' H' F' g' r'=>⟨F',g',r'⟩⟩) fun _ s6 ⟨σ6,H6,I6,F6,g6,rs6⟩=>?_
    have keepN:∀ {Fa Ha Fb Hb:Hp},Gr Fa Ha Fb Hb->Ha s2.heap.objs.size=some (.lst xs)->Fa s2.heap.objs.size=none->Hb s2.heap.objs.size=some (.lst xs)/\Fb s2.heap.objs.size=none:=fun {Fa Ha Fb Hb} gg ha fa=>by
     refine ⟨gg.hh _ _ ha,?_⟩
     cases w:Fb s2.heap.objs.size with
     | none=>rfl
     | some o =>
      rcases gg.fr _ o w with z | z
      ·rw [fa] at z;cases z
      ·rw [ha] at z;cases z
    obtain ⟨a6,n6⟩:=keepN g6 a5 n5
    refine thn (tY _ s6 σ6 H6 (fun b' H'=>b'=b/\∃ F',Gr F6 H6 F' H') I6 ⟨⟨F2,H2,none⟩,F6,en6,b,rs6,q6,fun F' H' g'=>⟨rfl,F',g'⟩⟩) fun ok s7 ⟨H7,I7,hb,F7,g7⟩=>?_
    subst hb
    obtain ⟨a7,n7⟩:=keepN g7 a6 n6
    have rs7:=rs6.grow g7
    have sm7:Sm F3 F7:=(g5.ff.trans g6.ff).trans g7.ff
    have back:∀ {σ8:L2.St} {H8:Hp} {s8:Shared},Inv Y ([]++QdY fp s5.heap) σ8 H8 s8->Inv Y [] σ8 H8 s8/\tn (i+1) s8.heap/\∀ b∈fp,H8 b=none:=fun {σ8 H8 s8} I8=>by
     refine ⟨I8.unpinned,T.keep _ _ _ st5 fun b hb o e=>(I8.pin (b,o) (List.mem_append_right _ (List.mem_append_right _ (Qbc hb e)))).1,fun b hb=>?_⟩
     obtain ⟨o,e,_⟩:=T.obj _ _ st5 b hb
     exact (I8.pin (b,o) (List.mem_append_right _ (List.mem_append_right _ (Qbc hb e)))).2.1
    cases ok with
    | false =>
     rw [if_neg Bool.false_ne_true]
     obtain ⟨k1,k2,k3⟩:=back I7
     exact ⟨_,by omega,i+1,σ6,H7,F7,en6,xs,done,Ji,rfl,hi,k1,k2,k3,by rw [yK,yH] at rs7;exact rs7,a7,n7,r3.mono sm7,qf rfl,tot3,by omega⟩
    | true =>
     rw [if_pos rfl]
     obtain ⟨dy,q8,q9⟩:=Q8 (qt rfl)
     obtain ⟨rest',q10,q11⟩:=J8 q9
     refine thn (eY _ s7 σ6 H7 (fun v' H'=>∃ F',Gr F7 H7 F' H'/\Rep Y.K F' v' dy) I7 ⟨⟨F2,H2,none⟩,F7,en6,dy,rs7,q8,fun v' F' H' g' r'=>⟨F',g',r'⟩⟩) fun y s8 ⟨y',H8,I8,ry8,F8,g8,rp8⟩=>?_
     obtain ⟨a8,n8⟩:=keepN g8 a7 n7
     have rs8:=rs7.grow g8
     have sm8:Sm F3 F8:=sm7.trans g8.ff
     have len8:xs.length<sizeLine:=by
      rw [Z0,r3.length];omega
     refine thn (Qhm (X:=Y) _ s8 σ6 H8 (.ref s2.heap.objs.size) [y'] (.ref s2.heap.objs.size) [y] (fun v' H'=>H'=upd H8 s2.heap.objs.size (.lst (xs++[y']))) I8 rfl (.cons ry8 .nil) ⟨_,xs,y',rfl,rfl,a8,len8,rfl⟩) fun _ s9 ⟨v9,H9,I9,_,hH9⟩=>?_
     subst hH9
     obtain ⟨k1,k2,k3⟩:=back I9
     rw [yK,yH] at rs8
     rw [yK] at rp8
     refine ⟨_,by omega,i+1,σ6,_,F8,en6,xs++[y'],done++[dy],rest',rfl,hi,k1,k2,k3,QmS rs8 hacc n8,Q7,n8,(r3.mono sm8).append (.cons rp8 .nil),q10,?_,?_⟩
     ·rw [List.append_assoc];rw [<- tot3,<- q11];rfl
     ·rw [List.length_append,List.length_singleton];omega
   ·have hzz:ds.drop i=[]:=List.drop_eq_nil_of_le hi
    rw [hzz] at q3
    cases q3
    rw [List.append_nil] at tot3
    subst tot3
    refine thn (T'.done Y rfl rfl rfl yc i [] s3 σ3 H3 Y.xe I3 (stat fr3) st3 (io.stop i F3 H3 gr3.ff rs3.fh rs3.hh hi)) fun r s4 ⟨hr,I4'⟩=>?_
    subst hr
    exact hR s4 H3 F3 xs σ3 I4' gr3 fa3 ha3 r3
  ·rw [QH (nofp b hb)];exact (fpo b hb).1.1
 have I3:Inv X pins σ H2 { s2 with heap:=s2.heap.push { cls:=.type "list",data:=.seq #[] } }:=I2.kept (t':=s2.toks) fun b o e=>Heap.get?_push_of_some _ e
 have fin:∀ s' H' F' xs m,Inv (Qby X scope N' cl (s2.heap.objs.size+1) (s2.heap.objs.size::fp) { s2 with heap:=s2.heap.push { cls:=.type "list",data:=.seq #[] } } H2 (X.pn++pins)) [] m H' s'->Gr F2 H2 F' H'->F' s2.heap.objs.size=none->H' s2.heap.objs.size=some (.lst xs)->Reps X.K F' xs tot ->
   compPost (model X.prog X.w) X.A X.xe use Qv (.ref s2.heap.objs.size) (s2.heap.objs.size+1) (.ok .next) s':=by
  intro s' H' F' xs m I' g' fa ha r'
  obtain ⟨mm,hn',_⟩:=id I'.loc
  have fC:H' (s2.heap.objs.size+1)=none:=I'.free
  have IX:Inv X pins σ H' s':=I3.call' (s':=s') (ch:=s2.heap.objs.size::fp) I'.os I'.base I'.hok I'.bare fun b hb=>by
   rcases List.mem_cons.mp hb with w | w
   ·obtain ⟨_,q1,_,q3,q4,q5⟩:=I2.fpOk (b:=b) (H':=H2) (by rw [w];exact Nat.le_refl _) (by rw [w];exact hacc)
    exact ⟨q3,q1,q4,q5⟩
   ·obtain ⟨⟨_,q1,_,q3,q4,q5⟩,_⟩:=fpo b w
    exact ⟨q3,q1,q4,q5⟩
  exact fin0 s2.heap.objs.size (s2.heap.objs.size+1) s' H' F' xs mm (gr.hh.none hacc) IX (I2.fpOk (H':=H') (Nat.le_succ _) fC) hn' (gr.trans g') fa ha r'
 have st1:tn 0 h1:=T.keep 0 _ _ st2 (fun b hb o e=>old b o (Heap.get?_push_of_some _ e))
 have L:=loop (compPost (model X.prog X.w) X.A X.xe use Qv (.ref s2.heap.objs.size) (s2.heap.objs.size+1)) fin
 show codeAny (model X.prog X.w) X.A (.compStart (.ListComp elt [⟨tg,iter,ifs,0⟩] scope pos) 0 (.ref ita) (.ref s2.heap.objs.size) (compEnvC scope cl (s2.heap.push { cls:=.type "list",data:=.seq #[] }).objs.size X.env)) (compPost (model X.prog X.w) X.A X.xe use Qv (.ref s2.heap.objs.size) (s2.heap.push { cls:=.type "list",data:=.seq #[] }).objs.size) _
 rw [hz]
 exact codeAny_compStart_list L (T.self _ 0 _ _ _ st1 L)
theorem QfS {pins:List (Addr×Obj)} {σ:L2.St} {H:Hp} {s:Shared} {C:Addr} {h':Heap} (I:Inv X pins σ H s) (f:VY X pins H C) (sb:Heap.SameBut C s.heap h'):Inv X pins σ H { s with heap:=h' }:=by
 obtain ⟨f0,f1,_,f3,f4,f5⟩:=f
 exact I.turned (t':=s.toks) (fun b o hb e=>(sb.2 b hb).trans e) f0 f1 f3 f4 f5
theorem Zp (hx:X.xe=fun _ _=>False) (hc:X.calm=true) (S:CompSc X scope n N' caps) (hO:∀ i∈caps,i∉O) (hi:PI X tg iter (tIH X O it)) (hg:Qbb X scope N' fun Y=>PG Y tg (tG Y [] [] g)) (ht:Qbb X scope N' fun Y=>PIf Y ifs (tDT Y [] c)) (he:Qbb X scope N' fun Y=>PE Y elt (tD Y [] el))
  (hs:∀ x,foldedSetIterable iter X.env x=pure x:=by intro _;rfl):PE X (.ListComp elt [⟨tg,iter,ifs,0⟩] scope pos) (tO X O (QX n caps it g c el)):=by
 intro pins s σ H Q I ⟨F0,F,en,d,rs,z,k⟩
 obtain ⟨ds,e1,e2⟩:=Q8 z
 split at e2
 case isFalse=>cases e2
 case isTrue hlen =>
 obtain ⟨tot,e3,rfl⟩:=J8 e2
 rw [eval_ListComp]
 refine QhB hx hc S hO hi hg ht he hs (use:=none) I rs e1 hlen e3 fun acc C s' H' F' xs m n1 I' fC hn gr fa ha r'=>?_
 exact ⟨m,hn,fun h' sb=>⟨.ref acc,H',QfS I' fC sb,rfl,k acc none xs tot F' H' gr n1 fa ha r' rfl trivial⟩⟩
theorem Qf5 (i:Nat) {x:Str} {p spos:Pos} {OL:List Nat} {w:Bool} (hN:X.N.Nodup) (hx:X.xe=fun _ _=>False) (hc:X.calm=true) (S:CompSc X scope n N' caps) (hO:∀ i∈caps,i∉O) (hi:PI X tg iter (tIH X O it)) (hg:Qbb X scope N' fun Y=>PG Y tg (tG Y [] [] g)) (ht:Qbb X scope N' fun Y=>PIf Y ifs (tDT Y [] c)) (he:Qbb X scope N' fun Y=>PE Y elt (tD Y [] el))
  (hxi:X.N[i]?=some x:=by rfl) (hlx:Loc X.env.scope x:=by first | exact Or.inl rfl | exact Or.inr rfl) (hf:X.fn x=true\/X.env.scope.names.lookup x=some .local:=by first | exact .inl rfl | exact .inr rfl)
  (hsw:swapsWith (.ListComp elt [⟨tg,iter,ifs,0⟩] scope pos) (some (.Name x p)) spos.line X.env=pure true:=by rfl) (hs:∀ x,foldedSetIterable iter X.env x=pure x:=by intro _;rfl) (hq:Ze i∉O:=by decide) (hil:i<1000:=by decide) :
  PS X (.Assign [.Name x p] (.ListComp elt [⟨tg,iter,ifs,0⟩] scope pos) spos) (tS X O (ad i O) OL w (Qd (QX n caps it g c el) (gS i))):=by
 intro pins s σ H Dn I ⟨F0,F,en,fl,rs,z,k⟩
 obtain ⟨d,z1,z2⟩:=Q8 z
 obtain ⟨en',z3,rfl⟩:=J8 z2
 cases z3
 obtain ⟨ds,e1,e2⟩:=Q8 z1
 split at e2
 case isFalse=>cases e2
 case isTrue hlen =>
 obtain ⟨tot,e3,rfl⟩:=J8 e2
 rw [exec_Assign_Name_used _ _ _ _ hsw]
 refine wpAny_bind (wpAny_standAt (wpAny_bind ?_))
 show wpAny _ X.A (do let _ <- comprehension (.ListComp elt [⟨tg,iter,ifs,0⟩] scope pos) scope X.env _ (newList []) false (eval iter X.env) (some (assign (.Name x p) X.env))) _ _ s
 refine wpAny_bind (thn (QhB hx hc S hO hi hg ht he hs (use:=some (assign (.Name x p) X.env)) (Qv:=fun _ s'=>SP X pins Dn .next s') I rs e1 hlen e3 fun acc C s' H' F' xs m n1 I' fC hn gr fa ha r'=>?_) fun _ s' hq=>wpAny_pure (wpAny_pure hq))
 show wpAny _ X.A (assign (.Name x p) X.env (.ref acc)) _ _ s'
 refine wpAny_assign_Name (Qhc I' hN hxi hlx (show RelV (.ref acc) (.ref acc) from rfl) (fun s'' I'' hch=>?_) hf)
 obtain ⟨a,sb,ha'⟩:=hch
 have hCa:C≠a:=by
  obtain ⟨_,f1,_,_,f4,_⟩:=fC
  rcases ha' with q | q
  ·rw [q];exact f1
  ·exact fun zz=>f4 x a q zz.symm
 have rs':=rs.grow gr
 refine ⟨m,hn.sameBut sb hCa,fun h' sb'=>⟨_,H',QfS I'' fC sb',k _ F' H' gr.ff (rs'.putO' (kk:=none) i (rs.hh.none n1) fa ha trivial r' (fun j d' hj q2 _ q=>?_) hq (fun j z=>by unfold Ze at z;omega))⟩⟩
 obtain ⟨p',_,ys,es,h1,_,_,h4,_⟩:=rs.own j d' q2 hj
 rw [h1] at q
 cases q
 rw [n1] at h4
 cases h4
end
end Wd
namespace Wd
open PySem PySem.Spec PyProof.Rows L2
theorem QhZ (cps:Array Nat) (i k:Nat):((List.range k).map fun m=>i+m).filterMap (cps[·]?)=(cps.toList.drop i).take k:=by
 rw [List.filterMap_map]
 induction k generalizing i with
 | zero=>simp
 | succ k ih =>
  rw [List.range_succ_eq_map,List.filterMap_cons,List.filterMap_map]
  have e0:((fun x=>cps[x]?)∘fun m=>i+m) 0=cps[i]?:=by simp
  have e1:(((fun x=>cps[x]?)∘fun m=>i+m)∘Nat.succ)=((fun x=>cps[x]?)∘fun m=>(i+1)+m):=by
   funext m;simp only [Function.comp];rw [show i+Nat.succ m=i+1+m by omega]
  rw [e0,e1,ih (i+1)]
  cases q:cps[i]? with
  | none =>
   have hz:cps.toList.length<=i:=by
    rcases Nat.lt_or_ge i cps.size with h | h
    ·rw [Array.getElem?_eq_getElem h] at q;cases q
    ·simpa using h
   rw [List.drop_eq_nil_of_le hz,List.drop_eq_nil_of_le (Nat.le_succ_of_le hz)];simp
  | some v =>
   have hi:i<cps.toList.length:=by
    rcases Nat.lt_or_ge i cps.size with h | h
    ·simpa using h
    ·rw [Array.getElem?_eq_none h] at q;cases q
   have hv:cps.toList[i]=v:=by
    have:cps.toList[i]?=some v:=by simpa using q
    rw [List.getElem?_eq_getElem hi] at this
    exact Option.some.inj this
   rw [List.drop_eq_getElem_cons hi,hv,List.take_succ_cons]
theorem Qi9 (v:Option Int) (n d:Nat) (hd:d<=n):(match v with | none=>(d:Int) | some i=>max 0 (min (if i<0 then i+(n:Int) else i) (n:Int)))=((Z8 n d v:Nat):Int):=by
 cases v with
 | none=>rfl
 | some i=>simp only [Z8];split<;>omega
theorem Qg0 (a b:Nat):sliceRange (a:Int) (b:Int) 1=(List.range (b-a)).map fun m=>a+m:=by
 unfold sliceRange
 simp only [show (1:Int) > 0 by decide,if_true]
 have hc:(if (a:Int)<(b:Int) then ((b:Int)-(a:Int)+1-1)/1 else 0).toNat=b-a:=by
  split
  ·rw [Int.ediv_one];omega
  ·omega
 rw [hc]
 apply List.map_congr_left
 intro m _
 omega
theorem Qmn (lo hi:Option Int) (n:Nat):Builtin.Str.strSliceIndices lo hi 1 n=(List.range (Z8 n n hi-Z8 n 0 lo)).map fun m=>Z8 n 0 lo+m:=by
 rw [<- Qg0]
 unfold Builtin.Str.strSliceIndices
 simp only [show (1:Int) > 0 by decide,if_true]
 have h1:=Qi9 lo n 0 (Nat.zero_le _)
 have h2:=Qi9 hi n n (Nat.le_refl _)
 cases lo<;>cases hi<;>dsimp only at h1 h2 ⊢<;>rw [<- h1,<- h2]<;>rfl
theorem Qnk (x:Str) (lo hi:Option Int):Txt.slice x lo hi=VW x lo hi:=by
 unfold Txt.slice VW Zf
 have hl:x.cps.toList.length=x.length:=by simp [Str.length]
 rw [Qmn,List.length_map,List.length_range,hl]
 split
 ·rename_i h
  have h':Z8 x.length x.length hi-Z8 x.length 0 lo=x.length:=by simpa using h
  have b1:Z8 x.length x.length hi<=x.length:=by
   cases hi with
   | none=>exact Nat.le_refl _
   | some v=>simp only [Z8];split<;>omega
  by_cases z:x.length=0
  ·have:x.cps.toList=[]:=List.length_eq_zero_iff.mp (by rw [hl];exact z)
   obtain ⟨c⟩:=x
   have hc:c=#[]:=by simpa using this
   subst hc
   simp
  ·have b2:Z8 x.length 0 lo=0:=by omega
   rw [h',b2,List.drop_zero,<- hl,List.take_length]
 ·rw [QhZ]
section
variable {X:Cx} {O:List Nat} {e a b:Expr} {pos:Pos}
def QtU:V->Option Int->Option Int->Hp->VK->Prop:=fun x lo hi H Q=>∃ z,x=.str z/\z.length<=sizeLine/\Q (.str (VW z lo hi)) H
theorem QkT {v:Value} {o:Option Int} (p:IsPart v o):∃ l:Option (Int×Tok),partValue l=v/\l.map (·.1)=o:=by
 cases p with
 | none=>exact ⟨none,rfl,rfl⟩
 | int i t=>exact ⟨some (i,t),rfl,rfl⟩
theorem QrI:SlR X QtU:=by
 intro pins s σ H x v vl vu lo hi sl Q I rx hs pl pu h
 obtain ⟨z,rfl,hz,q⟩:=h
 obtain ⟨t,rfl⟩:=(show ∃ t,v=Value.str z t from rx)
 obtain ⟨l,rfl,rfl⟩:=QkT pl
 obtain ⟨u,rfl,rfl⟩:=QkT pu
 refine ⟨"str",_,F.slot_str_getitem.lookup,typeIs_str _ _ _,wpAny_getItem_str_slice (l:=l) (u:=u) (st:=none) hs rfl ?_⟩
 have e:=Qnk z (l.map (·.1)) (u.map (·.1))
 refine post_val_or_str ⟨?_,fun t' k=>?_⟩
 ·exact Nat.le_trans (Txt.slice_le z (l.map (·.1)) (u.map (·.1))) hz
 ·have:EP X pins σ Q (.str (Txt.slice z (l.map (·.1)) (u.map (·.1))) t') { s with toks:=k }:=by
   rw [e];exact ⟨.str (VW z _ _),H,I.tok k,⟨t',rfl⟩,q⟩
  exact this
theorem YT {ev:EvE} {lo hi:Option Expr} {el eh:EvO} {p2:Pos} (he:PE X e (tR X O ev)) (hl:PO X lo (tOI X O el)) (hu:PO X hi (tOI X O eh)):PE X (.Subscript e (.Slice lo hi none p2) pos) (tD X O (JT ev el eh)) :=
 PE.imp (Qo1 (SlR.or QrI (SlR.or Qqh QrH)) he hl hu) fun σ H Q ⟨F0,F,en,d,rs,w,k⟩=>by
  obtain ⟨dx,e1,w1⟩:=Q8 w
  obtain ⟨l,u,e2,e3,e4⟩:=QaK w1
  refine ⟨F0,F,en,dx,rs,e1,fun x F1 H1 g1 r1=>?_⟩
  refine ⟨F0,F1,en,l,rs.grow g1,e2,fun F2 H2 g2=>?_⟩
  refine ⟨F0,F2,en,u,(rs.grow g1).grow g2,e3,fun F3 H3 g3=>?_⟩
  have g13:=(g1.trans g2).trans g3
  have r3:=(r1.gr g2).gr g3
  have s3:=g3.fh
  cases dx with
  | str z =>
   simp only [Zg] at e4
   split at e4
   ·rename_i hz
    cases e4
    exact .inl ⟨z,r3.str,by rw [Z0];exact hz,k _ F3 H3 g13 (.str _)⟩
   ·cases e4
  | lst ds =>
   cases e4
   obtain ⟨p,xs,rfl,h,r⟩:=r3.lst s3
   refine .inr (.inl ⟨p,xs,rfl,SqL.of h,fun q hq=>?_⟩)
   have g:=Gr.new s3 hq (.lst (Qa4 xs l u))
   exact k _ _ _ (g13.trans g) (.lst Q7 ((Qfl r l u).mono g.ff))
  | scr ns =>
   cases e4
   obtain ⟨p,rfl,h⟩:=r3.scr
   refine .inr (.inl ⟨p,_,rfl,s3.sqL h,fun q hq=>?_⟩)
   have g:=Gr.new s3 hq (.lst (Qa4 (ns.map V.int) l u))
   have r:Reps X.K F3 (Qa4 (ns.map V.int) l u) (Zf (ns.map D.int) l u):=Qfl (Reps.ints ns) l u
   have hc:Zf (ns.map D.int) l u=(Zf ns l u).map D.int:=by unfold Zf;rw [List.length_map,<- List.map_drop,<- List.map_take]
   rw [hc] at r
   exact k _ _ _ (g13.trans g) (.lst Q7 (r.mono g.ff))
  | tup ds =>
   have e5:(if Z8 ds.length 0 l=0/\Z8 ds.length ds.length u=ds.length then none else some (D.tup (Zf ds l u)))=some d:=e4
   split at e5
   ·cases e5
   ·rename_i hw
    cases e5
    obtain ⟨p,xs,rfl,h,r⟩:=r3.tup
    refine .inr (.inr ⟨p,xs,rfl,SqT.of (s3 _ _ h),?_,fun q hq=>?_⟩)
    ·rw [r.length];exact hw
    ·have g:=Gr.new s3 hq (.tup (Qa4 xs l u))
     exact k _ _ _ (g13.trans g) (.tup Q7 ((Qfl r l u).mono g.ff))
  | _=>cases e4
def QrN:V->List V->Hp->VK->Prop:=fun x xs H Q=>∃ z,x=.str z/\xs=[]/\z.length<=sizeLine/\Q (.str (Txt.strip z)) H
theorem Qpl:MtR X "str.strip" QrN:=by
 intro pins s σ H x xs v us Q I rx rs h
 obtain ⟨z,rfl,rfl,hz,q⟩:=h
 obtain ⟨t,rfl⟩:=(show ∃ t,v=Value.str z t from rx)
 cases Vals.zero rs
 exact SCL.strip (fun t' k _=>⟨.str (Txt.strip z),H,I.tok k,⟨t',rfl⟩,q⟩) hz
theorem Qi5 {ev:EvE} {apos:Pos} (ha:PE X a (tR X O ev)) (hbase:attributeBase a "strip" X.env (eval a X.env)=eval a X.env:=by rfl) (hline:(apos.endLine==pos.line)=true:=by rfl):PE X (.Call (.Attribute a "strip" apos) [] [] pos) (tD X O (eUn D.strip ev)) :=
 PE.imp (QmY PySem.F.plainAttrs_str PySem.F.slot_str_strip PySem.F.type_str_strip Qpl ha hbase hline) fun σ H Q ⟨F0,F,en,d,rs,w,k⟩=>by
  obtain ⟨dx,e1,e2⟩:=Q8 w
  refine ⟨F0,F,en,dx,rs,e1,fun v F1 H1 g1 r1=>?_⟩
  cases dx with
  | str z =>
   simp only [D.strip] at e2
   split at e2
   ·rename_i hz
    cases e2
    rw [r1.str]
    exact ⟨rfl,z,rfl,rfl,by rw [Z0];exact hz,k _ F1 H1 g1 (.str _)⟩
   ·cases e2
  | _=>cases e2
theorem Qhu (c:Array Nat):∀ (k:Nat) (acc:Array Nat),(List.replicate k c).foldl (·++·) acc=(acc.toList++(List.replicate k c.toList).flatten).toArray
 | 0,acc=>by simp
 | k+1,acc=>by rw [List.replicate_succ,List.foldl_cons,Qhu c k,List.replicate_succ,List.flatten_cons];simp
theorem Qsi (x:Str) (n:Int):Txt.mul x n=YX x n:=by
 unfold Txt.mul YX
 split
 ·rename_i h
  rw [show n.toNat=0 by omega];rfl
 ·split
  ·rename_i h1 h2
   by_cases z:n=1
   ·subst z
    obtain ⟨c⟩:=x
    simp
   ·have hx:x.length=0:=by
     rcases Bool.or_eq_true _ _ |>.mp h2 with w | w
     ·exact absurd (eq_of_beq w) z
     ·exact eq_of_beq w
    obtain ⟨c⟩:=x
    have hc:c=#[]:=by simpa [Str.length] using hx
    subst hc
    simp
  ·rw [Qhu];simp
def QlK:R2:=fun x y H Q=>∃ z n,x=.str z/\y=.int n/\-1073741824<n/\n<1073741824/\z.length*n.toNat<=lI/\Q (.str (YX z n)) H
theorem QqF:OpR X (binaryOp .Mult) QlK:=by
 intro pins s σ H x y v u Q I rx ry h
 obtain ⟨z,n,rfl,rfl,h1,h2,h3,q⟩:=h
 obtain ⟨t,rfl⟩:=(show ∃ t,v=Value.str z t from rx)
 obtain ⟨t2,rfl⟩:=(show ∃ t,u=Value.int n t from ry)
 have ok:MulOk z n:=by
  refine ⟨?_,fun hn hc=>?_,fun hn hc=>?_⟩
  ·rw [decide_eq_false (by omega),decide_eq_false (by omega)];rfl
  ·have hz:z.length<=lI:=by
    have:1<=n.toNat:=by omega
    exact Nat.le_trans (Nat.le_mul_of_pos_right _ this) h3
   have:(9223372036854775807:Int)/n ≥ 8589934591:=by
    apply Int.le_ediv_of_mul_le (by omega)
    omega
   have e:((2:Int)^63-1)=9223372036854775807:=by decide
   rw [e]
   unfold lI at hz
   omega
  ·have h4:z.length*n.toNat<=sizeLine:=by rw [Z0];exact h3
   unfold Builtin.Str.tooLong
   simpa using h4
 exact SB.mul ok fun t' k=>by rw [Qsi];exact ⟨.str (YX z n),H,I.tok k,⟨t',rfl⟩,q⟩
theorem Zv:OpR X (binaryOp .Mult) (fun x y H Q=>(rI CMul fun i j=>.int (i*j)) x y H Q\/(QlK x y H Q\/Qoy x y H Q))/\Op2 X (fun x y H Q=>(rI CMul fun i j=>.int (i*j)) x y H Q\/(QlK x y H Q\/Qoy x y H Q)) D.mulA:=by
 refine ⟨OpR.or QmZ (OpR.or QqF Qr6),fun F H x y dx dy d Q s rx ry e k=>?_⟩
 cases dx<;>cases dy<;>try (simp [D.mulA] at e;done)
 case int.int i j=>exact .inl (QqG.2 F H x y (.int i) (.int j) d Q s rx ry e k)
 case str.int z n =>
  simp only [D.mulA] at e
  split at e
  ·rename_i h
   cases e
   exact .inr (.inl ⟨z,n,rx.str,ry.int,h.1,h.2.1,h.2.2,k _ F H (.refl s) (.str _)⟩)
  ·cases e
 case lst.int ds n =>
  simp only [D.mulA] at e
  split at e
  ·rename_i h
   cases e
   obtain ⟨p,xs,rfl,hp,r⟩:=rx.lst s
   refine .inr (.inr ⟨p,n,xs,rfl,ry.int,hp,by omega,by omega,by rw [Z0,r.length];exact h.2.2,fun q hq=>?_⟩)
   have g:=Gr.new s hq (.lst (List.replicate n.toNat xs).flatten)
   have rr:Reps X.K F (List.replicate n.toNat xs).flatten (List.replicate n.toNat ds).flatten:=by
    generalize n.toNat=m
    induction m with
    | zero=>exact .nil
    | succ m ih=>rw [List.replicate_succ,List.replicate_succ,List.flatten_cons,List.flatten_cons];exact r.append ih
   exact k _ _ _ g (.lst Q7 (rr.mono g.ff))
  ·cases e
end
end Wd
namespace Wd
open PySem PySem.Spec PyProof.Rows L2
section
variable {X:Cx} {O:List Nat} {e a b:Expr} {pos:Pos}
theorem Qk7 {K:Fg} {F H:Hp} {x:V} {d:D} (r:RdD K F H x d) (h:J7 d=true):QaJ x=true/\Rep K F x d:=by
 cases d with
 | non=>rw [r.non];exact ⟨rfl,.non⟩
 | bl b=>rw [r.bl];exact ⟨rfl,.bl b⟩
 | int i=>rw [r.int];exact ⟨rfl,.int i⟩
 | str z=>rw [r.str];exact ⟨rfl,.str z⟩
 | _=>cases h
theorem Qtn {K:Fg} {F:Hp} {x y:V} {dx dy:D} (rx:Rep K F x dx) (ry:Rep K F y dy) (hx:J7 dx=true) (hy:J7 dy=true):eqV y x=(D.eq dy dx==some true):=by
 cases rx with
 | non=>cases ry with
  | non=>rfl
  | bl q=>simp [D.eq,eqV]
  | int q=>simp [D.eq,eqV]
  | str q=>simp [D.eq,eqV]
  | _=>cases hy
 | bl p=>cases ry with
  | non=>simp [D.eq,eqV]
  | bl q=>cases p<;>cases q<;>rfl
  | int q =>
   have h:D.eq (.int q) (.bl p)=some (decide (q=b2i p)):=by rw [D.eq]
   rw [h]
   show (q==(if p then 1 else 0))=(some (decide (q=b2i p))==some true)
   by_cases z:q=b2i p
   ·rw [decide_eq_true z,z];unfold b2i;simp
   ·rw [decide_eq_false z]
    have:(q==(if p then 1 else 0))=false:=by
     apply beq_eq_false_iff_ne.mpr
     intro w;exact z w
    rw [this];rfl
  | str q=>simp [D.eq,eqV]
  | _=>cases hy
 | int p=>cases ry with
  | non=>simp [D.eq,eqV]
  | bl q =>
   have h:D.eq (.bl q) (.int p)=some (decide (b2i q=p)):=by rw [D.eq]
   rw [h]
   show ((if q then 1 else 0)==p)=(some (decide (b2i q=p))==some true)
   by_cases z:b2i q=p
   ·rw [decide_eq_true z,<- z];unfold b2i;simp
   ·rw [decide_eq_false z]
    have:((if q then 1 else 0)==p)=false:=by
     apply beq_eq_false_iff_ne.mpr
     intro w;exact z w
    rw [this];rfl
  | int q =>
   rw [QD]
   show (q==p)=(some (decide (q=p))==some true)
   by_cases z:q=p
   ·rw [decide_eq_true z,z,beq_self_eq_true];rfl
   ·rw [decide_eq_false z,beq_eq_false_iff_ne.mpr z];rfl
  | str q=>simp [D.eq,eqV]
  | _=>cases hy
 | str p=>cases ry with
  | non=>simp [D.eq,eqV]
  | bl q=>simp [D.eq,eqV]
  | int q=>simp [D.eq,eqV]
  | str q =>
   rw [QK]
   show (q==p)=(some (decide (q=p))==some true)
   by_cases z:q=p
   ·rw [decide_eq_true z,z,beq_self_eq_true];rfl
   ·rw [decide_eq_false z,beq_eq_false_iff_ne.mpr z];rfl
  | _=>cases hy
 | _=>cases hx
theorem QlR {K:Fg} {F:Hp} {x:V} {dx:D} (rx:Rep K F x dx) (hx:J7 dx=true):∀ {ys:List V} {ds:List D},Reps K F ys ds->ds.all J7=true->inV x ys=inD dx ds/\ys.all QaJ=true
 | _,_,.nil,_=>⟨rfl,rfl⟩
 | _,_,.cons h r,hd=>by
  rw [List.all_cons,Bool.and_eq_true] at hd
  obtain ⟨i1,i2⟩:=QlR rx hx r hd.2
  refine ⟨?_,?_⟩
  ·unfold inV at i1 ⊢
   rw [List.any_cons,i1,Qtn rx h hx hd.1]
   rfl
  ·rw [List.all_cons,i2,(Qk7 (H:=F) (.inl h) hd.1).1];rfl
theorem Qm0 {neg:Bool} {op:CmpOp} {g:D->D->Option D} (hr:OpR X (compareOp op) (rIn X.K neg))
  (h1:∀ dx dy d,g dx dy=some d->∃ ys,(dy=.tup ys\/dy=.lst ys)/\J7 dx=true/\ys.all J7=true/\d=.bl (if neg then !inD dx ys else inD dx ys)):OpR X (compareOp op) (rIn X.K neg)/\Op2 X (rIn X.K neg) g:=by
 refine ⟨hr,fun F H x y dx dy d Q s rx ry e k=>?_⟩
 obtain ⟨ys,hy,fx,fy,rfl⟩:=h1 dx dy d e
 obtain ⟨fv,rp⟩:=Qk7 rx fx
 rcases hy with rfl | rfl
 ·obtain ⟨p,xs,rfl,hp,r⟩:=ry.tup
  obtain ⟨i1,i2⟩:=QlR rp fx r fy
  refine ⟨p,xs,rfl,.inr (SqT.of (s _ _ hp)),fv,i2,?_⟩
  rw [i1];exact k _ F H (.refl s) (.bl _)
 ·obtain ⟨p,xs,rfl,hp,r⟩:=ry.lst s
  obtain ⟨i1,i2⟩:=QlR rp fx r fy
  refine ⟨p,xs,rfl,.inl (SqL.of hp),fv,i2,?_⟩
  rw [i1];exact k _ F H (.refl s) (.bl _)
theorem QfK:OpR X (compareOp .In) (rIn X.K false)/\Op2 X (rIn X.K false) D.inO:=Qm0 QnB fun dx dy d e=>by
 unfold D.inO at e
 split at e
 ·split at e
  ·rename_i ys h;cases e;exact ⟨ys,.inl rfl,h.1,h.2,rfl⟩
  ·cases e
 ·split at e
  ·rename_i ys h;cases e;exact ⟨ys,.inr rfl,h.1,h.2,rfl⟩
  ·cases e
 ·cases e
theorem Qhh:OpR X (compareOp .NotIn) (rIn X.K true)/\Op2 X (rIn X.K true) D.notInO:=Qm0 QjC fun dx dy d e=>by
 unfold D.notInO at e
 split at e
 ·split at e
  ·rename_i ys h;cases e;exact ⟨ys,.inl rfl,h.1,h.2,rfl⟩
  ·cases e
 ·split at e
  ·rename_i ys h;cases e;exact ⟨ys,.inr rfl,h.1,h.2,rfl⟩
  ·cases e
 ·cases e
theorem QeG {x:Str} {p:Pos} {ev:EvE} (hg:Gl X x) (hm:X.mg x=none) (hv:bootBuiltins x=some (.type "list")) (ha:PE X a (tR X O ev)) (hn:x≠"__name__":=by decide) (hdb:(x==("__debug__":Str))=false:=by decide)
  (he:starEach [a] X.env=[(false,eval a X.env)]:=by rfl):PE X (.Call (.Name x p) [a] [] pos) (tO X O (eUn D.listOf ev)) :=
 PE.imp (Qhg QjX hg hm hv (QgA ha he) hn hdb he rfl) fun σ H Q ⟨F0,F,en,d,rs,w,k⟩=>by
  obtain ⟨dx,e1,e2⟩:=Q8 w
  refine ⟨F0,F,en,dx,rs,e1,fun v F1 H1 g1 r1=>?_⟩
  have fin:∀ (l:Addr) (xs:List V) (ds:List D),(SqL X.K H1 l xs\/SqT X.K H1 l xs)->Reps X.K F1 xs ds->d=.lst ds->∃ p ys,[V.ref l]=[.ref p]/\(SqL X.K H1 p ys\/SqT X.K H1 p ys)/\∀ l,H1 l=none->Q (.ref l) (upd H1 l (.lst ys)):=fun l xs ds hl r hd =>
   ⟨l,xs,rfl,hl,fun q hq=>k q none xs ds F1 _ (g1.trans (Gr.newO g1.fh hq (.lst xs))) (g1.hh.none hq) (g1.fh.none hq) Q7 r hd trivial⟩
  cases dx with
  | lst ds=>cases e2;obtain ⟨l,xs,rfl,h,r⟩:=r1.lst g1.fh;exact fin l xs ds (.inl (SqL.of h)) r rfl
  | tup ds=>cases e2;obtain ⟨l,xs,rfl,h,r⟩:=r1.tup;exact fin l xs ds (.inr (SqT.of (g1.fh _ _ h))) r rfl
  | scr ns=>cases e2;obtain ⟨l,rfl,h⟩:=r1.scr;exact fin l _ _ (.inl (g1.fh.sqL h)) (Reps.ints ns) rfl
  | _=>cases e2
theorem QkM {vs:List V} {us:List Value} (r:Vals vs us) {i:Nat} {u:Value} (h:us[i]?=some u):∃ v,vs[i]?=some v/\RelV v u:=by
 have hl:=r.length
 rcases Nat.lt_or_ge i vs.length with hi | hi
 ·obtain ⟨u',h1,h2⟩:=r.get (List.getElem?_eq_getElem hi)
  rw [h] at h1
  cases h1
  exact ⟨_,List.getElem?_eq_getElem hi,h2⟩
 ·rw [List.getElem?_eq_none (by omega)] at h;cases h
theorem Qk5 {ns:List Int} {us:List Value} (r:Vals (ns.map V.int) us) {i:Nat} {u:Value} (h:us.toArray[i]?=some u):∃ t,u=Value.int (ns.getD i 0) t:=by
 obtain ⟨v,h1,h2⟩:=QkM r (by simpa using h)
 rw [List.getElem?_map] at h1
 cases q:ns[i]? with
 | none=>rw [q] at h1;cases h1
 | some n =>
  rw [q] at h1
  cases h1
  obtain ⟨t,rfl⟩:=(show ∃ t,u=Value.int n t from h2)
  exact ⟨t,by rw [List.getD_eq_getElem?_getD,q];rfl⟩
theorem Qd8 {pins:List (Addr×Obj)} {σ:L2.St} {H:Hp} {s:Shared} {l:Addr} {us:List Value} {A:Around} {E:Value->Shared->Prop} {Q:Value->Shared->Prop} (I:Inv X pins σ H s) (hh:A.handled=none) (hp:PlainL s.heap l us.toArray)
  (h:∀ s₂:Shared,Walks X.prog X.w A s.heap.objs.size [s.heap.objs.size,l] [s.heap.objs.size] us.toArray.size (fun i v=>us.toArray[i]?=some v) (fun i h=>h.IsListIter s.heap.objs.size l i/\h.IsList l us.toArray) ->
   (s₂.heap.IsListIter s.heap.objs.size l 0/\s₂.heap.IsList l us.toArray)->(∀ b∈[s.heap.objs.size,l],b<s₂.heap.objs.size) ->
   (∀ (h':Heap) (tk:Nat),(∀ b o,b∉[s.heap.objs.size]->s₂.heap.get? b=some o->h'.get? b=some o)->Inv X pins σ H { s₂ with heap:=h',toks:=tk })->Q (.ref s.heap.objs.size) s₂) :
  wpAny (model X.prog X.w) A (pyIter (.ref l)) Q E s:=by
 have hlt:l<s.heap.objs.size:=by obtain ⟨_,_,e,_⟩:=hp;exact Heap.lt_size e
 refine wpAny_pyIter_list hp.isList (h _ (Walks.list hh _ l (Nat.ne_of_lt hlt) us.toArray) ⟨⟨_,Heap.get?_push_size _ rfl,rfl,rfl⟩,hp.isList.push _⟩ (fun b hb=>?_) fun h' tk hk=>?_)
 ·show b<(s.heap.push _).objs.size
  rw [Heap.size_push]
  rcases List.mem_cons.mp hb with rfl | hb
  ·exact Nat.lt_succ_self _
  ·rw [List.mem_singleton.mp hb];exact Nat.lt_succ_of_lt hlt
 ·exact I.kept (t':=tk) fun b u e=>hk b u (fun z=>by
   rw [List.mem_singleton.mp z] at e
   exact absurd (Heap.lt_size e) (Nat.lt_irrefl _)) (Heap.get?_push_of_some _ e)
theorem Qop (hc:X.calm=true):CallR X (.builtin "max") (fun xs H Q=>∃ (l:Addr) (n:Int) (ns:List Int),xs=[.ref l]/\SqL X.K H l ((n::ns).map V.int)/\Q (.int (JX n ns)) H):=by
 intro pins s σ H xs us Q I r ⟨l,n,ns,hx,hq,q⟩
 subst hx
 obtain ⟨u,rfl,rx⟩:=QaG r
 cases rx
 obtain ⟨its,rv,pl,hz⟩:=I.list hq
 refine call_max_walk (Qd8 I (I.ok.hd hc) pl fun s₂ W st hfp back=>?_)
 have hval:∀ i v,its.toArray[i]?=some v->∃ t,v=Value.int ((n::ns).getD i 0) t:=fun i v h=>Qk5 rv h
 have hl:=rv.length
 rw [List.length_map] at hl
 refine ⟨_,_,_,_,_,_,_,rfl,W,st,hfp,?_,CmpOf.ints_gt (fun i=>(n::ns).getD i 0) hval,fun v h' tk hP hk=>?_⟩
 ·rw [List.size_toArray,<- hl];exact Nat.succ_pos _
 ·obtain ⟨t,rfl⟩:=hval _ _ hP
  obtain ⟨b1,b2⟩:=argBest_gt (fun i=>(n::ns).getD i 0) (its.toArray.size-1)
  obtain ⟨m1,m2,m3⟩:=QaX ns n
  generalize argBest (fun i j=>decide ((n::ns).getD i 0 > (n::ns).getD j 0)) (its.toArray.size-1)=k at b1 b2 ⊢
  have hsz:its.toArray.size=ns.length+1:=by rw [List.size_toArray,<- hl];rfl
  have e:(n::ns).getD k 0=JX n ns:=by
   apply Int.le_antisymm
   ·cases k with
    | zero=>exact m2
    | succ k =>
     have hk':k<ns.length:=by omega
     show ns.getD k 0<=_
     rw [List.getD_eq_getElem?_getD,List.getElem?_eq_getElem hk']
     exact m3 _ (List.getElem_mem hk')
   ·rcases m1 with w | w
    ·rw [w];exact b2 0 (Nat.zero_le _)
    ·obtain ⟨j,hj,e⟩:=List.getElem_of_mem w
     have:=b2 (j+1) (by omega)
     rw [show (n::ns).getD (j+1) 0=ns.getD j 0 from rfl,List.getD_eq_getElem?_getD,List.getElem?_eq_getElem hj] at this
     rw [<- e];exact this
  rw [e]
  exact ⟨.int (JX n ns),H,back h' tk hk,⟨t,rfl⟩,q⟩
theorem Qa1 (hc:X.calm=true):CallR X (.builtin "max") (fun xs H Q=>∃ (l:Addr) (n:Int) (ns:List Int),xs=[.ref l]/\SqL X.K H l ((n::ns).map V.int)/\Q (.int (JX n ns)) H)/\C1 X (fun xs H Q=>∃ (l:Addr) (n:Int) (ns:List Int),xs=[.ref l]/\SqL X.K H l ((n::ns).map V.int)/\Q (.int (JX n ns)) H) D.maxL:=by
 refine ⟨Qop hc,fun F H x dx d Q s rx e k=>?_⟩
 cases dx with
 | lst ds =>
  simp only [D.maxL] at e
  split at e
  ·rename_i n ns q
   cases e
   obtain ⟨l,xs,rfl,h,r⟩:=rx.lst s
   have:=r.intsOf q
   subst this
   exact ⟨l,n,ns,rfl,SqL.of h,k _ F H (.refl s) (.int _)⟩
  ·cases e
 | _=>cases e
theorem QeH (ns:List Int):∀ k,k<=ns.length->preSum (fun i=>ns.getD i 0) k=(ns.take k).sum
 | 0,_=>by simp [preSum]
 | k+1,h=>by
  rw [preSum,QeH ns k (by omega),List.take_succ,List.getElem?_eq_getElem (by omega),List.sum_append]
  simp [List.getElem?_eq_getElem (show k<ns.length by omega)]
theorem Qon (hc:X.calm=true):CallR X (.builtin "sum") (fun xs H Q=>∃ (l:Addr) (ns:List Int),xs=[.ref l]/\SqL X.K H l (ns.map V.int)/\Q (.int ns.sum) H):=by
 intro pins s σ H xs us Q I r ⟨l,ns,hx,hq,q⟩
 subst hx
 obtain ⟨u,rfl,rx⟩:=QaG r
 cases rx
 obtain ⟨its,rv,pl,hz⟩:=I.list hq
 refine call_sum_walkAnyS (Qd8 I (I.ok.hd hc) pl fun s₂ W st hfp back=>?_)
 have hval:∀ i v,its.toArray[i]?=some v->∃ t,v=Value.int (ns.getD i 0) t:=fun i v h=>Qk5 rv h
 have hl:=rv.length
 rw [List.length_map] at hl
 refine ⟨_,_,_,_,_,_,_,(fun i=>ns.getD i 0),rfl,W.toS,st,hfp,hval,fun s' t' mv=>?_⟩
 have e:preSum (fun i=>ns.getD i 0) its.toArray.size=ns.sum:=by rw [List.size_toArray,<- hl,QeH ns ns.length (Nat.le_refl _),List.take_length]
 rw [e]
 have I':=back s'.heap s'.toks mv.heap
 have es:({ s₂ with heap:=s'.heap,toks:=s'.toks }:Shared)=s':=by
  obtain ⟨h',g',d',t',o'⟩:=s'
  have m1:g'=s₂.gens:=mv.gens
  have m2:d'=s₂.drawn:=mv.drawn
  have m3:o'=s₂.os:=mv.os
  subst m1 m2 m3
  rfl
 rw [es] at I'
 exact ⟨.int ns.sum,H,I',⟨t',rfl⟩,q⟩
theorem Qoo (hc:X.calm=true):CallR X (.builtin "sum") (fun xs H Q=>∃ (l:Addr) (ns:List Int),xs=[.ref l]/\SqL X.K H l (ns.map V.int)/\Q (.int ns.sum) H)/\C1 X (fun xs H Q=>∃ (l:Addr) (ns:List Int),xs=[.ref l]/\SqL X.K H l (ns.map V.int)/\Q (.int ns.sum) H) D.sumL:=by
 refine ⟨Qon hc,fun F H x dx d Q s rx e k=>?_⟩
 cases dx with
 | lst ds =>
  obtain ⟨ns,q,rfl⟩:=J8 e
  obtain ⟨l,xs,rfl,h,r⟩:=rx.lst s
  have:=r.intsOf q
  subst this
  exact ⟨l,ns,rfl,SqL.of h,k _ F H (.refl s) (.int _)⟩
 | _=>cases e
theorem Qjb {K:Fg} {F:Hp}:∀ {vs:List V} {ds:List D} {bs:List Bool},Reps K F vs ds->Vq ds=some bs->vs=bs.map V.bl
 | _,_,bs,.nil,e=>by cases e;rfl
 | _,_,bs,.cons (d:=d) h r,e=>by
  cases h with
  | bl i =>
   simp only [Vq] at e
   cases q:Vq _ with
   | none=>rw [q] at e;cases e
   | some ms =>
    rw [q] at e
    cases e
    rw [Qjb r q];rfl
  | _=>simp [Vq] at e
theorem QhI (bs:List Bool):∀ k,k<=bs.length->(List.range k).any (fun i=>bs.getD i false)=(bs.take k).any id
 | 0,_=>by simp
 | k+1,h=>by
  rw [List.range_succ,List.any_append,QhI bs k (by omega),List.take_succ,List.getElem?_eq_getElem (by omega),List.any_append]
  simp [List.getElem?_eq_getElem (show k<bs.length by omega)]
theorem Qos (hc:X.calm=true):CallR X (.builtin "any") (fun xs H Q=>∃ (l:Addr) (bs:List Bool),xs=[.ref l]/\SqL X.K H l (bs.map V.bl)/\Q (.bl (bs.any id)) H):=by
 intro pins s σ H xs us Q I r ⟨l,bs,hx,hq,q⟩
 subst hx
 obtain ⟨u,rfl,rx⟩:=QaG r
 cases rx
 obtain ⟨its,rv,pl,hz⟩:=I.list hq
 refine call_any_walk (Qd8 I (I.ok.hd hc) pl fun s₂ W st hfp back=>?_)
 have hval:∀ i v,its.toArray[i]?=some v->v=Value.bool (bs.getD i false):=fun i v h=>by
  obtain ⟨w,h1,h2⟩:=QkM rv (by simpa using h)
  rw [List.getElem?_map] at h1
  cases q:bs[i]? with
  | none=>rw [q] at h1;cases h1
  | some n =>
   rw [q] at h1
   cases h1
   rw [show v=Value.bool n from h2,List.getD_eq_getElem?_getD,q];rfl
 have hl:=rv.length
 rw [List.length_map] at hl
 refine ⟨_,_,_,_,_,_,(fun i=>bs.getD i false),rfl,W,st,fun i v s3 Q3 E3 hP hQ=>?_,fun h' tk hk=>?_⟩
 ·rw [hval i v hP];exact wpAny_truthy_bool hQ
 ·have e:(List.range its.toArray.size).any (fun i=>bs.getD i false)=bs.any id:=by rw [List.size_toArray,<- hl,QhI bs bs.length (Nat.le_refl _),List.take_length]
  rw [e]
  exact ⟨.bl (bs.any id),H,back h' tk hk,rfl,q⟩
theorem Qot (hc:X.calm=true):CallR X (.builtin "any") (fun xs H Q=>∃ (l:Addr) (bs:List Bool),xs=[.ref l]/\SqL X.K H l (bs.map V.bl)/\Q (.bl (bs.any id)) H)/\C1 X (fun xs H Q=>∃ (l:Addr) (bs:List Bool),xs=[.ref l]/\SqL X.K H l (bs.map V.bl)/\Q (.bl (bs.any id)) H) D.anyL:=by
 refine ⟨Qos hc,fun F H x dx d Q s rx e k=>?_⟩
 cases dx with
 | lst ds =>
  obtain ⟨bs,q,rfl⟩:=J8 e
  obtain ⟨l,xs,rfl,h,r⟩:=rx.lst s
  have:=Qjb r q
  subst this
  exact ⟨l,bs,rfl,SqL.of h,k _ F H (.refl s) (.bl _)⟩
 | _=>cases e
end
end Wd
namespace Wd
open PySem PySem.Spec PyProof.Rows L2
theorem Ve {X:Cx} {O O' OL:List Nat} {w:Bool} {st:Stmt}:PS X st (tS X O O' OL w YM):=fun _ _ _ _ _ _ ⟨_,_,_,_,_,z,_⟩=>by cases z
def Za (osc:Scope) (oN:List Str) (scope:Scope) (n:Nat) (N':List Str) (caps:List Nat):Bool :=
 scope.kind==.function&&scope.names.all (fun y=>y.2 != .cell)&&scope.names.all (fun x=>x.2 != .local||scope.names.lookup x.1==some .local) &&
 scope.names.all (fun x=>x.2 != .free||osc.names.lookup x.1==some .cell||osc.names.lookup x.1==some .free)&&N'.length==n+caps.length &&
 (List.range caps.length).all (fun j=>match caps[j]?,N'[n+j]? with
  | some i,some x=>oN[i]?==some x&&scope.names.lookup x==some .free
  | _,_=>false)&&decide N'.Nodup
theorem JA {X:Cx} {scope:Scope} {n:Nat} {N':List Str} {caps:List Nat} (h:Za X.env.scope X.N scope n N' caps=true):CompSc X scope n N' caps:=by
 unfold Za at h
 simp only [Bool.and_eq_true,decide_eq_true_eq,beq_iff_eq,List.all_eq_true] at h
 obtain ⟨⟨⟨⟨⟨⟨h1,h2⟩,h3⟩,h4⟩,h5⟩,h6⟩,h7⟩:=h
 refine ⟨h1,fun y hy z=>?_,fun x hx z=>?_,fun x hx z=>?_,h5,fun j i hj=>?_,h7⟩
 ·have:=h2 y hy
  rw [z] at this
  simp at this
 ·have:=h3 x hx
  rw [z] at this
  simpa using this
 ·have:=h4 x hx
  rw [z] at this
  have q:List.lookup x.1 X.env.scope.names=some NameKind.cell\/List.lookup x.1 X.env.scope.names=some NameKind.free:=by simpa using this
  exact q
 ·have hl:j<caps.length:=by
   rcases Nat.lt_or_ge j caps.length with w | w
   ·exact w
   ·rw [List.getElem?_eq_none w] at hj;cases hj
  have:=h6 j (List.mem_range.mpr hl)
  rw [hj] at this
  cases q:N'[n+j]? with
  | none=>rw [q] at this;cases this
  | some x =>
   rw [q] at this
   simp only [Bool.and_eq_true,beq_iff_eq] at this
   exact ⟨x,rfl,this.1,this.2⟩
end Wd
namespace Wd
open PySem
section
variable {es:List Expr} {env:Env}
theorem Qj6 {a b c}:starEach (.Constant a b c::es) env=(false,eval (.Constant a b c) env)::starEach es env:=rfl
theorem Zb {a b}:starEach (.Name a b::es) env=(false,eval (.Name a b) env)::starEach es env:=rfl
theorem QiM {a b c d}:starEach (.BinOp a b c d::es) env=(false,eval (.BinOp a b c d) env)::starEach es env:=rfl
theorem Ql3 {a b c d}:starEach (.Compare a b c d::es) env=(false,eval (.Compare a b c d) env)::starEach es env:=rfl
theorem QgE {a b c d}:starEach (.Call a b c d::es) env=(false,eval (.Call a b c d) env)::starEach es env:=rfl
theorem Qem {a b c}:starEach (.Subscript a b c::es) env=(false,eval (.Subscript a b c) env)::starEach es env:=rfl
theorem Qqj {a b}:starEach (.List a b::es) env=(false,eval (.List a b) env)::starEach es env:=rfl
theorem QoM {a b c}:starEach (.Tuple a b c::es) env=(false,eval (.Tuple a b c) env)::starEach es env:=rfl
theorem Qj5 {a b c d}:starEach (.ListComp a b c d::es) env=(false,eval (.ListComp a b c d) env)::starEach es env:=rfl
end
end Wd
namespace Wd
open PySem PySem.Spec PyProof.Rows L2
section
variable {X:Cx} {O:List Nat} {es:List Expr} {l:EvL} {ea:EvE}
theorem Dk {a b c} (ha:PE X (.Constant a b c) (tD X O ea)) (hr:PA X es (tL X O l)):PA X (.Constant a b c::es) (tL X O (lC ea l)):=Vp ha hr Qj6
theorem Qlg {a b} (ha:PE X (.Name a b) (tD X O ea)) (hr:PA X es (tL X O l)):PA X (.Name a b::es) (tL X O (lC ea l)):=Vp ha hr Zb
theorem Db {a b c d} (ha:PE X (.BinOp a b c d) (tD X O ea)) (hr:PA X es (tL X O l)):PA X (.BinOp a b c d::es) (tL X O (lC ea l)):=Vp ha hr QiM
theorem Qmr {a b c d} (ha:PE X (.Compare a b c d) (tD X O ea)) (hr:PA X es (tL X O l)):PA X (.Compare a b c d::es) (tL X O (lC ea l)):=Vp ha hr Ql3
theorem Dl {a b c d} (ha:PE X (.Call a b c d) (tD X O ea)) (hr:PA X es (tL X O l)):PA X (.Call a b c d::es) (tL X O (lC ea l)):=Vp ha hr QgE
theorem Du {a b c} (ha:PE X (.Subscript a b c) (tD X O ea)) (hr:PA X es (tL X O l)):PA X (.Subscript a b c::es) (tL X O (lC ea l)):=Vp ha hr Qem
theorem VR {a b} (ha:PE X (.List a b) (tD X O ea)) (hr:PA X es (tL X O l)):PA X (.List a b::es) (tL X O (lC ea l)):=Vp ha hr Qqj
theorem Dt {a b c} (ha:PE X (.Tuple a b c) (tD X O ea)) (hr:PA X es (tL X O l)):PA X (.Tuple a b c::es) (tL X O (lC ea l)):=Vp ha hr QoM
theorem QaR {a b c d} (ha:PE X (.ListComp a b c d) (tD X O ea)) (hr:PA X es (tL X O l)):PA X (.ListComp a b c d::es) (tL X O (lC ea l)):=Vp ha hr Qj5
end
end Wd
namespace Wd
theorem Qd2 {n:Nat} {l:EvL} (h:∀ (e:Qr) (d:List D),l e=some d->d.length<=n) (hn:n<=lI):∀ (e:Qr) (d:List D),l e=some d->d.length<=lI:=fun e d w=>Nat.le_trans (h e d w) hn
theorem lz0:∀ (e:Qr) (d:List D),lN e=some d->d.length<=lI:=Qd2 (n:=0) QbM (by decide)
theorem lz1 {p:EvE}:∀ (e:Qr) (d:List D),(lC p lN) e=some d->d.length<=lI:=Qd2 (n:=1) (ZO QbM) (by decide)
theorem lz2 {p q:EvE}:∀ (e:Qr) (d:List D),(lC p (lC q lN)) e=some d->d.length<=lI:=Qd2 (n:=2) (ZO (ZO QbM)) (by decide)
theorem lz3 {p q r:EvE}:∀ (e:Qr) (d:List D),(lC p (lC q (lC r lN))) e=some d->d.length<=lI:=Qd2 (n:=3) (ZO (ZO (ZO QbM))) (by decide)
theorem lz4 {p q r t:EvE}:∀ (e:Qr) (d:List D),(lC p (lC q (lC r (lC t lN)))) e=some d->d.length<=lI:=Qd2 (n:=4) (ZO (ZO (ZO (ZO QbM)))) (by decide)
open PySem PySem.Spec PyProof.Rows L2
end Wd
namespace Wd
open PySem PySem.Spec PyProof.Rows L2
theorem _root_.L2.Room.units1 {k:Nat} {A:Around} (r:Room k A):A.units+1<cLine:=by have:=r.units;omega
theorem QiG {K:Fg} {F:Hp} (k:Kd):∀ {ks:List Kd} {xs:List V} {ds:List D},ks.length=xs.length->Reps K F xs ds->(QgB ks ds k=none/\YW (ks.zip xs) k=none/\hasK k ks=false)\/∃ d v,QgB ks ds k=some d/\YW (ks.zip xs) k=some v/\Rep K F v d/\hasK k ks=true
 | [],xs,ds,_,_=>.inl ⟨by cases ds<;>rfl,rfl,rfl⟩
 | c::ks,[],_,h,_=>by cases h
 | c::ks,x::xs,_,h,.cons (d:=d) (ds:=ds) hx r=>by
  by_cases z:c=k
  ·right
   exact ⟨d,x,by show (if c=k then some d else _)=_;rw [if_pos z],Qdc (p:=(c,x)) z,hx,by simp [hasK,z]⟩
  ·have e1:QgB (c::ks) (d::ds) k=QgB ks ds k:=by show (if c=k then some d else _)=_;rw [if_neg z]
   have e2:YW ((c::ks).zip (x::xs)) k=YW (ks.zip xs) k:=Qdd (p:=(c,x)) z
   rw [e1,e2]
   rcases QiG k (by simpa using h) r with ⟨a,b,c'⟩ | ⟨d',v',a,b,c',m⟩
   ·refine .inl ⟨a,b,?_⟩
    show (decide (c=k)||hasK k ks)=false
    rw [c',decide_eq_false z];rfl
   ·refine .inr ⟨d',v',a,b,c',?_⟩
    show (decide (c=k)||hasK k ks)=true
    rw [m,Bool.or_true]
theorem Qln (k:Kd):∀ {ks:List Kd} {xs:List V},ks.length=xs.length->((ks.zip xs).any fun kv=>decide (kv.1=k))=hasK k ks
 | [],_,_=>by simp [hasK]
 | c::ks,[],h=>by cases h
 | c::ks,x::xs,h=>by
  rw [List.zip_cons_cons,List.any_cons,Qln k (by simpa using h)]
  rfl
def QeZ:List Kd->List V->Kd->V->List V
 | c::ks,x::xs,k,v=>(if c=k then v else x)::QeZ ks xs k v
 | _,_,_,_=>[]
theorem QkQ {K:Fg} {F:Hp} (k:Kd) {v:V} {d:D} (hv:Rep K F v d):∀ {ks:List Kd} {xs:List V} {ds:List D},ks.length=xs.length->Reps K F xs ds ->
  (ks.zip xs).map (fun kv=>if kv.1=k then (kv.1,v) else kv)=ks.zip (QeZ ks xs k v)/\ks.length=(QeZ ks xs k v).length/\Reps K F (QeZ ks xs k v) (QlF ks ds k d)
 | [],xs,ds,_,_=>⟨by simp,rfl,by cases ds<;>exact .nil⟩
 | c::ks,[],_,h,_=>by cases h
 | c::ks,x::xs,_,h,.cons (d:=d0) (ds:=ds) hx r=>by
  obtain ⟨a,b,c'⟩:=QkQ k hv (ks:=ks) (xs:=xs) (by simpa using h) r
  refine ⟨?_,?_,?_⟩
  ·show (if c=k then (c,v) else (c,x))::(ks.zip xs).map _=(c,if c=k then v else x)::ks.zip (QeZ ks xs k v)
   rw [a]
   by_cases z:c=k
   ·rw [if_pos z,if_pos z]
   ·rw [if_neg z,if_neg z]
  ·show ks.length+1=(QeZ ks xs k v).length+1
   rw [b]
  ·refine .cons ?_ c'
   by_cases z:c=k
   ·rw [if_pos z,if_pos z];exact hv
   ·rw [if_neg z,if_neg z];exact hx
theorem Reps.snoc {K:Fg} {F:Hp} {xs:List V} {ds:List D} {v:V} {d:D} (r:Reps K F xs ds) (h:Rep K F v d):Reps K F (xs++[v]) (ds++[d]):=r.append (.cons h .nil)
theorem Qqu {K:Fg} {F:Hp} {k:Kd} {v:V} {d:D} (hv:Rep K F v d) {ks:List Kd} {xs:List V} {ds:List D} (hl:ks.length=xs.length) (r:Reps K F xs ds) :
  ∃ ks' xs' ds',HO.dK (VH (ks.zip xs) k v)=ho (some ks') xs'/\VX (some ks') xs'/\Reps K F xs' ds'/\QgC ks ds k d=dOf (some ks') ds':=by
 unfold VH QgC
 rw [Qln k hl]
 by_cases z:hasK k ks=true
 ·obtain ⟨a,b,c⟩:=QkQ k hv hl r
  refine ⟨ks,QeZ ks xs k v,QlF ks ds k d,?_,b,c,?_⟩
  ·rw [if_pos z,a];rfl
  ·rw [if_pos z];rfl
 ·refine ⟨ks++[k],xs++[v],ds++[d],?_,?_,r.snoc hv,?_⟩
  ·rw [if_neg z]
   show HO.dK (ks.zip xs++[(k,v)])=.dK ((ks++[k]).zip (xs++[v]))
   rw [List.zip_append hl];rfl
  ·show (ks++[k]).length=(xs++[v]).length
   rw [List.length_append,List.length_append,hl];rfl
  ·rw [if_neg z];rfl
theorem Qm4 {K:Fg} {F H:Hp} {v:V} {d:D} {k:Kd} (r:RdD K F H v d) (h:kOf d=some k):v=kV k:=by
 cases d with
 | str x=>cases h;exact r.str
 | int i=>cases h;exact r.int
 | _=>cases h
section
variable {X:Cx} {O O' OL:List Nat} {w:Bool} {e a b:Expr} {pos:Pos}
theorem Qrm:PE X (.Dict [] [] pos) (tO X O (eC (.dic [] []))):=PE.imp Qo3 fun σ H Q ⟨F0,F,en,d,rs,z,k⟩=>by
 cases z
 intro p hp
 exact k p (some []) [] [] F _ (Gr.newO rs.fh hp (.dK [])) hp (rs.fh.none hp) Q7 .nil rfl rfl
theorem Qp9 {ea eb:EvE} {g:Bool->Bool} {f:D->D->Option D} (hf:∀ y d r,f y d=some r->∃ ks ds k,d=.dic ks ds/\kOf y=some k/\r=.bl (g (hasK k ks))) {σ:L2.St} {H:Hp} {Q:Bool->Hp->Prop} (h:tDT X O (eOp f ea eb) σ H Q) :
  tR X O ea σ H fun y H1=>tR X O eb σ H1 fun x H2=>∃ a o,x=.ref a/\DGet H2 a y o/\∃ d,V.bl (g o.isSome)=.bl d/\Q d H2:=by
 obtain ⟨F0,F,en,b,rs,z,k⟩:=h
 obtain ⟨dy,dx,e1,e2,e3⟩:=QaK z
 obtain ⟨ks,ds,kk,rfl,q1,q2⟩:=hf _ _ _ e3
 refine ⟨F0,F,en,dy,rs,e1,fun y F1 H1 g1 r1=>⟨F0,F1,en,_,rs.grow g1,e2,fun x F2 H2 g2 r2=>?_⟩⟩
 obtain ⟨p,xs,rfl,h,hl,rp⟩:=r2.dic g2.fh
 refine ⟨p,YW (ks.zip xs) kk,rfl,?_,?_⟩
 ·rw [Qm4 (r1.gr g2) q1];exact .inl ⟨_,_,h,rfl,rfl⟩
 ·have:(YW (ks.zip xs) kk).isSome=hasK kk ks:=by
   rcases QiG kk hl rp with ⟨_,n,m⟩ | ⟨d',v',_,a2,_,m⟩
   ·rw [n,m];rfl
   ·rw [a2,m];rfl
  rw [this]
  cases q2
  exact ⟨_,rfl,k F2 H2 (g1.trans g2)⟩
theorem QsF {ea eb:EvE} (hu:X.A.units+1<cLine) (ha:PE X a (tR X O ea)) (hb:PE X b (tR X O eb)) (hm:behindInMarks .In b=false:=by with_unfolding_all rfl):PT X (.Compare a [.In] [b] pos) (tDT X O (eOp D.dIn ea eb)) :=
 PT.imp (QmU (Qr4 hu ha hb) hm) fun σ H Q h=>by
  have q:=Qp9 (g:=id) (fun y d r e=>by
   cases d with
   | dic ks ds=>obtain ⟨k,e1,rfl⟩:=J8 (show ((kOf y).map fun k=>D.bl (hasK k ks))=some r from e);exact ⟨ks,ds,k,rfl,e1,rfl⟩
   | _=>cases e) h
  exact q
theorem Qn7 {ea eb:EvE} (hu:X.A.units+1<cLine) (ha:PE X a (tR X O ea)) (hb:PE X b (tR X O eb)) (hm:behindInMarks .NotIn b=false:=by with_unfolding_all rfl):PT X (.Compare a [.NotIn] [b] pos) (tDT X O (eOp D.dNotIn ea eb)) :=
 PT.imp (QmU (QnA hu ha hb) hm) fun σ H Q h=>by
  have q:=Qp9 (g:=not) (fun y d r e=>by
   cases d with
   | dic ks ds=>obtain ⟨k,e1,rfl⟩:=J8 (show ((kOf y).map fun k=>D.bl (!hasK k ks))=some r from e);exact ⟨ks,ds,k,rfl,e1,rfl⟩
   | _=>cases e) h
  exact q
theorem Qra (i:Nat) (hi:i∈O) {x:Str} {p pos':Pos} {v key:Expr} {ek ev:EvE} (hu:X.A.units+1<cLine) (hk:PE X key (tR X O ek)) (hv:PE X v (tD X O ev)) (hN:X.N[i]?=some x:=by rfl) (hvis:Vis X.env.scope x:=by first | exact Or.inl rfl | exact Or.inr (Or.inl rfl) | exact Or.inr (Or.inr rfl)) (hd:(x==("__debug__":Str))=false:=by decide) (hcd:(x==("__classdict__":Str))=false:=by decide)
  (hs:swapsWith v (some (.Subscript (.Name x p) key pos')) pos.line X.env=pure false:=by rfl):PS X (.Assign [.Subscript (.Name x p) key pos'] v pos) (tS X O O OL w (QpX i ek ev)) :=
 PS.imp (Qqx hu (V2 hN hvis hd hcd) hk hv hs) fun Dn σ H ⟨F0,F,en,fl,rs,z,k⟩=>by
  obtain ⟨dv,e1,z1⟩:=Q8 z
  obtain ⟨dx,e2,z2⟩:=Q8 z1
  obtain ⟨dy,e3,z3⟩:=Q8 z2
  obtain ⟨dz,e4,rfl⟩:=J8 z3
  refine ⟨F0,F,en,dv,rs,e1,fun u F1 H1 g1 r1=>?_⟩
  have rs1:=rs.grow g1
  obtain ⟨p,kk,xs,ds,h1,h2,h3,h4,h5,h6,h7⟩:=rs1.own i dx (JV e2) hi
  refine ⟨_,h1,F0,F1,en,dy,rs1,e3,fun y F2 H2 g2 r2=>?_⟩
  have rs2:=rs1.grow g2
  obtain ⟨p',kk',xs',ds',k1,k2,k3,k4,k5,k6,k7⟩:=rs2.own i dx (JV e2) hi
  rw [h1] at k1
  cases k1
  subst k6
  cases kk' with
  | none=>cases e4
  | some ks =>
   obtain ⟨kx,q1,q2⟩:=Q8 (show ((kOf dy).bind fun k=>if ks.length<lI then some (QgC ks ds' k dv) else none)=some dz from e4)
   split at q2
   ·rename_i hz
    cases q2
    obtain ⟨ks2,xs2,ds2,a1,a2,a3,a4⟩:=Qqu (k:=kx) (r1.mono g2.ff) k7 k5
    refine ⟨p,upd H2 p (.dK (VH (ks.zip xs') kx u)),rfl,?_,?_⟩
    ·rw [Qm4 r2 q1]
     exact DPut.k k4 (by rw [List.length_zip,show ks.length=xs'.length from k7,Nat.min_self,<- show ks.length=xs'.length from k7,Z0];exact hz)
    ·rw [a1]
     rw [a4] at k
     exact k _ F2 _ (g1.ff.trans g2.ff) (rs2.write hi (JV e2) h1 k2 k3 a2 a3)
   ·cases q2
end
end Wd
namespace Wd
open PySem PySem.Spec PyProof.Rows L2
def er (H:Hp) (p:Addr):Hp:=fun a=>if a=p then none else H a
theorem Qk9 {H:Hp} {p:Addr}:er H p p=none:=if_pos rfl
theorem Qib {H:Hp} {p a:Addr} (h:a≠p):er H p a=H a:=if_neg h
theorem Qtm {H:Hp} {p:Addr}:Sm (er H p) H:=fun a o h=>by
 by_cases z:a=p
 ·rw [z,Qk9] at h;cases h
 ·rw [Qib z] at h;exact h
theorem Sm.er {F H:Hp} (s:Sm F H) {p:Addr} (h:F p=Option.none):Sm F (er H p):=fun a o e=>by
 have:a≠p:=fun z=>by rw [z,h] at e;cases e
 rw [Qib this];exact s a o e
def spM (K:Fg) (f:List D->Option D):Sp:=fun vs H Q _=>∃ F us cs p kk xs es d,Sm F H/\vs=us++[.ref p]/\Reps K F us cs/\F p=none/\H p=some (ho kk xs)/\VX kk xs/\Reps K F xs es/\f (cs++[dOf kk es])=some d /\
 ∀ kk' xs' es' F' H',Gr F (er H p) F' H'->F' p=none->H' p=some (ho kk' xs')->VX kk' xs'->Reps K F' xs' es'->d=dOf kk' es'->Q .non H'
section
variable {P:Program} {w:World} {K:Fg} {mg:Str->Option Value} {base:Heap} {x:Str} {st:Stmt} {N ps:List Str} {k:Nat} {b:EvS}
theorem Qnv {F H:Hp} {us:List V} {cs:List D} {p:Addr} {kk:Option (List Kd)} {xs:List V} {es:List D} (n m:Nat) (hm:us.length=m) (hn:m<n) (hn2:n<=1000) (s:Sm F H) (r:Reps K F us cs) (hf:F p=none) (hp:H p=some (ho kk xs)) (hk:VX kk xs) (re:Reps K F xs es) :
  RS K H ⟨F,er H p,some p⟩ F H ((us++[V.ref p]).map some++List.replicate (n-(us++[V.ref p]).length) none) (sD n (cs++[dOf kk es])) [m,Ze m]:=by
 have hc:cs.length=m:=by rw [<- r.length];exact hm
 have em:(sD n (cs++[dOf kk es]))[m]?=some (some (dOf kk es)):=by
  unfold sD
  rw [List.getElem?_append_left (by rw [List.length_map,List.length_append,hc];simp),List.getElem?_map,List.getElem?_append_right (by omega),hc]
  simp
 have sm:((us++[V.ref p]).map some++List.replicate (n-(us++[V.ref p]).length) none)[m]?=some (some (V.ref p)):=by
  rw [List.getElem?_append_left (by rw [List.length_map,List.length_append,hm];simp),List.getElem?_map,List.getElem?_append_right (by omega),hm]
  simp
 have big:∀ i d,(sD n (cs++[dOf kk es]))[i]?=some (some d)->i<n:=fun i d h=>by
  have:i<(sD n (cs++[dOf kk es])).length:=by
   cases Nat.lt_or_ge i (sD n (cs++[dOf kk es])).length with
   | inl h=>exact h
   | inr h'=>rw [List.getElem?_eq_none h'] at h;cases h
  unfold sD at this
  rw [List.length_append,List.length_map,List.length_append,List.length_replicate,hc] at this
  simp at this
  omega
 refine ⟨s,Qtm,.refl F,fun _ _ h=>.inl h,fun i d h hi=>?_,fun i d h hi=>?_,fun i j q d1 d2 hi hj h1 h2 _ _=>?_,fun i hi=>?_,?_⟩
 ·have hne:i≠m:=fun z=>hi (by rw [z];simp)
  unfold sD at h
  rcases Nat.lt_or_ge i m with hl | hl
  ·rw [List.getElem?_append_left (by rw [List.length_map,List.length_append,hc];simp;omega),List.getElem?_map,List.getElem?_append_left (by omega)] at h
   have hd:cs[i]?=some d:=by
    cases q:cs[i]? with
    | none=>rw [q] at h;cases h
    | some d'=>rw [q] at h;cases h;rfl
   obtain ⟨v,h1,h2⟩:=r.get hd
   refine ⟨v,?_,h2⟩
   rw [List.getElem?_append_left (by rw [List.length_map,List.length_append,hm];simp;omega),List.getElem?_map,List.getElem?_append_left (by omega),h1];rfl
  ·rw [List.getElem?_append_right (by rw [List.length_map,List.length_append,hc];simp;omega),List.getElem?_replicate] at h
   split at h<;>cases h
 ·have hlt:=big i d h
  have hi':i=m:=by
   rcases List.mem_cons.mp hi with z | z
   ·exact z
   ·have:=List.mem_singleton.mp z
    unfold Ze at this;omega
  subst hi'
  rw [em] at h
  cases h
  exact ⟨p,kk,xs,es,sm,Qk9,hf,hp,re,rfl,hk⟩
 ·have a1:=big i d1 h1
  have a2:=big j d2 h2
  have e1:i=m:=by
   rcases List.mem_cons.mp hi with z | z
   ·exact z
   ·have:=List.mem_singleton.mp z
    unfold Ze at this;omega
  have e2:j=m:=by
   rcases List.mem_cons.mp hj with z | z
   ·exact z
   ·have:=List.mem_singleton.mp z
    unfold Ze at this;omega
  rw [e1,e2]
 ·have:i=m:=by
   rcases List.mem_cons.mp hi with z | z
   ·unfold Ze at z;omega
   ·have:=List.mem_singleton.mp z
    unfold Ze at this;omega
  subst this
  exact ⟨p,rfl,sm⟩
 ·unfold sD;simp [r.length]
theorem QlC (h:Df K mg x st ps) (S:FnScope N ps (Qc st)) {O' OL:List Nat} (hps:0<ps.length) (hpn:ps.length<=N.length) (hN2:N.length<=1000) (hO1:ps.length-1∈O') (hO2:Ze (ps.length-1)∈O')
  (hb:∀ (f:Addr) (cdv:Value) (A:Around) (outer:List Env) (s:Shared) (H:Hp) (E:XK),Room k (A.deeper (envOfC x (Qc st) s.heap.objs.size f cdv))->PSs (VV CX0 P w K mg base N x (Qc st) f cdv A outer s H E).nox (Zo st) (tS (VV CX0 P w K mg base N x (Qc st) f cdv A outer s H E).nox [ps.length-1,Ze (ps.length-1)] O' OL false b)) :
  Cal P w K mg base (k+1) x ps (spM K (Qch N.length ps.length b)):=by
 obtain ⟨f,fd,F,hbd,hm⟩:=h
 have len:∀ {us:List V} {cs:List D} {Fz:Hp} {p:Addr} {dd d:D},Reps K Fz us cs->Qch N.length ps.length b (cs++[dd])=some d->us.length=ps.length-1/\cs.length=ps.length-1:=fun r e=>by
  unfold Qch at e
  split at e
  ·rename_i z
   rw [List.length_append] at z
   simp at z
   have:=r.length
   omega
  ·cases e
 refine ⟨f,fd,F.ok S (fun vs H Q E ⟨Fz,us,cs,p,kk,xs,es,d,s,hv,r,hf,hp,hk,re,e,_⟩=>?_) (fun cdv A outer s H vs Q E hr ⟨Fz,us,cs,p,kk,xs,es,d,sm,hv,r,hf,hp,hk,re,e,k⟩=>?_),hbd,F.kp,hm⟩
 ·have:=len (p:=p) r e
  rw [hv,List.length_append];simp;omega
 ·refine ⟨_,hb f cdv A outer s H E hr,?_⟩
  have hl:=len (p:=p) r e
  have e':(match b (sD N.length (cs++[dOf kk es])) with
   | some (.nx e)=>(e[ps.length-1]?).join
   | _=>none)=some d:=by
   unfold Qch at e
   split at e
   ·exact e
   ·cases e
  cases q:b (sD N.length (cs++[dOf kk es])) with
  | none=>rw [q] at e';cases e'
  | some fl =>
   rw [q] at e'
   have hst:start N vs=(us++[V.ref p]).map some++List.replicate (N.length-(us++[V.ref p]).length) none:=by rw [hv];rfl
   rw [hst]
   refine ⟨⟨Fz,er H p,some p⟩,Fz,sD N.length (cs++[dOf kk es]),fl,Qnv N.length (ps.length-1) hl.1 (by omega) hN2 sm r hf hp hk re,q,?_⟩
   cases fl with
   | nx en =>
    intro σ' F' H' s' rs
    have hd:en[ps.length-1]?=some (some d):=JV e'
    obtain ⟨p',kk',xs',es',h1,h2,h3,h4,h5,h6,h7⟩:=rs.own _ _ hd hO1
    obtain ⟨p2,m1,m2⟩:=rs.pin _ hO2
    cases m1
    rw [h1] at m2
    cases m2
    exact k kk' xs' es' F' H' rs.ex.gr h3 h4 h7 h5 h6
   | rt d'=>cases e'
   | bk en=>cases e'
   | ct en=>cases e'
end
theorem RS.call {K:Fg} {H₀:Hp} {F0:Fz} {F H F' H':Hp} {σ:L2.St} {en:Qr} {O:List Nat} {i:Nat} {p:Addr} {d0:D} {kk:Option (List Kd)} {xs:List V} {es:List D} (r:RS K H₀ F0 F H σ en O) (hi:i∈O) (he:en[i]?=some (some d0)) (hσ:σ[i]?=some (some (.ref p))) (h0:F0.h p=none)
  (g:Gr F (er H p) F' H') (hf:F' p=none) (hp:H' p=some (ho kk xs)) (hk:VX kk xs) (re:Reps K F' xs es):RS K H₀ F0 F' H' σ (en.set i (some (dOf kk es))) O :=
 have hl:i<en.length:=by
  cases Nat.lt_or_ge i en.length with
  | inl h=>exact h
  | inr h=>rw [List.getElem?_eq_none h] at he;cases he
 {
 fh:=g.fh
 hh:=(r.hh.er h0).trans g.hh
 ff:=r.ff.trans g.ff
 fr:=fun a o e=>by
  rcases g.fr a o e with z | z
  ·exact r.fr a o z
  ·by_cases q:a=p
   ·rw [q,hf] at e;cases e
   ·rw [Qib q] at z
    exact .inr (r.hh.none z)
 slot:=fun j d' e1 hj=>by
  have z:i≠j:=fun z=>hj (z▸hi)
  rw [JU hl,if_neg z] at e1
  obtain ⟨v,h1,h2⟩:=r.slot j d' e1 hj
  exact ⟨v,h1,h2.mono g.ff⟩
 own:=fun j d' e1 hj=>by
  rw [JU hl] at e1
  split at e1
  ·rename_i z;cases e1;subst z
   exact ⟨p,kk,xs,es,hσ,h0,hf,hp,re,rfl,hk⟩
  ·rename_i z
   obtain ⟨q,k2,ys,es2,h1,h2,h3,h4,h5,h6⟩:=r.own j d' e1 hj
   have qp:q≠p:=fun w:q=p=>z (r.dis i j p _ _ hi hj he e1 hσ (by rw [<- w];exact h1))
   have e4:er H p q=some (ho k2 ys):=by rw [Qib qp];exact h4
   refine ⟨q,k2,ys,es2,h1,h2,?_,g.hh _ _ e4,h5.mono g.ff,h6⟩
   cases w:F' q with
   | none=>rfl
   | some o =>
    rcases g.fr q o w with z2 | z2
    ·rw [h3] at z2;cases z2
    ·rw [e4] at z2;cases z2
 dis:=fun j k q d1 d2 hj hk' f1 f2 g1 g2=>by
  rw [JU hl] at f1 f2
  have k1:∃ d,en[j]?=some (some d):=by
   split at f1
   ·rename_i z;subst z;exact ⟨_,he⟩
   ·exact ⟨_,f1⟩
  have k2:∃ d,en[k]?=some (some d):=by
   split at f2
   ·rename_i z;subst z;exact ⟨_,he⟩
   ·exact ⟨_,f2⟩
  obtain ⟨_,k1⟩:=k1
  obtain ⟨_,k2⟩:=k2
  exact r.dis j k q _ _ hj hk' k1 k2 g1 g2
 pin:=r.pin
 len:=by rw [List.length_set];exact r.len }
def tLM (X:Cx) (O:List Nat) (i:Nat) (l:EvL):TA:=fun σ H Q=>∃ F0 F e ds p,RS X.K X.H₀ F0 F H σ e O/\l e=some ds/\σ[i]?=some (some (.ref p))/\∀ vs F' H',Gr F H F' H'->Reps X.K F' vs ds->Q (vs++[.ref p]) H'
section
variable {X:Cx} {O OL:List Nat} {w:Bool} {e a:Expr} {es:List Expr} {p pos cpos:Pos} {x y:Str} {ps:List Str} {k:Nat}
theorem Qd6 (i:Nat) (hN:X.N[i]?=some x:=by rfl) (hv:Vis X.env.scope x:=by first | exact Or.inl rfl | exact Or.inr (Or.inl rfl) | exact Or.inr (Or.inr rfl)) (hd:(x==("__debug__":Str))=false:=by decide) (hcd:(x==("__classdict__":Str))=false:=by decide):PA X [.Name x p] (tLM X O i lN) :=
 PA.imp (ZY (V2 hN hv hd hcd) Qbs Zb) fun σ H Q ⟨F0,F,en,ds,q,rs,z,hσ,k⟩=>by
  cases z
  exact ⟨_,hσ,k [] F H (.refl rs.fh) .nil⟩
theorem J3 {i:Nat} {ea:EvE} {l:EvL} (ha:PE X a (tD X O ea)) (hr:PA X es (tLM X O i l)) (hs:starEach (a::es) X.env=(false,eval a X.env)::starEach es X.env:=by rfl):PA X (a::es) (tLM X O i (lC ea l)) :=
 PA.imp (ZY ha hr hs) fun σ H Q ⟨F0,F,en,ds,q,rs,z,hσ,k⟩=>by
  obtain ⟨d,e1,e2⟩:=Q8 z
  obtain ⟨ds',e3,rfl⟩:=J8 e2
  refine ⟨F0,F,en,d,rs,e1,fun v F1 H1 g1 r1=>?_⟩
  exact ⟨F0,F1,en,ds',q,rs.grow g1,e3,hσ,fun vs F2 H2 g2 r2=>k (v::vs) F2 H2 (g1.trans g2) (.cons (r1.mono g2.ff) r2)⟩
theorem QbR (i:Nat) (hi:i∈O) {f:List D->Option D} {l:EvL} (c:Cal X.prog X.w X.K X.mg X.base k x ps (spM X.K f)) (hr:Room k X.A) (hg:Gl X x) (ha:PA X (e::es) (tLM X O i l)) (hdb:(x==("__debug__":Str))=false:=by decide) (he:starEach (e::es) X.env=(false,eval e X.env)::starEach es X.env:=by rfl)
  (hpl:(backTo cpos (starEach es X.env)).any (·.1)=false:=by rfl) (hsw:swapsWith (.Call (.Name x p) (e::es) [] cpos) none pos.line X.env=pure false:=by rfl):PS X (.Expr (.Call (.Name x p) (e::es) [] cpos) pos) (tS X O O OL w (Y9 i f l)):=by
 obtain ⟨fa,fd,F,hb,hk,hm⟩:=c
 refine PS.imp (QcH (QeB F hr hg hm hk hb (.nil:Vals [] []) Qh4 ha hdb he hpl) hsw) fun Dn σ H ⟨F0,F,en,fl,rs,z,k⟩=>?_
 obtain ⟨ds,e1,z1⟩:=Q8 z
 obtain ⟨dx,e2,z2⟩:=Q8 z1
 obtain ⟨dz,e3,rfl⟩:=J8 z2
 obtain ⟨q,kk,xs,es',h1,h2,h3,h4,h5,h6,h7⟩:=rs.own i dx (JV e2) hi
 refine ⟨F0,F,en,ds,q,rs,e1,h1,fun vs F1 H1 g1 r1=>?_⟩
 have rs1:=rs.grow g1
 obtain ⟨q',kk',xs',es2,k1,k2,k3,k4,k5,k6,k7⟩:=rs1.own i dx (JV e2) hi
 rw [h1] at k1
 cases k1
 subst k6
 refine ⟨F1,vs,ds,q,kk',xs',es2,dz,g1.fh,?_,r1,k3,k4,k7,k5,e3,fun kk2 xs2 es3 F' H' g hf hp hk2 re ed=>?_⟩
 ·rw [List.append_nil]
 ·subst ed
  exact k σ F' H' (g1.ff.trans g.ff) (rs1.call hi (JV e2) h1 k2 g hf hp hk2 re)
end
end Wd
namespace Wd
open PySem PySem.Spec PyProof.Rows L2
section
variable {X:Cx} {O:List Nat} {a b:Expr} {p pos:Pos}
end
end Wd
namespace Wd
open PySem PySem.Spec PyProof.Rows L2
section
variable {X:Cx} {O OL:List Nat} {w:Bool} {c:Expr} {body:List Stmt} {pos:Pos}
end
end Wd
namespace Wd
open PySem PySem.Spec PyProof.Rows L2
section
open PySem.SeqAt
open PySem.AutoSeq1 (wpAny_loadPart')
open PySem.MeetsSeq PySem.MeetsSeq2 PySem.MeetsSeq3
end
section
variable {X:Cx} {O:List Nat} {e a b c:Expr} {pos:Pos}
end
end Wd
namespace Wd
open PySem PySem.Spec PyProof.Rows L2
section
variable {K:Fg} {H₀:Hp} {F0:Fz} {F H:Hp} {σ:L2.St} {e:Qr} {O:List Nat}
def Qda (F0:Fz) (p:Addr) (xs:List V):Fz:=⟨F0.f,fun a=>if a=p then some (.lst xs) else F0.h a,some p⟩
theorem QkZ (F0:Fz) (p:Addr) (xs:List V):(Qda F0 p xs).h p=some (.lst xs):=by simp [Qda]
theorem QeC {F0:Fz} {p a:Addr} {xs:List V} (h:(Qda F0 p xs).h a=none):F0.h a=none/\a≠p:=by
 unfold Qda at h
 dsimp only at h
 split at h
 ·cases h
 ·exact ⟨h,by assumption⟩
theorem Qsk {O:List Nat} (h:O.all (·<1000)=true) {j:Nat} (hj:Ze j∈O):False:=by
 have:=List.all_eq_true.mp h _ hj
 unfold Ze at this
 simp at this
 omega
theorem RS.back {i:Nat} {p:Addr} {xs:List V} {ds:List D} {F' H':Hp} {σ':L2.St} {e':Qr} (r:RS K H₀ (Qda F0 p xs) F' H' σ' e' (dl i O++[Ze i])) (hq:O.all (·<1000)=true) (hl:e'.length<=1000) (hO:i∈O)
  (h2:F0.h p=none) (hf:F0.f p=none) (h5:Reps K F' xs ds):RS K H₀ F0 F' H' σ' (e'.set i (some (.lst ds))) O:=by
 obtain ⟨_,hp,hs⟩:=r.pin i (List.mem_append_right _ (by simp))
 cases hp
 have h4:H' p=some (.lst xs):=r.hh p _ (QkZ F0 p xs)
 have h3:F' p=none:=by
  cases q:F' p with
  | none=>rfl
  | some o =>
   rcases r.fr p o q with z | z
   ·rw [show (Qda F0 p xs).f=F0.f from rfl,hf] at z;cases z
   ·rw [QkZ] at z;cases z
 have one:∀ {j:Nat} {d:D},j≠i->(e'.set i (some (.lst ds)))[j]?=some (some d)->e'[j]?=some (some d):=fun {j d} hji hj=>by
  rwa [List.getElem?_set_ne (Ne.symm hji)] at hj
 refine ⟨r.fh,fun a o h=>r.hh a o ?_,r.ff,fun a o h=>?_,fun j d hj hn=>?_,fun j d hj hm=>?_,fun j j' q d d' hm hm' hj hj' hs1 hs2=>?_,fun j hj=>(Qsk hq hj).elim,by rw [List.length_set];exact r.len⟩
 ·unfold Qda
  dsimp only
  rw [if_neg ?_]
  ·exact h
  ·rintro rfl;rw [h2] at h;cases h
 ·rcases r.fr a o h with z | z
  ·exact .inl z
  ·exact .inr (QeC z).1
 ·have hji:j≠i:=fun z=>hn (z▸hO)
  have hj':=one hji hj
  refine r.slot j d hj' fun z=>?_
  rcases List.mem_append.mp z with z | z
  ·exact hn (mem_dl.mp z).1
  ·have:j=Ze i:=by simpa using z
   subst this
   have:=(List.getElem?_eq_some_iff.mp hj').1
   unfold Ze at this;omega
 ·by_cases hji:j=i
  ·subst hji
   rw [List.getElem?_set] at hj
   simp only [if_true] at hj
   split at hj
   ·cases hj
    exact ⟨p,none,xs,ds,hs,h2,h3,h4,h5,rfl,trivial⟩
   ·cases hj
  ·obtain ⟨p',k,ys,ds',a1,a2,a3⟩:=r.own j d (one hji hj) (List.mem_append_left _ (mem_dl.mpr ⟨hm,hji⟩))
   exact ⟨p',k,ys,ds',a1,(QeC a2).1,a3⟩
 ·by_cases hji:j=i
  ·by_cases hji':j'=i
   ·rw [hji,hji']
   ·exfalso
    subst hji
    obtain ⟨p',k,ys,ds',a1,a2,a3⟩:=r.own j' d' (one hji' hj') (List.mem_append_left _ (mem_dl.mpr ⟨hm',hji'⟩))
    rw [hs] at hs1;cases hs1
    rw [a1] at hs2;cases hs2
    exact (QeC a2).2 rfl
  ·by_cases hji':j'=i
   ·exfalso
    subst hji'
    obtain ⟨p',k,ys,ds',a1,a2,a3⟩:=r.own j d (one hji hj) (List.mem_append_left _ (mem_dl.mpr ⟨hm,hji⟩))
    rw [hs] at hs2;cases hs2
    rw [a1] at hs1;cases hs1
    exact (QeC a2).2 rfl
   ·exact r.dis j j' q d d' (List.mem_append_left _ (mem_dl.mpr ⟨hm,hji⟩)) (List.mem_append_left _ (mem_dl.mpr ⟨hm',hji'⟩)) (one hji hj) (one hji' hj') hs1 hs2
end
section
variable {X:Cx} {O O' OL:List Nat} {w:Bool} {tg:Expr} {body:List Stmt} {pos pos':Pos}
end
end Wd
namespace Wd
open PySem PySem.Spec PyProof.Rows L2
section
variable {X:Cx} {O:List Nat} {a:Expr} {p q pos:Pos}
end
end Wd
namespace Wd
open PySem PySem.Spec PyProof.Rows L2
section
variable {X:Cx} {O:List Nat} {tg a iter:Expr} {p q:Pos}
end
end Wd
namespace Wd
open PySem PySem.Spec PyProof.Rows L2
section
variable {X:Cx} {O:List Nat} {a:Expr} {p q p1 pos:Pos} {x:Str} {ev:EvE}
end
end Wd
namespace Wd
open PySem PySem.Spec PyProof.Rows L2
section
variable {X:Cx} {O:List Nat} {a b tg:Expr} {p pos:Pos}
end
end Wd
namespace Wd
open PySem PySem.Spec PyProof.Rows L2
section
variable (X:Cx) (O:List Nat)
def tDP (i:Nat) (a:D->EvE):TE:=fun σ H Q=>∃ F0 F e x r d,RS X.K X.H₀ F0 F H σ e O/\eV i e=some (.lst (x::r))/\a x (e.set i (some (.lst r)))=some d/\∀ v F' H',Sm F F'->RS X.K X.H₀ F0 F' H' σ (e.set i (some (.lst r))) O->Rep X.K F' v d->Q v H'
def tLP (i:Nat) (l:D->EvL):TA:=fun σ H Q=>∃ F0 F e x r ds,RS X.K X.H₀ F0 F H σ e O/\eV i e=some (.lst (x::r))/\l x (e.set i (some (.lst r)))=some ds/\∀ vs F' H',Sm F F'->RS X.K X.H₀ F0 F' H' σ (e.set i (some (.lst r))) O->Reps X.K F' vs ds->Q vs H'
end
section
variable {X:Cx} {O O' OL:List Nat} {w:Bool} {e a b:Expr} {es:List Expr} {pos:Pos}
theorem QsJ (i:Nat) (hi:i∈O) {x:Str} {p apos cpos cp:Pos} {kd:Nat} (hN:X.N[i]?=some x:=by rfl) (hv:Vis X.env.scope x:=by first | exact Or.inl rfl | exact Or.inr (Or.inl rfl) | exact Or.inr (Or.inr rfl)) (hd:(x==("__debug__":Str))=false:=by decide) (hcd:(x==("__classdict__":Str))=false:=by decide)
  (hbase:attributeBase (.Name x p) "pop" X.env (eval (.Name x p) X.env)=eval (.Name x p) X.env:=by rfl) (hline:(apos.endLine==cpos.line)=true:=by rfl) (hs:starEach [.Constant (.int 0) kd cp] X.env=[(false,eval (.Constant (.int 0) kd cp) X.env)]:=by rfl)
  (hfew:((backTo cpos (starEach [.Constant (.int 0) kd cp] X.env)).all (fun x=>!x.1)&&(backToKw cpos (keywordEach [] X.env)).all (fun x=>x.1.isSome)&&decide ([Expr.Constant (.int 0) kd cp].length+([]:List Keyword).length+(if ([]:List Keyword).isEmpty then 0 else 1)<30))=true:=by rfl) :
  PE X (.Call (.Attribute (.Name x p) "pop" apos) [.Constant (.int 0) kd cp] [] cpos) (tDP X O i fun x=>eC x) :=
 PE.imp (QlN PySem.F.plainAttrs_list PySem.F.slot_list_pop PySem.F.type_list_pop Qpm (V2 hN hv hd hcd) (ZY (Qj (O:=O)) Qbs hs) hbase hfew hline hs rfl) fun σ H Q ⟨F0,F,en,x,r,d,rs,e1,e2,k⟩=>by
  obtain ⟨q,kk,xs,ds,h1,h2,h3,h4,h5,h6,h7⟩:=rs.own i _ (JV e1) hi
  cases kk with
  | some ks=>cases h6
  | none =>
  cases h6
  simp only [ho] at h4
  cases e2
  refine ⟨_,h1,.inl ⟨rfl,xs,SqL.of h4⟩,F0,F,en,.int 0,rs,rfl,fun y F1 H1 g1 r1=>?_⟩
  cases r1
  have rs1:=rs.grow g1
  obtain ⟨q',kk',xs',ds',k1,k2,k3,k4,k5,k6,k7⟩:=rs1.own i _ (JV e1) hi
  rw [h1] at k1
  cases k1
  cases kk' with
  | some ks=>cases k6
  | none =>
  cases k6
  simp only [ho] at k4
  cases k5 with
  | cons hx hr =>
  rename_i y0 ys
  refine ⟨q,y0::ys,0,0,y0,rfl,rfl,k4,by decide,by decide,?_,rfl,?_⟩
  ·simp [seqIndex?]
  ·exact k y0 F1 _ g1.ff (rs1.write (kk:=none) hi (JV e1) h1 k2 k3 trivial hr) hx
theorem QsK {i:Nat} {op:Operator} {r:R2} {g:D->D->Option D} {ea:EvE} {eb:D->EvE} (ho:OpR X (binaryOp op) r/\Op2 X r g) (ha:PE X a (tD X O ea)) (hb:PE X b (tDP X O i eb)) (hi:∀ e z,ea (e.set i z)=ea e):PE X (.BinOp a op b pos) (tDP X O i fun x=>eOp g ea (eb x)) :=
 PE.imp (QlM ho.1 ha hb) fun σ H Q ⟨F0,F,en,x,r,d,rs,e1,e2,k⟩=>by
  obtain ⟨dx,dy,z1,z2,z3⟩:=QaK e2
  rw [hi] at z1
  refine ⟨F0,F,en,dx,rs,z1,fun v F1 H1 g1 r1=>?_⟩
  refine ⟨F0,F1,en,x,r,dy,rs.grow g1,e1,z2,fun u F2 H2 s2 rs2 r2=>?_⟩
  exact ho.2 F2 H2 v u dx dy d Q rs2.fh (.inl (r1.mono s2)) (.inl r2) z3 fun v F' H' g3 r3=>k v F' H' ((g1.ff.trans s2).trans g3.ff) (rs2.grow g3) r3
theorem QsL {i:Nat} {op:Operator} {r:R2} {g:D->D->Option D} {ea:D->EvE} {eb:EvE} (ho:OpR X (binaryOp op) r/\Op2 X r g) (ha:PE X a (tDP X O i ea)) (hb:PE X b (tR X O eb)):PE X (.BinOp a op b pos) (tDP X O i fun x=>eOp g (ea x) eb) :=
 PE.imp (QlM ho.1 ha hb) fun σ H Q ⟨F0,F,en,x,r,d,rs,e1,e2,k⟩=>by
  obtain ⟨dx,dy,z1,z2,z3⟩:=QaK e2
  refine ⟨F0,F,en,x,r,dx,rs,e1,z1,fun v F1 H1 s1 rs1 r1=>?_⟩
  refine ⟨F0,F1,_,dy,rs1,z2,fun u F2 H2 g2 r2=>?_⟩
  exact ho.2 F2 H2 v u dx dy d Q g2.fh (.inl (r1.mono g2.ff)) r2 z3 fun v F' H' g3 r3=>k v F' H' ((s1.trans g2.ff).trans g3.ff) ((rs1.grow g2).grow g3) r3
theorem Qi7 {i:Nat} {ea:EvE} {l:D->EvL} (ha:PE X a (tD X O ea)) (hr:PA X es (tLP X O i l)) (hi:∀ e z,ea (e.set i z)=ea e) (hs:starEach (a::es) X.env=(false,eval a X.env)::starEach es X.env):PA X (a::es) (tLP X O i fun x=>lC ea (l x)) :=
 PA.imp (ZY ha hr hs) fun σ H Q ⟨F0,F,en,x,r,ds,rs,e1,e2,k⟩=>by
  obtain ⟨d,z1,z2⟩:=Q8 e2
  obtain ⟨ds',z3,rfl⟩:=J8 z2
  rw [hi] at z1
  refine ⟨F0,F,en,d,rs,z1,fun v F1 H1 g1 r1=>?_⟩
  exact ⟨F0,F1,en,x,r,ds',rs.grow g1,e1,z3,fun vs F2 H2 s2 rs2 r2=>k (v::vs) F2 H2 (g1.ff.trans s2) rs2 (.cons (r1.mono s2) r2)⟩
theorem QpD {i:Nat} {ea:D->EvE} {l:EvL} (ha:PE X a (tDP X O i ea)) (hr:PA X es (tL X O l)) (hs:starEach (a::es) X.env=(false,eval a X.env)::starEach es X.env):PA X (a::es) (tLP X O i fun x=>lC (ea x) l) :=
 PA.imp (ZY ha hr hs) fun σ H Q ⟨F0,F,en,x,r,ds,rs,e1,e2,k⟩=>by
  obtain ⟨d,z1,z2⟩:=Q8 e2
  obtain ⟨ds',z3,rfl⟩:=J8 z2
  refine ⟨F0,F,en,x,r,d,rs,e1,z1,fun v F1 H1 s1 rs1 r1=>?_⟩
  exact ⟨F0,F1,_,ds',rs1,z3,fun vs F2 H2 g2 r2=>k (v::vs) F2 H2 (s1.trans g2.ff) (rs1.grow g2) (.cons (r1.mono g2.ff) r2)⟩
theorem QpB {i:Nat} {x:Str} {p:Pos} {ps:List Str} {k:Nat} {f:List D->Option D} {l:D->EvL} (c:Cal X.prog X.w X.K X.mg X.base k x ps (spD X.K f)) (hr:Room k X.A) (hg:Gl X x) (ha:PA X (e::es) (tLP X O i l)) (hdb:(x==("__debug__":Str))=false:=by decide) (he:starEach (e::es) X.env=(false,eval e X.env)::starEach es X.env:=by rfl)
  (hpl:(backTo pos (starEach es X.env)).any (·.1)=false:=by rfl):PE X (.Call (.Name x p) (e::es) [] pos) (tDP X O i fun y=>eK f (l y)):=by
 obtain ⟨fa,fd,F,hb,hk,hm⟩:=c
 refine PE.imp (QeB F hr hg hm hk hb (.nil:Vals [] []) Qh4 ha hdb he hpl) fun σ H Q ⟨F0,F,en,y,r,d,rs,z0,z,k⟩=>?_
 obtain ⟨ds,e1,e2⟩:=Q8 z
 refine ⟨F0,F,en,y,r,ds,rs,z0,e1,fun vs F1 H1 s1 rs1 r1=>⟨F1,ds,d,rs1.fh,?_,e2,fun v F' H' g r=>k v F' H' (s1.trans g.ff) (rs1.grow g) r⟩⟩
 rw [List.append_nil];exact r1
theorem Qrc (i:Nat) {tg:Expr} {ev:D->EvE} {g:EvG} (he:PE X e (tDP X O i ev)) (hg:PG X tg (tG X O O' g)) (hs:swapsWithSole [tg] e pos.line X.env=pure false:=by rfl) (hw:swappedStores [tg] e X.env=pure none:=by rfl)
  (h1:(assignEach [tg] X.env).map (·.2)=[assign tg X.env]:=by rfl):PS X (.Assign [tg] e pos) (tS X O O' OL w (QlJ i ev g)):=PS.imp (QmW he hg hs hw h1) fun Dn σ H ⟨F0,F,en,fl,rs,z,k⟩=>by
 unfold QlJ at z
 split at z
 ·rename_i x r hx
  obtain ⟨d,e1,e2⟩:=Q8 z
  obtain ⟨e',e3,rfl⟩:=J8 e2
  refine ⟨F0,F,en,x,r,d,rs,hx,e1,fun v F1 H1 s1 rs1 r1=>?_⟩
  exact ⟨F0,F1,_,d,e',rs1,r1,e3,fun σ' H' F' s rs'=>k σ' F' H' (s1.trans s.ff) rs'⟩
 ·cases z
end
end Wd
namespace Wd
open PySem PySem.Spec PyProof.Rows L2
def un (G G':Hp):Hp:=fun a=>match G a with
 | some o=>some o
 | none=>G' a
theorem QdS (G G':Hp):Sm G (un G G'):=fun a o h=>by unfold un;rw [h]
theorem Qif {F G G':Hp} (s:Sm G F) (s':Sm G' F):Sm G' (un G G'):=fun a o h=>by
 unfold un
 cases e:G a with
 | none=>exact h
 | some x =>
  have:=s a x e
  rw [s' a o h] at this
  exact this.symm
theorem Qly {F G G':Hp} (s:Sm G F) (s':Sm G' F):Sm (un G G') F:=fun a o h=>by
 unfold un at h
 cases e:G a with
 | none=>rw [e] at h;exact s' a o h
 | some x=>rw [e] at h;cases h;exact s a _ e
theorem Qh2 {G G':Hp} {a:Addr} {o:HO} (h:un G G' a=some o):G a=some o\/G' a=some o:=by
 unfold un at h
 cases e:G a with
 | none=>rw [e] at h;exact .inr h
 | some x=>rw [e] at h;exact .inl h
def sgl (p:Addr) (o:HO):Hp:=fun a=>if a=p then some o else none
theorem QmR (p:Addr) (o:HO):sgl p o p=some o:=if_pos rfl
theorem QpW {F:Hp} {p:Addr} {o:HO} (h:F p=some o):Sm (sgl p o) F:=fun a x e=>by
 unfold sgl at e
 split at e
 ·rename_i z;subst z;cases e;exact h
 ·cases e
def Cl (K:Fg) (G:Hp):Prop:=∀ a xs,G a=some (.lst xs)->∃ ds,Reps K G xs ds/\QoD ds=false/\NoPls ds
theorem Cl.un {K:Fg} {F G G':Hp} (s:Sm G F) (s':Sm G' F) (c:Cl K G) (c':Cl K G'):Cl K (un G G'):=fun a xs h=>by
 rcases Qh2 h with z | z
 ·obtain ⟨ds,h1,h2⟩:=c a xs z
  exact ⟨ds,h1.mono (QdS G G'),h2⟩
 ·obtain ⟨ds,h1,h2⟩:=c' a xs z
  exact ⟨ds,h1.mono (Qif s s'),h2⟩
theorem Cl.emp (K:Fg):Cl K fun _=>none:=fun a xs h=>by cases h
mutual
theorem Rep.supp {K:Fg} {F:Hp}:∀ {v:V} {d:D},Rep K F v d->NoPl d->∃ G,Sm G F/\Rep K G v d/\Cl K G
 | _,_,.non,_=>⟨fun _=>none,fun _ _ h=>(by cases h),.non,.emp K⟩
 | _,_,.bl b,_=>⟨fun _=>none,fun _ _ h=>(by cases h),.bl b,.emp K⟩
 | _,_,.int i,_=>⟨fun _=>none,fun _ _ h=>(by cases h),.int i,.emp K⟩
 | _,_,.str x,_=>⟨fun _=>none,fun _ _ h=>(by cases h),.str x,.emp K⟩
 | _,_,.tup (a:=a) (xs:=xs) h r,.tup n=>by
  obtain ⟨G,s,r',c⟩:=Reps.supp r n
  have s2:=QpW h
  refine ⟨un G (sgl a (.tup xs)),Qly s s2,.tup (Qif s s2 _ _ (QmR _ _)) (r'.mono (QdS _ _)),fun b ys hb=>?_⟩
  rcases Qh2 hb with z | z
  ·obtain ⟨ds,h1,h2⟩:=c b ys z
   exact ⟨ds,h1.mono (QdS _ _),h2⟩
  ·unfold sgl at z
   split at z
   ·cases z
   ·cases z
 | _,_,.lst (a:=a) (xs:=xs) (ds:=ds) h r,.lst n hd=>by
  obtain ⟨G,s,r',c⟩:=Reps.supp r n
  have s2:=QpW h
  refine ⟨un G (sgl a (.lst xs)),Qly s s2,.lst (Qif s s2 _ _ (QmR _ _)) (r'.mono (QdS _ _)),fun b ys hb=>?_⟩
  rcases Qh2 hb with z | z
  ·obtain ⟨ds,h1,h2⟩:=c b ys z
   exact ⟨ds,h1.mono (QdS _ _),h2⟩
  ·unfold sgl at z
   split at z
   ·cases z
    exact ⟨ds,r'.mono (QdS _ _),hd,n⟩
   ·cases z
 | _,_,.scr _,n=>by cases n
 | _,_,.dic _ _ _,n=>by cases n
theorem Reps.supp {K:Fg} {F:Hp}:∀ {vs:List V} {ds:List D},Reps K F vs ds->NoPls ds->∃ G,Sm G F/\Reps K G vs ds/\Cl K G
 | _,_,.nil,_=>⟨fun _=>none,fun _ _ h=>(by cases h),.nil,.emp K⟩
 | _,_,.cons h r,.cons n m=>by
  obtain ⟨G,s,h',c⟩:=Rep.supp h n
  obtain ⟨G',s',r',c'⟩:=Reps.supp r m
  exact ⟨un G G',Qly s s',.cons (h'.mono (QdS _ _)) (r'.mono (Qif s s')),.un s s' c c'⟩
end
theorem Reps.i3 {K:Fg} {F:Hp} {i j k:Int}:∀ {xs:List V},Reps K F xs [.int i,.int j,.int k]->xs=[.int i,.int j,.int k]
 | _,.cons (.int _) (.cons (.int _) (.cons (.int _) .nil))=>rfl
theorem Reps.i3' {K:Fg} {F:Hp} {i j k:Int}:∀ {ds:List D},Reps K F [.int i,.int j,.int k] ds->ds=[.int i,.int j,.int k]
 | _,.cons (.int _) (.cons (.int _) (.cons (.int _) .nil))=>rfl
theorem Cl.fresh {K:Fg} {G H F' H':Hp} (c:Cl K G) (g:Gr G H F' H') {a:Addr} {xs:List V} {d:D} {es:List D} (h:F' a=some (.lst xs)) (r:Reps K F' xs (d::es)) (hp:QlD d=true):H a=none:=by
 rcases g.fr a _ h with z | z
 ·exfalso
  obtain ⟨ds,h1,h2,h3⟩:=c a xs z
  have h1':=h1.mono g.ff
  cases r with
  | cons r0 rr =>
  cases h1' with
  | cons q0 qr =>
  cases d with
  | tup ts =>
   cases r0 with
   | tup e0 e1 =>
   rename_i d' es' ds' b ys
   cases q0 with
   | tup f0 f1 =>
    rw [e0] at f0
    cases f0
    match ts,hp,e1 with
    | [.int i,.int j,.int k],_,e1 =>
     have q1:=e1.i3
     subst q1
     have q2:=f1.i3'
     subst q2
     cases h2
   | lst f0 _=>rw [e0] at f0;cases f0
   | scr f0=>cases h3 with | cons n0 _=>cases n0
   | dic f0 _ _=>rw [e0] at f0;cases f0
  | _=>cases hp
 ·exact z
end Wd
namespace Wd
open PySem PySem.Spec PyProof.Rows L2
theorem RS.forget {K:Fg} {H₀:Hp} {F0:Fz} {F H:Hp} {σ:L2.St} {e:Qr} {O:List Nat} (r:RS K H₀ F0 F H σ e O) (i:Nat):RS K H₀ F0 F H σ (e.set i none) O:=by
 have q:∀ k d,(e.set i none)[k]?=some (some d)->e[k]?=some (some d):=fun k d h=>by
  rw [List.getElem?_set] at h
  split at h
  ·split at h<;>cases h
  ·exact h
 exact ⟨r.fh,r.hh,r.ff,r.fr,fun k d h=>r.slot k d (q k d h),fun k d h=>r.own k d (q k d h),fun k m p d d' hk hm h1 h2=>r.dis k m p d d' hk hm (q k d h1) (q m d' h2),r.pin,by rw [r.len,List.length_set]⟩
theorem RS.kill {K:Fg} {H₀:Hp} {F0:Fz} {F H:Hp} {σ:L2.St} {e:Qr} {O:List Nat} (r:RS K H₀ F0 F H σ e O) (i:Nat) (x:Option V) (hp:Ze i∉O):RS K H₀ F0 F H (σ.set i x) (e.set i none) O:=by
 have q:∀ k d,(e.set i none)[k]?=some (some d)->e[k]?=some (some d)/\(σ.set i x)[k]?=σ[k]?:=fun k d h=>by
  rw [List.getElem?_set] at h
  split at h
  ·split at h<;>cases h
  ·rename_i z
   exact ⟨h,by rw [List.getElem?_set,if_neg z]⟩
 refine ⟨r.fh,r.hh,r.ff,r.fr,fun k d h=>?_,fun k d h=>?_,fun k m p d d' hk hm h1 h2 s1 s2=>?_,fun k hk=>?_,by rw [List.length_set,List.length_set,r.len]⟩
 ·rw [(q k d h).2];exact r.slot k d (q k d h).1
 ·rw [(q k d h).2];exact r.own k d (q k d h).1
 ·rw [(q k d h1).2] at s1
  rw [(q m d' h2).2] at s2
  exact r.dis k m p d d' hk hm (q k d h1).1 (q m d' h2).1 s1 s2
 ·obtain ⟨p,h1,h2⟩:=r.pin k hk
  refine ⟨p,h1,?_⟩
  rw [List.getElem?_set,if_neg (fun z:i=k=>hp (by rw [z];exact hk))]
  exact h2
theorem Gr.un {F1 H1 G F' H':Hp} (sg:Sm G F1) (s1:Sm F1 H1) (g:Gr G H1 F' H'):Gr F1 H1 (un F1 F') H'/\Sm F' (un F1 F'):=by
 have s2:Sm F1 H':=s1.trans g.hh
 refine ⟨⟨QdS _ _,g.hh,Qly s2 g.fh,fun a o h=>?_⟩,Qif s2 g.fh⟩
 rcases Qh2 h with z | z
 ·exact .inl z
 ·rcases g.fr a o z with y | y
  ·exact .inl (sg a o y)
  ·exact .inr y
structure Wp (H1:Hp) (q:Addr) (us:List V) (H:Hp):Prop where
 old:Sm H1 H
 lst:H q=some (.lst us)
 inn:∀ (k:Nat) (v:V),us[k]?=some v->∃ (a:Addr) (xs:List V),v=V.ref a/\a≠q/\H a=some (.lst xs)/\(H1 a=none\/xs=[])
theorem Wp.step {H1:Hp} {q:Addr} {us:List V} {H:Hp} (w:Wp H1 q us H) {a:Addr} {xs:List V} (hq:a≠q) (ha:H a=some (.lst xs)) (h1:H1 a=none\/xs=[]):Wp H1 q us (upd H a (.lst [])):=by
 refine ⟨fun b o hb=>?_,?_,fun k v hk=>?_⟩
 ·by_cases z:b=a
  ·subst z
   rcases h1 with h1 | h1
   ·rw [h1] at hb;cases hb
   ·have:=w.old b o hb
    rw [ha,h1] at this
    rw [Q7];exact this
  ·rw [QH z];exact w.old b o hb
 ·rw [QH (Ne.symm hq)];exact w.lst
 ·obtain ⟨b,ys,e1,e2,e3,e4⟩:=w.inn k v hk
  by_cases z:b=a
  ·subst z;exact ⟨b,[],e1,e2,Q7,.inr rfl⟩
  ·exact ⟨b,ys,e1,e2,by rw [QH z];exact e3,e4⟩
theorem Wp.start {K:Fg} {G H1 F' H':Hp} (c:Cl K G) (g:Gr G H1 F' H') {q:Addr} {us:List V} {ts:List D} (hq:F' q=some (.lst us)) (r:Reps K F' us ts) (hp:Qie (.lst ts)) {H3:Hp} (s:Sm H' H3):Wp H1 q us H3:=by
 have key:∀ (k:Nat) (v:V),us[k]?=some v->∃ t,t∈ts/\Rep K F' v t:=by
  intro k v hk
  obtain ⟨t,h1,h2⟩:=r.getV hk
  exact ⟨t,List.mem_of_getElem? h1,h2⟩
 refine ⟨g.hh.trans s,s _ _ (g.fh _ _ hq),fun k v hk=>?_⟩
 obtain ⟨t,ht,rt⟩:=key k v hk
 obtain ⟨es,rfl,he⟩:=hp t ht
 cases rt with
 | lst h rr =>
 rename_i a xs
 refine ⟨a,xs,rfl,fun z=>?_,s _ _ (g.fh _ _ h),?_⟩
 ·subst z
  have h':=h
  rw [hq] at h'
  cases h'
  obtain ⟨d,hd,rd⟩:=rr.getV hk
  have pd:=he d (List.mem_of_getElem? hd)
  cases d with
  | tup es =>
   cases rd with
   | tup f0 _=>rw [hq] at f0;cases f0
  | _=>cases pd
 ·cases rr with
  | nil=>exact .inr rfl
  | cons r0 r1=>exact .inl (c.fresh g h (.cons r0 r1) (he _ (by simp)))
section
variable {X:Cx} {O O' OL:List Nat} {w:Bool} {e:Expr} {es:List Expr}
theorem Qn8 (i j:Nat) {x y fn:Str} {p1 p2 p3 p4 p5 p6 p7 p8 p9 pa pb:Pos} {ct:Expr} {a1 Ji:List Stmt} {ps:List Str} {kk:Nat} {f:List D->Option D} {l:EvL} {cv:EvE} {av bv:EvS} (hN:X.N.Nodup)
  (c:Cal X.prog X.w X.K X.mg X.base kk fn ps (spD X.K f)) (hr:Room kk X.A) (hg:Gl X fn) (ha:PA X (e::es) (tL X O l)) (hc:PT X ct (tDT X (dl i O) cv)) (hb1:PSs X a1 (tS X (dl i O) O' OL w av)) (hb2:PSs X Ji (tS X O O' OL w bv)) (hno:∀ e e',av e≠some (.nx e'))
  (hcalm:X.calm=true) (hpass:PassesOwn (model X.prog X.w) X.A X.env X.xe)
  (hi:X.N[i]?=some x:=by rfl) (hj:X.N[j]?=some y:=by rfl) (hx:Loc X.env.scope x:=by first | exact Or.inl rfl | exact Or.inr rfl) (hy:Loc X.env.scope y:=by first | exact Or.inl rfl | exact Or.inr rfl)
  (hvx:Vis X.env.scope x:=by first | exact Or.inl rfl | exact Or.inr (Or.inl rfl) | exact Or.inr (Or.inr rfl)) (hvy:Vis X.env.scope y:=by first | exact Or.inl rfl | exact Or.inr (Or.inl rfl) | exact Or.inr (Or.inr rfl))
  (hfx:X.fn x=true\/X.env.scope.names.lookup x=some .local:=by first | exact .inl rfl | exact .inr rfl) (hfy:X.fn y=true\/X.env.scope.names.lookup y=some .local:=by first | exact .inl rfl | exact .inr rfl)
  (hdx:(x==("__debug__":Str))=false:=by decide) (hcx:(x==("__classdict__":Str))=false:=by decide) (hdy:(y==("__debug__":Str))=false:=by decide) (hcy:(y==("__classdict__":Str))=false:=by decide) (hdb:(fn==("__debug__":Str))=false:=by decide)
  (hpi:Ze i∉O:=by decide) (hpj:Ze j∉O:=by decide) (hij:i≠j:=by decide)
  (he:starEach (e::es) X.env=(false,eval e X.env)::starEach es X.env:=by rfl) (hpl:(backTo p2 (starEach es X.env)).any (·.1)=false:=by rfl)
  (hs:swapsWith (.Call (.Name fn p1) (e::es) [] p2) (some (.Name x p3)) p4.line X.env=pure false:=by rfl)
  (hbase:attributeBase (.Name y p5) "clear" X.env (eval (.Name y p5) X.env)=eval (.Name y p5) X.env:=by rfl) (hline:(p6.endLine==p7.line)=true:=by rfl)
  (hsw:swapsWith (.Call (.Attribute (.Name y p5) "clear" p6) [] [] p7) none p8.line X.env=pure false:=by rfl) (hfs:∀ z,foldedSetIterable (.Name x p9) X.env z=pure z:=by intro _;rfl) {pc:Pos} :
  PSs X (.Assign [.Name x p3] (.Call (.Name fn p1) (e::es) [] p2) p4::.If ct a1 [] pa::.For (.Name y pb) (.Name x p9) [.Expr (.Call (.Attribute (.Name y p5) "clear" p6) [] [] p7) p8] [] pc::Ji) (tS X O O' OL w (QfJ i j f l cv av bv)):=by
 obtain ⟨fa,fd,F,hb,hk,hm⟩:=c
 refine PSs.imp (QbC (Qio hN hi hx (QeB F hr hg hm hk hb (.nil:Vals [] []) Qh4 ha hdb he hpl) hs hfx) (QbC (QpZ hc hb1 QgI) (QbC (QmV hpass hcalm (QgJ (V2 hi hvx hdx hcx)) (QkS hN hj hy hfy) (QbC (QcH (QmY PySem.F.plainAttrs_list PySem.F.slot_list_clear PySem.F.type_list_clear Qpn (V2 hj hvy hdy hcy) hbase hline) hsw) QgI) hfs) hb2))) fun Dn σ H ⟨F0,F,en,fl,rs,z,k⟩=>?_
 obtain ⟨ds,e1,z1⟩:=Q8 z
 obtain ⟨T,e2,z2⟩:=Q8 z1
 split at z2
 ·rename_i cond
  obtain ⟨np,ap,il,jl⟩:=cond
  obtain ⟨b,e3,e4⟩:=YB z2
  refine ⟨F0,F,en,ds,rs,e1,fun vs F1 H1 g1 r1=>?_⟩
  obtain ⟨G,sG,rG,cG⟩:=r1.supp np
  refine ⟨G,ds,T,sG.trans g1.fh,by rw [List.append_nil];exact rG,e2,fun v F' H' g2 r2=>?_⟩
  obtain ⟨gu,su⟩:=Gr.un sG g1.fh g2
  have rs1:=rs.grow g1
  have rsu:=(rs1.grow gu).put' i (r2.mono su) hpi
  refine ⟨F0,_,_,b,rsu,e3,fun F3 H3 g3=>?_⟩
  cases b with
  | true =>
   refine QdU ⟨F0,F3,_,fl,rsu.grow g3,e4,?_⟩
   have k':=k.mono ((g1.ff.trans gu.ff).trans g3.ff)
   cases fl with
   | nx e'=>exact absurd e4 (hno _ _)
   | bk e'=>exact k'
   | ct e'=>exact k'
   | rt d=>exact k'
  | false =>
   refine QdV ?_
   cases T with
   | lst ts =>
    cases r2 with
    | lst hq rr =>
    rename_i q us
    have sl:i < σ.length:=by rw [rs.len];exact il
    have sj:j < σ.length:=by rw [rs.len];exact jl
    refine ⟨.ref q,by rw [List.getElem?_set,if_pos rfl,if_pos sl],q,rfl,⟨us,SqL.of (g3.hh _ _ (g2.fh _ _ hq))⟩,fun idx m σ' H'=>m=us.length-idx/\idx<=us.length/\Wp H1 q us H'/\(σ'=σ.set i (some (.ref q))\/∃ u,σ'=(σ.set i (some (.ref q))).set j (some u)),⟨us.length,by omega,by omega,Wp.start cG g2 hq rr ap g3.hh,.inl rfl⟩,?_⟩
    rintro idx m σ' H' ⟨rfl,hle,wp,hσ⟩
    rcases Nat.lt_or_ge idx us.length with hlt | hge
    ·refine .inr ⟨⟨us,us[idx],SqL.of wp.lst,List.getElem?_eq_getElem hlt⟩,fun σ2 H2=>Wp H1 q us H2/\∃ u,σ2=(σ.set i (some (.ref q))).set j (some u),fun σ2 H2 ⟨a,b⟩=>⟨us.length-(idx+1),by omega,rfl,by omega,a,.inr b⟩,fun x H2 hy=>?_⟩
     obtain ⟨rfl,hx2⟩:=hy
     have hxx:=hx2 us (SqL.of wp.lst)
     obtain ⟨a,xs,rfl,q1,q2,q3⟩:=wp.inn idx x hxx
     have e5:σ'.set j (some (.ref a))=(σ.set i (some (.ref q))).set j (some (.ref a)):=by
      rcases hσ with h | ⟨u,h⟩
      ·rw [h]
      ·rw [h,List.set_set]
     have sl':j < σ'.length:=by
      rcases hσ with h | ⟨u,h⟩<;>rw [h]<;>simp<;>exact sj
     refine ⟨.ref a,by rw [List.getElem?_set,if_pos rfl,if_pos sl'],.inl ⟨rfl,xs,SqL.of q2⟩,a,xs,rfl,rfl,q2,?_⟩
     exact ⟨wp.step q1 q2 q3,.ref a,e5⟩
    ·refine .inl ⟨⟨us,SqL.of wp.lst,hge⟩,?_⟩
     have rsw:=rs1.grow (⟨.refl F1,wp.old,g1.fh.trans wp.old,fun a o h=>.inl h⟩:Gr F1 H1 F1 H')
     have ki:=rsw.kill i (some (.ref q)) hpi
     refine ⟨F0,F1,_,fl,?_,e4,k.mono g1.ff⟩
     rcases hσ with h | ⟨u,h⟩
     ·rw [h];exact ki.forget j
     ·rw [h];exact ki.kill j (some u) hpj
   | _=>exact ap.elim
 ·cases z2
end
section
variable {X:Cx} {O:List Nat} {x:Str} {pos p:Pos} {e:Expr} {es:List Expr} {l:EvL} {k k':Nat} {ps:List Str}
theorem dv (i:Nat) (hN:X.N[i]?=some x:=by rfl) (hv:Vis X.env.scope x:=by first | exact Or.inl rfl | exact Or.inr (Or.inl rfl) | exact Or.inr (Or.inr rfl)) (hd:(x==("__debug__":Str))=false:=by decide) (hc:(x==("__classdict__":Str))=false:=by decide):PE X (.Name x pos) (tR X O (eV i)):=Yr i hN hv hd hc
theorem dq {i:Int} {j}:PE X (.Constant (.int i) j pos) (tR X O (eC (.int i))):=dr Qj
theorem dn (i:Nat) (hr:PA X es (tL X O l)) (hN:X.N[i]?=some x:=by rfl) (hv:Vis X.env.scope x:=by first | exact Or.inl rfl | exact Or.inr (Or.inl rfl) | exact Or.inr (Or.inr rfl)) (hO:i∉O:=by decide) (hd:(x==("__debug__":Str))=false:=by decide) (hc:(x==("__classdict__":Str))=false:=by decide):PA X (.Name x pos::es) (tL X O (lC (eV i) l)):=Qlg (Qx i hN hv hO hd hc) hr
theorem dc {f:List D->Option D} (c:Cal X.prog X.w X.K X.mg X.base k x ps (spD X.K f)) (hr:Room k' X.A) (ha:PA X (e::es) (tL X O l)) (hk:k<=k':=by decide) (hg:Gl X x:=by exact rfl) (hdb:(x==("__debug__":Str))=false:=by decide) (he:starEach (e::es) X.env=(false,eval e X.env)::starEach es X.env:=by rfl) (hpl:(backTo pos (starEach es X.env)).any (·.1)=false:=by rfl):PE X (.Call (.Name x p) (e::es) [] pos) (tD X O (eK f l)):=QpC c (hr.mono hk) hg ha hdb he hpl
theorem okD {P:Program} {w:World} {K:Fg} {mg:Str->Option Value} {base:Heap} {st:Stmt} (N ps:List Str) (b:EvS) (k:Nat) (h:Df K mg x st ps) (S:FnScope N ps (Qc st)) (hb:N.Nodup->∀ {f:Addr} {cdv:Value} {A:Around} {outer:List Env} {s:Shared} {H:Hp} {E:XK},Room k (A.deeper (envOfC x (Qc st) s.heap.objs.size f cdv))->PSs (VV CX0 P w K mg base N x (Qc st) f cdv A outer s H E).nox (Zo st) (tS (VV CX0 P w K mg base N x (Qc st) f cdv A outer s H E).nox [] [] [] false b)):Cal P w K mg base (k+1) x ps (spD K (QC N.length ps.length b)):=okC h S fun _ _ _ _ _ _ _ hr=>hb S.nd hr
end
end Wd
namespace My
section
open PySem Wd
def Qei:EvS:=Qk (eUn D.len (eUn D.strI (eV 0)))
def Qb7:List D->Option D:=QC 1 1 Qei
def Qiy:EvS:=Qk (Qn (lC (eV 0) (lC (eC (.int 0)) (lC (eC (.int 0)) (lC (eC (.int 0)) lN)))))
def V3:List D->Option D:=QC 1 1 Qiy
def QbX:EvS:=Qk (eOp D.le (eOp D.add (eOp D.add (eOp D.ix (eV 1) (eC (.int 1))) (eOp D.ix (eV 1) (eC (.int 3)))) (eV 2)) (eOp D.ix (eV 0) (eC (.int 1))))
def Yt:List D->Option D:=QC 3 3 QbX
def Qcv:EvS:=Qk (eOr (eOp D.eqO (eOp D.ix (eV 1) (eC (.int 2))) (eC (.int 0))) (eOp D.le (eOp D.add (eOp D.add (eOp D.ix (eV 1) (eC (.int 2))) (eC (.int 1))) (eV 2)) (eOp D.ix (eV 0) (eC (.int 0)))))
def QaP:List D->Option D:=QC 3 3 Qcv
def Qeh:EvS:=Qk (Qn (lC (Qn (lC (eV 0) (lC (eV 1) (lC (eV 2) lN)))) (lC (Qn (lC (eV 0) (lC (eV 1) (lC (eOp D.add (eV 2) (eV 3)) (lC (eV 4) lN))))) lN)))
def VU:List D->Option D:=QC 5 5 Qeh
def QdB:EvS:=sQ (Qd (eOp D.ix (eV 1) (eC (.int 0))) (gS 4)) (sQ (Qd (eOp D.ix (eV 1) (eC (.int 1))) (gS 5)) (sQ (Qd (eOp D.ix (eV 1) (eC (.int 2))) (gS 6)) (sQ (Qd (eOp D.add (eOp D.ix (eV 1) (eC (.int 3))) (eV 3)) (gS 7)) (sQ (sIf (QG (eK QaP (lC (eV 0) (lC (eV 1) (lC (eV 2) lN)))) (eK Yt (lC (eV 0) (lC (eV 1) (lC (eOp D.add (eC (.int 1)) (eV 3)) lN))))) (sQ (Qd (eIf (eOp D.eqO (eV 6) (eC (.int 0))) (eC (.int 0)) (eOp D.add (eV 6) (eC (.int 1)))) (gS 8)) (Qk (eK VU (lC (eV 4) (lC (eV 5) (lC (eV 8) (lC (eV 2) (lC (eV 7) lN)))))))) (sNx)) (sQ (sIf (QG (eOp D.gt (eV 6) (eC (.int 0))) (eK Yt (lC (eV 0) (lC (eV 1) (lC (eOp D.add (eC (.int 2)) (eV 3)) lN))))) (Qk (eK VU (lC (eV 4) (lC (eOp D.add (eV 5) (eC (.int 1))) (lC (eC (.int 0)) (lC (eV 2) (lC (eV 7) lN))))))) (sNx)) (Qk (eK VU (lC (eOp D.add (eV 4) (eC (.int 1))) (lC (eC (.int 0)) (lC (eC (.int 0)) (lC (eV 2) (lC (eV 3) lN))))))))))))
def Qab:List D->Option D:=QC 9 4 QdB
def QdG:EvS:=sQ (sIf (eOp D.eqO (eOp D.ix (eV 0) (eC (.int 2))) (eC (.int 0))) (Qk (eV 0)) (sNx)) (Qk (Qn (lC (eOp D.ix (eV 0) (eC (.int 0))) (lC (eOp D.add (eOp D.ix (eV 0) (eC (.int 1))) (eC (.int 1))) (lC (eC (.int 0)) (lC (eOp D.ix (eV 0) (eC (.int 3))) lN))))))
def Qae:List D->Option D:=QC 1 1 QdG
def Qcs:EvS:=sQ (Qd (eK Qae (lC (eV 1) lN)) (gS 4)) (sQ (sIf (Q1 (eK Yt (lC (eV 0) (lC (eV 4) (lC (eOp D.add (eV 2) (eV 3)) lN))))) (Qd (eK V3 (lC (eOp D.add (eOp D.ix (eV 4) (eC (.int 0))) (eC (.int 1))) lN)) (gS 4)) (sNx)) (sQ (Qd (Qn (lC (eOp D.ix (eV 4) (eC (.int 0))) (lC (eOp D.ix (eV 4) (eC (.int 1))) (lC (eC (.int 0)) lN)))) (gS 5)) (Qk (Qn (lC (eV 5) (lC (Qn (lC (eOp D.ix (eV 4) (eC (.int 0))) (lC (eOp D.add (eOp D.ix (eV 4) (eC (.int 1))) (eV 2)) (lC (eC (.int 0)) (lC (eOp D.ix (eV 4) (eC (.int 3))) lN))))) lN))))))
def Yk:List D->Option D:=QC 6 4 Qcs
def QdC:EvS:=sQ (sIf (eOp D.eqO (eV 0) (eK V3 (lC (eOp D.ix (eV 0) (eC (.int 0))) lN))) (Qk (eV 0)) (sNx)) (Qk (eK V3 (lC (eOp D.add (eOp D.ix (eV 0) (eC (.int 0))) (eC (.int 1))) lN)))
def Qac:List D->Option D:=QC 1 1 QdC
def Qa6:EvS:=sQ (Qd (eK Qac (lC (eV 1) lN)) (gS 2)) (sQ (sIf (QG (eOp D.ix (eV 0) (eC (.int 2))) (eOp D.eqO (eOp D.mod (eOp D.ix (eV 2) (eC (.int 0))) (eC (.int 2))) (eC (.int 0)))) (Qk (eK V3 (lC (eOp D.add (eOp D.ix (eV 2) (eC (.int 0))) (eC (.int 1))) lN))) (sNx)) (Qk (eV 2)))
def YR:List D->Option D:=QC 3 2 Qa6
def QbW:EvS:=sQ (Qd (eOp D.ix (eK Qac (lC (eV 0) lN)) (eC (.int 0))) (gS 2)) (Qk (Qn (lC (Qn (lC (eV 2) (lC (eC (.int 0)) (lC (eC (.int 0)) lN)))) (lC (eK V3 (lC (eOp D.add (eV 2) (eV 1)) lN)) lN))))
def Qag:List D->Option D:=QC 3 2 QbW
def QdF:EvS:=Qk (QG (JF D.le D.le (eC (.int 4)) (eOp D.ix (eV 0) (eC (.int 0))) (eC (.int 90))) (JF D.le D.le (eC (.int 2)) (eOp D.ix (eV 0) (eC (.int 1))) (eC (.int 60))))
def Qbe:List D->Option D:=QC 1 1 QdF
def Qcu:EvS:=Qk (eOp D.inO (eOp D.ix (eV 0) (eC (.int 0))) (Qn (lC (eC (.str "chapter")) (lC (eC (.str "heading")) lN))))
def YV:List D->Option D:=QC 1 1 Qcu
def Qfn:EvS:=Qk (eOp D.inO (eOp D.ix (eV 0) (eC (.int 0))) (Qn (lC (eC (.str "word")) (lC (eC (.str "ref")) lN))))
def Yb:List D->Option D:=QC 1 1 Qfn
def QdD:EvS:=Qk (eIf (eOp D.eqO (eOp D.ix (eV 0) (eC (.int 0))) (eC (.str "para"))) (eC (.str "")) (eOp D.ix (eV 0) (eUn D.neg (eC (.int 1)))))
def Qad:List D->Option D:=QC 1 1 QdD
def QdE:EvS:=Qk (eIf (eOp D.eqO (eOp D.ix (eV 0) (eC (.int 0))) (eC (.str "para"))) (eOp D.ix (eV 0) (eC (.int 1))) (Qo (lN)))
def Zj:List D->Option D:=QC 1 1 QdE
def Qiv:EvS:=sQ (Qd (Qo (lN)) (gS 1)) (sQ (Ja (QW (eV 0)) (gS 2) (Qox 1 (QX 1 [] (QW (eK Zj (lC (eV 2) lN))) (gS 0) (eOp D.eqO (eOp D.ix (eV 0) (eC (.int 0))) (eC (.str "ref"))) (eOp D.ix (eV 0) (eC (.int 1)))))) (Qk (eV 1)))
def Vb:List D->Option D:=QC 3 1 Qiv
def Qct:EvS:=sQ (sIf (eOp D.eqO (eOp D.ix (eV 0) (eC (.int 0))) (eC (.str "plates"))) (Qk (eOp D.add (eC (.int 2)) (eOp D.ix (eV 0) (eC (.int 1))))) (sNx)) (sQ (sIf (QG (eK YV (lC (eV 0) lN)) (eOp D.ix (eV 1) (eC (.int 3)))) (Qk (eC (.int 4))) (sNx)) (Qk (eOp D.add (eC (.int 2)) (eOp D.mulA (eC (.int 2)) (eUn D.len (QX 1 [] (QW (eK Zj (lC (eV 0) lN))) (gS 0) (eK Yb (lC (eV 0) lN)) (eV 0)))))))
def YU:List D->Option D:=QC 2 2 Qct
def Qam:EvS:=Qk (eOp D.add (eC (.int 3)) (eUn D.sumL (QX 1 [1] (QW (eV 0)) (gS 0) (eC (.bl true)) (eK YU (lC (eV 0) (lC (eV 1) lN))))))
def Y6:List D->Option D:=QC 2 2 Qam
def QaB:EvS:=Qk (eK Qb7 (lC (eK Y6 (lC (eV 0) (lC (eV 1) lN))) lN))
def Vs:List D->Option D:=QC 2 2 QaB
def QbY:EvS:=Qk (eUn D.anyL (QX 1 [1] (QW (eV 0)) (gS 0) (eC (.bl true)) (eOp D.gt (eUn D.len (eV 0)) (eV 1))))
def Vj:List D->Option D:=QC 2 2 QbY
def ZG:EvS:=sQ (sIf (eK YV (lC (eV 0) lN)) (sQ (Qd (eIf (eOp D.ix (eV 1) (eC (.int 3))) (eOp D.add (eC (.int 2)) (eV 2)) (eC (.int 0))) (gS 3)) (Qk (eOp D.gt (eOp D.add (eUn D.len (eOp D.ix (eV 0) (eC (.int 1)))) (eV 3)) (eOp D.ix (eV 1) (eC (.int 0)))))) (sNx)) (Qk (QG (eOp D.eqO (eOp D.ix (eV 0) (eC (.int 0))) (eC (.str "table"))) (eK Vj (lC (eOp D.ix (eV 0) (eC (.int 1))) (lC (eOp D.ix (eV 1) (eC (.int 0))) lN)))))
def J5:List D->Option D:=QC 4 3 ZG
def QaE:EvS:=sQ (sIf (eOp D.eqO (eOp D.ix (eV 0) (eC (.int 0))) (eC (.str "word"))) (Qk (eK Vj (lC (eOp D.add (Qo (lC (eOp D.ix (eV 0) (eC (.int 1))) lN)) (eOp D.ix (eV 0) (eC (.int 2)))) (lC (eOp D.ix (eV 1) (eC (.int 0))) lN)))) (sNx)) (Qk (QG (eOp D.eqO (eOp D.ix (eV 0) (eC (.int 0))) (eC (.str "ref"))) (eOp D.gt (eOp D.add (eOp D.add (eUn D.len (eOp D.ix (eV 0) (eC (.int 2)))) (eV 2)) (eUn D.len (eOp D.ix (eV 0) (eC (.int 3))))) (eOp D.ix (eV 1) (eC (.int 0))))))
def Vt:List D->Option D:=QC 3 3 QaE
def Qao:EvS:=sQ (sIf (eOp D.eqO (eOp D.ix (eV 0) (eC (.int 0))) (eC (.str "heading"))) (Qk (eOp D.gt (eOp D.add (eOp D.ix (eV 0) (eC (.int 2))) (eC (.int 1))) (eOp D.ix (eV 1) (eC (.int 1))))) (sNx)) (Qk (QG (eOp D.eqO (eOp D.ix (eV 0) (eC (.int 0))) (eC (.str "table"))) (eOp D.gt (eUn D.len (eOp D.ix (eV 0) (eC (.int 1)))) (eOp D.ix (eV 1) (eC (.int 1))))))
def Y7:List D->Option D:=QC 2 2 Qao
def QaF:EvS:=Qk (QG (eOp D.eqO (eOp D.ix (eV 0) (eC (.int 0))) (eC (.str "word"))) (eOp D.gt (eOp D.add (eUn D.len (eOp D.ix (eV 0) (eC (.int 2)))) (eC (.int 1))) (eOp D.ix (eV 1) (eC (.int 1)))))
def Vu:List D->Option D:=QC 2 2 QaF
def Qcw:EvS:=sQ (sIf (eOp D.dIn (eV 0) (eV 2)) (YM) (sNx)) (QpX 2 (eV 0) (eC (.bl true)))
def VC:List D->Option D:=Qch 3 3 Qcw
def Qan:EvS:=sQ (sIf (eK J5 (lC (eV 0) (lC (eV 2) (lC (eV 3) lN)))) (YM) (sNx)) (sQ (sIf (eK Y7 (lC (eV 0) (lC (eV 2) lN))) (YM) (sNx)) (sIf (eOp D.neO (eK Qad (lC (eV 0) lN)) (eC (.str ""))) (Y9 4 VC (lC (eK Qad (lC (eV 0) lN)) (lC (eV 1) lN))) (sNx)))
def Z7:List D->Option D:=Qch 5 5 Qan
def QaD:EvS:=sQ (sIf (eK Vt (lC (eV 0) (lC (eV 2) (lC (eV 3) lN)))) (YM) (sNx)) (sQ (sIf (eK Vu (lC (eV 0) (lC (eV 2) lN))) (YM) (sNx)) (sIf (eOp D.eqO (eOp D.ix (eV 0) (eC (.int 0))) (eC (.str "mark"))) (Y9 4 VC (lC (eOp D.ix (eV 0) (eC (.int 1))) (lC (eV 1) lN))) (sNx)))
def Yx:List D->Option D:=Qch 5 5 QaD
def Y8:EvS:=sQ (Qd (eUn D.len (QX 1 [] (QW (eV 0)) (gS 0) (eK Yb (lC (eV 0) lN)) (eV 0))) (gS 5)) (Ja (QW (eV 0)) (gS 6) (sQ (Y9 4 Yx (lC (eV 6) (lC (eV 1) (lC (eV 2) (lC (eV 3) lN))))) (sIf (eK Yb (lC (eV 6) lN)) (Zr 5 D.sub (eC (.int 1))) (sIf (eOp D.eqO (eV 5) (eC (.int 0))) (YM) (sNx)))))
def Z6:List D->Option D:=Qch 7 5 Y8
def QaC:EvS:=Ja (QaI (eV 0)) (Js [gS 2,gS 3]) (Ja (QW (eK Vb (lC (Qo (lC (eV 3) lN)) lN))) (gS 4) (sIf (eOp D.dNotIn (eV 4) (eV 1)) (YM) (sNx)))
def Yw:List D->Option D:=QC 5 2 QaC
def Qiw:EvS:=sQ (sIf (Q1 (eK Qbe (lC (eV 1) lN))) (YM) (sNx)) (sQ (Qd (eK Vs (lC (eV 0) (lC (eV 1) lN))) (gS 2)) (sQ (Qd (eC (.dic [] [])) (gS 3)) (sQ (Ja (QaI (eV 0)) (Js [gS 4,gS 5]) (sQ (Y9 3 Z7 (lC (eV 5) (lC (eV 4) (lC (eV 1) (lC (eV 2) lN))))) (Y9 3 Z6 (lC (eK Zj (lC (eV 5) lN)) (lC (eV 4) (lC (eV 1) (lC (eV 2) lN))))))) (J4 (eK Yw (lC (eV 0) (lC (eV 3) lN)))))))
def Qbw:List D->Option D:=QC 6 2 Qiw
def QaA:EvS:=sQ (Qd (Qo (lN)) (gS 2)) (sQ (Qd (eK V3 (lC (eC (.int 1)) lN)) (gS 3)) (sQ (sIf (Q1 (eOp D.ix (eV 1) (eC (.int 3)))) (Qk (Qn (lC (eV 2) (lC (eV 3) lN)))) (sNx)) (sQ (Ja (QW (eV 0)) (gS 4) (sIf (eK YV (lC (eV 4) lN)) (sQ (Qd (eK Yk (lC (eV 1) (lC (eV 3) (lC (eC (.int 1)) (lC (eC (.int 0)) lN))))) (gS 5)) (sQ (sP 2 (eOp D.ix (eV 5) (eC (.int 0)))) (Qd (eOp D.ix (eV 5) (eC (.int 1))) (gS 3)))) (sNx))) (sQ (sIf (eOp D.gt (eUn D.len (eV 2)) (eC (.int 0))) (Qd (eK YR (lC (eV 1) (lC (eV 3) lN))) (gS 3)) (sNx)) (Qk (Qn (lC (eV 2) (lC (eV 3) lN))))))))
def Vr:List D->Option D:=QC 6 2 QaA
def Qcq:EvS:=sQ (Qd (Qo (lN)) (gS 4)) (sQ (Qd (eC (.int 0)) (gS 5)) (sQ (Ja (QW (eV 0)) (gS 6) (sIf (eK Yb (lC (eV 6) lN)) (sQ (sIf (eOp D.eqO (eOp D.ix (eV 6) (eC (.int 0))) (eC (.str "ref"))) (sQ (Qd (eOp D.add (eOp D.add (eUn D.len (eOp D.ix (eV 6) (eC (.int 2)))) (eOp D.ix (eV 3) (eV 5))) (eUn D.len (eOp D.ix (eV 6) (eC (.int 3))))) (gS 7)) (sQ (Qd (eK Qab (lC (eV 1) (lC (eV 2) (lC (eV 7) (lC (eC (.int 0)) lN))))) (gS 8)) (Zr 5 D.addI (eC (.int 1))))) (Qd (eK Qab (lC (eV 1) (lC (eV 2) (lC (eUn D.len (eOp D.ix (eV 6) (eC (.int 1)))) (lC (eUn D.len (eOp D.ix (eV 6) (eC (.int 2)))) lN))))) (gS 8))) (sQ (sP 4 (eOp D.ix (eV 8) (eC (.int 0)))) (Qd (eOp D.ix (eV 8) (eC (.int 1))) (gS 2)))) (sNx))) (Qk (Qn (lC (eV 4) (lC (eK Qae (lC (eV 2) lN)) lN))))))
def VA:List D->Option D:=QC 9 4 Qcq
def Qcr:EvS:=sQ (sIf (eOp D.eqO (eOp D.ix (eV 0) (eC (.int 0))) (eC (.str "plates"))) (Qk (eK Qag (lC (eV 2) (lC (eOp D.ix (eV 0) (eC (.int 1))) lN)))) (sNx)) (sQ (sIf (eOp D.eqO (eOp D.ix (eV 0) (eC (.int 0))) (eC (.str "table"))) (Qk (eK Yk (lC (eV 1) (lC (eV 2) (lC (eUn D.len (eOp D.ix (eV 0) (eC (.int 1)))) (lC (eC (.int 0)) lN)))))) (sNx)) (sQ (sIf (eOp D.eqO (eOp D.ix (eV 0) (eC (.int 0))) (eC (.str "heading"))) (Qk (eK Yk (lC (eV 1) (lC (eV 2) (lC (eC (.int 1)) (lC (eOp D.ix (eV 0) (eC (.int 2))) lN)))))) (sNx)) (Qk (eK Yk (lC (eV 1) (lC (eK YR (lC (eV 1) (lC (eV 2) lN))) (lC (eC (.int 1)) (lC (eC (.int 0)) lN))))))))
def VB:List D->Option D:=QC 3 3 Qcr
def QdA:EvS:=sQ (Qd (eK Vr (lC (eV 0) (lC (eV 1) lN))) (gS 3)) (sQ (Qd (Qo (lC (eOp D.ix (eV 3) (eC (.int 0))) lN)) (gS 4)) (sQ (Qd (eOp D.ix (eV 3) (eC (.int 1))) (gS 5)) (sQ (Qd (eC (.int 0)) (gS 6)) (sQ (Ja (QW (eV 0)) (gS 7) (sQ (sIf (eOp D.eqO (eOp D.ix (eV 7) (eC (.int 0))) (eC (.str "para"))) (sQ (Qd (eK VA (lC (eOp D.ix (eV 7) (eC (.int 1))) (lC (eV 1) (lC (eV 5) (lC (JT (eV 2) (oAt (eV 6)) (oNo)) lN))))) (gS 3)) (sQ (sP 4 (eOp D.ix (eV 3) (eC (.int 0)))) (Zr 6 D.addI (eUn D.len (eK Vb (lC (Qo (lC (eV 7) lN)) lN)))))) (sQ (Qd (eK VB (lC (eV 7) (lC (eV 1) (lC (eV 5) lN)))) (gS 3)) (sP 4 (Qo (lC (eOp D.ix (eV 3) (eC (.int 0))) lN))))) (Qd (eOp D.ix (eV 3) (eC (.int 1))) (gS 5)))) (Qk (eV 4))))))
def Qaa:List D->Option D:=QC 8 3 QdA
def Qix:EvS:=sQ (J4 (eK Qbw (lC (eV 0) (lC (eV 1) lN)))) (Qk (eK Qaa (lC (eV 0) (lC (eV 1) (lC (eV 2) lN)))))
def Qd5:List D->Option D:=QC 3 3 Qix
def QdK:EvS:=sQ (sIf (eOp D.lt (eV 1) (eUn D.len (eV 0))) (Qk (eOp D.ix (eV 0) (eV 1))) (sNx)) (Qk (eC (.int 0)))
def Jm:List D->Option D:=QC 2 2 QdK
def Qfo:EvS:=Qk (QG (JJ "int" (eV 0)) (Q1 (JJ "bool" (eV 0))))
def YC:List D->Option D:=QC 1 1 Qfo
def Qiz:EvS:=sQ (Qd (eOp D.mod (eOp D.mulA (eOp D.add (eOp D.add (eOp D.mod (eV 0) (eC (.int 2147483647))) (eOp D.mulA (eOp D.mulA (eV 1) (eV 1)) (eC (.int 7919)))) (eC (.int 104729))) (eC (.int 48271))) (eC (.int 2147483647))) (gS 2)) (Qk (eOp D.mod (eOp D.add (eOp D.mulA (eV 2) (eV 2)) (eOp D.mulA (eC (.int 69621)) (eV 1))) (eC (.int 2147483629))))
def ZE:List D->Option D:=QC 3 2 Qiz
def Qjc:EvS:=sQ (Qd (eC (.str "abcdefghijkl")) (gS 1)) (Qk (eOp D.add (eOp D.add (eOp D.add (JT (eC (.str "xxx")) (oNo) (oAt (eOp D.mod (eOp D.mulA (eV 0) (eC (.int 7))) (eC (.int 4))))) (eOp D.ix (eV 1) (eOp D.mod (eOp D.fdiv (eV 0) (eC (.int 12))) (eC (.int 12))))) (eOp D.ix (eV 1) (eOp D.mod (eV 0) (eC (.int 12))))) (JT (eC (.str "yy")) (oNo) (oAt (eOp D.mod (eOp D.mulA (eV 0) (eC (.int 5))) (eC (.int 3)))))))
def Qar:List D->Option D:=QC 2 1 Qjc
def Qej:EvS:=sQ (Qd (eC (.int 10)) (gS 2)) (sQ (Ja (Yy (eOp D.mod (eOp D.fdiv (eV 1) (eC (.int 97))) (eC (.int 4)))) (gS 3) (Qd (eOp D.mulA (eV 2) (eC (.int 10))) (gS 2))) (sQ (sIf (eOp D.eqO (eOp D.mod (eOp D.fdiv (eV 1) (eC (.int 97))) (eC (.int 8))) (eC (.int 7))) (Qd (eOp D.pow (eC (.int 10)) (eC (.int 30))) (gS 2)) (sNx)) (Qk (eOp D.ix (Qo (lC (eOp D.add (eC (.int 1)) (eOp D.mod (eOp D.fdiv (eV 1) (eC (.int 16))) (eC (.int 3)))) (lC (eOp D.sub (eOp D.sub (eV 2) (eC (.int 1))) (eOp D.mod (eOp D.fdiv (eV 1) (eC (.int 16))) (eC (.int 5)))) (lC (eOp D.add (eC (.int 1)) (eOp D.mod (eV 0) (eOp D.pow (eC (.int 10)) (eC (.int 39))))) lN)))) (eOp D.mod (eOp D.fdiv (eV 1) (eC (.int 997))) (eC (.int 3)))))))
def Qb8:List D->Option D:=QC 4 2 Qej
def Qfp : EvS := sQ (Qd (eC (.str "!\"#$&'()*+,-./0123456789:;<=>?@ABCDEFGHIJKLMNOPQRSTUVWXYZ[\\]^_`")) (gS 3)) (sQ (Qd (eOp D.add (eV 3) (eC (.str "abcdefghijklmnopqrstuvwxyz{}~|"))) (gS 3)) (sQ (Qd (eC (.str "")) (gS 4)) (sQ (Ja (Yy (eV 1)) (gS 5) (sQ (Qd (eOp D.add (eOp D.add (eOp D.fdiv (eV 0) (eC (.int 7))) (eOp D.mulA (eV 5) (eOp D.add (eC (.int 1)) (eOp D.mod (eV 0) (eC (.int 13)))))) (eOp D.mulA (eV 5) (eV 5))) (gS 6)) (sQ (Qd (eOp D.ix (eV 3) (eOp D.mod (eV 6) (eOp D.add (eOp D.sub (eUn D.len (eV 3)) (eC (.int 1))) (eV 2)))) (gS 7)) (sQ (sIf (QG (eOp D.eqO (eV 2) (eC (.int 1))) (eOp D.eqO (eOp D.mod (eOp D.add (eOp D.fdiv (eV 0) (eC (.int 3))) (eV 5)) (eC (.int 4))) (eC (.int 0)))) (Qd (eC (.str " ")) (gS 7)) (sNx)) (Qd (eOp D.add (eV 4) (eV 7)) (gS 4)))))) (Qk (eV 4)))))
def YD:List D->Option D:=QC 8 3 Qfp
def QgW:EvS:=sQ (Qd (eK ZE (lC (eV 0) (lC (eOp D.add (eV 1) (eC (.int 20))) lN))) (gS 2)) (sQ (Qd (eOp D.mod (eV 2) (eC (.int 17))) (gS 3)) (sQ (Qd (eOp D.add (eC (.int 1)) (eOp D.mod (eOp D.fdiv (eV 2) (eC (.int 17))) (eOp D.ix (Qo (lC (eC (.int 11)) (lC (eC (.int 40)) lN))) (eUn D.intB (eOp D.eqO (eOp D.mod (eOp D.fdiv (eV 2) (eC (.int 187))) (eC (.int 9))) (eC (.int 4))))))) (gS 4)) (sQ (Qd (eOp D.add (eC (.int 1)) (eOp D.mod (eOp D.fdiv (eV 2) (eC (.int 97))) (eOp D.ix (Qo (lC (eC (.int 4)) (lC (eC (.int 30)) lN))) (eUn D.intB (eOp D.eqO (eOp D.mod (eOp D.fdiv (eV 2) (eC (.int 1009))) (eC (.int 11))) (eC (.int 5))))))) (gS 5)) (sQ (Qd (eK YD (lC (eOp D.fdiv (eV 2) (eC (.int 17))) (lC (eV 4) (lC (eC (.int 1)) lN)))) (gS 6)) (sQ (Qd (eK YD (lC (eOp D.fdiv (eV 2) (eC (.int 19))) (lC (eV 4) (lC (eC (.int 0)) lN)))) (gS 7)) (sQ (Qd (eK Qar (lC (eV 1) lN)) (gS 8)) (sQ (Qd (eV 8) (gS 9)) (sQ (sIf (eOp D.eqO (eOp D.mod (eOp D.fdiv (eV 2) (eC (.int 1009))) (eC (.int 2))) (eC (.int 0))) (Qd (eC (.str "")) (gS 9)) (sNx)) (sQ (sIf (eOp D.eqO (eV 3) (eC (.int 0))) (Qk (Qn (lC (eC (.str "chapter")) (lC (eOp D.add (eOp D.ix (eV 7) (eC (.int 0))) (eUn D.strip (eV 6))) (lC (eV 9) lN))))) (sNx)) (sQ (sIf (eOp D.eqO (eV 3) (eC (.int 1))) (Qk (Qn (lC (eC (.str "heading")) (lC (eOp D.add (eOp D.ix (eV 7) (eC (.int 0))) (eUn D.strip (eV 6))) (lC (eOp D.sub (eV 5) (eC (.int 1))) (lC (eV 9) lN)))))) (sNx)) (sQ (sIf (eOp D.eqO (eV 3) (eC (.int 2))) (Qk (Qn (lC (eC (.str "table")) (lC (QX 1 [6,4] (Yy (eV 5)) (gS 0) (eC (.bl true)) (JT (eV 1) (oNo) (oAt (eOp D.max2 (eC (.int 0)) (eOp D.sub (eV 2) (eV 0)))))) (lC (eV 9) lN))))) (sNx)) (sQ (sIf (eOp D.eqO (eV 3) (eC (.int 3))) (Qk (Qn (lC (eC (.str "plates")) (lC (eK Qb8 (lC (eV 0) (lC (eV 2) lN))) (lC (eV 9) lN))))) (sNx)) (sQ (sIf (eOp D.eqO (eV 3) (eC (.int 4))) (Qk (Qn (lC (eC (.str "break")) (lC (eC (.str "")) (lC (eC (.str "")) lN))))) (sNx)) (sQ (sIf (eOp D.lt (eV 3) (eC (.int 7))) (Qk (Qn (lC (eC (.str "mark")) (lC (eV 8) lN)))) (sNx)) (sQ (sIf (eOp D.eqO (eV 3) (eC (.int 7))) (Qk (Qn (lC (eC (.str "key")) (lC (JT (eOp D.mulA (eV 7) (eC (.int 9))) (oNo) (oAt (eOp D.add (eC (.int 1)) (eOp D.mod (eOp D.fdiv (eV 2) (eC (.int 97))) (eC (.int 80)))))) lN)))) (sNx)) (sQ (sIf (eOp D.lt (eV 3) (eC (.int 12))) (Qk (Qn (lC (eC (.str "ref")) (lC (eC (.str "")) (lC (JT (eV 7) (oNo) (oAt (eOp D.mod (eOp D.fdiv (eV 2) (eC (.int 97))) (eC (.int 3))))) (lC (eK YD (lC (eOp D.fdiv (eV 2) (eC (.int 23))) (lC (eOp D.mod (eOp D.fdiv (eV 2) (eC (.int 291))) (eC (.int 3))) (lC (eC (.int 0)) lN)))) lN)))))) (sNx)) (sQ (sIf (eOp D.eqO (eV 3) (eC (.int 12))) (Qk (Qn (lC (eC (.str "word")) (lC (eV 7) (lC (QX 1 [6] (Yy (eV 5)) (gS 0) (eC (.bl true)) (JT (eV 1) (oAt (eV 0)) (oNo))) lN))))) (sNx)) (Qk (Qn (lC (eC (.str "word")) (lC (eV 7) (lC (Qo (lN)) lN))))))))))))))))))))))
def VP:List D->Option D:=QC 10 2 QgW
def QdI:EvS:=sQ (Qd (Qo (lN)) (gS 2)) (sQ (Ja (QW (eV 0)) (gS 3) (sIf (eOp D.eqO (eOp D.ix (eV 3) (eC (.int 0))) (eC (.str "mark"))) (sP 2 (eOp D.ix (eV 3) (eC (.int 1)))) (sIf (QG (eOp D.notInO (eOp D.ix (eV 3) (eC (.int 0))) (Qo (lC (eC (.str "break")) (lC (eC (.str "word")) (lC (eC (.str "key")) (lC (eC (.str "ref")) lN)))))) (eOp D.neO (eOp D.ix (eV 3) (eUn D.neg (eC (.int 1)))) (eC (.str "")))) (sP 2 (eOp D.ix (eV 3) (eUn D.neg (eC (.int 1))))) (sNx)))) (sQ (Qd (Qo (lN)) (gS 4)) (sQ (Ja (QaI (eV 0)) (Js [gS 5,gS 3]) (sIf (QG (eOp D.eqO (eOp D.ix (eV 3) (eC (.int 0))) (eC (.str "ref"))) (eOp D.eqO (eV 2) (Qo (lN)))) (sP 4 (Qn (lC (eC (.str "word")) (lC (eC (.str "lost")) (lC (Qo (lN)) lN))))) (sIf (eOp D.eqO (eOp D.ix (eV 3) (eC (.int 0))) (eC (.str "ref"))) (sQ (Qd (eOp D.ix (eV 2) (eOp D.mod (eK ZE (lC (eOp D.ix (eV 1) (eV 5)) (lC (eOp D.add (eV 5) (eC (.int 90))) lN))) (eUn D.len (eV 2)))) (gS 6)) (sP 4 (Qn (lC (eC (.str "ref")) (lC (eV 6) (lC (eOp D.ix (eV 3) (eC (.int 2))) (lC (eOp D.ix (eV 3) (eC (.int 3))) lN))))))) (sP 4 (eV 3))))) (Qk (eV 4)))))
def Qbg:List D->Option D:=QC 7 2 QdI
def QdJ:EvS:=sQ (Qd (Qo (lN)) (gS 1)) (sQ (Qd (Qo (lN)) (gS 2)) (sQ (Ja (QW (eOp D.add (eV 0) (Qo (lC (Qn (lC (eC (.str "end")) (lC (eC (.str "")) (lC (eC (.str "")) lN)))) lN)))) (gS 3) (sQ (sIf (eOp D.inO (eOp D.ix (eV 3) (eC (.int 0))) (Qo (lC (eC (.str "mark")) (lC (eC (.str "key")) (lC (eC (.str "ref")) (lC (eC (.str "word")) lN)))))) (sQ (sP 2 (eV 3)) (ZM)) (sNx)) (sQ (sIf (QG (eOp D.neO (eV 2) (Qo (lN))) (eOp D.inO (eOp D.ix (eOp D.ix (eV 2) (eUn D.neg (eC (.int 1)))) (eC (.int 0))) (Qo (lC (eC (.str "mark")) (lC (eC (.str "key")) lN))))) (sP 2 (Qn (lC (eC (.str "word")) (lC (eC (.str "end")) (lC (Qo (lN)) lN))))) (sNx)) (sQ (sIf (eOr (eOp D.neO (eV 2) (Qo (lN))) (eOp D.eqO (eOp D.ix (eV 3) (eC (.int 0))) (eC (.str "break")))) (sP 1 (Qn (lC (eC (.str "para")) (lC (eV 2) lN)))) (sNx)) (sQ (Qd (Qo (lN)) (gS 2)) (sIf (eOp D.notInO (eOp D.ix (eV 3) (eC (.int 0))) (Qo (lC (eC (.str "break")) (lC (eC (.str "end")) lN)))) (sP 1 (eV 3)) (sNx))))))) (Qk (eV 1))))
def YL:List D->Option D:=QC 4 1 QdJ
def QgT:EvS:=sQ (sIf (eOr (eOp D.ix (eV 1) (eC (.int 3))) (eOp D.neO (eOp D.mod (eK Jm (lC (eV 0) (lC (eC (.int 4)) lN))) (eC (.int 3))) (eC (.int 1)))) (Qk (Qo (lN))) (sNx)) (sQ (Qd (eOp D.add (eC (.int 1)) (eOp D.mod (eK ZE (lC (eK Jm (lC (eV 0) (lC (eC (.int 4)) lN))) (lC (eC (.int 19)) lN))) (eC (.int 6)))) (gS 2)) (sQ (Qd (eC (.int 1)) (gS 3)) (sQ (Ja (Yy (eV 2)) (gS 4) (Qd (eOp D.mulA (eV 3) (eC (.int 10))) (gS 3))) (sQ (Qd (Qo (lC (Qn (lC (eC (.str "word")) (lC (eOp D.mulA (eC (.str "w")) (eOp D.max2 (eC (.int 1)) (eOp D.sub (eOp D.sub (eOp D.ix (eV 1) (eC (.int 0))) (eC (.int 1))) (eV 2)))) (lC (Qo (lN)) lN)))) (lC (Qn (lC (eC (.str "mark")) (lC (eC (.str "z")) lN))) (lC (Qn (lC (eC (.str "ref")) (lC (eC (.str "z")) (lC (eC (.str "")) (lC (eC (.str "")) lN))))) lN)))) (gS 5)) (Qk (Qo (lC (Qn (lC (eC (.str "plates")) (lC (eOp D.sub (eV 3) (eC (.int 2))) (lC (eC (.str "")) lN)))) (lC (Qn (lC (eC (.str "table")) (lC (QX 1 [] (Yy (eOp D.sub (eOp D.ix (eV 1) (eC (.int 1))) (eC (.int 1)))) (gS 0) (eC (.bl true)) (eC (.str ""))) (lC (eC (.str "")) lN)))) (lC (Qn (lC (eC (.str "para")) (lC (eV 5) lN))) lN)))))))))
def QcR:List D->Option D:=QC 6 2 QgT
def Qfr:EvS:=sQ (Qd (eC (.int 4)) (gS 2)) (sQ (Qd (eC (.int 2)) (gS 3)) (sQ (Ja (QW (eV 0)) (gS 4) (sQ (sIf (eOr (eOp D.eqO (eOp D.ix (eV 4) (eC (.int 0))) (eC (.str "chapter"))) (eOp D.eqO (eOp D.ix (eV 4) (eC (.int 0))) (eC (.str "heading")))) (Qd (eOp D.max2 (eV 2) (eOp D.add (eOp D.add (eUn D.len (eOp D.ix (eV 4) (eC (.int 1)))) (eC (.int 2))) (eV 1))) (gS 2)) (sNx)) (sQ (sIf (eOp D.eqO (eOp D.ix (eV 4) (eC (.int 0))) (eC (.str "heading"))) (Qd (eOp D.max2 (eV 3) (eOp D.add (eOp D.ix (eV 4) (eC (.int 2))) (eC (.int 1)))) (gS 3)) (sNx)) (sQ (sIf (eOp D.eqO (eOp D.ix (eV 4) (eC (.int 0))) (eC (.str "table"))) (sQ (Qd (eOp D.max2 (eV 3) (eUn D.len (eOp D.ix (eV 4) (eC (.int 1))))) (gS 3)) (Qd (eUn D.maxL (eOp D.add (Qo (lC (eV 2) lN)) (QX 1 [] (QW (eOp D.ix (eV 4) (eC (.int 1)))) (gS 0) (eC (.bl true)) (eUn D.len (eV 0))))) (gS 2))) (sNx)) (sIf (eOp D.eqO (eOp D.ix (eV 4) (eC (.int 0))) (eC (.str "para"))) (sQ (Qd (eUn D.maxL (eOp D.add (Qo (lC (eV 2) lN)) (QX 1 [1] (QW (eOp D.ix (eV 4) (eC (.int 1)))) (gS 0) (eOp D.eqO (eOp D.ix (eV 0) (eC (.int 0))) (eC (.str "ref"))) (eOp D.add (eOp D.add (eUn D.len (eOp D.ix (eV 0) (eC (.int 2)))) (eV 1)) (eUn D.len (eOp D.ix (eV 0) (eC (.int 3)))))))) (gS 2)) (sQ (Qd (eUn D.maxL (eOp D.add (Qo (lC (eV 2) lN)) (QX 1 [] (QW (eOp D.ix (eV 4) (eC (.int 1)))) (gS 0) (eOp D.eqO (eOp D.ix (eV 0) (eC (.int 0))) (eC (.str "word"))) (eUn D.len (eOp D.ix (eV 0) (eC (.int 1))))))) (gS 2)) (sQ (Qd (QX 1 [] (QW (eOp D.ix (eV 4) (eC (.int 1)))) (gS 0) (eOp D.eqO (eOp D.ix (eV 0) (eC (.int 0))) (eC (.str "word"))) (eOp D.ix (eV 0) (eC (.int 2)))) (gS 5)) (sQ (Qd (eUn D.maxL (eOp D.add (Qo (lC (eV 3) lN)) (QX 1 [] (QW (eV 5)) (gS 0) (eC (.bl true)) (eOp D.add (eC (.int 1)) (eUn D.len (eV 0)))))) (gS 3)) (Ja (QW (eV 5)) (gS 6) (Qd (eUn D.maxL (eOp D.add (Qo (lC (eV 2) lN)) (QX 1 [] (QW (eV 6)) (gS 0) (eC (.bl true)) (eUn D.len (eV 0))))) (gS 2))))))) (sNx)))))) (Qk (Qn (lC (eV 2) (lC (eV 3) lN))))))
def QbN:List D->Option D:=QC 7 2 Qfr
def QgS:EvS:=sQ (Qd (eC (.int 3)) (gS 2)) (sQ (Ja (QW (eV 0)) (gS 3) (sQ (Qd (eOp D.add (eV 2) (eC (.int 2))) (gS 2)) (sQ (sIf (QG (eV 1) (eOr (eOp D.eqO (eOp D.ix (eV 3) (eC (.int 0))) (eC (.str "chapter"))) (eOp D.eqO (eOp D.ix (eV 3) (eC (.int 0))) (eC (.str "heading"))))) (Qd (eOp D.add (eV 2) (eC (.int 2))) (gS 2)) (sNx)) (sQ (sIf (eOp D.eqO (eOp D.ix (eV 3) (eC (.int 0))) (eC (.str "plates"))) (Qd (eOp D.add (eV 2) (eOp D.ix (eV 3) (eC (.int 1)))) (gS 2)) (sNx)) (sIf (eOp D.eqO (eOp D.ix (eV 3) (eC (.int 0))) (eC (.str "para"))) (Qd (eOp D.add (eV 2) (eOp D.mulA (eC (.int 2)) (eUn D.len (QX 1 [] (QW (eOp D.ix (eV 3) (eC (.int 1)))) (gS 0) (eOr (eOp D.eqO (eOp D.ix (eV 0) (eC (.int 0))) (eC (.str "word"))) (eOp D.eqO (eOp D.ix (eV 0) (eC (.int 0))) (eC (.str "ref")))) (eV 0))))) (gS 2)) (sNx)))))) (Qk (eV 2)))
def QcQ:List D->Option D:=QC 4 2 QgS
def Qfs:EvS:=sQ (Qd (eOp D.add (JT (eV 0) (oNo) (oAt (eC (.int 63)))) (Qo (lC (eC (.int 7)) lN))) (gS 1)) (sQ (Qd (QX 1 [1] (Yy (eOp D.mod (eK ZE (lC (eK Jm (lC (eV 0) (lC (eC (.int 5)) lN))) (lC (eC (.int 29)) lN))) (eC (.int 58)))) (gS 0) (eC (.bl true)) (eOp D.ix (eV 1) (eOp D.mod (eV 0) (eUn D.len (eV 1))))) (gS 2)) (sQ (Qd (eK YL (lC (eK Qbg (lC (QX 2 [] (QaI (eV 2)) (Js [gS 0,gS 1]) (eC (.bl true)) (eK VP (lC (eV 1) (lC (eV 0) lN)))) (lC (eV 2) lN))) lN)) (gS 3)) (sQ (Qd (eOp D.eqO (eOp D.mod (eK Jm (lC (eV 0) (lC (eC (.int 3)) lN))) (eC (.int 2))) (eC (.int 1))) (gS 4)) (sQ (Qd (eK QcR (lC (eV 0) (lC (Qn (lC (eC (.int 4)) (lC (eC (.int 2)) (lC (eC (.bl false)) (lC (eV 4) lN))))) lN))) (gS 5)) (sQ (Qd (eUn D.len (eUn D.strI (eK QcQ (lC (eOp D.add (eV 5) (eV 3)) (lC (eV 4) lN))))) (gS 6)) (sQ (Qd (eK QbN (lC (eOp D.add (eV 3) (eV 5)) (lC (eV 6) lN))) (Js [gS 7,gS 8])) (sQ (sIf (eOp D.neO (eV 5) (Qo (lN))) (Qd (eOp D.max2 (eV 7) (eOp D.add (eV 6) (eC (.int 2)))) (gS 7)) (sNx)) (sQ (Qd (eOp D.max2 (eV 7) (eOp D.add (eC (.int 4)) (eOp D.mod (eK ZE (lC (eK Jm (lC (eV 0) (lC (eC (.int 0)) lN))) (lC (eC (.int 1)) lN))) (eC (.int 30))))) (gS 9)) (sQ (Qd (eOp D.max2 (eV 8) (eOp D.add (eC (.int 2)) (eOp D.mod (eK ZE (lC (eK Jm (lC (eV 0) (lC (eC (.int 1)) lN))) (lC (eC (.int 2)) lN))) (eC (.int 5))))) (gS 10)) (sQ (sIf (eOp D.eqO (eOp D.mod (eK Jm (lC (eV 0) (lC (eC (.int 1)) lN))) (eC (.int 5))) (eC (.int 1))) (Qd (eOp D.max2 (eV 8) (eOp D.add (eC (.int 2)) (eOp D.mod (eK ZE (lC (eK Jm (lC (eV 0) (lC (eC (.int 1)) lN))) (lC (eC (.int 4)) lN))) (eC (.int 59))))) (gS 10)) (sNx)) (sQ (Qd (Qn (lC (eV 9) (lC (eV 10) (lC (eOp D.eqO (eOp D.mod (eK Jm (lC (eV 0) (lC (eC (.int 2)) lN))) (eC (.int 2))) (eC (.int 1))) (lC (eV 4) lN))))) (gS 11)) (Qk (Qn (lC (eOp D.add (eK QcR (lC (eV 0) (lC (eV 11) lN))) (eV 3)) (lC (eV 11) (lC (eV 6) lN))))))))))))))))
def QbO:List D->Option D:=QC 12 1 Qfs
def Qfq:EvS:=sQ (Qd (Qo (lN)) (gS 4)) (sQ (Qd (eOp D.add (JT (eV 0) (oNo) (oAt (eC (.int 63)))) (Qo (lC (eV 3) lN))) (gS 5)) (sQ (Ja (QW (eV 1)) (gS 6) (sIf (eOp D.eqO (eOp D.ix (eV 6) (eC (.int 0))) (eC (.str "para"))) (Ja (QW (eOp D.ix (eV 6) (eC (.int 1)))) (gS 7) (sIf (eOp D.eqO (eOp D.ix (eV 7) (eC (.int 0))) (eC (.str "ref"))) (sQ (Qd (eOp D.ix (eV 5) (eOp D.mod (eUn D.len (eV 4)) (eUn D.len (eV 5)))) (gS 8)) (sP 4 (eOp D.add (eC (.int 1)) (eOp D.mod (eK ZE (lC (eV 8) (lC (eOp D.add (eV 3) (eUn D.len (eV 4))) lN))) (eV 2))))) (sNx))) (sNx))) (Qk (eV 4))))
def Qdf:List D->Option D:=QC 9 4 Qfq
def QgU:EvS:=sQ (Qd (Qo (lN)) (gS 1)) (sQ (Ja (QW (eV 0)) (gS 2) (sIf (eOp D.eqO (eOp D.ix (eV 2) (eC (.int 0))) (eC (.str "para"))) (sQ (Qd (Qo (lN)) (gS 3)) (sQ (Ja (QW (eOp D.ix (eV 2) (eC (.int 1)))) (gS 4) (sIf (eOp D.eqO (eOp D.ix (eV 4) (eC (.int 0))) (eC (.str "word"))) (sP 3 (Qn (lC (eC (.str "word")) (lC (eOp D.ix (eV 4) (eC (.int 1))) (lC (eUn D.listOf (eOp D.ix (eV 4) (eC (.int 2)))) lN))))) (sP 3 (eV 4)))) (sP 1 (Qn (lC (eC (.str "para")) (lC (eV 3) lN)))))) (sIf (eOp D.eqO (eOp D.ix (eV 2) (eC (.int 0))) (eC (.str "table"))) (sP 1 (Qn (lC (eC (.str "table")) (lC (eUn D.listOf (eOp D.ix (eV 2) (eC (.int 1)))) (lC (eOp D.ix (eV 2) (eC (.int 2))) lN))))) (sP 1 (eV 2))))) (Qk (eV 1)))
def QeE:List D->Option D:=QC 5 1 QgU
def QgR:EvS:=sQ (Qd (eV 0) (Js [gS 4,gS 5,gS 6,gS 7])) (sQ (Qd (eV 1) (Js [gS 8,gS 9,gS 10,gS 11])) (sQ (sIf (QG (eOp D.eqO (eV 10) (eC (.int 0))) (eOp D.le (eOp D.add (eOp D.add (eOp D.add (eV 9) (eC (.int 1))) (eV 11)) (eV 3)) (eV 5))) (Qk (Qn (lC (Qn (lC (eV 8) (lC (eV 9) (lC (eC (.int 0)) lN)))) (lC (Qn (lC (eV 8) (lC (eV 9) (lC (eV 2) (lC (eOp D.add (eV 11) (eV 3)) lN))))) lN)))) (sNx)) (sQ (sIf (QG (eOp D.gt (eV 10) (eC (.int 0))) (QG (eOp D.le (eOp D.add (eOp D.add (eV 10) (eC (.int 1))) (eV 2)) (eV 4)) (eOp D.le (eOp D.add (eOp D.add (eOp D.add (eV 9) (eC (.int 1))) (eV 11)) (eV 3)) (eV 5)))) (Qk (Qn (lC (Qn (lC (eV 8) (lC (eV 9) (lC (eOp D.add (eV 10) (eC (.int 1))) lN)))) (lC (Qn (lC (eV 8) (lC (eV 9) (lC (eOp D.add (eOp D.add (eV 10) (eC (.int 1))) (eV 2)) (lC (eOp D.add (eV 11) (eV 3)) lN))))) lN)))) (sNx)) (sQ (sIf (QG (eOp D.gt (eV 10) (eC (.int 0))) (eOp D.le (eOp D.add (eOp D.add (eOp D.add (eV 9) (eC (.int 2))) (eV 11)) (eV 3)) (eV 5))) (Qk (Qn (lC (Qn (lC (eV 8) (lC (eOp D.add (eV 9) (eC (.int 1))) (lC (eC (.int 0)) lN)))) (lC (Qn (lC (eV 8) (lC (eOp D.add (eV 9) (eC (.int 1))) (lC (eV 2) (lC (eOp D.add (eV 11) (eV 3)) lN))))) lN)))) (sNx)) (Qk (Qn (lC (Qn (lC (eOp D.add (eV 8) (eC (.int 1))) (lC (eC (.int 0)) (lC (eC (.int 0)) lN)))) (lC (Qn (lC (eOp D.add (eV 8) (eC (.int 1))) (lC (eC (.int 0)) (lC (eV 2) (lC (eV 3) lN))))) lN))))))))
def QcP:List D->Option D:=QC 12 4 QgR
def Qft:EvS:=sQ (Qd (eV 1) (Js [gS 4,gS 5,gS 6,gS 7])) (sQ (sIf (eOp D.gt (eV 6) (eC (.int 0))) (Qd (eOp D.add (eV 5) (eC (.int 1))) (gS 5)) (sNx)) (sQ (sIf (eOp D.le (eOp D.add (eOp D.add (eOp D.add (eV 5) (eV 2)) (eV 3)) (eV 7)) (eOp D.ix (eV 0) (eC (.int 1)))) (Qk (Qn (lC (Qn (lC (eV 4) (lC (eV 5) (lC (eC (.int 0)) lN)))) (lC (Qn (lC (eV 4) (lC (eOp D.add (eV 5) (eV 2)) (lC (eC (.int 0)) (lC (eV 7) lN))))) lN)))) (sNx)) (Qk (Qn (lC (Qn (lC (eOp D.add (eV 4) (eC (.int 1))) (lC (eC (.int 0)) (lC (eC (.int 0)) lN)))) (lC (Qn (lC (eOp D.add (eV 4) (eC (.int 1))) (lC (eV 2) (lC (eC (.int 0)) (lC (eC (.int 0)) lN))))) lN))))))
def YE:List D->Option D:=QC 8 4 Qft
def QgV:EvS:=sQ (sIf (QG (eOp D.eqO (eOp D.ix (eV 0) (eC (.int 1))) (eC (.int 0))) (QG (eOp D.eqO (eOp D.ix (eV 0) (eC (.int 2))) (eC (.int 0))) (eOp D.eqO (eOp D.ix (eV 0) (eC (.int 3))) (eC (.int 0))))) (Qk (eV 0)) (sNx)) (Qk (Qn (lC (eOp D.add (eOp D.ix (eV 0) (eC (.int 0))) (eC (.int 1))) (lC (eC (.int 0)) (lC (eC (.int 0)) (lC (eC (.int 0)) lN))))))
def QcS:List D->Option D:=QC 1 1 QgV
def Qfu:EvS:=sQ (Qd (eOp D.ix (eK QcS (lC (eV 1) lN)) (eC (.int 0))) (gS 2)) (sQ (sIf (QG (eOp D.ix (eV 0) (eC (.int 2))) (eOp D.eqO (eOp D.mod (eV 2) (eC (.int 2))) (eC (.int 0)))) (Qk (Qn (lC (eOp D.add (eV 2) (eC (.int 1))) (lC (eC (.int 0)) (lC (eC (.int 0)) (lC (eC (.int 0)) lN)))))) (sNx)) (Qk (Qn (lC (eV 2) (lC (eC (.int 0)) (lC (eC (.int 0)) (lC (eC (.int 0)) lN)))))))
def Qas:List D->Option D:=QC 3 2 Qfu
def Qcx:EvS:=sQ (Qd (Qo (lN)) (gS 4)) (sQ (Qd (eUn D.listOf (eV 3)) (gS 5)) (sQ (Ja (QW (eV 2)) (gS 6) (sQ (sIf (eOp D.eqO (eOp D.ix (eV 6) (eC (.int 0))) (eC (.str "word"))) (sQ (Qd (eK QcP (lC (eV 0) (lC (eV 1) (lC (eUn D.len (eOp D.ix (eV 6) (eC (.int 1)))) (lC (eUn D.len (eOp D.ix (eV 6) (eC (.int 2)))) lN))))) (Js [gS 7,gS 1])) (sP 4 (eV 7))) (sNx)) (sIf (eOp D.eqO (eOp D.ix (eV 6) (eC (.int 0))) (eC (.str "ref"))) (sQ (QlJ 5 (fun hx=>eK QcP (lC (eV 0) (lC (eV 1) (lC (eOp D.add (eOp D.add (eUn D.len (eOp D.ix (eV 6) (eC (.int 2)))) (eC hx)) (eUn D.len (eOp D.ix (eV 6) (eC (.int 3))))) (lC (eC (.int 0)) lN))))) (Js [gS 7,gS 1])) (sP 4 (eV 7))) (sNx)))) (sQ (sIf (eOp D.gt (eOp D.ix (eV 1) (eC (.int 2))) (eC (.int 0))) (Qd (Qn (lC (eOp D.ix (eV 1) (eC (.int 0))) (lC (eOp D.add (eOp D.ix (eV 1) (eC (.int 1))) (eC (.int 1))) (lC (eC (.int 0)) (lC (eOp D.ix (eV 1) (eC (.int 3))) lN))))) (gS 1)) (sNx)) (Qk (Qn (lC (eV 4) (lC (eV 1) lN)))))))
def QaQ:List D->Option D:=QC 8 4 Qcx
def QdH:EvS:=sQ (sIf (eOp D.eqO (eOp D.ix (eV 2) (eC (.int 0))) (eC (.str "para"))) (Qk (eK QaQ (lC (eV 0) (lC (eV 1) (lC (eOp D.ix (eV 2) (eC (.int 1))) (lC (eV 3) lN)))))) (sNx)) (sQ (sIf (eOp D.eqO (eOp D.ix (eV 2) (eC (.int 0))) (eC (.str "plates"))) (sQ (Qd (eOp D.ix (eK QcS (lC (eV 1) lN)) (eC (.int 0))) (gS 4)) (Qk (Qn (lC (Qo (lC (Qn (lC (eV 4) (lC (eC (.int 0)) (lC (eC (.int 0)) lN)))) lN)) (lC (Qn (lC (eOp D.add (eV 4) (eOp D.ix (eV 2) (eC (.int 1)))) (lC (eC (.int 0)) (lC (eC (.int 0)) (lC (eC (.int 0)) lN))))) lN))))) (sNx)) (sQ (sIf (eOp D.eqO (eOp D.ix (eV 2) (eC (.int 0))) (eC (.str "chapter"))) (Qd (eK YE (lC (eV 0) (lC (eK Qas (lC (eV 0) (lC (eV 1) lN))) (lC (eC (.int 1)) (lC (eC (.int 0)) lN))))) (Js [gS 5,gS 1])) (sIf (eOp D.eqO (eOp D.ix (eV 2) (eC (.int 0))) (eC (.str "heading"))) (Qd (eK YE (lC (eV 0) (lC (eV 1) (lC (eC (.int 1)) (lC (eOp D.ix (eV 2) (eC (.int 2))) lN))))) (Js [gS 5,gS 1])) (Qd (eK YE (lC (eV 0) (lC (eV 1) (lC (eUn D.len (eOp D.ix (eV 2) (eC (.int 1)))) (lC (eC (.int 0)) lN))))) (Js [gS 5,gS 1])))) (Qk (Qn (lC (Qo (lC (eV 5) lN)) (lC (eV 1) lN))))))
def Qbf:List D->Option D:=QC 6 4 QdH
def Qcy:EvS:=sQ (Qd (Qn (lC (eC (.int 1)) (lC (eC (.int 0)) (lC (eC (.int 0)) (lC (eC (.int 0)) lN))))) (gS 3)) (sQ (Qd (Qo (lN)) (gS 4)) (sQ (sIf (eOp D.ix (eV 1) (eC (.int 3))) (Ja (QW (eV 0)) (gS 5) (sIf (eOr (eOp D.eqO (eOp D.ix (eV 5) (eC (.int 0))) (eC (.str "chapter"))) (eOp D.eqO (eOp D.ix (eV 5) (eC (.int 0))) (eC (.str "heading")))) (sQ (Qd (eK YE (lC (eV 1) (lC (eV 3) (lC (eC (.int 1)) (lC (eC (.int 0)) lN))))) (Js [gS 6,gS 3])) (sP 4 (eV 6))) (sNx))) (sNx)) (sQ (sIf (eOp D.neO (eV 4) (Qo (lN))) (Qd (eK Qas (lC (eV 1) (lC (eV 3) lN))) (gS 3)) (sNx)) (sQ (Qd (Qo (lC (eV 4) lN)) (gS 7)) (sQ (Qd (eC (.int 0)) (gS 8)) (sQ (Ja (QW (eV 0)) (gS 5) (sQ (Qd (eC (.int 0)) (gS 9)) (sQ (sIf (eOp D.eqO (eOp D.ix (eV 5) (eC (.int 0))) (eC (.str "para"))) (Qd (eUn D.len (QX 1 [] (QW (eOp D.ix (eV 5) (eC (.int 1)))) (gS 0) (eOp D.eqO (eOp D.ix (eV 0) (eC (.int 0))) (eC (.str "ref"))) (eV 0))) (gS 9)) (sNx)) (sQ (Qd (eK Qbf (lC (eV 1) (lC (eV 3) (lC (eV 5) (lC (JT (eV 2) (oAt (eV 8)) (oAt (eOp D.add (eV 8) (eV 9)))) lN))))) (Js [gS 4,gS 3])) (sQ (sP 7 (eV 4)) (Qd (eOp D.add (eV 8) (eV 9)) (gS 8))))))) (Qk (eV 7))))))))
def VD:List D->Option D:=QC 10 3 Qcy
def Qek:EvS:=sQ (sIf (eOr (Q1 (JJ "list" (eV 0))) (eOp D.neO (eUn D.len (eV 0)) (eUn D.len (eV 1)))) (Qk (eC (.bl false))) (sNx)) (sQ (Ja (Yy (eUn D.len (eV 1))) (gS 2) (sQ (sIf (eOr (Q1 (JJ "list" (eOp D.ix (eV 0) (eV 2)))) (eOp D.neO (eUn D.len (eOp D.ix (eV 0) (eV 2))) (eUn D.len (eOp D.ix (eV 1) (eV 2))))) (Qk (eC (.bl false))) (sNx)) (Ja (Yy (eUn D.len (eOp D.ix (eV 1) (eV 2)))) (gS 3) (sQ (Qd (eOp D.ix (eOp D.ix (eV 0) (eV 2)) (eV 3)) (gS 4)) (sQ (sIf (eOr (Q1 (JJ "tuple" (eV 4))) (eOr (eOp D.neO (eUn D.len (eV 4)) (eC (.int 3))) (eOp D.neO (eV 4) (eOp D.ix (eOp D.ix (eV 1) (eV 2)) (eV 3))))) (Qk (eC (.bl false))) (sNx)) (sIf (eOr (Q1 (eK YC (lC (eOp D.ix (eV 4) (eC (.int 0))) lN))) (eOr (Q1 (eK YC (lC (eOp D.ix (eV 4) (eC (.int 1))) lN))) (Q1 (eK YC (lC (eOp D.ix (eV 4) (eC (.int 2))) lN))))) (Qk (eC (.bl false))) (sNx))))))) (Qk (eC (.bl true))))
def QaZ:List D->Option D:=QC 5 2 Qek
noncomputable def QlW:EvS:=sQ (Qd (eK QbO (lC (eV 0) lN)) (Js [gS 1,gS 2,gS 3])) (sQ (Qd (eK Qdf (lC (eV 0) (lC (eV 1) (lC (eV 3) (lC (eC (.int 200)) lN))))) (gS 4)) (sQ (Qd (eK QeE (lC (eV 1) lN)) (gS 5)) (sQ (Qd (eUn D.listOf (eV 4)) (gS 6)) (sQ (Qd (eK VD (lC (eV 1) (lC (eV 2) (lC (eV 4) lN)))) (gS 7)) (QfJ 8 9 Qd5 (lC (eV 5) (lC (eV 2) (lC (eV 6) lN))) (eOr (Q1 (eK QaZ (lC (eV 8) (lC (eV 7) lN)))) (eOr (eOp D.neO (eV 5) (eV 1)) (eOp D.neO (eV 6) (eV 4)))) (Qk (eC (.bl false))) (Qk (eK QaZ (lC (eK Qd5 (lC (eV 5) (lC (eV 2) (lC (eV 6) lN)))) (lC (eV 7) lN)))))))))
noncomputable def Qew:List D->Option D:=QC 10 1 QlW
def cell (ns:List Int) (k:Nat):Int:=ns.getD k 0
theorem Qbn (ns:List Int) (k:Nat):Jm [.scr ns,.int k]=some (.int (cell ns k)):=by
 unfold Jm QdK
 by_cases h:k<ns.length
 ·simp [QI,JT,Zg,lI,QC,sD,sQ,sIf,Qk,ZA,Qd,Zr,J4,sNx,Z9,ZM,gS,Js,J6,eV,eC,eOp,eUn,Q1,QG,eOr,eIf,JF,Qn,Qo,eK,lN,lC,JJ,oNo,oAt,ZC,D.len,D.lt,D.le,D.gt,D.ge,D.add,D.sub,D.ix,D.eqO,D.neO,D.cmp,D.cmpN,D.inst,tyD,D.isT,D.intB,D.min2,D.max2,D.neg,D.addI,Qq,JM,JO,Jv,QM,QS,JL,JK,Jh,Ju,JP,JQ,Jw,Jx,JN,Jb,JC,J1,Qy,QB,Q9,Jd,QY,QQ,D.rng,D.its,D.itsT,QD,ZB,QK,Jg,JS,Jn,Jf,ixD,h,cell]
 ·simp [QI,JT,Zg,lI,QC,sD,sQ,sIf,Qk,ZA,Qd,Zr,J4,sNx,Z9,ZM,gS,Js,J6,eV,eC,eOp,eUn,Q1,QG,eOr,eIf,JF,Qn,Qo,eK,lN,lC,JJ,oNo,oAt,ZC,D.len,D.lt,D.le,D.gt,D.ge,D.add,D.sub,D.ix,D.eqO,D.neO,D.cmp,D.cmpN,D.inst,tyD,D.isT,D.intB,D.min2,D.max2,D.neg,D.addI,Qq,JM,JO,Jv,QM,QS,JL,JK,Jh,Ju,JP,JQ,Jw,Jx,JN,Jb,JC,J1,Qy,QB,Q9,Jd,QY,QQ,D.rng,D.its,D.itsT,QD,ZB,QK,Jg,JS,Jn,Jf,ixD,h,cell]
def mix (c t:Int):Int:=((c%2147483647+t*t*7919+104729)*48271%2147483647*((c%2147483647+t*t*7919+104729)*48271%2147483647)+69621*t)%2147483629
theorem Qiq (c t:Int):0<=mix c t:=Int.emod_nonneg _ (by decide)
theorem Qsj (c t:Int):mix c t<2147483629:=Int.emod_lt_of_pos _ (by decide)
theorem QaT (c t:Int) (h0:0<=t) (h1:t<=1000):ZE [.int c,.int t]=some (.int (mix c t)):=by
 have e1:D.mul (.int t) (.int t)=some (.int (t*t)):=Qeu (by omega)
 have e2:D.mul (.int (t*t)) (.int 7919)=some (.int (t*t*7919)):=Qh8 (by decide)
 have e3:D.mul (.int (c%2147483647+t*t*7919+104729)) (.int 48271)=some (.int ((c%2147483647+t*t*7919+104729)*48271)):=Qh8 (by decide)
 have n0:=Int.emod_nonneg ((c%2147483647+t*t*7919+104729)*48271) (show (2147483647:Int)≠0 by decide)
 have n1:=Int.emod_lt_of_pos ((c%2147483647+t*t*7919+104729)*48271) (show (0:Int)<2147483647 by decide)
 have e4:D.mul (.int ((c%2147483647+t*t*7919+104729)*48271%2147483647)) (.int ((c%2147483647+t*t*7919+104729)*48271%2147483647))=some (.int _):=Qeu ⟨by omega,by omega⟩
 have e5:D.mul (.int 69621) (.int t)=some (.int (69621*t)):=Qeu (by decide)
 have m1:D.mod (.int c) (.int 2147483647)=some (.int (c%2147483647)):=VE (by decide)
 have m2:D.mod (.int ((c%2147483647+t*t*7919+104729)*48271)) (.int 2147483647)=some (.int _):=VE (by decide)
 have m3:∀ z:Int,D.mod (.int z) (.int 2147483629)=some (.int (z%2147483629)):=fun z=>VE (by decide)
 unfold ZE Qiz mix
 simp [QI,JT,Zg,lI,QC,sD,sQ,sIf,Qk,ZA,Qd,Zr,J4,sNx,Z9,ZM,gS,Js,J6,eV,eC,eOp,eUn,Q1,QG,eOr,eIf,JF,Qn,Qo,eK,lN,lC,JJ,oNo,oAt,ZC,D.len,D.lt,D.le,D.gt,D.ge,D.add,D.sub,D.ix,D.eqO,D.neO,D.cmp,D.cmpN,D.inst,tyD,D.isT,D.intB,D.min2,D.max2,D.neg,D.addI,Qq,JM,JO,Jv,QM,QS,JL,JK,Jh,Ju,JP,JQ,Jw,Jx,JN,Jb,JC,J1,Qy,QB,Q9,Jd,QY,QQ,D.rng,D.its,D.itsT,QD,ZB,QK,Jg,JS,Jn,Jf,e1,e2,e3,e4,e5,m1,m2,m3]
theorem ZH (z:Int) {j:Int} (h:0<j):D.mod (.int z) (.int j)=some (.int (z%j)):=VE h
theorem Qdb (z:Int) {j:Int} (h:0<j):∃ x,z%j=x/\0<=x/\x<j:=⟨_,rfl,Int.emod_nonneg z (by omega),Int.emod_lt_of_pos z h⟩
theorem toNat_inj:∀ {a b:List Char},a.map Char.toNat=b.map Char.toNat->a=b
 | [],[],_=>rfl
 | [],_::_,h=>nomatch h
 | _::_,[],h=>nomatch h
 | a::x,b::y,h=>by
  rw [List.map_cons,List.map_cons] at h
  obtain ⟨h1,h2⟩:=List.cons.inj h
  rw [toNat_inj h2,Char.toNat_inj.mp h1]
@[simp] theorem tg (a b:String):(Str.ofString a=Str.ofString b)=(a=b):=propext ⟨fun h=>by
 rw [Str.ofString_eq_byList] at h
 unfold Str.ofStringByList at h
 have h2:(a.toList.map Char.toNat).toArray=(b.toList.map Char.toNat).toArray:=Str.mk.inj h
 exact String.toList_inj.mp (toNat_inj (congrArg Array.toList h2)),fun h=>h▸rfl⟩
inductive It where
 | word (w:Str) (ns:List Str) | ref (l a b:Str) | mark (l:Str) | key (w:Str)
inductive Bk where
 | chapter (t l:Str) | heading (t:Str) (k:Int) (l:Str) | para (is:List It) | table (rs:List Str) (l:Str) | plates (n:Int) (l:Str)
inductive At where
 | bk (b:Bk) | it (i:It) | brk | fin
def QP (xs:List Str):D:=.lst (xs.map .str)
@[simp] def It.d:It->D
 | .word w ns=>.tup [.str "word",.str w,QP ns]
 | .ref l a b=>.tup [.str "ref",.str l,.str a,.str b]
 | .mark l=>.tup [.str "mark",.str l]
 | .key w=>.tup [.str "key",.str w]
@[simp] def Bk.d:Bk->D
 | .chapter t l=>.tup [.str "chapter",.str t,.str l]
 | .heading t k l=>.tup [.str "heading",.str t,.int k,.str l]
 | .para is=>.tup [.str "para",.lst (is.map It.d)]
 | .table rs l=>.tup [.str "table",QP rs,.str l]
 | .plates n l=>.tup [.str "plates",.int n,.str l]
@[simp] def At.d:At->D
 | .bk b=>b.d
 | .it i=>i.d
 | .brk=>.tup [.str "break",.str "",.str ""]
 | .fin=>.tup [.str "end",.str "",.str ""]
def bks (bs:List Bk):D:=.lst (bs.map Bk.d)
theorem Qp3 {α σ:Type} {g:EvG} {b:EvS} (d:α->D) (R:σ->Qr->Prop) (step:σ->α->σ):∀ (xs:List α),
  (∀ a∈xs,∀ s e,R s e->∃ e',((g (d a) e).bind b=some (.nx e')\/(g (d a) e).bind b=some (.ct e'))/\R (step s a) e') ->
  ∀ s e,R s e->∃ e',Ym g b (xs.map d) e=some (.nx e')/\R (xs.foldl step s) e'
 | [],_,s,e,h=>⟨e,rfl,h⟩
 | a::xs,hb,s,e,h=>by
  obtain ⟨e1,h1,r1⟩:=hb a List.mem_cons_self s e h
  obtain ⟨e2,h2,r2⟩:=Qp3 d R step xs (fun x hx=>hb x (List.mem_cons_of_mem _ hx)) _ _ r1
  refine ⟨e2,?_,r2⟩
  show Qc9 ((g (d a) e).bind b) (Ym g b (xs.map d))=_
  rcases h1 with h1 | h1
  ·rw [h1];exact h2
  ·rw [h1];exact h2
theorem Qqa {α:Type} {g:EvG} {c el:EvE} (d:α->D) (R:Qr->Prop) (p:α->Bool) (o:α->D):∀ (xs:List α),
  (∀ a∈xs,∀ e,R e->∃ e',g (d a) e=some e'/\R e'/\c e'=some (.bl (p a))/\(p a=true->el e'=some (o a))) ->
  ∀ e,R e->V0 g c el (xs.map d) e=some ((xs.filter p).map o)
 | [],_,e,h=>rfl
 | a::xs,hb,e,h=>by
  obtain ⟨e1,h1,r1,h2,h3⟩:=hb a List.mem_cons_self e h
  have ih:=Qqa d R p o xs (fun x hx=>hb x (List.mem_cons_of_mem _ hx)) _ r1
  show (g (d a) e).bind (fun e1=>ifO (c e1) ((el e1).bind fun x=>(V0 g c el (xs.map d) e1).map fun r=>x::r) (V0 g c el (xs.map d) e1))=_
  rw [h1]
  show ifO (c e1) _ _=_
  rw [h2,Qq,ih]
  cases q:p a with
  | false=>rw [if_neg (by decide),List.filter_cons_of_neg (by simp [q])]
  | true=>rw [if_pos rfl,h3 q,List.filter_cons_of_pos q];rfl
theorem VZ {α:Type} {g:EvG} {b:EvS} (d:α->D):∀ (xs:List α) (R:Nat->Qr->Prop),
  (∀ i (hi:i<xs.length) e,R i e->∃ e',((g (d xs[i]) e).bind b=some (.nx e')\/(g (d xs[i]) e).bind b=some (.ct e'))/\R (i+1) e') ->
  ∀ e,R 0 e->∃ e',Ym g b (xs.map d) e=some (.nx e')/\R xs.length e'
 | [],R,_,e,h=>⟨e,rfl,h⟩
 | a::xs,R,hb,e,h=>by
  obtain ⟨e1,h1,r1⟩:=hb 0 (by simp) e h
  obtain ⟨e2,h2,r2⟩:=VZ d xs (fun i=>R (i+1)) (fun i hi x hx=>hb (i+1) (by simpa using hi) x hx) _ r1
  refine ⟨e2,?_,r2⟩
  show Qc9 ((g (d a) e).bind b) (Ym g b (xs.map d))=_
  have h1':(g (d a) e).bind b=some (.nx e1)\/(g (d a) e).bind b=some (.ct e1):=h1
  rcases h1' with h1 | h1
  ·rw [h1];exact h2
  ·rw [h1];exact h2
theorem QkY {g:EvG} {b:EvS} (n:Nat) (R:Nat->Qr->Prop)
  (h:∀ i,i<n->∀ e,R i e->∃ e',((g (.int (0+(i:Int))) e).bind b=some (.nx e')\/(g (.int (0+(i:Int))) e).bind b=some (.ct e'))/\R (i+1) e') :
  ∀ e,R 0 e->∃ e',Ym g b (rD 0 n) e=some (.nx e')/\R n e':=by
 intro e h0
 have:=VZ (g:=g) (b:=b) (fun i:Nat=>D.int (0+(i:Int))) (List.range n) R (fun i hi e r=>by
  have q:(List.range n)[i]=i:=by simp
  rw [q]
  exact h i (by simpa using hi) e r) e h0
 simpa [rD] using this
theorem st {a k:EvS} {e e1:Qr} {r:Option Fl} (h:a e=some (.nx e1)) (hk:k e1=r):sQ a k e=r:=by unfold sQ;rw [h];exact hk
theorem stR {a k:EvS} {e:Qr} {d:D} (h:a e=some (.rt d)):sQ a k e=some (.rt d):=by unfold sQ;rw [h];rfl
theorem stC {a k:EvS} {e e1:Qr} (h:a e=some (.ct e1)):sQ a k e=some (.ct e1):=by unfold sQ;rw [h];rfl
theorem stD {n k:Nat} {b:EvS} {ds:List D} {r:D} (hl:ds.length=k) (h:b (sD n ds)=some (.rt r)):QC n k b ds=some r:=by unfold QC;rw [if_pos hl,h];rfl
theorem QpV {it:EvI} {g:EvG} {b k:EvS} {e:Qr} {r:Option Fl} (n:Nat) (R:Nat->Qr->Prop) (hit:it e=some (rD 0 n)) (h0:R 0 e)
  (hb:∀ i,i<n->∀ e,R i e->∃ e',((g (.int (0+(i:Int))) e).bind b=some (.nx e')\/(g (.int (0+(i:Int))) e).bind b=some (.ct e'))/\R (i+1) e')
  (hk:∀ e',R n e'->k e'=r):sQ (Ja it g b) k e=r:=by
 obtain ⟨e',h1,h2⟩:=QkY n R hb e h0
 refine st (e1:=e') ?_ (hk e' h2)
 unfold Ja;rw [hit];exact h1
theorem QaH {α:Type} {it:EvI} {g:EvG} {b k:EvS} {e:Qr} {r:Option Fl} (d:α->D) (xs:List α) (R:Nat->Qr->Prop) (hit:it e=some (xs.map d)) (h0:R 0 e)
  (hb:∀ i (hi:i<xs.length) e,R i e->∃ e',((g (d xs[i]) e).bind b=some (.nx e')\/(g (d xs[i]) e).bind b=some (.ct e'))/\R (i+1) e')
  (hk:∀ e',R xs.length e'->k e'=r):sQ (Ja it g b) k e=r:=by
 obtain ⟨e',h1,h2⟩:=VZ d xs R hb e h0
 refine st (e1:=e') ?_ (hk e' h2)
 unfold Ja;rw [hit];exact h1
theorem Qp7 {α σ:Type} {it:EvI} {g:EvG} {b:EvS} {e:Qr} (d:α->D) (xs:List α) (R:σ->Qr->Prop) (step:σ->α->σ) (s:σ) (hit:it e=some (xs.map d)) (h0:R s e)
  (hb:∀ a∈xs,∀ s e,R s e->∃ e',((g (d a) e).bind b=some (.nx e')\/(g (d a) e).bind b=some (.ct e'))/\R (step s a) e') :
  ∃ e',Ja it g b e=some (.nx e')/\R (xs.foldl step s) e':=by
 obtain ⟨e',h1,h2⟩:=Qp3 d R step xs hb s e h0
 refine ⟨e',?_,h2⟩
 unfold Ja;rw [hit];exact h1
theorem QmQ {α σ:Type} {it:EvI} {g:EvG} {b k:EvS} {e:Qr} {r:Option Fl} (d:α->D) (xs:List α) (R:σ->Qr->Prop) (step:σ->α->σ) (s:σ) (hit:it e=some (xs.map d)) (h0:R s e)
  (hb:∀ a∈xs,∀ s e,R s e->∃ e',((g (d a) e).bind b=some (.nx e')\/(g (d a) e).bind b=some (.ct e'))/\R (step s a) e')
  (hk:∀ e',R (xs.foldl step s) e'->k e'=r):sQ (Ja it g b) k e=r:=by
 obtain ⟨e',h1,h2⟩:=Qp7 d xs R step s hit h0 hb
 exact st h1 (hk e' h2)
theorem bnd {g:EvG} {b:EvS} {d:D} {e e1:Qr} {r:Option Fl} (h:g d e=some e1) (hk:b e1=r):(g d e).bind b=r:=by rw [h];exact hk
theorem ret {a:EvE} {e:Qr} {d:D} (h:a e=some d):Qk a e=some (.rt d):=by unfold Qk;rw [h];rfl
theorem exD {β:Type} {dd:β->D} {P:β->Prop} {n k:Nat} {b:EvS} {ds:List D} (hl:ds.length=k) (h:∃ x,b (sD n ds)=some (.rt (dd x))/\P x):∃ x,QC n k b ds=some (dd x)/\P x:=by
 obtain ⟨x,h1,h2⟩:=h
 exact ⟨x,stD hl h1,h2⟩
theorem Y1 {β:Type} {dd:β->D} {P:β->Prop} {a k:EvS} {e e1:Qr} (h:a e=some (.nx e1)) (hk:∃ x,k e1=some (.rt (dd x))/\P x):∃ x,sQ a k e=some (.rt (dd x))/\P x:=by
 obtain ⟨x,h1,h2⟩:=hk
 exact ⟨x,st h h1,h2⟩
theorem Zq {α:Type} {n:Nat} {caps:List Nat} {it:EvI} {g:EvG} {c el:EvE} {e:Qr} (d:α->D) (xs:List α) (R:Qr->Prop) (p:α->Bool) (o:α->D) (hit:it e=some (xs.map d)) (hl:xs.length<=lI) (h0:R (Qci n caps e))
  (hb:∀ a∈xs,∀ e,R e->∃ e',g (d a) e=some e'/\R e'/\c e'=some (.bl (p a))/\(p a=true->el e'=some (o a))):QX n caps it g c el e=some (.lst ((xs.filter p).map o)):=by
 unfold QX
 rw [hit]
 show (if (xs.map d).length<=lI then (V0 g c el (xs.map d) (Qci n caps e)).map D.lst else none)=_
 rw [if_pos (by rw [List.length_map];exact hl),Qqa d R p o xs hb _ h0]
 rfl
theorem Z1 {α:Type} (xs:List α):xs.filter (fun _=>true)=xs:=by simp
theorem orF {a b:EvE} {e:Qr} {r:Option D} (ha:a e=some (.bl false)) (hb:b e=r):eOr a b e=r:=by unfold eOr;rw [ha];exact hb
theorem orT {a b:EvE} {e:Qr} (ha:a e=some (.bl true)):eOr a b e=some (.bl true):=by unfold eOr;rw [ha];rfl
theorem J9 {a b:EvE} {e:Qr} {r:Option D} (ha:a e=some (.bl true)) (hb:b e=r):QG a b e=r:=by unfold QG;rw [ha];exact hb
theorem ZI {a b:EvE} {e:Qr} (ha:a e=some (.bl false)):QG a b e=some (.bl false):=by unfold QG;rw [ha];rfl
theorem opE {g:D->D->Option D} {a b:EvE} {e:Qr} {x y:D} {r:Option D} (ha:a e=some x) (hb:b e=some y) (h:g x y=r):eOp g a b e=r:=by unfold eOp;rw [ha,hb];exact h
theorem unE {g:D->Option D} {a:EvE} {e:Qr} {x:D} {r:Option D} (ha:a e=some x) (h:g x=r):eUn g a e=r:=by unfold eUn;rw [ha];exact h
theorem Qa3 {a:EvE} {e:Qr} {b:Bool} (ha:a e=some (.bl b)):Q1 a e=some (.bl (!b)):=by unfold Q1;rw [ha];rfl
theorem QlQ {t:String} {a:EvE} {e:Qr} {x:D} {r:Option D} (ha:a e=some x) (h:D.inst t x=r):JJ t a e=r:=by unfold JJ;rw [ha];exact h
theorem Q6 {f:List D->Option D} {a:EvE} {e:Qr} {x:D} {r:Option D} (ha:a e=some x) (h:f [x]=r):eK f (lC a lN) e=r:=by unfold eK lC lN;rw [ha];exact h
theorem ZF {f:List D->Option D} {a b:EvE} {e:Qr} {x y:D} {r:Option D} (ha:a e=some x) (hb:b e=some y) (h:f [x,y]=r):eK f (lC a (lC b lN)) e=r:=by unfold eK lC lN;rw [ha,hb];exact h
theorem Yp {f:List D->Option D} {a b c:EvE} {e:Qr} {x y z:D} {r:Option D} (ha:a e=some x) (hb:b e=some y) (hc:c e=some z) (h:f [x,y,z]=r):eK f (lC a (lC b (lC c lN))) e=r:=by unfold eK lC lN;rw [ha,hb,hc];exact h
theorem Yo {f:List D->Option D} {a b c d:EvE} {e:Qr} {x y z u:D} {r:Option D} (ha:a e=some x) (hb:b e=some y) (hc:c e=some z) (hd:d e=some u) (h:f [x,y,z,u]=r):eK f (lC a (lC b (lC c (lC d lN)))) e=r:=by unfold eK lC lN;rw [ha,hb,hc,hd];exact h
theorem VJ {i:Nat} {a:EvE} {e:Qr} {x d z:D} (hx:eV i e=some x) (ha:a e=some d) (h:D.app x d=some z):sP i a e=some (.nx (e.set i (some z))):=by unfold sP;rw [hx,ha];show (D.app x d).map _=_;rw [h];rfl
theorem asg {a:EvE} {g:EvG} {e e1:Qr} {d:D} (h:a e=some d) (hg:g d e=some e1):Qd a g e=some (.nx e1):=by unfold Qd;rw [h];show (g d e).map _=_;rw [hg];rfl
theorem ifT {c:EvE} {a b:EvS} {e:Qr} {r:Option Fl} (h:c e=some (.bl true)) (ha:a e=r):sIf c a b e=r:=by unfold sIf;rw [h];exact ha
theorem ifF {c:EvE} {a b:EvS} {e:Qr} {r:Option Fl} (h:c e=some (.bl false)) (ha:b e=r):sIf c a b e=r:=by unfold sIf;rw [h];exact ha
theorem eqS (x y:Str):D.eqO (.str x) (.str y)=some (.bl (decide (x=y))):=by simp [D.eqO,QB,QK,D.cmp]
theorem Qlz {a b c:EvE} {e:Qr} {x y z:D} (ha:a e=some x) (hb:b e=some y) (hc:c e=some z):Qn (lC a (lC b (lC c lN))) e=some (.tup [x,y,z]):=by unfold Qn lC lN;rw [ha,hb,hc];rfl
theorem QtB {a b:EvE} {e:Qr} {x y:D} (ha:a e=some x) (hb:b e=some y):Qn (lC a (lC b lN)) e=some (.tup [x,y]):=by unfold Qn lC lN;rw [ha,hb];rfl
theorem Qov {a b c d:EvE} {e:Qr} {x y z u:D} (ha:a e=some x) (hb:b e=some y) (hc:c e=some z) (hd:d e=some u):Qn (lC a (lC b (lC c (lC d lN)))) e=some (.tup [x,y,z,u]):=by unfold Qn lC lN;rw [ha,hb,hc,hd];rfl
theorem eqF {x y:Int} (h:x≠y):D.eqO (.int x) (.int y)=some (.bl false):=by simp [D.eqO,Qy,QD,D.cmp,h]
theorem eqT {x y:Int} (h:x=y):D.eqO (.int x) (.int y)=some (.bl true):=by simp [D.eqO,Qy,QD,D.cmp,h]
theorem ltF {x y:Int} (h:¬ x<y):D.lt (.int x) (.int y)=some (.bl false):=by show some (D.bl (decide (x<y)))=_;rw [decide_eq_false h]
theorem ltT {x y:Int} (h:x<y):D.lt (.int x) (.int y)=some (.bl true):=by show some (D.bl (decide (x<y)))=_;rw [decide_eq_true h]
theorem Qig {a:EvE} {lo hi:EvO} {e:Qr} {x:D} {l h:Option Int} {r:Option D} (ha:a e=some x) (hl:lo e=some l) (hh:hi e=some h) (hc:Zg x l h=r):JT a lo hi e=r:=by unfold JT;rw [ha,hl,hh];exact hc
theorem atE {a:EvE} {e:Qr} {i:Int} (ha:a e=some (.int i)):oAt a e=some (some i):=by unfold oAt;rw [ha];rfl
def QmO:Option D->Str
 | some (.str x)=>x
 | _=>""
def Qm5:Option D->Bool
 | some (.str _)=>true
 | _=>false
theorem Qkz {o:Option D} (h:Qm5 o=true):o=some (.str (QmO o)):=by
 cases o with
 | none=>cases h
 | some d=>cases d<;>first | rfl | cases h
def lab (k:Nat):Str:=QmO (Qar [.int k])
def QeD (k:Nat):Bool:=Qm5 (Qar [.int k])&&decide (1<=(lab k).length)&&decide ((lab k).length<=7)&&decide (lab k≠"z")
theorem QqZ:(List.range 58).all QeD=true:=by decide +kernel
theorem QiX (k:Nat) (h:k<58):QeD k=true:=List.all_eq_true.mp QqZ k (List.mem_range.mpr h)
theorem Qsn (k:Nat) (h:k<58):Qar [.int k]=some (.str (lab k)):=by
 have:=QiX k h
 simp only [QeD,Bool.and_eq_true] at this
 exact Qkz this.1.1.1
theorem Qtg (k:Nat) (h:k<58):lab k≠"z":=by
 have:=QiX k h
 simp only [QeD,Bool.and_eq_true,decide_eq_true_eq] at this
 exact this.2
def Qh6:List Str->Bool
 | []=>true
 | x::xs=>xs.all (fun y=>decide (x≠y))&&Qh6 xs
theorem QqY:Qh6 ((List.range 58).map lab)=true:=by decide +kernel
theorem Vk (z:Int) {j:Int} (h:0<j/\j<1073741824):D.fdiv (.int z) (.int j)=some (.int (z/j)):=QsA h
theorem QtC (t:Int) (a b c:Option D):∀ (ds:List D),∃ c',Ym (gS 3) (Qd (eOp D.mulA (eV 2) (eC (.int 10))) (gS 2)) ds [a,b,some (.int t),c]=some (.nx [a,b,some (.int (t*10^ds.length)),c']):=by
 intro ds
 induction ds generalizing t c with
 | nil=>exact ⟨c,by simp [Ym]⟩
 | cons d ds ih =>
   obtain ⟨c',e⟩:=ih (t*10) (some d)
   refine ⟨c',?_⟩
   have m:D.mul (.int t) (.int 10)=some (.int (t*10)):=Qh8 (by decide)
   simp [Ym,QI,JT,Zg,lI,QC,sD,sQ,sIf,Qk,ZA,Qd,Zr,J4,sNx,Z9,ZM,gS,Js,J6,eV,eC,eOp,eUn,Q1,QG,eOr,eIf,JF,Qn,Qo,eK,lN,lC,JJ,oNo,oAt,ZC,D.len,D.lt,D.le,D.gt,D.ge,D.add,D.sub,D.ix,D.eqO,D.neO,D.cmp,D.cmpN,D.inst,tyD,D.isT,D.intB,D.min2,D.max2,D.neg,D.addI,Qq,JM,JO,Jv,QM,QS,JL,JK,Jh,Ju,JP,JQ,Jw,Jx,JN,Jb,JC,J1,Qy,QB,Q9,Jd,QY,QQ,D.rng,D.its,D.itsT,QD,ZB,QK,Jg,JS,Jn,Jf,QiI,m,e]
   rw [Int.mul_assoc,<- Int.pow_succ']
theorem QtD (t:Int) (a b c d e:Option D):∀ (ds:List D),∃ d',Ym (gS 4) (Qd (eOp D.mulA (eV 3) (eC (.int 10))) (gS 3)) ds [a,b,c,some (.int t),d,e]=some (.nx [a,b,c,some (.int (t*10^ds.length)),d',e]):=by
 intro ds
 induction ds generalizing t d with
 | nil=>exact ⟨d,by simp [Ym]⟩
 | cons x ds ih =>
   obtain ⟨c',q⟩:=ih (t*10) (some x)
   refine ⟨c',?_⟩
   have m:D.mul (.int t) (.int 10)=some (.int (t*10)):=Qh8 (by decide)
   simp [Ym,QI,JT,Zg,lI,QC,sD,sQ,sIf,Qk,ZA,Qd,Zr,J4,sNx,Z9,ZM,gS,Js,J6,eV,eC,eOp,eUn,Q1,QG,eOr,eIf,JF,Qn,Qo,eK,lN,lC,JJ,oNo,oAt,ZC,D.len,D.lt,D.le,D.gt,D.ge,D.add,D.sub,D.ix,D.eqO,D.neO,D.cmp,D.cmpN,D.inst,tyD,D.isT,D.intB,D.min2,D.max2,D.neg,D.addI,Qq,JM,JO,Jv,QM,QS,JL,JK,Jh,Ju,JP,JQ,Jw,Jx,JN,Jb,JC,J1,Qy,QB,Q9,Jd,QY,QQ,D.rng,D.its,D.itsT,QD,ZB,QK,Jg,JS,Jn,Jf,QiI,m,q]
   rw [Int.mul_assoc,<- Int.pow_succ']
theorem QiO (lo:Int) (n:Nat):(rD lo n).length=n:=by unfold rD;simp
theorem QrC (n:Nat) (h:n<=3):(10:Int)<=10*10^n/\(10:Int)*10^n<=10^30:=by
 have:n=0\/n=1\/n=2\/n=3:=by omega
 rcases this with z | z | z | z<;>subst z<;>decide
theorem ix3 {x y z:D} {i:Int} (h:i=0\/i=1\/i=2):D.ix (.lst [x,y,z]) (.int i)=some (if i=0 then x else if i=1 then y else z):=by
 rcases h with h | h | h<;>subst h<;>rfl
theorem Qt4 (x:Int) (h:x<=3):x<=10^39:=by
 have:(3:Int)<=10^39:=by decide
 omega
theorem Qtw (x:Int) (h:x<=10^30):x<=10^39:=by
 have:(10:Int)^30<=10^39:=by decide
 omega
theorem Qnx (c n:Int) (hn:0<=n):∃ p:Int,Qb8 [.int c,.int n]=some (.int p)/\1<=p/\p<=10^39:=by
 obtain ⟨m4,e4,l4,u4⟩:=Qdb (n/97) (show (0:Int)<4 by decide)
 obtain ⟨m3,e3,l3,u3⟩:=Qdb (n/16) (show (0:Int)<3 by decide)
 obtain ⟨m5,e5,l5,u5⟩:=Qdb (n/16) (show (0:Int)<5 by decide)
 obtain ⟨m8,e8,l8,u8⟩:=Qdb (n/97) (show (0:Int)<8 by decide)
 obtain ⟨q3,f3,g3,h3⟩:=Qdb (n/997) (show (0:Int)<3 by decide)
 obtain ⟨mc,ec,lc,uc⟩:=Qdb c (show (0:Int)<10^39 by decide)
 have ec2:c%1000000000000000000000000000000000000000=mc:=ec
 have p39:D.pow (.int 10) (.int 39)=some (.int (10^39)):=Qp0 (by decide)
 have p30:D.pow (.int 10) (.int 30)=some (.int (10^30)):=Qp0 (by decide)
 have mc':D.mod (.int c) (.int (10^39))=some (.int mc):=by rw [<- ec];exact VE (by decide)
 have z3:q3=0\/q3=1\/q3=2:=by omega
 have rg:(if m4.natAbs<4611686018427387904 then some (rD 0 m4.toNat) else none)=some (rD 0 m4.toNat):=if_pos (by omega)
 obtain ⟨c',el⟩:=QtC 10 (some (.int c)) (some (.int n)) none (rD 0 m4.toNat)
 rw [QiO] at el
 have tl:=QrC m4.toNat (by omega)
 obtain ⟨T,eT⟩:∃ T:Int,10*10^m4.toNat=T:=⟨_,rfl⟩
 rw [eT] at el tl
 have fin:∀ T:Int,10<=T->T<=10^30->∃ p:Int,(if q3=0 then D.int (1+m3) else if q3=1 then D.int (T-1-m5) else D.int (1+mc))=.int p/\1<=p/\p<=10^39:=by
  intro T t0 t1
  split
  ·exact ⟨_,rfl,by omega,Qt4 _ (by omega)⟩
  ·split
   ·exact ⟨_,rfl,by omega,Qtw _ (by omega)⟩
   ·exact ⟨_,rfl,by omega,by omega⟩
 unfold Qb8 Qej
 by_cases h8:m8=7
 ·obtain ⟨p,ep,b0,b1⟩:=fin (10^30) (by decide) (by decide)
  refine ⟨p,?_,b0,b1⟩
  simp [QI,JT,Zg,lI,QC,sD,sQ,sIf,Qk,ZA,Qd,Zr,J4,sNx,Z9,ZM,gS,Js,J6,eV,eC,eOp,eUn,Q1,QG,eOr,eIf,JF,Qn,Qo,eK,lN,lC,JJ,oNo,oAt,ZC,D.len,D.lt,D.le,D.gt,D.ge,D.add,D.sub,D.eqO,D.neO,D.cmp,D.cmpN,D.inst,tyD,D.isT,D.intB,D.min2,D.max2,D.neg,D.addI,Qq,JM,JO,Jv,QM,QS,JL,JK,Jh,Ju,JP,JQ,Jw,Jx,JN,Jb,JC,J1,Qy,QB,Q9,Jd,QY,QQ,D.rng,D.its,D.itsT,QD,ZB,QK,Jg,JS,Jn,Jf,<- eT,p39,p30,mc',Vk,ZH,e4,e3,e5,e8,f3,h8,Ja,Yy,rg,el,ix3 z3,ec2]
  simpa using ep
 ·obtain ⟨p,ep,b0,b1⟩:=fin T tl.1 tl.2
  refine ⟨p,?_,b0,b1⟩
  simp [QI,JT,Zg,lI,QC,sD,sQ,sIf,Qk,ZA,Qd,Zr,J4,sNx,Z9,ZM,gS,Js,J6,eV,eC,eOp,eUn,Q1,QG,eOr,eIf,JF,Qn,Qo,eK,lN,lC,JJ,oNo,oAt,ZC,D.len,D.lt,D.le,D.gt,D.ge,D.add,D.sub,D.eqO,D.neO,D.cmp,D.cmpN,D.inst,tyD,D.isT,D.intB,D.min2,D.max2,D.neg,D.addI,Qq,JM,JO,Jv,QM,QS,JL,JK,Jh,Ju,JP,JQ,Jw,Jx,JN,Jb,JC,J1,Qy,QB,Q9,Jd,QY,QQ,D.rng,D.its,D.itsT,QD,ZB,QK,Jg,JS,Jn,Jf,p39,p30,mc',Vk,ZH,e4,e3,e5,e8,f3,h8,Ja,Yy,rg,el,ix3 z3,ec2]
  simpa using ep
def someS : Str := Str.ofString "!\"#$&'()*+,-./0123456789:;<=>?@ABCDEFGHIJKLMNOPQRSTUVWXYZ[\\]^_`" ++ Str.ofString "abcdefghijklmnopqrstuvwxyz{}~|"
theorem Qd9:someS.length=93:=by decide +kernel
theorem QrG : (Str.ofString "!\"#$&'()*+,-./0123456789:;<=>?@ABCDEFGHIJKLMNOPQRSTUVWXYZ[\\]^_`").length = 63 := by decide +kernel
theorem QrF:(Str.ofString "abcdefghijklmnopqrstuvwxyz{}~|").length=30:=by decide +kernel
def Qa2 (x:Str) (i:Int):Str:=⟨#[x.cps.toList.getD i.toNat 0]⟩
theorem QiP (x:Str) (i:Int):(Qa2 x i).length=1:=rfl
theorem ixS {x:Str} {i:Int} (h:0<=i) (h':i<x.length) (hl:x.length<=lI):D.ix (.str x) (.int i)=some (.str (Qa2 x i)):=by
 have q0:x.length=x.cps.size:=rfl
 have q:i.toNat<x.cps.size:=by omega
 show (if x.length<=lI then (ixD x.length i).bind fun k=>(x.cps[k]?).map fun c=>D.str ⟨#[c]⟩ else none)=_
 rw [if_pos hl,ixD,if_pos h,if_pos h']
 show (x.cps[i.toNat]?).map _=_
 rw [Array.getElem?_eq_getElem q]
 show some (D.str ⟨#[x.cps[i.toNat]]⟩)=_
 unfold Qa2
 rw [List.getD_eq_getElem?_getD,Array.getElem?_toList,Array.getElem?_eq_getElem q]
 rfl
theorem Qk0 (x y:Str):(x++y).length=x.length+y.length:=Array.size_append
theorem QoF {x y:Str} (h:x.length+y.length<=lI):D.add (.str x) (.str y)=some (.str (x++y)):=if_pos h
def sgn (n g:Int) (k:Nat):Str:=if g=1/\(n/3+k)%4=0 then " " else Qa2 someS ((n/7+k*(1+n%13)+k*k)%(92+g))
theorem QkP (n g:Int) (k:Nat):(sgn n g k).length=1:=by
 unfold sgn
 split
 ·decide +kernel
 ·rfl
def Y2 (n g:Int) (s:Nat):Str:=(List.range s).foldl (fun x k=>x++sgn n g k) ""
theorem Qht (n g:Int):∀ (ks:List Nat) (x:Str),(ks.foldl (fun x k=>x++sgn n g k) x).length=x.length+ks.length
 | [],x=>rfl
 | k::ks,x=>by
  show ((ks.foldl (fun x k=>x++sgn n g k) (x++sgn n g k)).length)=_
  rw [Qht n g ks,Qk0,QkP,List.length_cons];omega
theorem Qb5 (n g:Int) (s:Nat):(Y2 n g s).length=s:=by
 unfold Y2
 rw [Qht,List.length_range]
 show 0+s=s
 omega
theorem QlZ (n g:Int):Y2 n g 0=Str.ofString "":=by
 unfold Y2
 rw [List.range_zero,List.foldl_nil]
theorem Qe7 (n g:Int) (s:Nat) (hn:0<=n) (hg:g=0\/g=1) (hs:s<=1000):YD [.int n,.int s,.int g]=some (.str (Y2 n g s)):=by
 have rg:D.rng (.int s)=some (rD 0 s):=by
  show (if (s:Int).natAbs<4611686018427387904 then some (rD 0 (s:Int).toNat) else none)=_
  rw [if_pos (by omega)];rfl
 have a0 : D.add (.str (Str.ofString "!\"#$&'()*+,-./0123456789:;<=>?@ABCDEFGHIJKLMNOPQRSTUVWXYZ[\\]^_`")) (.str (Str.ofString "abcdefghijklmnopqrstuvwxyz{}~|")) = some (.str someS) := QoF (by rw [QrG, QrF]; decide)
 unfold YD Qfp
 refine stD rfl ?_
 refine st (e1 := [some (.int n), some (.int s), some (.int g), some (.str (Str.ofString "!\"#$&'()*+,-./0123456789:;<=>?@ABCDEFGHIJKLMNOPQRSTUVWXYZ[\\]^_`")), none, none, none, none]) (by simp [sD, sQ, sIf, Qk, Qd, sNx, gS, eV, eC, eOp, eUn, Q1, QG, eOr, Qn, Qo, eK, lN, lC, D.lt, D.sub, D.eqO, D.cmp, Qq, QM, QS, Qy, QB, QD, QK, QI]) ?_
 refine st (e1:=[some (.int n),some (.int s),some (.int g),some (.str someS),none,none,none,none]) (by simp [sD,sQ,sIf,Qk,Qd,sNx,gS,eV,eC,eOp,eUn,Q1,QG,eOr,Qn,Qo,eK,lN,lC,D.lt,D.sub,D.eqO,D.cmp,Qq,QM,QS,Qy,QB,QD,QK,QI,a0]) ?_
 refine st (e1:=[some (.int n),some (.int s),some (.int g),some (.str someS),some (.str (Str.ofString "")),none,none,none]) (by simp [sD,sQ,sIf,Qk,Qd,sNx,gS,eV,eC,eOp,eUn,Q1,QG,eOr,Qn,Qo,eK,lN,lC,D.lt,D.sub,D.eqO,D.cmp,Qq,QM,QS,Qy,QB,QD,QK,QI]) ?_
 refine QpV s (fun i e=>∃ a b c,e=[some (.int n),some (.int s),some (.int g),some (.str someS),some (.str (Y2 n g i)),a,b,c]) (by simp [Yy,eV,rg]) ⟨none,none,none,by rw [QlZ]⟩ ?_ ?_
 ·rintro i hi e ⟨a,b,c,rfl⟩
  obtain ⟨j,ej⟩:∃ j:Int,(i:Int)=j:=⟨_,rfl⟩
  have i0:(0:Int)<=j/\j<1000:=by omega
  have e1:D.mul (.int j) (.int (1+n%13))=some (.int (j*(1+n%13))):=Qeu (by omega)
  have e2:D.mul (.int j) (.int j)=some (.int (j*j)):=Qeu (by omega)
  have e3:D.mod (.int (n/7+j*(1+n%13)+j*j)) (.int (92+g))=some (.int ((n/7+j*(1+n%13)+j*j)%(92+g))):=VE (by omega)
  have e4:D.ix (.str someS) (.int ((n/7+j*(1+n%13)+j*j)%(92+g)))=some (.str (Qa2 someS ((n/7+j*(1+n%13)+j*j)%(92+g)))):=by
   have a0:=Int.emod_nonneg (n/7+j*(1+n%13)+j*j) (show (92+g)≠0 by omega)
   have a1:=Int.emod_lt_of_pos (n/7+j*(1+n%13)+j*j) (show 0<92+g by omega)
   exact ixS a0 (by rw [Qd9];omega) (by rw [Qd9];decide)
  have e5:D.add (.str (Y2 n g i)) (.str (sgn n g i))=some (.str (Y2 n g (i+1))):=by
   rw [QoF (by rw [Qb5,QkP];unfold lI;omega)]
   unfold Y2
   rw [List.range_succ,List.foldl_append]
   rfl
  have e6:D.len (.str someS)=some (.int 93):=by
   show (if someS.length<=lI then some (D.int someS.length) else none)=_
   rw [Qd9];rfl
  have e7:(93:Int)-1+g=92+g:=by omega
  have ai:∀ x y:Int,D.add (.int x) (.int y)=some (.int (x+y)):=fun _ _=>rfl
  refine ⟨[some (.int n),some (.int s),some (.int g),some (.str someS),some (.str (Y2 n g (i+1))),some (.int j),some (.int (n/7+j*(1+n%13)+j*j)),some (.str (sgn n g i))],.inl ?_,_,_,_,rfl⟩
  rw [ej,Int.zero_add]
  refine bnd (e1:=[some (.int n),some (.int s),some (.int g),some (.str someS),some (.str (Y2 n g i)),some (.int j),b,c]) rfl ?_
  refine st (e1:=[some (.int n),some (.int s),some (.int g),some (.str someS),some (.str (Y2 n g i)),some (.int j),some (.int (n/7+j*(1+n%13)+j*j)),c]) (by simp [sD,sQ,sIf,Qk,Qd,sNx,gS,eV,eC,eOp,eUn,Q1,QG,eOr,Qn,Qo,eK,lN,lC,D.lt,D.sub,D.eqO,D.cmp,Qq,QM,QS,Qy,QB,QD,QK,QI,Vk,ZH,ai,e1,e2]) ?_
  refine st (e1:=[some (.int n),some (.int s),some (.int g),some (.str someS),some (.str (Y2 n g i)),some (.int j),some (.int (n/7+j*(1+n%13)+j*j)),some (.str (Qa2 someS ((n/7+j*(1+n%13)+j*j)%(92+g))))]) (by simp [sD,sQ,sIf,Qk,Qd,sNx,gS,eV,eC,eOp,eUn,Q1,QG,eOr,Qn,Qo,eK,lN,lC,D.lt,D.sub,D.eqO,D.cmp,Qq,QM,QS,Qy,QB,QD,QK,QI,e6,ai,e7,e3,e4]) ?_
  refine st (e1:=[some (.int n),some (.int s),some (.int g),some (.str someS),some (.str (Y2 n g i)),some (.int j),some (.int (n/7+j*(1+n%13)+j*j)),some (.str (sgn n g i))]) ?_ (by simp [sD,sQ,sIf,Qk,Qd,sNx,gS,eV,eC,eOp,eUn,Q1,QG,eOr,Qn,Qo,eK,lN,lC,D.lt,D.sub,D.eqO,D.cmp,Qq,QM,QS,Qy,QB,QD,QK,QI,e5])
  unfold sgn
  rw [ej]
  rcases hg with z | z<;>by_cases hc:(n/3+j)%4=0<;>simp [sD,sQ,sIf,Qk,Qd,sNx,gS,eV,eC,eOp,eUn,Q1,QG,eOr,Qn,Qo,eK,lN,lC,D.lt,D.sub,D.eqO,D.cmp,Qq,QM,QS,Qy,QB,QD,QK,QI,Vk,ZH,ai,z,hc]
 ·rintro e ⟨a,b,c,rfl⟩
  simp [Qk,eV]
theorem Qi8 (x:Str) (lo hi:Option Int):(VW x lo hi).length<=x.length:=by
 show (Zf x.cps.toList lo hi).toArray.size<=x.cps.size
 rw [List.size_toArray]
 unfold Zf
 rw [List.length_take,List.length_drop]
 have:x.cps.toList.length=x.cps.size:=Array.length_toList
 omega
theorem Qlj (x:Str) (j:Int) (h:0<=j):((VW x none (some j)).length:Int)=min j x.length:=by
 show ((Zf x.cps.toList none (some j)).toArray.size:Int)=_
 rw [List.size_toArray]
 unfold Zf Z8
 have:x.cps.toList.length=x.length:=Array.length_toList
 rw [List.length_take,List.length_drop,this]
 simp only []
 rw [if_neg (by omega)]
 omega
theorem QfQ {x:Str} (h:x.length<=lI) (lo hi:Option Int):Zg (.str x) lo hi=some (.str (VW x lo hi)):=if_pos h
theorem QoL {x:Str} (h:x.length<=lI):D.strip (.str x)=some (.str (Txt.strip x)):=if_pos h
theorem QiS (x:Str) (n:Int):(YX x n).length=n.toNat*x.length:=by
 show ((List.replicate n.toNat x.cps.toList).flatten.toArray.size)=_
 rw [List.size_toArray,List.length_flatten,List.map_replicate,List.sum_replicate_nat]
 rfl
theorem QkW {x:Str} {n:Int} (h:-1073741824<n/\n<1073741824/\x.length*n.toNat<=lI):D.mulA (.str x) (.int n)=some (.str (YX x n)):=if_pos h
def Qe3 (k:Nat) (l:Str):Prop:=l=""\/l=lab k
def QoJ (k:Nat):At->Prop
 | .brk=>True
 | .fin=>False
 | .bk (.chapter t l)=>(1<=t.length/\t.length<=41)/\Qe3 k l
 | .bk (.heading t n l)=>(1<=t.length/\t.length<=41)/\(0<=n/\n<=29)/\Qe3 k l
 | .bk (.table rs l)=>(1<=rs.length/\rs.length<=30)/\(∀ r∈rs,r.length<=40)/\Qe3 k l
 | .bk (.plates n l)=>(1<=n/\n<=10^39)/\Qe3 k l
 | .bk (.para _)=>False
 | .it (.mark l)=>l=lab k
 | .it (.key w)=>1<=w.length/\w.length<=80
 | .it (.ref l a b)=>l=""/\a.length<=2/\b.length<=2
 | .it (.word w ns)=>(1<=w.length/\w.length<=40)/\ns.length<=30/\∀ r∈ns,r.length<=40
theorem QqW (k:Nat) (p:Prop) [Decidable p]:Qe3 k (if p then Str.ofString "" else lab k):=by
 by_cases h:p
 ·rw [if_pos h];exact .inl rfl
 ·rw [if_neg h];exact .inr rfl
theorem Qtq (z:Int) {j:Int} (h:0<j):∃ x:Nat,z%j=(x:Int)/\(x:Int)<j:=⟨(z%j).toNat,by have:=Int.emod_nonneg z (show j≠0 by omega);omega,by have:=Int.emod_lt_of_pos z h;have:=Int.emod_nonneg z (show j≠0 by omega);omega⟩
theorem QrM (n:Int) (h:0<=n/\n<=1000):D.rng (.int n)=some (rD 0 n.toNat):=if_pos (by omega)
theorem Qbj (m:Nat) (h:m<=100000):D.rng (.int m)=some ((List.range m).map fun i:Nat=>D.int (0+(i:Int))):=by
 show (if (m:Int).natAbs<4611686018427387904 then some (rD 0 (m:Int).toNat) else none)=_
 rw [if_pos (by omega)];rfl
theorem add_int (x y:Int):D.add (.int x) (.int y)=some (.int (x+y)):=rfl
theorem QfZ {a:Nat} (h:a<=1000000):1+a<=lI:=Nat.le_trans (Nat.add_le_add_left h 1) (by decide)
theorem lB {a:Nat} (h:a<=1000000):a<=lI:=Nat.le_trans h (by decide)
theorem Qll (c:Int) (k:Nat) (hk:k<58):∃ a,VP [.int c,.int k]=some a.d/\QoJ k a:=by
 obtain ⟨kk,ek⟩:∃ kk:Int,(k:Int)=kk:=⟨_,rfl⟩
 obtain ⟨n,en⟩:∃ n:Int,mix c (kk+20)=n:=⟨_,rfl⟩
 have n0:0<=n:=en▸Qiq _ _
 have n1:n<2147483629:=en▸Qsj _ _
 have hm:ZE [.int c,.int (kk+20)]=some (.int n):=en▸QaT c (kk+20) (by omega) (by omega)
 obtain ⟨kd,ekd,kd0,kd1⟩:=Qdb n (show (0:Int)<17 by decide)
 obtain ⟨sz,esz,sz0,sz1⟩:∃ sz:Nat,1+n/17%(if decide (n/187%9=4) then (40:Int) else 11)=(sz:Int)/\1<=sz/\sz<=40:=by
  cases decide (n/187%9=4)
  ·exact ⟨(1+n/17%11).toNat,by simp;omega,by omega,by omega⟩
  ·exact ⟨(1+n/17%40).toNat,by simp;omega,by omega,by omega⟩
 obtain ⟨mn,emn,mn0,mn1⟩:∃ mn:Int,1+n/97%(if decide (n/1009%11=5) then (30:Int) else 4)=mn/\1<=mn/\mn<=30:=by
  cases decide (n/1009%11=5)
  ·exact ⟨(1+n/97%4),by simp,by omega,by omega⟩
  ·exact ⟨(1+n/97%30),by simp,by omega,by omega⟩
 have mp2:D.mod (.int (n/17)) (.int (if decide (n/187%9=4) then (40:Int) else 11))=some (.int (n/17%(if decide (n/187%9=4) then (40:Int) else 11))):=VE (by split<;>omega)
 have mp3:D.mod (.int (n/97)) (.int (if decide (n/1009%11=5) then (30:Int) else 4))=some (.int (n/97%(if decide (n/1009%11=5) then (30:Int) else 4))):=VE (by split<;>omega)
 obtain ⟨tx,etx,tl⟩:∃ tx,YD [.int (n/17),.int sz,.int 1]=some (.str tx)/\tx.length=sz:=⟨_,Qe7 (n/17) 1 sz (by omega) (.inr rfl) (by omega),Qb5 _ _ _⟩
 obtain ⟨wd,ewd,wl⟩:∃ tx,YD [.int (n/19),.int sz,.int 0]=some (.str tx)/\tx.length=sz:=⟨_,Qe7 (n/19) 0 sz (by omega) (.inl rfl) (by omega),Qb5 _ _ _⟩
 have lbe:Qar [.int kk]=some (.str (lab k)):=ek▸Qsn k hk
 obtain ⟨nm,enm,hnm⟩:∃ nm,(if n/1009%2=0 then Str.ofString "" else lab k)=nm/\Qe3 k nm:=⟨_,rfl,QqW _ _⟩
 rw [ek]
 unfold VP QgW
 refine exD (dd:=At.d) rfl ?_
 refine Y1 (e1:=[some (.int c),some (.int kk),some (.int n),none,none,none,none,none,none,none]) (by simp [sD,sQ,sIf,Qk,Qd,sNx,gS,eV,eC,eOp,eUn,Q1,QG,eOr,Qn,Qo,eK,lN,lC,D.lt,D.sub,D.eqO,D.cmp,Qq,QM,QS,Qy,QB,QD,QK,QI,hm,add_int]) ?_
 refine Y1 (e1:=[some (.int c),some (.int kk),some (.int n),some (.int kd),none,none,none,none,none,none]) (by simp [sD,sQ,sIf,Qk,Qd,sNx,gS,eV,eC,eOp,eUn,Q1,QG,eOr,Qn,Qo,eK,lN,lC,D.lt,D.sub,D.eqO,D.cmp,Qq,QM,QS,Qy,QB,QD,QK,QI,ZH,ekd]) ?_
 refine Y1 (e1:=[some (.int c),some (.int kk),some (.int n),some (.int kd),some (.int sz),none,none,none,none,none]) (by by_cases z:n/187%9=4<;>simp [z] at esz<;>simp [QI,JT,Zg,lI,QC,sD,sQ,sIf,Qk,ZA,Qd,Zr,J4,sNx,Z9,ZM,gS,Js,J6,eV,eC,eOp,eUn,Q1,QG,eOr,eIf,JF,Qn,Qo,eK,lN,lC,JJ,oNo,oAt,ZC,D.len,D.lt,D.le,D.gt,D.ge,D.add,D.sub,D.ix,D.eqO,D.neO,D.cmp,D.cmpN,D.inst,tyD,D.isT,D.intB,D.min2,D.max2,D.neg,D.addI,Qq,JM,JO,Jv,QM,QS,JL,JK,Jh,Ju,JP,JQ,Jw,Jx,JN,Jb,JC,J1,Qy,QB,Q9,Jd,QY,QQ,D.rng,D.its,D.itsT,QD,ZB,QK,Jg,JS,Jn,Jf,Vk,ZH,z,ixD,esz]) ?_
 refine Y1 (e1:=[some (.int c),some (.int kk),some (.int n),some (.int kd),some (.int sz),some (.int mn),none,none,none,none]) (by by_cases z:n/1009%11=5<;>simp [z] at emn<;>simp [QI,JT,Zg,lI,QC,sD,sQ,sIf,Qk,ZA,Qd,Zr,J4,sNx,Z9,ZM,gS,Js,J6,eV,eC,eOp,eUn,Q1,QG,eOr,eIf,JF,Qn,Qo,eK,lN,lC,JJ,oNo,oAt,ZC,D.len,D.lt,D.le,D.gt,D.ge,D.add,D.sub,D.ix,D.eqO,D.neO,D.cmp,D.cmpN,D.inst,tyD,D.isT,D.intB,D.min2,D.max2,D.neg,D.addI,Qq,JM,JO,Jv,QM,QS,JL,JK,Jh,Ju,JP,JQ,Jw,Jx,JN,Jb,JC,J1,Qy,QB,Q9,Jd,QY,QQ,D.rng,D.its,D.itsT,QD,ZB,QK,Jg,JS,Jn,Jf,Vk,ZH,z,ixD,emn]) ?_
 refine Y1 (e1:=[some (.int c),some (.int kk),some (.int n),some (.int kd),some (.int sz),some (.int mn),some (.str tx),none,none,none]) (by simp [sD,sQ,sIf,Qk,Qd,sNx,gS,eV,eC,eOp,eUn,Q1,QG,eOr,Qn,Qo,eK,lN,lC,D.lt,D.sub,D.eqO,D.cmp,Qq,QM,QS,Qy,QB,QD,QK,QI,Vk,etx]) ?_
 refine Y1 (e1:=[some (.int c),some (.int kk),some (.int n),some (.int kd),some (.int sz),some (.int mn),some (.str tx),some (.str wd),none,none]) (by simp [sD,sQ,sIf,Qk,Qd,sNx,gS,eV,eC,eOp,eUn,Q1,QG,eOr,Qn,Qo,eK,lN,lC,D.lt,D.sub,D.eqO,D.cmp,Qq,QM,QS,Qy,QB,QD,QK,QI,Vk,ewd]) ?_
 refine Y1 (e1:=[some (.int c),some (.int kk),some (.int n),some (.int kd),some (.int sz),some (.int mn),some (.str tx),some (.str wd),some (.str (lab k)),none]) (by simp [sD,sQ,sIf,Qk,Qd,sNx,gS,eV,eC,eOp,eUn,Q1,QG,eOr,Qn,Qo,eK,lN,lC,D.lt,D.sub,D.eqO,D.cmp,Qq,QM,QS,Qy,QB,QD,QK,QI,lbe]) ?_
 refine Y1 (e1:=[some (.int c),some (.int kk),some (.int n),some (.int kd),some (.int sz),some (.int mn),some (.str tx),some (.str wd),some (.str (lab k)),some (.str (lab k))]) (by simp [sD,sQ,sIf,Qk,Qd,sNx,gS,eV,eC,eOp,eUn,Q1,QG,eOr,Qn,Qo,eK,lN,lC,D.lt,D.sub,D.eqO,D.cmp,Qq,QM,QS,Qy,QB,QD,QK,QI]) ?_
 refine Y1 (e1:=[some (.int c),some (.int kk),some (.int n),some (.int kd),some (.int sz),some (.int mn),some (.str tx),some (.str wd),some (.str (lab k)),some (.str nm)]) (by by_cases z:n/1009%2=0<;>simp [sD,sQ,sIf,Qk,Qd,sNx,gS,eV,eC,eOp,eUn,Q1,QG,eOr,Qn,Qo,eK,lN,lC,D.lt,D.sub,D.eqO,D.cmp,Qq,QM,QS,Qy,QB,QD,QK,QI,Vk,ZH,z,<- enm]) ?_
 clear hm etx ewd lbe mp2 mp3 enm esz emn
 have hS:tx.length<=lI:=lB (by omega)
 have hW:wd.length<=lI:=lB (by omega)
 have sT:=QoL hS
 have sL:(Txt.strip tx).length<=40:=Nat.le_trans (PyProof.Rows.len_strip tx) (by omega)
 have o0:D.ix (.str wd) (.int 0)=some (.str (Qa2 wd 0)):=ixS (by decide) (by omega) hW
 have aT:D.add (.str (Qa2 wd 0)) (.str (Txt.strip tx))=some (.str (Qa2 wd 0++Txt.strip tx)):=QoF (by rw [QiP];exact lB (by omega))
 have lT:(Qa2 wd 0++Txt.strip tx).length=1+(Txt.strip tx).length:=by rw [Qk0,QiP]
 by_cases z:kd=0
 ·exact ⟨.bk (.chapter (Qa2 wd 0++Txt.strip tx) nm),stR (ifT (opE rfl rfl (eqT z)) (ret (Qlz rfl (opE (opE rfl rfl o0) (unE rfl sT) aT) rfl))),⟨by omega,hnm⟩⟩
 refine Y1 (ifF (opE rfl rfl (eqF z)) rfl) ?_
 by_cases z:kd=1
 ·exact ⟨.bk (.heading (Qa2 wd 0++Txt.strip tx) (mn-1) nm),stR (ifT (opE rfl rfl (eqT z)) (ret (Qov rfl (opE (opE rfl rfl o0) (unE rfl sT) aT) rfl rfl))),⟨by omega,by omega,hnm⟩⟩
 refine Y1 (ifF (opE rfl rfl (eqF z)) rfl) ?_
 obtain ⟨m,em⟩:∃ m:Nat,mn=m:=⟨mn.toNat,by omega⟩
 by_cases z:kd=2
 ·refine ⟨.bk (.table ((List.range m).map fun i:Nat=>VW tx none (some (if (sz:Int)-(0+(i:Int)) > 0 then (sz:Int)-(0+(i:Int)) else 0))) nm),stR (ifT (opE rfl rfl (eqT z)) (ret (Qlz rfl ?_ rfl))),⟨by simp;omega,?_,hnm⟩⟩
  ·rw [Zq (g:=gS 0) (n:=1) (caps:=[6,4]) (fun i:Nat=>D.int (0+(i:Int))) (List.range m) (fun e=>∃ v,e=[v,some (.str tx),some (.int sz)]) (fun _=>true) (fun i:Nat=>.str (VW tx none (some (if (sz:Int)-(0+(i:Int)) > 0 then (sz:Int)-(0+(i:Int)) else 0)))) (by show D.rng (.int mn)=_;rw [em];exact Qbj m (by omega)) (lB (by simp;omega)) ⟨none,rfl⟩ (by
    rintro i hi e ⟨v,rfl⟩
    exact ⟨[some (.int (0+(i:Int))),some (.str tx),some (.int sz)],rfl,⟨_,rfl⟩,rfl,fun _=>Qig rfl rfl (atE (opE rfl (opE rfl rfl rfl) rfl)) (QfQ hS _ _)⟩)]
   rw [Z1]
   unfold QP
   rw [List.map_map];rfl
  ·intro r hr
   obtain ⟨i,_,rfl⟩:=List.mem_map.mp hr
   exact Nat.le_trans (Qi8 _ _ _) (by omega)
 refine Y1 (ifF (opE rfl rfl (eqF z)) rfl) ?_
 by_cases z:kd=3
 ·obtain ⟨p,ep,p0,p1⟩:=Qnx c n n0
  exact ⟨.bk (.plates p nm),stR (ifT (opE rfl rfl (eqT z)) (ret (Qlz rfl (ZF rfl rfl ep) rfl))),⟨⟨p0,p1⟩,hnm⟩⟩
 refine Y1 (ifF (opE rfl rfl (eqF z)) rfl) ?_
 by_cases z:kd=4
 ·exact ⟨.brk,stR (ifT (opE rfl rfl (eqT z)) (ret rfl)),trivial⟩
 refine Y1 (ifF (opE rfl rfl (eqF z)) rfl) ?_
 by_cases z:kd<7
 ·exact ⟨.it (.mark (lab k)),stR (ifT (opE rfl rfl (ltT z)) (ret rfl)),rfl⟩
 refine Y1 (ifF (opE rfl rfl (ltF z)) rfl) ?_
 by_cases z:kd=7
 ·have q0:0<=n/97%80/\n/97%80<80:=by omega
  have mw:D.mulA (.str wd) (.int 9)=some (.str (YX wd 9)):=QkW ⟨by decide,by decide,lB (by show wd.length*9<=_;omega)⟩
  have ml:(YX wd 9).length=9*wd.length:=QiS wd 9
  have ch:=Qlj (YX wd 9) (1+n/97%80) (by omega)
  have mc:=QfQ (x:=YX wd 9) (lB (by omega)) none (some (1+n/97%80))
  exact ⟨.it (.key (VW (YX wd 9) none (some (1+n/97%80)))),stR (ifT (opE rfl rfl (eqT z)) (ret (QtB rfl (Qig (opE rfl rfl mw) rfl (atE (opE rfl (opE (opE rfl rfl (Vk n (by decide))) rfl (ZH _ (by decide))) rfl)) mc)))),⟨by omega,by omega⟩⟩
 refine Y1 (ifF (opE rfl rfl (eqF z)) rfl) ?_
 by_cases z:kd<12
 ·obtain ⟨m,em,lm⟩:=Qtq (n/291) (show (0:Int)<3 by decide)
  obtain ⟨w2,e2,l2⟩:∃ tx,YD [.int (n/23),.int m,.int 0]=some (.str tx)/\tx.length=m:=⟨_,Qe7 (n/23) 0 m (by omega) (.inl rfl) (by omega),Qb5 _ _ _⟩
  have q0:0<=n/97%3/\n/97%3<3:=by omega
  have ch:=Qlj wd (n/97%3) (by omega)
  have mc:=QfQ hW none (some (n/97%3))
  exact ⟨.it (.ref "" (VW wd none (some (n/97%3))) w2),stR (ifT (opE rfl rfl (ltT z)) (ret (Qov rfl rfl (Qig rfl rfl (atE (opE (opE rfl rfl (Vk n (by decide))) rfl (ZH _ (by decide)))) mc) (Yp (opE rfl rfl (Vk n (by decide))) (opE (opE rfl rfl (Vk n (by decide))) rfl ((ZH _ (by decide)).trans (by rw [em]))) rfl e2)))),⟨rfl,by omega,by omega⟩⟩
 refine Y1 (ifF (opE rfl rfl (ltF z)) rfl) ?_
 by_cases z:kd=12
 ·refine ⟨.it (.word wd ((List.range m).map fun i:Nat=>VW tx (some (0+(i:Int))) none)),stR (ifT (opE rfl rfl (eqT z)) (ret (Qlz rfl rfl ?_))),⟨by omega,by simp;omega,?_⟩⟩
  ·rw [Zq (g:=gS 0) (n:=1) (caps:=[6]) (fun i:Nat=>D.int (0+(i:Int))) (List.range m) (fun e=>∃ v,e=[v,some (.str tx)]) (fun _=>true) (fun i:Nat=>.str (VW tx (some (0+(i:Int))) none)) (by show D.rng (.int mn)=_;rw [em];exact Qbj m (by omega)) (lB (by simp;omega)) ⟨none,rfl⟩ (by
    rintro i hi e ⟨v,rfl⟩
    exact ⟨[some (.int (0+(i:Int))),some (.str tx)],rfl,⟨_,rfl⟩,rfl,fun _=>Qig rfl (atE rfl) rfl (QfQ hS _ _)⟩)]
   rw [Z1]
   unfold QP
   rw [List.map_map];rfl
  ·intro r hr
   obtain ⟨i,_,rfl⟩:=List.mem_map.mp hr
   exact Nat.le_trans (Qi8 _ _ _) (by omega)
 refine Y1 (ifF (opE rfl rfl (eqF z)) rfl) ?_
 exact ⟨.it (.word wd []),ret rfl,⟨by omega,by simp,fun r hr=>by cases hr⟩⟩
theorem VO {α:Type} {f:α->D} {n:Nat} (h:∀ a,(f a).dep<=n):∀ xs:List α,D.depL (xs.map f)<=n
 | []=>by rw [List.map_nil,QY];exact Nat.zero_le _
 | x::xs=>by rw [List.map_cons,QQ];exact Nat.max_le.mpr ⟨h x,VO h xs⟩
theorem Qi3 (xs:List Str):(QP xs).dep<=1:=by
 unfold QP
 rw [Jd]
 exact Nat.succ_le_succ (VO (fun a=>by rw [QB];exact Nat.zero_le _) xs)
theorem Qm8 (i:It):i.d.dep<=2:=by
 cases i with
 | word w ns=>have:=Qi3 ns;simp only [It.d,Q9,QQ,QY,QB];omega
 | _=>simp [Q9,QQ,QY,QB]
theorem Qre (is:List It):(D.lst (is.map It.d)).dep<=3:=by rw [Jd];exact Nat.succ_le_succ (VO Qm8 is)
theorem Qm9 (b:Bk):b.d.dep<=4:=by
 cases b with
 | para is=>have:=Qre is;simp only [Bk.d,Q9,QQ,QY,QB];omega
 | table rs l=>have:=Qi3 rs;simp only [Bk.d,Q9,QQ,QY,QB];omega
 | _=>simp [Q9,QQ,QY,QB,Qy]
theorem Qlf (bs:List Bk):(bks bs).dep<=5:=by unfold bks;rw [Jd];exact Nat.succ_le_succ (VO Qm9 bs)
theorem Qm7 (x:D) (xs:List D):D.eqL (x::xs) []=some false:=by rw [D.eqL];all_goals simp
theorem Qto {α:Type} {f:α->D} {n:Nat} (h:∀ a,(f a).dep<=n) (hn:n<=39) (xs:List α):D.eqO (.lst (xs.map f)) (.lst [])=some (.bl xs.isEmpty):=by
 unfold D.eqO
 rw [if_pos (by rw [Jd];have:=VO h xs;omega),JS]
 cases xs with
 | nil=>rw [List.map_nil,Jn];rfl
 | cons x xs=>rw [List.map_cons,Qm7];rfl
theorem Qh7 {α:Type} {f:α->D} {n:Nat} (h:∀ a,(f a).dep<=n) (hn:n<=39) (xs:List α):D.neO (.lst (xs.map f)) (.lst [])=some (.bl (!xs.isEmpty)):=by
 unfold D.neO
 rw [if_pos (by rw [Jd];have:=VO h xs;omega),JS]
 cases xs with
 | nil=>rw [List.map_nil,Jn];rfl
 | cons x xs=>rw [List.map_cons,Qm7];rfl
theorem Qbz {α:Type} {f:α->D} {xs:List α} (x:α) (h:xs.length<lI):D.app (.lst (xs.map f)) (f x)=some (.lst ((xs++[x]).map f)):=by
 show (if (xs.map f).length<lI then some (D.lst (xs.map f++[f x])) else none)=_
 rw [if_pos (by rw [List.length_map];exact h),List.map_append];rfl
theorem Qsx (l:List D) (x:D):D.ix (.lst (l++[x])) (.int (-1))=some x:=by
 show (ixD (l++[x]).length (-1)).bind (fun k=>(l++[x])[k]?)=_
 have:ixD (l++[x]).length (-1)=some l.length:=by
  unfold ixD
  rw [if_neg (by decide),if_pos (by simp only [List.length_append,List.length_cons,List.length_nil];omega),List.length_append]
  congr 1
  show ((-1:Int)+((l.length+1:Nat):Int)).toNat=_
  omega
 rw [this]
 show (l++[x])[l.length]?=_
 simp
theorem QbQ {α:Type} (f:α->D):∀ (xs:List α) (n:Nat),Vl n (xs.map f)=(xs.zipIdx n).map fun p=>D.tup [.int p.2,f p.1]
 | [],n=>rfl
 | x::xs,n=>by
  show D.tup [.int n,f x]::Vl (n+1) (xs.map f)=_
  rw [QbQ f xs (n+1),List.zipIdx_cons,List.map_cons]
theorem ZJ {a:Nat} (h:a<=1000000):a<lI:=Nat.lt_of_le_of_lt h (by decide)
def Jy:At->List Str
 | .it (.mark l)=>[l]
 | .bk (.chapter _ l)=>if l="" then [] else [l]
 | .bk (.heading _ _ l)=>if l="" then [] else [l]
 | .bk (.table _ l)=>if l="" then [] else [l]
 | .bk (.plates _ l)=>if l="" then [] else [l]
 | _=>[]
theorem Qmm (a:At):(Jy a).length<=1:=by
 unfold Jy
 split<;>first | (split<;>simp) | simp
def ZX (as:List At):List Str:=as.flatMap Jy
theorem QiW (as:List At):(ZX as).length<=as.length:=by
 induction as with
 | nil=>exact Nat.le_refl _
 | cons a as ih =>
  show ((a::as).flatMap Jy).length<=_
  rw [List.flatMap_cons,List.length_append,List.length_cons]
  have:=Qmm a
  have:(as.flatMap Jy).length<=as.length:=ih
  omega
theorem QnU (as:List At) (i:Nat) (hi:i<as.length):ZX (as.take (i+1))=ZX (as.take i)++Jy as[i]:=by
 unfold ZX
 rw [List.take_succ_eq_append_getElem hi,List.flatMap_append]
 simp
def pt (ls:List Str) (cs:List Int) (i:Nat):At->At
 | .it (.ref l a b)=>if ls=[] then .it (.word "lost" []) else .it (.ref (ls.getD (mix (cs.getD i 0) (i+90)%ls.length).toNat "") a b)
 | a=>a
def Jj (cs:List Int) (as:List At):List At:=as.mapIdx fun i a=>pt (ZX as) cs i a
def AtS:At->Prop
 | .bk (.para _)=>False
 | .fin=>False
 | _=>True
theorem Qe2 {α:Type} {f:α->D} (xs:List α) (i:Int) (d:α) (h:0<=i) (h':i<xs.length):D.ix (.lst (xs.map f)) (.int i)=some (f (xs.getD i.toNat d)):=by
 show (ixD (xs.map f).length i).bind (fun k=>(xs.map f)[k]?)=_
 unfold ixD
 rw [if_pos h,if_pos (by rw [List.length_map];exact h')]
 show (xs.map f)[i.toNat]?=_
 rw [List.getElem?_map,List.getD_eq_getElem?_getD,List.getElem?_eq_getElem (by omega)]
 rfl
theorem Qrq {xs:List Str} (x:Str) (h:xs.length<lI):D.app (QP xs) (.str x)=some (QP (xs++[x])):=Qbz (f:=D.str) x h
theorem YS (xs:List Str):D.len (QP xs)=some (.int xs.length):=by
 show some (D.int (xs.map D.str).length)=_
 rw [List.length_map]
theorem QsC (xs:List Str):D.eqO (QP xs) (.lst [])=some (.bl xs.isEmpty):=Qto (f:=D.str) (n:=0) (fun a=>by rw [QB];exact Nat.le_refl _) (by decide) xs
theorem Qsv (xs:List Str) (i:Int) (h:0<=i) (h':i<xs.length):D.ix (QP xs) (.int i)=some (.str (xs.getD i.toNat "")):=Qe2 (f:=D.str) xs i "" h h'
theorem Qma (as:List At) (cs:List Int) (hl:as.length=cs.length) (h58:as.length<=100) (hs:∀ a∈as,AtS a):Qbg [.lst (as.map At.d),.lst (cs.map .int)]=some (.lst ((Jj cs as).map At.d)):=by
 unfold Qbg QdI
 refine stD rfl ?_
 refine st (e1:=[some (.lst (as.map At.d)),some (.lst (cs.map .int)),some (QP []),none,none,none,none]) (by simp [sD,sQ,sIf,Qk,Qd,sNx,gS,eV,eC,eOp,eUn,Q1,QG,eOr,Qn,Qo,eK,lN,lC,D.lt,D.sub,D.eqO,D.cmp,Qq,QM,QS,Qy,QB,QD,QK,QI,QP]) ?_
 refine QaH At.d as (fun i e=>∃ v,e=[some (.lst (as.map At.d)),some (.lst (cs.map .int)),some (QP (ZX (as.take i))),v,none,none,none]) rfl ⟨none,rfl⟩ ?_ ?_
 ·rintro i hi e ⟨v,rfl⟩
  have hb:(ZX (as.take i)).length<lI:=ZJ (Nat.le_trans (QiW _) (by rw [List.length_take];omega))
  have ha:=hs as[i] (List.getElem_mem hi)
  rw [QnU as i hi]
  have ap:=fun x=>Qrq x hb
  generalize as[i]=a at *
  generalize ZX (as.take i)=ls at *
  refine ⟨_,.inl ?_,some a.d,rfl⟩
  refine bnd (e1:=[some (.lst (as.map At.d)),some (.lst (cs.map .int)),some (QP ls),some a.d,none,none,none]) rfl ?_
  have neS:∀ x y:Str,D.neO (.str x) (.str y)=some (.bl (decide (x≠y))):=fun x y=>by by_cases h:x=y<;>simp [D.neO,QB,QK,D.cmpN,h]
  have bkS:∀ (d:D) (t l:Str),D.ix d (.int 0)=some (.str t)->D.ix d (.int (-1))=some (.str l)->t≠"mark"->D.notInO (.str t) (.lst [.str "break",.str "word",.str "key",.str "ref"])=some (.bl true)->sIf (eOp D.eqO (eOp D.ix (eV 3) (eC (.int 0))) (eC (.str "mark"))) (sP 2 (eOp D.ix (eV 3) (eC (.int 1)))) (sIf (QG (eOp D.notInO (eOp D.ix (eV 3) (eC (.int 0))) (Qo (lC (eC (.str "break")) (lC (eC (.str "word")) (lC (eC (.str "key")) (lC (eC (.str "ref")) lN)))))) (eOp D.neO (eOp D.ix (eV 3) (eUn D.neg (eC (.int 1)))) (eC (.str "")))) (sP 2 (eOp D.ix (eV 3) (eUn D.neg (eC (.int 1))))) (sNx)) [some (.lst (as.map At.d)),some (.lst (cs.map .int)),some (QP ls),some d,none,none,none]=some (.nx [some (.lst (as.map At.d)),some (.lst (cs.map .int)),some (QP (ls++if l="" then [] else [l])),some d,none,none,none]):=by
   intro d t l h0 h1 hm h4
   refine ifF (opE (opE rfl rfl h0) rfl (by rw [eqS,decide_eq_false hm])) ?_
   by_cases z:l=""
   ·rw [if_pos z,List.append_nil]
    exact ifF (J9 (opE (opE rfl rfl h0) rfl h4) (opE (opE rfl (unE rfl rfl) h1) rfl (by rw [neS,decide_eq_false (fun q=>q z)]))) rfl
   ·rw [if_neg z]
    exact ifT (J9 (opE (opE rfl rfl h0) rfl h4) (opE (opE rfl (unE rfl rfl) h1) rfl (by rw [neS,decide_eq_true z]))) (VJ rfl (opE rfl (unE rfl rfl) h1) (ap l))
  have noS:∀ (d:D) (t:Str),D.ix d (.int 0)=some (.str t)->t≠"mark"->D.notInO (.str t) (.lst [.str "break",.str "word",.str "key",.str "ref"])=some (.bl false)->sIf (eOp D.eqO (eOp D.ix (eV 3) (eC (.int 0))) (eC (.str "mark"))) (sP 2 (eOp D.ix (eV 3) (eC (.int 1)))) (sIf (QG (eOp D.notInO (eOp D.ix (eV 3) (eC (.int 0))) (Qo (lC (eC (.str "break")) (lC (eC (.str "word")) (lC (eC (.str "key")) (lC (eC (.str "ref")) lN)))))) (eOp D.neO (eOp D.ix (eV 3) (eUn D.neg (eC (.int 1)))) (eC (.str "")))) (sP 2 (eOp D.ix (eV 3) (eUn D.neg (eC (.int 1))))) (sNx)) [some (.lst (as.map At.d)),some (.lst (cs.map .int)),some (QP ls),some d,none,none,none]=some (.nx [some (.lst (as.map At.d)),some (.lst (cs.map .int)),some (QP (ls++[])),some d,none,none,none]):=by
   intro d t h0 hm h4
   rw [List.append_nil]
   exact ifF (opE (opE rfl rfl h0) rfl (by rw [eqS,decide_eq_false hm])) (ifF (ZI (opE (opE rfl rfl h0) rfl h4)) rfl)
  cases a with
  | bk b=>cases b with
   | para is=>exact ha.elim
   | chapter t l=>exact bkS _ "chapter" l rfl rfl (by simp) (by rfl)
   | heading t n l=>exact bkS _ "heading" l rfl rfl (by simp) (by rfl)
   | table rs l=>exact bkS _ "table" l rfl rfl (by simp) (by rfl)
   | plates n l=>exact bkS _ "plates" l rfl rfl (by simp) (by rfl)
  | it x=>cases x with
   | mark l=>exact ifT (opE (opE (x:=(It.mark l).d) rfl rfl rfl) rfl (by rw [eqS];simp)) (VJ rfl (opE (x:=(It.mark l).d) rfl rfl rfl) (ap l))
   | word w ns=>exact noS _ "word" rfl (by simp) (by rfl)
   | key w=>exact noS _ "key" rfl (by simp) (by rfl)
   | ref l a b=>exact noS _ "ref" rfl (by simp) (by rfl)
  | brk=>exact noS _ "break" rfl (by simp) (by rfl)
  | fin=>exact ha.elim
 ·rintro e ⟨v,rfl⟩
  rw [List.take_length]
  have hb:(ZX as).length<=as.length:=QiW as
  have pdef:∀ i (hi:i<as.length) (hp:i<(Jj cs as).length),(Jj cs as)[i]=pt (ZX as) cs i as[i]:=by
   intro i hi hp
   simp only [Jj,List.getElem_mapIdx]
  have plen:(Jj cs as).length=as.length:=by unfold Jj;simp
  generalize Jj cs as=ps at *
  generalize ZX as=ls at *
  refine st (e1:=[some (.lst (as.map At.d)),some (.lst (cs.map .int)),some (QP ls),v,some (.lst []),none,none]) (by simp [sD,sQ,sIf,Qk,Qd,sNx,gS,eV,eC,eOp,eUn,Q1,QG,eOr,Qn,Qo,eK,lN,lC,D.lt,D.sub,D.eqO,D.cmp,Qq,QM,QS,Qy,QB,QD,QK,QI]) ?_
  refine QaH (fun p:At×Nat=>D.tup [.int p.2,p.1.d]) as.zipIdx (fun i e=>∃ v w x,e=[some (.lst (as.map At.d)),some (.lst (cs.map .int)),some (QP ls),v,some (.lst ((ps.take i).map At.d)),w,x]) (by show some (Vl 0 (as.map At.d))=_;rw [QbQ]) ⟨v,none,none,rfl⟩ ?_ ?_
  ·rintro i hi e ⟨v,w,x,rfl⟩
   have hi':i<as.length:=by simpa using hi
   have hip:i<ps.length:=by omega
   have ei:as.zipIdx[i]=(as[i],i):=by simp
   rw [ei,List.take_succ_eq_append_getElem hip,pdef i hi' hip]
   have ap:∀ x:At,D.app (.lst ((ps.take i).map At.d)) x.d=some (.lst ((ps.take i++[x]).map At.d)):=fun x=>Qbz x (ZJ (by rw [List.length_take];omega))
   have mx:∃ m:Int,mix (cs.getD i 0) ((i:Int)+90)=m/\ZE [.int (cs.getD i 0),.int ((i:Int)+90)]=some (.int m)/\0<=m:=⟨_,rfl,QaT _ _ (by omega) (by omega),Qiq _ _⟩
   have cx:D.ix (.lst (cs.map .int)) (.int i)=some (.int (cs.getD i 0)):=Qe2 (f:=D.int) cs i 0 (by omega) (by omega)
   have ha:=hs as[i] (List.getElem_mem hi')
   obtain ⟨m,em,mm,m0⟩:=mx
   have hp:∀ l a b,pt ls cs i (.it (.ref l a b))=if ls=[] then .it (.word "lost" []) else .it (.ref (ls.getD (m%ls.length).toNat "") a b):=by intro l a b;rw [<- em];rfl
   have i90:(i:Int)+90=(i:Int)+90:=rfl
   generalize hq:pt ls cs i as[i]=q
   generalize as[i]=a at *
   generalize cs.getD i 0=c at *
   generalize ps.take i=qs at *
   obtain ⟨j,ej⟩:∃ j:Int,(i:Int)=j:=⟨_,rfl⟩
   rw [ej] at mm cx
   simp only []
   rw [ej]
   have oth:∀ (d z:D) (t:Str),D.ix d (.int 0)=some (.str t)->t≠"ref"->D.app (.lst (qs.map At.d)) d=some z->sIf (QG (eOp D.eqO (eOp D.ix (eV 3) (eC (.int 0))) (eC (.str "ref"))) (eOp D.eqO (eV 2) (Qo (lN)))) (sP 4 (Qn (lC (eC (.str "word")) (lC (eC (.str "lost")) (lC (Qo (lN)) lN))))) (sIf (eOp D.eqO (eOp D.ix (eV 3) (eC (.int 0))) (eC (.str "ref"))) (sQ (Qd (eOp D.ix (eV 2) (eOp D.mod (eK ZE (lC (eOp D.ix (eV 1) (eV 5)) (lC (eOp D.add (eV 5) (eC (.int 90))) lN))) (eUn D.len (eV 2)))) (gS 6)) (sP 4 (Qn (lC (eC (.str "ref")) (lC (eV 6) (lC (eOp D.ix (eV 3) (eC (.int 2))) (lC (eOp D.ix (eV 3) (eC (.int 3))) lN))))))) (sP 4 (eV 3))) [some (.lst (as.map At.d)),some (.lst (cs.map .int)),some (QP ls),some d,some (.lst (qs.map At.d)),some (.int j),x]=some (.nx [some (.lst (as.map At.d)),some (.lst (cs.map .int)),some (QP ls),some d,some z,some (.int j),x]):=by
    intro d z t h0 hm hz
    exact ifF (ZI (opE (opE rfl rfl h0) rfl (by rw [eqS,decide_eq_false hm]))) (ifF (opE (opE rfl rfl h0) rfl (by rw [eqS,decide_eq_false hm])) (VJ rfl rfl hz))
   cases a with
   | it y=>cases y with
    | ref l a b =>
     have es:D.eqO (.str (Str.ofString "ref")) (.str (Str.ofString "ref"))=some (.bl true):=by rw [eqS];simp
     have t0:D.ix (It.ref l a b).d (.int 0)=some (.str "ref"):=rfl
     have eq:=QsC ls
     rw [hp] at hq
     cases ls with
     | nil =>
      rw [if_pos rfl] at hq
      subst hq
      exact ⟨_,.inl (bnd rfl (ifT (J9 (opE (opE rfl rfl t0) rfl es) (opE rfl rfl eq)) (VJ rfl rfl (ap (.it (.word "lost" [])))))),some (It.ref l a b).d,some (.int j),x,rfl⟩
     | cons l0 ls =>
      rw [if_neg (by simp)] at hq
      subst hq
      have hn:(0:Int)<((l0::ls).length:Int):=by simp only [List.length_cons];omega
      have md:D.mod (.int m) (.int ((l0::ls).length:Int))=some (.int (m%((l0::ls).length:Int))):=VE hn
      have ixl:=Qsv (l0::ls) (m%((l0::ls).length:Int)) (Int.emod_nonneg _ (by omega)) (Int.emod_lt_of_pos _ hn)
      have ln:=YS (l0::ls)
      have ap':=ap (.it (.ref ((l0::ls).getD (m%((l0::ls).length:Int)).toNat "") a b))
      generalize (l0::ls).getD (m%((l0::ls).length:Int)).toNat ""=lx at *
      generalize m%((l0::ls).length:Int)=mi at *
      generalize ((l0::ls).length:Int)=ll at *
      have ie:(l0::ls).isEmpty=false:=rfl
      rw [ie] at eq
      generalize QP (l0::ls)=LS at *
      refine ⟨_,.inl ?_,some (It.ref l a b).d,some (.int j),some (.str lx),rfl⟩
      refine bnd (e1:=[some (.lst (as.map At.d)),some (.lst (cs.map .int)),some LS,some (It.ref l a b).d,some (.lst (qs.map At.d)),some (.int j),x]) rfl ?_
      refine ifF (J9 (opE (opE rfl rfl t0) rfl es) (opE rfl rfl eq)) (ifT (opE (opE rfl rfl t0) rfl es) ?_)
      refine st (e1:=[some (.lst (as.map At.d)),some (.lst (cs.map .int)),some LS,some (It.ref l a b).d,some (.lst (qs.map At.d)),some (.int j),some (.str lx)]) (asg (opE rfl (opE (ZF (opE rfl rfl cx) (opE rfl rfl rfl) mm) (unE rfl ln) md) ixl) rfl) ?_
      exact VJ rfl (Qov rfl rfl (opE (x:=(It.ref l a b).d) rfl rfl rfl) (opE (x:=(It.ref l a b).d) rfl rfl rfl)) ap'
    | word w ns=>subst hq;exact ⟨_,.inl (bnd rfl (oth _ _ "word" rfl (by simp) (ap (.it (.word w ns))))),some (It.word w ns).d,some (.int j),x,rfl⟩
    | mark l=>subst hq;exact ⟨_,.inl (bnd rfl (oth _ _ "mark" rfl (by simp) (ap (.it (.mark l))))),some (It.mark l).d,some (.int j),x,rfl⟩
    | key l=>subst hq;exact ⟨_,.inl (bnd rfl (oth _ _ "key" rfl (by simp) (ap (.it (.key l))))),some (It.key l).d,some (.int j),x,rfl⟩
   | bk b =>
    have hq':q=.bk b:=hq.symm
    subst hq'
    refine ⟨_,.inl (bnd rfl ?_),some b.d,some (.int j),x,rfl⟩
    cases b with
    | para is=>exact ha.elim
    | chapter t l=>exact oth _ _ "chapter" rfl (by simp) (ap (.bk (.chapter t l)))
    | heading t k l=>exact oth _ _ "heading" rfl (by simp) (ap (.bk (.heading t k l)))
    | table t l=>exact oth _ _ "table" rfl (by simp) (ap (.bk (.table t l)))
    | plates t l=>exact oth _ _ "plates" rfl (by simp) (ap (.bk (.plates t l)))
   | brk =>
    have hq':q=.brk:=hq.symm
    subst hq'
    exact ⟨_,.inl (bnd rfl (oth _ _ "break" rfl (by simp) (ap .brk))),some At.brk.d,some (.int j),x,rfl⟩
   | fin=>exact ha.elim
  ·rintro e ⟨v,w,x,rfl⟩
   have:as.zipIdx.length=ps.length:=by simp [plen]
   rw [this,List.take_length]
   exact ret rfl
def isMK:It->Bool
 | .mark _=>true
 | .key _=>true
 | _=>false
def Qp (row:List It):List It:=match row.getLast? with
 | some x=>if isMK x then row++[.word "end" []] else row
 | none=>row
def JI:List Bk×List It->At->List Bk×List It
 | (bs,row),.it i=>(bs,row++[i])
 | (bs,row),.bk b=>((if Qp row=[] then bs else bs++[.para (Qp row)])++[b],[])
 | (bs,row),.brk=>(bs++[.para (Qp row)],[])
 | (bs,row),.fin=>(if Qp row=[] then bs else bs++[.para (Qp row)],[])
def grp (as:List At):List Bk×List It:=as.foldl JI ([],[])
theorem QjV (row:List It):(Qp row).length<=row.length+1:=by
 unfold Qp
 split
 ·split
  ·simp
  ·omega
 ·omega
theorem Qk6 (as:List At):∀ s:List Bk×List It,(as.foldl JI s).1.length<=s.1.length+2*as.length/\(as.foldl JI s).2.length<=s.2.length+as.length:=by
 induction as with
 | nil=>intro s;simp
 | cons a as ih =>
  intro s
  obtain ⟨h1,h2⟩:=ih (JI s a)
  rw [List.foldl_cons,List.length_cons]
  have:(JI s a).1.length<=s.1.length+2/\(JI s a).2.length<=s.2.length+1:=by
   obtain ⟨bs,row⟩:=s
   cases a with
   | it i=>simp [JI]
   | bk b=>simp only [JI];split<;>simp
   | brk=>simp [JI]
   | fin=>simp only [JI];split<;>simp
  omega
theorem Qpu (as:List At) (i:Nat) (hi:i<as.length):grp (as.take (i+1))=JI (grp (as.take i)) as[i]:=by
 unfold grp
 rw [List.take_succ_eq_append_getElem hi,List.foldl_append]
 rfl
theorem QmT (row:List It):row=[]\/∃ r x,row=r++[x]:=by
 rcases List.eq_nil_or_concat row with h | ⟨r,x,h⟩
 ·exact .inl h
 ·exact .inr ⟨r,x,by rw [h,List.concat_eq_append]⟩
theorem Qp2 (is:List It):D.neO (.lst (is.map It.d)) (.lst [])=some (.bl (!is.isEmpty)):=Qh7 Qm8 (by decide) is
theorem QiB {is:List It} (x:It) (h:is.length<lI):D.app (.lst (is.map It.d)) x.d=some (.lst ((is++[x]).map It.d)):=Qbz x h
theorem QiC {is:List Bk} (x:Bk) (h:is.length<lI):D.app (bks is) x.d=some (bks (is++[x])):=Qbz (f:=Bk.d) x h
theorem Qfm (A:Option D) (bs:Option D) (row:List It) (h:row.length<lI) (d:D) :
  (sIf (QG (eOp D.neO (eV 2) (Qo (lN))) (eOp D.inO (eOp D.ix (eOp D.ix (eV 2) (eUn D.neg (eC (.int 1)))) (eC (.int 0))) (Qo (lC (eC (.str "mark")) (lC (eC (.str "key")) lN))))) (sP 2 (Qn (lC (eC (.str "word")) (lC (eC (.str "end")) (lC (Qo (lN)) lN))))) (sNx)) [A,bs,some (.lst (row.map It.d)),some d]=some (.nx [A,bs,some (.lst ((Qp row).map It.d)),some d]):=by
 have ne:=Qp2 row
 have ap:=QiB (.word "end" []) h
 simp only [It.d,QP,List.map_nil] at ap
 rcases QmT row with z | ⟨r,x,z⟩
 ·subst z
  simp only [List.map_nil] at ne
  simp [sIf,QG,eOp,eV,Qo,lN,ne,Qq,sNx,Qp]
 ·have il:D.ix (.lst (row.map It.d)) (.int (-1))=some x.d:=by rw [z,List.map_append];exact Qsx _ _
  have ie:row.isEmpty=false:=by rw [z];simp
  have cl:Qp row=if isMK x then row++[.word "end" []] else row:=by unfold Qp;rw [z];simp
  rw [ie] at ne
  rw [cl]
  have i0:∃ t:Str,D.ix x.d (.int 0)=some (.str t)/\D.inO (.str t) (.lst [.str (Str.ofString "mark"),.str (Str.ofString "key")])=some (.bl (isMK x)):=by
   cases x<;>exact ⟨_,rfl,by simp [D.inO,J7,inD,QK,isMK]⟩
  obtain ⟨t,i0,i1⟩:=i0
  generalize (row++[It.word "end" []])=row2 at *
  generalize It.d x=X at *
  cases q:isMK x with
  | true =>
   rw [q] at i1
   rw [if_pos rfl]
   generalize row2.map It.d=R2 at *
   generalize row.map It.d=R at *
   simp [sIf,QG,eOp,eV,Qo,lN,lC,eC,eUn,D.neg,ne,il,i0,i1,Qq,sP,Qn,ap]
  | false =>
   rw [q] at i1
   rw [if_neg (by decide)]
   generalize row.map It.d=R at *
   simp [sIf,QG,eOp,eV,Qo,lN,lC,eC,eUn,D.neg,ne,il,i0,i1,Qq,sNx]
theorem QgK (A:D) (bs:List Bk) (row:List It) (h:bs.length<lI) (d:D) (t:Str) (ht:D.ix d (.int 0)=some (.str t)) :
  (sIf (eOr (eOp D.neO (eV 2) (Qo (lN))) (eOp D.eqO (eOp D.ix (eV 3) (eC (.int 0))) (eC (.str "break")))) (sP 1 (Qn (lC (eC (.str "para")) (lC (eV 2) lN)))) (sNx)) [some A,some (bks bs),some (.lst (row.map It.d)),some d]=some (.nx [some A,some (bks (if row=[]/\t≠"break" then bs else bs++[.para row])),some (.lst (row.map It.d)),some d]):=by
 have ne:=Qp2 row
 have ap:=QiC (.para row) h
 simp only [Bk.d] at ap
 have eb:D.eqO (.str t) (.str (Str.ofString "break"))=some (.bl (decide (t=Str.ofString "break"))):=by simp [D.eqO,QB,QK,D.cmp]
 cases q:row.isEmpty with
 | true =>
  have z:row=[]:=List.isEmpty_iff.mp q
  rw [q] at ne
  subst z
  simp only [List.map_nil] at ne ap
  by_cases w:t=Str.ofString "break"
  ·rw [if_neg (by simp [w])]
   rw [w] at eb ht
   generalize bks bs=B at *
   generalize bks (bs++_)=B2 at *
   simp [sIf,eOr,eOp,eV,Qo,lN,lC,eC,ne,ht,eb,Qq,sP,Qn,ap]
  ·rw [if_pos ⟨rfl,w⟩]
   simp [sIf,eOr,eOp,eV,Qo,lN,lC,eC,ne,ht,eb,w,Qq,sNx]
 | false =>
  have z:row≠[]:=fun z=>by rw [z] at q;cases q
  rw [q] at ne
  rw [if_neg (by simp [z])]
  generalize bks bs=B at *
  generalize bks (bs++_)=B2 at *
  generalize row.map It.d=R at *
  simp [sIf,eOr,eOp,eV,Qo,lN,lC,eC,ne,Qq,sP,Qn,ap]
theorem Qmo (as:List At) (h100:as.length<=100) (hs:∀ a∈as,AtS a):YL [.lst (as.map At.d)]=some (bks (grp (as++[.fin])).1):=by
 have key:∀ xs:List At,xs.length<=101->(∀ a∈xs,AtS a\/a=.fin)->D.add (.lst (as.map At.d)) (.lst [At.fin.d])=some (.lst (xs.map At.d))->YL [.lst (as.map At.d)]=some (bks (grp xs).1):=by
  intro xs hx ha hadd
  unfold YL QdJ
  refine stD rfl ?_
  refine st (e1:=[some (.lst (as.map At.d)),some (bks []),none,none]) (by simp [sD,sQ,sIf,Qk,Qd,sNx,gS,eV,eC,eOp,eUn,Q1,QG,eOr,Qn,Qo,eK,lN,lC,D.lt,D.sub,D.eqO,D.cmp,Qq,QM,QS,Qy,QB,QD,QK,QI,bks]) ?_
  refine st (e1:=[some (.lst (as.map At.d)),some (bks []),some (.lst []),none]) (by simp [sD,sQ,sIf,Qk,Qd,sNx,gS,eV,eC,eOp,eUn,Q1,QG,eOr,Qn,Qo,eK,lN,lC,D.lt,D.sub,D.eqO,D.cmp,Qq,QM,QS,Qy,QB,QD,QK,QI]) ?_
  refine QaH At.d xs (fun i e=>∃ v,e=[some (.lst (as.map At.d)),some (bks (grp (xs.take i)).1),some (.lst ((grp (xs.take i)).2.map It.d)),v]) ?_ ⟨none,rfl⟩ ?_ ?_
  ·simp only [At.d] at hadd
   simp [QW,eOp,eV,Qo,Qn,lC,lN,eC,hadd,D.its]
  ·rintro i hi e ⟨v,rfl⟩
   rw [Qpu xs i hi]
   have hl:=Qk6 (xs.take i) ([],[])
   have hb:(grp (xs.take i)).1.length<lI:=ZJ (by have:=hl.1;unfold grp;simp at this;omega)
   have hr:(grp (xs.take i)).2.length<lI:=ZJ (by have:=hl.2;unfold grp;simp at this;omega)
   have hx1:(grp (xs.take i)).1.length+1<lI:=ZJ (by have:=hl.1;unfold grp;simp at this;omega)
   have hAt:=ha xs[i] (List.getElem_mem hi)
   generalize xs[i]=a at *
   generalize grp (xs.take i)=s at *
   obtain ⟨bs,row⟩:=s
   generalize D.lst (as.map At.d)=AS at *
   simp only [] at hb hr hx1 ⊢
   cases a with
   | it x =>
    have ap:=QiB x hr
    refine ⟨[some AS,some (bks bs),some (.lst ((row++[x]).map It.d)),some x.d],.inr ?_,some x.d,rfl⟩
    refine bnd (e1:=[some AS,some (bks bs),some (.lst (row.map It.d)),some x.d]) rfl ?_
    have i0:∃ t:Str,D.ix x.d (.int 0)=some (.str t)/\D.inO (.str t) (.lst [.str (Str.ofString "mark"),.str (Str.ofString "key"),.str (Str.ofString "ref"),.str (Str.ofString "word")])=some (.bl true):=by
     cases x<;>exact ⟨_,rfl,by simp [D.inO,J7,inD,QK]⟩
    obtain ⟨t,i0,i1⟩:=i0
    refine stC ?_
    generalize It.d x=X at *
    generalize (row++[x]).map It.d=R2 at *
    generalize row.map It.d=R at *
    simp [sIf,eOp,eV,Qo,lN,lC,eC,i0,i1,Qq,sQ,sP,ap,QM,ZM]
   | bk b =>
    have i0:∃ t:Str,D.ix b.d (.int 0)=some (.str t)/\D.inO (.str t) (.lst [.str (Str.ofString "mark"),.str (Str.ofString "key"),.str (Str.ofString "ref"),.str (Str.ofString "word")])=some (.bl false)/\D.notInO (.str t) (.lst [.str (Str.ofString "break"),.str (Str.ofString "end")])=some (.bl true)/\t≠Str.ofString "break":=by
     cases b<;>exact ⟨_,rfl,by simp [D.inO,J7,inD,QK],by simp [D.notInO,J7,inD,QK],by simp⟩
    obtain ⟨t,i0,i1,i2,i3⟩:=i0
    have pa:=QgK AS bs (Qp row) hb b.d t i0
    have gs:JI (bs,row) (.bk b)=((if Qp row=[]/\t≠Str.ofString "break" then bs else bs++[.para (Qp row)])++[b],[]):=by
     show ((if Qp row=[] then bs else bs++[.para (Qp row)])++[b],[])=_
     by_cases w:Qp row=[]
     ·rw [if_pos w,if_pos ⟨w,i3⟩]
     ·rw [if_neg w,if_neg (by simp [w])]
    rw [gs]
    have hl2:(if Qp row=[]/\t≠Str.ofString "break" then bs else bs++[.para (Qp row)]).length<lI:=by
     split
     ·exact hb
     ·rw [List.length_append];exact hx1
    generalize (if Qp row=[]/\t≠Str.ofString "break" then bs else bs++[.para (Qp row)])=bs2 at *
    have ap:=QiC b hl2
    refine ⟨[some AS,some (bks (bs2++[b])),some (.lst []),some b.d],.inl ?_,some b.d,rfl⟩
    refine bnd (e1:=[some AS,some (bks bs),some (.lst (row.map It.d)),some b.d]) rfl ?_
    refine st (e1:=[some AS,some (bks bs),some (.lst (row.map It.d)),some b.d]) ?_ ?_
    ·generalize Bk.d b=X at *
     simp [sIf,eOp,eV,Qo,lN,lC,eC,i0,i1,Qq,sNx]
    refine st (Qfm (some AS) (some (bks bs)) row hr b.d) ?_
    refine st pa ?_
    refine st (e1:=[some AS,some (bks bs2),some (.lst []),some b.d]) rfl ?_
    generalize Bk.d b=X at *
    generalize bks bs2=B at *
    generalize bks (bs2++_)=B2 at *
    simp [sIf,eOp,eV,Qo,lN,lC,eC,i0,i2,Qq,sP,ap]
   | brk =>
    have pa:=QgK AS bs (Qp row) hb At.brk.d (Str.ofString "break") rfl
    rw [if_neg (by simp)] at pa
    refine ⟨[some AS,some (bks (bs++[.para (Qp row)])),some (.lst []),some At.brk.d],.inl ?_,some At.brk.d,rfl⟩
    refine bnd (e1:=[some AS,some (bks bs),some (.lst (row.map It.d)),some At.brk.d]) rfl ?_
    refine st (e1:=[some AS,some (bks bs),some (.lst (row.map It.d)),some At.brk.d]) (by simp [sIf,eOp,eV,Qo,lN,lC,eC,D.ix,ixD,Qq,sNx,D.inO,J7,inD,QK]) ?_
    refine st (Qfm (some AS) (some (bks bs)) row hr At.brk.d) ?_
    refine st pa ?_
    refine st (e1:=[some AS,some (bks (bs++[.para (Qp row)])),some (.lst []),some At.brk.d]) rfl ?_
    simp [sIf,eOp,eV,Qo,lN,lC,eC,D.ix,ixD,Qq,sNx,D.notInO,J7,inD,QK]
   | fin =>
    have pa:=QgK AS bs (Qp row) hb At.fin.d (Str.ofString "end") rfl
    have gs:JI (bs,row) .fin=((if Qp row=[]/\Str.ofString "end"≠Str.ofString "break" then bs else bs++[.para (Qp row)]),[]):=by
     show (if Qp row=[] then bs else bs++[.para (Qp row)],[])=_
     by_cases w:Qp row=[]
     ·rw [if_pos w,if_pos ⟨w,by simp⟩]
     ·rw [if_neg w,if_neg (by simp [w])]
    rw [gs]
    generalize (if Qp row=[]/\Str.ofString "end"≠Str.ofString "break" then bs else bs++[.para (Qp row)])=bs2 at *
    refine ⟨[some AS,some (bks bs2),some (.lst []),some At.fin.d],.inl ?_,some At.fin.d,rfl⟩
    refine bnd (e1:=[some AS,some (bks bs),some (.lst (row.map It.d)),some At.fin.d]) rfl ?_
    refine st (e1:=[some AS,some (bks bs),some (.lst (row.map It.d)),some At.fin.d]) (by simp [sIf,eOp,eV,Qo,lN,lC,eC,D.ix,ixD,Qq,sNx,D.inO,J7,inD,QK]) ?_
    refine st (Qfm (some AS) (some (bks bs)) row hr At.fin.d) ?_
    refine st pa ?_
    refine st (e1:=[some AS,some (bks bs2),some (.lst []),some At.fin.d]) rfl ?_
    simp [sIf,eOp,eV,Qo,lN,lC,eC,D.ix,ixD,Qq,sNx,D.notInO,J7,inD,QK]
  ·rintro e ⟨v,rfl⟩
   rw [List.take_length]
   exact ret rfl
 refine key (as++[.fin]) (by simp;omega) (fun a h=>?_) ?_
 ·rcases List.mem_append.mp h with z | z
  ·exact .inl (hs a z)
  ·exact .inr (by simpa using z)
 ·show (if (as.map At.d).length+1<=lI then _ else _)=_
  rw [if_pos (Nat.le_trans (by rw [List.length_map];omega) (show 101<=lI by decide)),List.map_append]
  rfl
def JW:It->Bool
 | .ref _ _ _=>true
 | _=>false
def Y0:It->Bool
 | .word _ _=>true
 | _=>false
def Qbv:Bk->Bool
 | .para _=>true
 | _=>false
def Qe0:It->Str
 | .word _ _=>"word"
 | .ref _ _ _=>"ref"
 | .mark _=>"mark"
 | .key _=>"key"
def Qap:Bk->Str
 | .chapter _ _=>"chapter"
 | .heading _ _ _=>"heading"
 | .para _=>"para"
 | .table _ _=>"table"
 | .plates _ _=>"plates"
theorem QcB (i:It):D.ix i.d (.int 0)=some (.str (Qe0 i)):=by cases i<;>rfl
theorem QfM (i:Bk):D.ix i.d (.int 0)=some (.str (Qap i)):=by cases i<;>rfl
theorem Qey (i:It):decide (Qe0 i=Str.ofString "ref")=JW i:=by cases i<;>simp [Qe0,JW]
theorem Qij (i:It):decide (Qe0 i=Str.ofString "word")=Y0 i:=by cases i<;>simp [Qe0,Y0]
theorem QiJ (i:Bk):decide (Qap i=Str.ofString "para")=Qbv i:=by cases i<;>simp [Qap,Qbv]
def QrA:It->Str
 | .ref l _ _=>l
 | _=>""
def QF (is:List It):List Str:=(is.filter JW).map QrA
def iO:Bk->List It
 | .para is=>is
 | _=>[]
def rO (bs:List Bk):List Str:=bs.flatMap fun b=>QF (iO b)
theorem Qdx (b:Bk):Zj [b.d]=some (.lst ((iO b).map It.d)):=by
 unfold Zj QdE
 cases b<;>simp [QI,JT,Zg,lI,QC,sD,sQ,sIf,Qk,ZA,Qd,Zr,J4,sNx,Z9,ZM,gS,Js,J6,eV,eC,eOp,eUn,Q1,QG,eOr,eIf,JF,Qn,Qo,eK,lN,lC,JJ,oNo,oAt,ZC,D.len,D.lt,D.le,D.gt,D.ge,D.add,D.sub,D.ix,D.eqO,D.neO,D.cmp,D.cmpN,D.inst,tyD,D.isT,D.intB,D.min2,D.max2,D.neg,D.addI,Qq,JM,JO,Jv,QM,QS,JL,JK,Jh,Ju,JP,JQ,Jw,Jx,JN,Jb,JC,J1,Qy,QB,Q9,Jd,QY,QQ,D.rng,D.its,D.itsT,QD,ZB,QK,Jg,JS,Jn,Jf,ixD,iO]
theorem QoW {it:EvI} {e:Qr} (is:List It) (hit:it e=some (is.map It.d)) (hl:is.length<=lI):QX 1 [] it (gS 0) (eOp D.eqO (eOp D.ix (eV 0) (eC (.int 0))) (eC (.str "ref"))) (eOp D.ix (eV 0) (eC (.int 1))) e=some (QP (QF is)):=by
 have:=Zq (g:=gS 0) (n:=1) (caps:=[]) (c:=eOp D.eqO (eOp D.ix (eV 0) (eC (.int 0))) (eC (.str "ref"))) (el:=eOp D.ix (eV 0) (eC (.int 1))) It.d is (fun e=>∃ v,e=[v]) JW (fun i=>.str (QrA i)) hit hl ⟨none,rfl⟩ (by
  rintro i _ e ⟨v,rfl⟩
  refine ⟨[some i.d],rfl,⟨_,rfl⟩,?_,fun h=>?_⟩
  ·have h1:=QcB i
   have h2:=Qey i
   generalize It.d i=X at *
   simp [eOp,eV,eC,h1,eqS,h2]
  ·cases i with
   | ref l a b=>rfl
   | _=>cases h)
 rw [this]
 unfold QP QF
 rw [List.map_map]
 rfl
theorem fT {α β:Type} (f:α->List β) (xs:List α) (i:Nat) (hi:i<xs.length):(xs.take (i+1)).flatMap f=(xs.take i).flatMap f++f xs[i]:=by
 rw [List.take_succ_eq_append_getElem hi,List.flatMap_append];simp
theorem ZU {α β:Type} (f:α->List β) (xs:List α) (i:Nat):((xs.take i).flatMap f).length<=(xs.flatMap f).length:=by
 conv=>rhs;rw [<- List.take_append_drop i xs,List.flatMap_append,List.length_append]
 omega
theorem QsB {α:Type} {f:α->D} {xs ys:List α} (h:xs.length+ys.length<=lI):D.ext (.lst (xs.map f)) (.lst (ys.map f))=some (.lst ((xs++ys).map f)):=by
 show (if (xs.map f).length+(ys.map f).length<=lI then some (D.lst (xs.map f++ys.map f)) else none)=_
 rw [if_pos (by rw [List.length_map,List.length_map];exact h),List.map_append]
theorem Qii {α:Type} {f:α->D} {xs ys:List α} (h:xs.length+ys.length<=lI):D.add (.lst (xs.map f)) (.lst (ys.map f))=some (.lst ((xs++ys).map f)):=by
 show (if (xs.map f).length+(ys.map f).length<=lI then some (D.lst (xs.map f++ys.map f)) else none)=_
 rw [if_pos (by rw [List.length_map,List.length_map];exact h),List.map_append]
def Few (bs:List Bk):Prop:=bs.length<=100000/\(bs.flatMap iO).length<=100000
theorem Qhd (is:List It):(QF is).length<=is.length:=by unfold QF;rw [List.length_map];exact List.length_filter_le _ _
theorem QfV (bs:List Bk):(rO bs).length<=(bs.flatMap iO).length:=by
 induction bs with
 | nil=>exact Nat.le_refl _
 | cons b bs ih =>
  have:=Qhd (iO b)
  have ih':(bs.flatMap fun b=>QF (iO b)).length<=(bs.flatMap iO).length:=ih
  show ((b::bs).flatMap fun b=>QF (iO b)).length<=_
  rw [List.flatMap_cons,List.flatMap_cons,List.length_append,List.length_append]
  omega
theorem YA {bs:List Bk} (h:Few bs) (b:Bk) (hb:b∈bs):(iO b).length<=100000:=by
 refine Nat.le_trans ?_ h.2
 obtain ⟨s,t,rfl⟩:=List.append_of_mem hb
 rw [List.flatMap_append,List.flatMap_cons]
 simp only [List.length_append]
 omega
theorem QkR (bs:List Bk) (h:Few bs):Vb [bks bs]=some (QP (rO bs)):=by
 have hr:=QfV bs
 unfold Vb Qiv
 refine stD rfl ?_
 refine st (e1:=[some (bks bs),some (QP []),none]) rfl ?_
 refine QaH Bk.d bs (fun i e=>∃ v,e=[some (bks bs),some (QP (rO (bs.take i))),v]) rfl ⟨none,rfl⟩ ?_ ?_
 ·rintro i hi e ⟨v,rfl⟩
  have t1:rO (bs.take (i+1))=rO (bs.take i)++QF (iO bs[i]):=fT _ bs i hi
  have t2:=ZU (fun b=>QF (iO b)) bs (i+1)
  have t3:(rO (bs.take (i+1))).length<=(rO bs).length:=t2
  rw [t1,List.length_append] at t3
  rw [t1]
  refine ⟨[some (bks bs),some (QP (rO (bs.take i)++QF (iO bs[i]))),some bs[i].d],.inl ?_,_,rfl⟩
  refine bnd (e1:=[some (bks bs),some (QP (rO (bs.take i))),some bs[i].d]) rfl ?_
  have hc:=QoW (it:=QW (eK Zj (lC (eV 2) lN))) (e:=[some (bks bs),some (QP (rO (bs.take i))),some bs[i].d]) (iO bs[i]) (by
   show ((Zj [bs[i].d]).bind fun d=>D.its d)=_
   rw [Qdx];rfl) (lB (Nat.le_trans (YA h bs[i] (List.getElem_mem hi)) (by decide)))
  have hx:D.ext (QP (rO (bs.take i))) (QP (QF (iO bs[i])))=some (QP (rO (bs.take i)++QF (iO bs[i]))):=QsB (f:=D.str) (lB (by have:=h.2;omega))
  generalize QP (rO (bs.take i)++QF (iO bs[i]))=Z at *
  generalize QP (QF (iO bs[i]))=Y at *
  generalize QP (rO (bs.take i))=X at *
  simp only [Qox,hc]
  simp [eV,hx]
 ·rintro e ⟨v,rfl⟩
  rw [List.take_length]
  exact ret rfl
theorem QiT (xs:List Str):D.listOf (QP xs)=some (QP xs):=rfl
theorem QmG (bs:Option D) (fo:Option D) (b:D) (is:List It) (hit:D.ix b (.int 1)=some (.lst (is.map It.d))) (hl:is.length<=100000) (v:Option D):∃ v',Ja (QW (eOp D.ix (eV 2) (eC (.int 1)))) (gS 4) (sIf (eOp D.eqO (eOp D.ix (eV 4) (eC (.int 0))) (eC (.str "word"))) (sP 3 (Qn (lC (eC (.str "word")) (lC (eOp D.ix (eV 4) (eC (.int 1))) (lC (eUn D.listOf (eOp D.ix (eV 4) (eC (.int 2)))) lN))))) (sP 3 (eV 4))) [bs,fo,some b,some (.lst []),v]=some (.nx [bs,fo,some b,some (.lst (is.map It.d)),v']):=by
 obtain ⟨e',h1,v',h2⟩:=VZ (g:=gS 4) (b:=sIf (eOp D.eqO (eOp D.ix (eV 4) (eC (.int 0))) (eC (.str "word"))) (sP 3 (Qn (lC (eC (.str "word")) (lC (eOp D.ix (eV 4) (eC (.int 1))) (lC (eUn D.listOf (eOp D.ix (eV 4) (eC (.int 2)))) lN))))) (sP 3 (eV 4))) It.d is (fun i e=>∃ v,e=[bs,fo,some b,some (.lst ((is.take i).map It.d)),v]) (by
  rintro i hi e ⟨v,rfl⟩
  have ap:D.app (.lst ((is.take i).map It.d)) is[i].d=some (.lst ((is.take (i+1)).map It.d)):=by
   rw [List.take_succ_eq_append_getElem hi]
   exact QiB _ (ZJ (by rw [List.length_take];omega))
  generalize is[i]=x at *
  generalize (is.take (i+1)).map It.d=Z at *
  generalize (is.take i).map It.d=Y at *
  refine ⟨[bs,fo,some b,some (.lst Z),some x.d],.inl ?_,_,rfl⟩
  refine bnd (e1:=[bs,fo,some b,some (.lst Y),some x.d]) rfl ?_
  cases x with
  | word w ns =>
   have ls:=QiT ns
   simp only [It.d] at ap ⊢
   generalize QP ns=N at *
   simp [sIf,eOp,eV,eC,D.ix,ixD,eqS,Qq,sP,Qn,lC,lN,eUn,ls,ap]
  | _ =>
   simp only [It.d] at ap
   simp [sIf,eOp,eV,eC,D.ix,ixD,eqS,Qq,sP,ap]) [bs,fo,some b,some (.lst []),v] ⟨v,rfl⟩
 subst h2
 rw [List.take_length] at h1
 refine ⟨v',?_⟩
 simp only [Ja,QW,eOp,eV,eC,List.getElem?_cons_zero,List.getElem?_cons_succ,Option.join_some,Option.bind_some,hit,D.its]
 exact h1
theorem Qro (bs:List Bk) (h:Few bs):QeE [bks bs]=some (bks bs):=by
 unfold QeE QgU
 refine stD rfl ?_
 refine st (e1:=[some (bks bs),some (bks []),none,none,none]) rfl ?_
 refine QaH Bk.d bs (fun i e=>∃ u v w,e=[some (bks bs),some (bks (bs.take i)),u,v,w]) rfl ⟨none,none,none,rfl⟩ ?_ ?_
 ·rintro i hi e ⟨u,v,w,rfl⟩
  have ap:D.app (bks (bs.take i)) bs[i].d=some (bks (bs.take (i+1))):=by
   rw [List.take_succ_eq_append_getElem hi]
   exact QiC _ (ZJ (by rw [List.length_take];have:=h.1;omega))
  have hl:=YA h bs[i] (List.getElem_mem hi)
  generalize bs[i]=x at *
  generalize bks (bs.take (i+1))=Z at *
  generalize bks (bs.take i)=Y at *
  generalize bks bs=B at *
  cases x with
  | para is =>
   obtain ⟨w',hc⟩:=QmG (some B) (some Y) (Bk.para is).d is rfl hl w
   refine ⟨[some B,some Z,some (Bk.para is).d,some (.lst (is.map It.d)),w'],.inl ?_,_,_,_,rfl⟩
   refine bnd (e1:=[some B,some Y,some (Bk.para is).d,v,w]) rfl ?_
   have c:eOp D.eqO (eOp D.ix (eV 2) (eC (.int 0))) (eC (.str "para")) [some B,some Y,some (Bk.para is).d,v,w]=some (.bl true):=by simp [eOp,eV,eC,D.ix,ixD,eqS]
   unfold sIf
   rw [c,Qq,if_pos rfl]
   refine st (e1:=[some B,some Y,some (Bk.para is).d,some (.lst []),w]) rfl ?_
   refine st hc ?_
   simp only [Bk.d] at ap
   simp [sP,eV,Qn,lC,lN,eC,ap]
  | table rs l =>
   refine ⟨[some B,some Z,some (Bk.table rs l).d,v,w],.inl ?_,_,_,_,rfl⟩
   refine bnd (e1:=[some B,some Y,some (Bk.table rs l).d,v,w]) rfl ?_
   have ls:=QiT rs
   simp only [Bk.d] at ap ⊢
   generalize QP rs=N at *
   simp [sIf,eOp,eV,eC,D.ix,ixD,eqS,Qq,sP,Qn,lC,lN,eUn,ls,ap]
  | chapter t l =>
   refine ⟨[some B,some Z,some (Bk.chapter t l).d,v,w],.inl ?_,_,_,_,rfl⟩
   simp only [Bk.d] at ap
   simp [gS,sIf,eOp,eV,eC,D.ix,ixD,eqS,Qq,sP,ap]
  | heading t n l =>
   refine ⟨[some B,some Z,some (Bk.heading t n l).d,v,w],.inl ?_,_,_,_,rfl⟩
   simp only [Bk.d] at ap
   simp [gS,sIf,eOp,eV,eC,D.ix,ixD,eqS,Qq,sP,ap]
  | plates n l =>
   refine ⟨[some B,some Z,some (Bk.plates n l).d,v,w],.inl ?_,_,_,_,rfl⟩
   simp only [Bk.d] at ap
   simp [gS,sIf,eOp,eV,eC,D.ix,ixD,eqS,Qq,sP,ap]
 ·rintro e ⟨u,v,w,rfl⟩
  rw [List.take_length]
  exact ret rfl
def ItB:It->Prop
 | .word w ns=>(1<=w.length/\w.length<=40)/\ns.length<=30/\∀ r∈ns,r.length<=40
 | .ref _ a b=>a.length<=2/\b.length<=2
 | .mark _=>True
 | .key w=>1<=w.length/\w.length<=80
def BkB:Bk->Prop
 | .chapter t _=>1<=t.length/\t.length<=41
 | .heading t n _=>(1<=t.length/\t.length<=41)/\(0<=n/\n<=29)
 | .table rs _=>(1<=rs.length/\rs.length<=30)/\(∀ r∈rs,r.length<=40)
 | .plates n _=>1<=n/\n<=10^39
 | .para is=>∀ i∈is,ItB i
theorem YY {x:Str} (h:x.length<=1000000):D.len (.str x)=some (.int x.length):=if_pos (lB h)
theorem Qdy:∀ xs:List Int,intsOf (xs.map .int)=some xs
 | []=>rfl
 | x::xs=>by
  show (intsOf (xs.map .int)).map (x::·)=_
  rw [Qdy xs];rfl
theorem QqT (w:Int) (xs:List Int):D.maxL (.lst ((w::xs).map .int))=some (.int (JX w xs)):=by
 show (match intsOf ((w::xs).map .int) with
  | some (m::ns)=>some (D.int (JX m ns))
  | _=>none)=_
 rw [Qdy]
def VI (rs:List Str):List Int:=rs.map fun r=>(r.length:Int)
theorem QiU {it:EvI} {e:Qr} (rs:List Str) (hit:it e=some (rs.map .str)) (hl:rs.length<=1000000) (hr:∀ r∈rs,r.length<=1000000):QX 1 [] it (gS 0) (eC (.bl true)) (eUn D.len (eV 0)) e=some (.lst ((VI rs).map .int)):=by
 rw [Zq (g:=gS 0) (n:=1) (caps:=[]) (c:=eC (.bl true)) (el:=eUn D.len (eV 0)) D.str rs (fun e=>∃ v,e=[v]) (fun _=>true) (fun r=>.int r.length) hit (lB hl) ⟨none,rfl⟩ (by
  rintro r hr' e ⟨v,rfl⟩
  refine ⟨[some (.str r)],rfl,⟨_,rfl⟩,rfl,fun _=>?_⟩
  simp [eUn,eV,YY (hr r hr')])]
 rw [Z1]
 unfold VI
 rw [List.map_map]
 rfl
theorem QcO {a:EvE} {e:Qr} {i:Nat} {w:Int} (xs:List Int) (hv:eV i e=some (.int w)) (ha:a e=some (.lst (xs.map .int))) (hl:xs.length<=1000000):eUn D.maxL (eOp D.add (Qo (lC (eV i) lN)) a) e=some (.int (JX w xs)):=by
 have h1:D.add (.lst [.int w]) (.lst (xs.map .int))=some (.lst ((w::xs).map .int)):=Qii (f:=D.int) (xs:=[w]) (ys:=xs) (QfZ hl)
 have h2:=QqT w xs
 generalize (w::xs).map D.int=Z at *
 simp only [eUn,eOp,Qo,lC,lN,hv,ha,Option.bind_some,Option.map_some,h1,h2]
def QdR:It->Int
 | .word w _=>w.length
 | _=>0
def Qc6 (room:Int):It->Int
 | .ref _ a b=>a.length+room+b.length
 | _=>0
def Qm1:It->List Str
 | .word _ ns=>ns
 | _=>[]
def Yl (is:List It):List (List Str):=(is.filter Y0).map Qm1
def Zs (room w:Int):Bk->Int
 | .chapter t _=>if (t.length:Int)+2+room > w then (t.length:Int)+2+room else w
 | .heading t _ _=>if (t.length:Int)+2+room > w then (t.length:Int)+2+room else w
 | .table rs _=>JX w (VI rs)
 | .plates _ _=>w
 | .para is=>(Yl is).foldl (fun w ns=>JX w (VI ns)) (JX (JX w ((is.filter JW).map (Qc6 room))) ((is.filter Y0).map QdR))
def Zt (h:Int):Bk->Int
 | .heading _ k _=>if k+1 > h then k+1 else h
 | .table rs _=>if (rs.length:Int) > h then (rs.length:Int) else h
 | .para is=>JX h ((Yl is).map fun ns=>1+(ns.length:Int))
 | _=>h
theorem QoK {it:EvI} {e:Qr} (is:List It) (hit:it e=some (is.map It.d)) (hl:is.length<=1000000) (hi:∀ i∈is,ItB i):QX 1 [] it (gS 0) (eOp D.eqO (eOp D.ix (eV 0) (eC (.int 0))) (eC (.str "word"))) (eUn D.len (eOp D.ix (eV 0) (eC (.int 1)))) e=some (.lst (((is.filter Y0).map QdR).map .int)):=by
 rw [Zq (g:=gS 0) (n:=1) (caps:=[]) (c:=eOp D.eqO (eOp D.ix (eV 0) (eC (.int 0))) (eC (.str "word"))) (el:=eUn D.len (eOp D.ix (eV 0) (eC (.int 1)))) It.d is (fun e=>∃ v,e=[v]) Y0 (fun i=>.int (QdR i)) hit (lB hl) ⟨none,rfl⟩ (by
  rintro i hm e ⟨v,rfl⟩
  refine ⟨[some i.d],rfl,⟨_,rfl⟩,?_,fun h=>?_⟩
  ·have h1:=QcB i
   have h2:=Qij i
   generalize It.d i=X at *
   simp [eOp,eV,eC,h1,eqS,h2]
  ·cases i with
   | word w ns =>
    have hb:=(hi _ hm).1.2
    have ln:=YY (x:=w) (by omega)
    simp [eUn,eOp,eV,eC,D.ix,ixD,ln,QdR]
   | _=>cases h)]
 rw [List.map_map]
 rfl
theorem Qqq {it:EvI} {e:Qr} (room:Int) (is:List It) (hc:Qci 1 [1] e=[none,some (.int room)]) (hit:it e=some (is.map It.d)) (hl:is.length<=1000000) (hi:∀ i∈is,ItB i):QX 1 [1] it (gS 0) (eOp D.eqO (eOp D.ix (eV 0) (eC (.int 0))) (eC (.str "ref"))) (eOp D.add (eOp D.add (eUn D.len (eOp D.ix (eV 0) (eC (.int 2)))) (eV 1)) (eUn D.len (eOp D.ix (eV 0) (eC (.int 3))))) e=some (.lst (((is.filter JW).map (Qc6 room)).map .int)):=by
 rw [Zq (g:=gS 0) (n:=1) (caps:=[1]) (c:=eOp D.eqO (eOp D.ix (eV 0) (eC (.int 0))) (eC (.str "ref"))) (el:=eOp D.add (eOp D.add (eUn D.len (eOp D.ix (eV 0) (eC (.int 2)))) (eV 1)) (eUn D.len (eOp D.ix (eV 0) (eC (.int 3))))) It.d is (fun e=>∃ v,e=[v,some (.int room)]) JW (fun i=>.int (Qc6 room i)) hit (lB hl) ⟨none,hc⟩ (by
  rintro i hm e ⟨v,rfl⟩
  refine ⟨[some i.d,some (.int room)],rfl,⟨_,rfl⟩,?_,fun h=>?_⟩
  ·have h1:=QcB i
   have h2:=Qey i
   generalize It.d i=X at *
   simp [eOp,eV,eC,h1,eqS,h2]
  ·cases i with
   | ref l a b =>
    have hb:=hi _ hm
    have l1:=YY (x:=a) (by have:=hb.1;omega)
    have l2:=YY (x:=b) (by have:=hb.2;omega)
    simp [eUn,eOp,eV,eC,D.ix,ixD,l1,l2,Qc6,add_int]
   | _=>cases h)]
 rw [List.map_map]
 rfl
theorem QnP {it:EvI} {e:Qr} (is:List It) (hit:it e=some (is.map It.d)) (hl:is.length<=1000000):QX 1 [] it (gS 0) (eOp D.eqO (eOp D.ix (eV 0) (eC (.int 0))) (eC (.str "word"))) (eOp D.ix (eV 0) (eC (.int 2))) e=some (.lst ((Yl is).map QP)):=by
 rw [Zq (g:=gS 0) (n:=1) (caps:=[]) (c:=eOp D.eqO (eOp D.ix (eV 0) (eC (.int 0))) (eC (.str "word"))) (el:=eOp D.ix (eV 0) (eC (.int 2))) It.d is (fun e=>∃ v,e=[v]) Y0 (fun i=>QP (Qm1 i)) hit (lB hl) ⟨none,rfl⟩ (by
  rintro i hm e ⟨v,rfl⟩
  refine ⟨[some i.d],rfl,⟨_,rfl⟩,?_,fun h=>?_⟩
  ·have h1:=QcB i
   have h2:=Qij i
   generalize It.d i=X at *
   simp [eOp,eV,eC,h1,eqS,h2]
  ·cases i with
   | word w ns=>rfl
   | _=>cases h)]
 unfold Yl
 rw [List.map_map]
 rfl
theorem Qo5 {it:EvI} {e:Qr} (nss:List (List Str)) (hit:it e=some (nss.map QP)) (hl:nss.length<=1000000):QX 1 [] it (gS 0) (eC (.bl true)) (eOp D.add (eC (.int 1)) (eUn D.len (eV 0))) e=some (.lst ((nss.map fun ns=>1+(ns.length:Int)).map .int)):=by
 rw [Zq (g:=gS 0) (n:=1) (caps:=[]) (c:=eC (.bl true)) (el:=eOp D.add (eC (.int 1)) (eUn D.len (eV 0))) QP nss (fun e=>∃ v,e=[v]) (fun _=>true) (fun ns=>.int (1+(ns.length:Int))) hit (lB hl) ⟨none,rfl⟩ (by
  rintro r hr' e ⟨v,rfl⟩
  refine ⟨[some (QP r)],rfl,⟨_,rfl⟩,rfl,fun _=>?_⟩
  have ln:=YS r
  generalize QP r=N at *
  simp [eUn,eV,eOp,eC,ln,add_int])]
 rw [Z1,List.map_map]
 rfl
theorem QgL {is:List It} (hi:∀ i∈is,ItB i):∀ ns∈Yl is,ns.length<=30/\∀ r∈ns,r.length<=40:=by
 intro ns h
 unfold Yl at h
 obtain ⟨i,h1,rfl⟩:=List.mem_map.mp h
 obtain ⟨h2,h3⟩:=List.mem_filter.mp h1
 cases i with
 | word w ns=>exact ⟨(hi _ h2).2.1,(hi _ h2).2.2⟩
 | _=>cases h3
theorem QnO (B R H b nt:Option D) (nss:List (List Str)) (hn:∀ ns∈nss,ns.length<=30/\∀ r∈ns,r.length<=40) (w:Int) (v:Option D) (hl:nt=some (.lst (nss.map QP))):∃ v',Ja (QW (eV 5)) (gS 6) (Qd (eUn D.maxL (eOp D.add (Qo (lC (eV 2) lN)) (QX 1 [] (QW (eV 6)) (gS 0) (eC (.bl true)) (eUn D.len (eV 0))))) (gS 2)) [B,R,some (.int w),H,b,nt,v]=some (.nx [B,R,some (.int (nss.foldl (fun w ns=>JX w (VI ns)) w)),H,b,nt,v']):=by
 obtain ⟨e',h1,v',h2⟩:=Qp7 (it:=QW (eV 5)) (g:=gS 6) (b:=Qd (eUn D.maxL (eOp D.add (Qo (lC (eV 2) lN)) (QX 1 [] (QW (eV 6)) (gS 0) (eC (.bl true)) (eUn D.len (eV 0))))) (gS 2)) (e:=[B,R,some (.int w),H,b,nt,v]) QP nss (fun (w:Int) e=>∃ v,e=[B,R,some (.int w),H,b,nt,v]) (fun w ns=>JX w (VI ns)) w (by rw [hl];rfl) ⟨v,rfl⟩ (by
  rintro ns hm w e ⟨v,rfl⟩
  refine ⟨[B,R,some (.int (JX w (VI ns))),H,b,nt,some (QP ns)],.inl ?_,_,rfl⟩
  refine bnd (e1:=[B,R,some (.int w),H,b,nt,some (QP ns)]) rfl ?_
  have hc:=QiU (it:=QW (eV 6)) (e:=[B,R,some (.int w),H,b,nt,some (QP ns)]) ns rfl (by have:=(hn ns hm).1;omega) (fun r hr=>by have:=(hn ns hm).2 r hr;omega)
  have hx:=QcO (i:=2) (e:=[B,R,some (.int w),H,b,nt,some (QP ns)]) (VI ns) rfl hc (by unfold VI;rw [List.length_map];have:=(hn ns hm).1;omega)
  unfold Qd
  rw [hx]
  rfl)
 exact ⟨v',h2▸h1⟩
theorem QnN (is:List It):(Yl is).length<=is.length:=by unfold Yl;rw [List.length_map];exact List.length_filter_le _ _
def QlP:EvS:=sQ (sIf (eOr (eOp D.eqO (eOp D.ix (eV 4) (eC (.int 0))) (eC (.str "chapter"))) (eOp D.eqO (eOp D.ix (eV 4) (eC (.int 0))) (eC (.str "heading")))) (Qd (eOp D.max2 (eV 2) (eOp D.add (eOp D.add (eUn D.len (eOp D.ix (eV 4) (eC (.int 1)))) (eC (.int 2))) (eV 1))) (gS 2)) (sNx)) (sQ (sIf (eOp D.eqO (eOp D.ix (eV 4) (eC (.int 0))) (eC (.str "heading"))) (Qd (eOp D.max2 (eV 3) (eOp D.add (eOp D.ix (eV 4) (eC (.int 2))) (eC (.int 1)))) (gS 3)) (sNx)) (sQ (sIf (eOp D.eqO (eOp D.ix (eV 4) (eC (.int 0))) (eC (.str "table"))) (sQ (Qd (eOp D.max2 (eV 3) (eUn D.len (eOp D.ix (eV 4) (eC (.int 1))))) (gS 3)) (Qd (eUn D.maxL (eOp D.add (Qo (lC (eV 2) lN)) (QX 1 [] (QW (eOp D.ix (eV 4) (eC (.int 1)))) (gS 0) (eC (.bl true)) (eUn D.len (eV 0))))) (gS 2))) (sNx)) (sIf (eOp D.eqO (eOp D.ix (eV 4) (eC (.int 0))) (eC (.str "para"))) (sQ (Qd (eUn D.maxL (eOp D.add (Qo (lC (eV 2) lN)) (QX 1 [1] (QW (eOp D.ix (eV 4) (eC (.int 1)))) (gS 0) (eOp D.eqO (eOp D.ix (eV 0) (eC (.int 0))) (eC (.str "ref"))) (eOp D.add (eOp D.add (eUn D.len (eOp D.ix (eV 0) (eC (.int 2)))) (eV 1)) (eUn D.len (eOp D.ix (eV 0) (eC (.int 3)))))))) (gS 2)) (sQ (Qd (eUn D.maxL (eOp D.add (Qo (lC (eV 2) lN)) (QX 1 [] (QW (eOp D.ix (eV 4) (eC (.int 1)))) (gS 0) (eOp D.eqO (eOp D.ix (eV 0) (eC (.int 0))) (eC (.str "word"))) (eUn D.len (eOp D.ix (eV 0) (eC (.int 1))))))) (gS 2)) (sQ (Qd (QX 1 [] (QW (eOp D.ix (eV 4) (eC (.int 1)))) (gS 0) (eOp D.eqO (eOp D.ix (eV 0) (eC (.int 0))) (eC (.str "word"))) (eOp D.ix (eV 0) (eC (.int 2)))) (gS 5)) (sQ (Qd (eUn D.maxL (eOp D.add (Qo (lC (eV 3) lN)) (QX 1 [] (QW (eV 5)) (gS 0) (eC (.bl true)) (eOp D.add (eC (.int 1)) (eUn D.len (eV 0)))))) (gS 3)) (Ja (QW (eV 5)) (gS 6) (Qd (eUn D.maxL (eOp D.add (Qo (lC (eV 2) lN)) (QX 1 [] (QW (eV 6)) (gS 0) (eC (.bl true)) (eUn D.len (eV 0))))) (gS 2))))))) (sNx))))
theorem Qpk (B:D) (room w h:Int) (b:Bk) (hb:BkB b) (hl:(iO b).length<=100000) (u v:Option D):∃ u' v',QlP [some B,some (.int room),some (.int w),some (.int h),some b.d,u,v]=some (.nx [some B,some (.int room),some (.int (Zs room w b)),some (.int (Zt h b)),some b.d,u',v']):=by
 have tg:∀ (e:Qr),eV 4 e=some b.d->∀ t:Str,eOp D.eqO (eOp D.ix (eV 4) (eC (.int 0))) (eC (.str t)) e=some (.bl (decide (Qap b=t))):=by
  intro e he t
  have i0:=QfM b
  generalize Bk.d b=X at *
  simp only [eOp,eC,he,Option.bind_some,i0,eqS]
 unfold QlP
 cases b with
 | chapter t l =>
  have ln:=YY (x:=t) (by have:=hb.2;omega)
  refine ⟨u,v,?_⟩
  refine st (e1:=[some B,some (.int room),some (.int (Zs room w (.chapter t l))),some (.int h),some (Bk.chapter t l).d,u,v]) (by simp [sIf,eOr,eOp,eV,eC,D.ix,ixD,eqS,Qq,Qd,gS,eUn,ln,add_int,D.max2,Zs]) ?_
  simp [sQ,QM,sIf,eOr,eOp,eV,eC,D.ix,ixD,eqS,Qq,sNx,Zt]
 | heading t k l =>
  have ln:=YY (x:=t) (by have:=hb.1.2;omega)
  refine ⟨u,v,?_⟩
  refine st (e1:=[some B,some (.int room),some (.int (Zs room w (.heading t k l))),some (.int h),some (Bk.heading t k l).d,u,v]) (by simp [sIf,eOr,eOp,eV,eC,D.ix,ixD,eqS,Qq,Qd,gS,eUn,ln,add_int,D.max2,Zs]) ?_
  simp [sQ,QM,sIf,eOr,eOp,eV,eC,D.ix,ixD,eqS,Qq,sNx,Qd,gS,D.max2,add_int,Zt]
 | plates n l =>
  refine ⟨u,v,?_⟩
  simp [sQ,QM,sIf,eOr,eOp,eV,eC,D.ix,ixD,eqS,Qq,sNx,Zt,Zs]
 | table rs l =>
  refine ⟨u,v,?_⟩
  refine st (e1:=[some B,some (.int room),some (.int w),some (.int h),some (Bk.table rs l).d,u,v]) (by simp [sIf,eOr,eOp,eV,eC,D.ix,ixD,eqS,Qq,sNx]) ?_
  refine st (e1:=[some B,some (.int room),some (.int w),some (.int h),some (Bk.table rs l).d,u,v]) (by simp [sIf,eOr,eOp,eV,eC,D.ix,ixD,eqS,Qq,sNx]) ?_
  refine st (e1:=[some B,some (.int room),some (.int (Zs room w (.table rs l))),some (.int (Zt h (.table rs l))),some (Bk.table rs l).d,u,v]) ?_ (by simp [sIf,eOp,eV,eC,D.ix,ixD,eqS,Qq,sNx])
  refine ifT (by rw [tg _ rfl];simp [Qap]) ?_
  refine st (e1:=[some B,some (.int room),some (.int w),some (.int (Zt h (.table rs l))),some (Bk.table rs l).d,u,v]) ?_ ?_
  ·have ln:=YS rs
   simp only [Bk.d]
   generalize QP rs=N at *
   simp [Qd,eOp,eV,eC,eUn,D.ix,ixD,ln,D.max2,gS,Zt]
  ·refine asg (QcO (VI rs) rfl (QiU rs rfl (by have:=hb.1.2;omega) (fun r hr=>by have:=hb.2 r hr;omega)) (by unfold VI;rw [List.length_map];have:=hb.1.2;omega)) rfl
 | para is =>
  have hl':is.length<=100000:=hl
  have hi:∀ i∈is,ItB i:=hb
  obtain ⟨W1,e1⟩:∃ W1,JX w ((is.filter JW).map (Qc6 room))=W1:=⟨_,rfl⟩
  obtain ⟨W2,e2⟩:∃ W2,JX W1 ((is.filter Y0).map QdR)=W2:=⟨_,rfl⟩
  obtain ⟨v',hv⟩:=QnO (some B) (some (.int room)) (some (.int (Zt h (.para is)))) (some (Bk.para is).d) (some (.lst ((Yl is).map QP))) (Yl is) (QgL hi) W2 v rfl
  have l1:((is.filter JW).map (Qc6 room)).length<=1000000:=by rw [List.length_map];have:=List.length_filter_le JW is;omega
  have l2:((is.filter Y0).map QdR).length<=1000000:=by rw [List.length_map];have:=List.length_filter_le Y0 is;omega
  have l3:=QnN is
  refine ⟨some (.lst ((Yl is).map QP)),v',?_⟩
  refine st (e1:=[some B,some (.int room),some (.int w),some (.int h),some (Bk.para is).d,u,v]) (by simp [sIf,eOr,eOp,eV,eC,D.ix,ixD,eqS,Qq,sNx]) ?_
  refine st (e1:=[some B,some (.int room),some (.int w),some (.int h),some (Bk.para is).d,u,v]) (by simp [sIf,eOr,eOp,eV,eC,D.ix,ixD,eqS,Qq,sNx]) ?_
  refine st (e1:=[some B,some (.int room),some (.int w),some (.int h),some (Bk.para is).d,u,v]) (by simp [sIf,eOr,eOp,eV,eC,D.ix,ixD,eqS,Qq,sNx]) ?_
  refine ifT (by rw [tg _ rfl];simp [Qap]) ?_
  refine st (e1:=[some B,some (.int room),some (.int W1),some (.int h),some (Bk.para is).d,u,v]) (by rw [<- e1];exact asg (QcO _ rfl (Qqq room is rfl rfl (by omega) hi) l1) rfl) ?_
  refine st (e1:=[some B,some (.int room),some (.int W2),some (.int h),some (Bk.para is).d,u,v]) (by rw [<- e2];exact asg (QcO _ rfl (QoK is rfl (by omega) hi) l2) rfl) ?_
  refine st (e1:=[some B,some (.int room),some (.int W2),some (.int h),some (Bk.para is).d,some (.lst ((Yl is).map QP)),v]) (asg (QnP is rfl (by omega)) rfl) ?_
  refine st (e1:=[some B,some (.int room),some (.int W2),some (.int (Zt h (.para is))),some (Bk.para is).d,some (.lst ((Yl is).map QP)),v]) (asg (QcO _ rfl (Qo5 (Yl is) rfl (by omega)) (by rw [List.length_map];omega)) rfl) ?_
  have fin:Zs room w (.para is)=(Yl is).foldl (fun w ns=>JX w (VI ns)) W2:=by rw [<- e2,<- e1];rfl
  rw [fin]
  exact hv
def QlO (room:Int) (bs:List Bk):Int×Int:=bs.foldl (fun s b=>(Zs room s.1 b,Zt s.2 b)) (4,2)
theorem Qpe (bs:List Bk) (room:Int) (hf:Few bs) (hb:∀ b∈bs,BkB b):QbN [bks bs,.int room]=some (.tup [.int (QlO room bs).1,.int (QlO room bs).2]):=by
 unfold QbN Qfr
 refine stD rfl ?_
 refine st (e1:=[some (bks bs),some (.int room),some (.int 4),none,none,none,none]) rfl ?_
 refine st (e1:=[some (bks bs),some (.int room),some (.int 4),some (.int 2),none,none,none]) rfl ?_
 refine QmQ (b:=QlP) Bk.d bs (fun (s:Int×Int) e=>∃ a u v,e=[some (bks bs),some (.int room),some (.int s.1),some (.int s.2),a,u,v]) (fun s b=>(Zs room s.1 b,Zt s.2 b)) (4,2) rfl ⟨none,none,none,rfl⟩ ?_ ?_
 ·rintro b hm s e ⟨a,u,v,rfl⟩
  obtain ⟨u',v',h⟩:=Qpk (bks bs) room s.1 s.2 b (hb b hm) (YA hf b hm) u v
  exact ⟨_,.inl (bnd (e1:=[some (bks bs),some (.int room),some (.int s.1),some (.int s.2),some b.d,u,v]) rfl h),_,_,_,rfl⟩
 ·rintro e ⟨a,u,v,rfl⟩
  exact ret rfl
theorem QjM (s:String):(Str.ofString s).length=s.toList.length:=by
 show (cpsOfBytes 0 0 s.toByteArray.data.toList).toArray.size=_
 rw [cpsOfBytes_string]
 simp
def Qbq (n:Nat):Nat:=(Nat.toDigits 10 n).length
theorem QkN (n:Nat):(Str.ofString (toString (n:Int))).length=Qbq n:=by
 rw [QjM]
 show (Nat.repr n).toList.length=_
 rw [Nat.toList_repr]
 rfl
theorem QpA (n:Nat):1<=Qbq n:=Nat.length_toDigits_pos
theorem Qrd (n:Nat) (h:n<10^60):Qbq n<=60:=(Nat.length_toDigits_le_iff (by decide) (by decide)).mpr h
def Jl (i:It):Bool:=Y0 i||JW i
def JH (li:Bool):Bk->Int
 | .chapter _ _=>2+(if li then 2 else 0)
 | .heading _ _ _=>2+(if li then 2 else 0)
 | .table _ _=>2
 | .plates n _=>2+n
 | .para is=>2+2*((is.filter Jl).length:Int)
def most (li:Bool) (bs:List Bk):Int:=bs.foldl (fun s b=>s+JH li b) 3
theorem Qqi {it:EvI} {e:Qr} (is:List It) (hit:it e=some (is.map It.d)) (hl:is.length<=1000000):QX 1 [] it (gS 0) (eOr (eOp D.eqO (eOp D.ix (eV 0) (eC (.int 0))) (eC (.str "word"))) (eOp D.eqO (eOp D.ix (eV 0) (eC (.int 0))) (eC (.str "ref")))) (eV 0) e=some (.lst ((is.filter Jl).map It.d)):=by
 rw [Zq (g:=gS 0) (n:=1) (caps:=[]) (c:=eOr (eOp D.eqO (eOp D.ix (eV 0) (eC (.int 0))) (eC (.str "word"))) (eOp D.eqO (eOp D.ix (eV 0) (eC (.int 0))) (eC (.str "ref")))) (el:=eV 0) It.d is (fun e=>∃ v,e=[v]) Jl It.d hit (lB hl) ⟨none,rfl⟩ (by
  rintro i hm e ⟨v,rfl⟩
  refine ⟨[some i.d],rfl,⟨_,rfl⟩,?_,fun h=>rfl⟩
  have h1:=QcB i
  have h2:=Qij i
  have h3:=Qey i
  unfold Jl
  generalize It.d i=X at *
  cases q:Y0 i<;>rw [q] at h2<;>simp [eOr,eOp,eV,eC,h1,eqS,h2,h3,Qq])]
theorem Qrz (m:Int):D.mulA (.int 2) (.int m)=some (.int (2*m)):=(QI 2 m).trans (Qeu (by decide))
theorem QqS (bs:List Bk) (li:Bool) (hf:Few bs):QcQ [bks bs,.bl li]=some (.int (most li bs)):=by
 unfold QcQ QgS
 refine stD rfl ?_
 refine st (e1:=[some (bks bs),some (.bl li),some (.int 3),none]) rfl ?_
 refine QmQ Bk.d bs (fun (s:Int) e=>∃ a,e=[some (bks bs),some (.bl li),some (.int s),a]) (fun s b=>s+JH li b) 3 rfl ⟨none,rfl⟩ ?_ ?_
 ·rintro b hm s e ⟨a,rfl⟩
  refine ⟨[some (bks bs),some (.bl li),some (.int (s+JH li b)),some b.d],.inl (bnd (e1:=[some (bks bs),some (.bl li),some (.int s),some b.d]) rfl ?_),_,rfl⟩
  have hl:=YA hf b hm
  generalize bks bs=B at *
  refine st (e1:=[some B,some (.bl li),some (.int (s+2)),some b.d]) rfl ?_
  have cd:∀ (d:D) (t:Str),D.ix d (.int 0)=some (.str t)->QG (eV 1) (eOr (eOp D.eqO (eOp D.ix (eV 3) (eC (.int 0))) (eC (.str "chapter"))) (eOp D.eqO (eOp D.ix (eV 3) (eC (.int 0))) (eC (.str "heading")))) [some B,some (.bl li),some (.int (s+2)),some d]=some (.bl (li&&(decide (t="chapter")||decide (t="heading")))):=by
   intro d t h
   cases li with
   | false=>exact ZI rfl
   | true =>
    refine J9 rfl ?_
    by_cases z:t=Str.ofString "chapter"
    ·rw [decide_eq_true z]
     exact orT (opE (opE rfl rfl h) rfl (by rw [eqS,decide_eq_true z]))
    ·rw [decide_eq_false z,Bool.false_or,Bool.true_and]
     exact orF (opE (opE rfl rfl h) rfl (by rw [eqS,decide_eq_false z])) (opE (opE rfl rfl h) rfl (eqS _ _))
  have tit:∀ (d:D) (t:Str) (m:Int),D.ix d (.int 0)=some (.str t)->(decide (t="chapter")||decide (t="heading"))=true->t≠"plates"->t≠"para"->s+m=s+2+(if li then 2 else 0)->sQ (sIf (QG (eV 1) (eOr (eOp D.eqO (eOp D.ix (eV 3) (eC (.int 0))) (eC (.str "chapter"))) (eOp D.eqO (eOp D.ix (eV 3) (eC (.int 0))) (eC (.str "heading"))))) (Qd (eOp D.add (eV 2) (eC (.int 2))) (gS 2)) (sNx)) (sQ (sIf (eOp D.eqO (eOp D.ix (eV 3) (eC (.int 0))) (eC (.str "plates"))) (Qd (eOp D.add (eV 2) (eOp D.ix (eV 3) (eC (.int 1)))) (gS 2)) (sNx)) (sIf (eOp D.eqO (eOp D.ix (eV 3) (eC (.int 0))) (eC (.str "para"))) (Qd (eOp D.add (eV 2) (eOp D.mulA (eC (.int 2)) (eUn D.len (QX 1 [] (QW (eOp D.ix (eV 3) (eC (.int 1)))) (gS 0) (eOr (eOp D.eqO (eOp D.ix (eV 0) (eC (.int 0))) (eC (.str "word"))) (eOp D.eqO (eOp D.ix (eV 0) (eC (.int 0))) (eC (.str "ref")))) (eV 0))))) (gS 2)) (sNx))) [some B,some (.bl li),some (.int (s+2)),some d]=some (.nx [some B,some (.bl li),some (.int (s+m)),some d]):=by
   intro d t m h ht h1 h2 hm
   have c:=cd d t h
   rw [ht,Bool.and_true] at c
   rw [hm]
   refine st (e1:=[some B,some (.bl li),some (.int (s+2+(if li then 2 else 0))),some d]) ?_ (st (ifF (opE (opE rfl rfl h) rfl (by rw [eqS,decide_eq_false h1])) rfl) (ifF (opE (opE rfl rfl h) rfl (by rw [eqS,decide_eq_false h2])) rfl))
   cases li with
   | true=>exact ifT c rfl
   | false =>
    refine (ifF c rfl).trans ?_
    rw [if_neg (by decide),Int.add_zero];rfl
  have non:∀ (d:D) (t:Str),D.ix d (.int 0)=some (.str t)->(decide (t="chapter")||decide (t="heading"))=false->QG (eV 1) (eOr (eOp D.eqO (eOp D.ix (eV 3) (eC (.int 0))) (eC (.str "chapter"))) (eOp D.eqO (eOp D.ix (eV 3) (eC (.int 0))) (eC (.str "heading")))) [some B,some (.bl li),some (.int (s+2)),some d]=some (.bl false):=by
   intro d t h ht
   have c:=cd d t h
   rw [ht,Bool.and_false] at c
   exact c
  cases b with
  | para is =>
   have hl':is.length<=1000000:=Nat.le_trans (show is.length<=100000 from hl) (by decide)
   refine st (e1:=[some B,some (.bl li),some (.int (s+2)),some (Bk.para is).d]) (ifF (non _ "para" rfl (by simp)) rfl) ?_
   refine st (e1:=[some B,some (.bl li),some (.int (s+2)),some (Bk.para is).d]) (ifF (opE (x:=.str "para") (opE (x:=(Bk.para is).d) rfl rfl rfl) rfl (by rw [eqS];simp)) rfl) ?_
   refine ifT (opE (x:=.str "para") (opE (x:=(Bk.para is).d) rfl rfl rfl) rfl (by rw [eqS];simp)) ?_
   have hc:=Qqi (it:=QW (eOp D.ix (eV 3) (eC (.int 1)))) (e:=[some B,some (.bl li),some (.int (s+2)),some (Bk.para is).d]) is rfl hl'
   have ln:D.len (.lst ((is.filter Jl).map It.d))=some (.int (is.filter Jl).length):=by
    show some (D.int ((is.filter Jl).map It.d).length)=_
    rw [List.length_map]
   have fin:s+JH li (.para is)=s+2+2*((is.filter Jl).length:Int):=by show s+(2+2*((is.filter Jl).length:Int))=_;omega
   rw [fin]
   generalize ((is.filter Jl).length:Int)=m at *
   refine asg ?_ rfl
   simp only [eOp,eUn,hc,Option.bind_some,ln,eC,Qrz,eV,List.getElem?_cons_zero,List.getElem?_cons_succ,Option.join_some,add_int]
  | chapter t l=>exact tit _ "chapter" _ rfl (by simp) (by simp) (by simp) (by show s+(2+(if li then 2 else 0))=_;omega)
  | heading t k l=>exact tit _ "heading" _ rfl (by simp) (by simp) (by simp) (by show s+(2+(if li then 2 else 0))=_;omega)
  | table rs l=>exact st (ifF (non _ "table" rfl (by simp)) rfl) (st (ifF (opE (x:=.str "table") (opE (x:=(Bk.table rs l).d) rfl rfl rfl) rfl (by rw [eqS];simp)) rfl) (ifF (opE (x:=.str "table") (opE (x:=(Bk.table rs l).d) rfl rfl rfl) rfl (by rw [eqS];simp)) rfl))
  | plates n l =>
   have fin:s+JH li (.plates n l)=s+2+n:=by show s+(2+n)=_;omega
   rw [fin]
   exact st (ifF (non _ "plates" rfl (by simp)) rfl) (st (e1:=[some B,some (.bl li),some (.int (s+2+n)),some (Bk.plates n l).d]) (ifT (opE (x:=.str "plates") (opE (x:=(Bk.plates n l).d) rfl rfl rfl) rfl (by rw [eqS];simp)) (asg (opE rfl (opE (x:=(Bk.plates n l).d) rfl rfl rfl) rfl) rfl)) (ifF (opE (x:=.str "plates") (opE (x:=(Bk.plates n l).d) rfl rfl rfl) rfl (by rw [eqS];simp)) rfl))
 ·rintro e ⟨a,rfl⟩
  exact ret rfl
def VG (ns:List Int):Int:=1+mix (cell ns 4) 19%6
def ZN (ns:List Int) (w h:Int) (li:Bool):List Bk:=if li=true\/cell ns 4%3≠1 then [] else
 [.plates (10^(VG ns).toNat-2) "",.table (List.replicate (h-1).toNat "") "",.para [.word (YX "w" (if w-1-VG ns > 1 then w-1-VG ns else 1)) [],.mark "z",.ref "z" "" ""]]
theorem Qbl (ns:List Int):1<=VG ns/\VG ns<=6:=by unfold VG;omega
theorem Qld (ns:List Int) (w h:Int) (o li:Bool) (hw:4<=w/\w<=1000) (hh:2<=h/\h<=1000):QcR [.scr ns,.tup [.int w,.int h,.bl o,.bl li]]=some (bks (ZN ns w h li)):=by
 have c4:Jm [.scr ns,.int 4]=some (.int (cell ns 4)):=Qbn ns 4
 have m19:=QaT (cell ns 4) 19 (by decide) (by decide)
 unfold QcR QgT ZN
 by_cases z:li=true\/cell ns 4%3≠1
 ·rw [if_pos z]
  refine stD rfl ?_
  refine stR ?_
  rcases z with z | z
  ·subst z
   simp [sIf,eOr,eOp,eV,eC,D.ix,ixD,Qq,Qk,Qo,lN,bks,sD]
  ·cases li<;>simp [sIf,eOr,eOp,eV,eC,D.ix,ixD,Qq,Qk,Qo,lN,lC,eK,c4,ZH,D.neO,Qy,D.cmpN,QD,z,bks,sD]
 ·rw [if_neg z]
  have z1:li=false:=by cases li<;>simp_all
  have z2:cell ns 4%3=1:=by simp_all
  subst z1
  obtain ⟨eb0,eb1⟩:=Qbl ns
  have en:1+mix (cell ns 4) 19%6=VG ns:=rfl
  generalize VG ns=N at *
  refine stD rfl ?_
  refine st (e1:=[some (.scr ns),some (.tup [.int w,.int h,.bl o,.bl false]),none,none,none,none]) (by simp [sIf,eOr,eOp,eV,eC,D.ix,ixD,Qq,Qk,Qo,lN,lC,eK,c4,ZH,D.neO,Qy,D.cmpN,QD,z2,sD,sNx]) ?_
  refine st (e1:=[some (.scr ns),some (.tup [.int w,.int h,.bl o,.bl false]),some (.int N),none,none,none]) (by simp [Qd,eOp,eV,eC,lN,lC,eK,c4,m19,ZH,add_int,en,gS]) ?_
  refine st (e1:=[some (.scr ns),some (.tup [.int w,.int h,.bl o,.bl false]),some (.int N),some (.int 1),none,none]) rfl ?_
  obtain ⟨v,el⟩:=QtD 1 (some (.scr ns)) (some (.tup [.int w,.int h,.bl o,.bl false])) (some (.int N)) none none (rD 0 N.toNat)
  rw [QiO,Int.one_mul] at el
  have p39:(10:Int)^N.toNat<=10^6:=by
   have:N=1\/N=2\/N=3\/N=4\/N=5\/N=6:=by omega
   rcases this with q | q | q | q | q | q<;>subst q<;>decide
  refine st (e1:=[some (.scr ns),some (.tup [.int w,.int h,.bl o,.bl false]),some (.int N),some (.int (10^N.toNat)),v,none]) (by unfold Ja Yy;simp only [eV,List.getElem?_cons_zero,List.getElem?_cons_succ,Option.join_some,Option.bind_some,QrM N (by omega)];exact el) ?_
  generalize (10:Int)^N.toNat=T at *
  have mx:D.max2 (.int 1) (.int (w-1-N))=some (.int (if w-1-N > 1 then w-1-N else 1)):=rfl
  obtain ⟨M,eM,M0,M1⟩:∃ M:Int,(if w-1-N > 1 then w-1-N else 1)=M/\1<=M/\M<=1000:=⟨_,rfl,by split<;>omega,by split<;>omega⟩
  rw [eM] at mx ⊢
  have wl:(Str.ofString "w").length=1:=by decide +kernel
  have mw:D.mulA (.str (Str.ofString "w")) (.int M)=some (.str (YX (Str.ofString "w") M)):=QkW ⟨by omega,by omega,lB (by rw [wl];omega)⟩
  generalize YX (Str.ofString "w") M=WW at *
  refine st (e1:=[some (.scr ns),some (.tup [.int w,.int h,.bl o,.bl false]),some (.int N),some (.int T),v,some (.lst ([It.word WW [],.mark "z",.ref "z" "" ""].map It.d))]) (by simp [Qd,Qo,lC,lN,Qn,eC,eOp,eV,D.ix,ixD,D.sub,mx,mw,gS,QP]) ?_
  have hc:QX 1 [] (Yy (eOp D.sub (eOp D.ix (eV 1) (eC (.int 1))) (eC (.int 1)))) (gS 0) (eC (.bl true)) (eC (.str "")) [some (.scr ns),some (.tup [.int w,.int h,.bl o,.bl false]),some (.int N),some (.int T),v,some (.lst ([It.word WW [],.mark "z",.ref "z" "" ""].map It.d))]=some (QP (List.replicate (h-1).toNat "")):=by
   obtain ⟨m,em⟩:∃ m:Nat,h-1=m:=⟨(h-1).toNat,by omega⟩
   rw [Zq (fun i:Nat=>D.int (0+(i:Int))) (List.range m) (fun e=>∃ v,e=[v]) (fun _=>true) (fun _=>.str "") (by show D.rng (.int (h-1))=_;rw [em];exact Qbj m (by omega)) (lB (by simp;omega)) ⟨none,rfl⟩ (by
    rintro i hi e ⟨v,rfl⟩
    exact ⟨[some (.int (0+(i:Int)))],rfl,⟨_,rfl⟩,rfl,fun _=>rfl⟩)]
   rw [Z1,em]
   unfold QP
   simp [List.map_const']
  have ds:D.sub (.int T) (.int 2)=some (.int (T-2)):=rfl
  refine ret ?_
  simp only [Qo,lC,Qn,lN,hc,eOp,eC,eV,List.getElem?_cons_zero,List.getElem?_cons_succ,Option.join_some,Option.bind_some,Option.map_some,ds]
  rfl
noncomputable def YO (c:Int) (k:Nat):At:=if h:k<58 then Classical.choose (Qll c k h) else .brk
theorem Qel (c:Int) (k:Nat) (h:k<58):VP [.int c,.int k]=some (YO c k).d/\QoJ k (YO c k):=by
 unfold YO
 rw [dif_pos h]
 exact Classical.choose_spec (Qll c k h)
def Zu (ns:List Int):List Int:=Zf ns none (some 63)++[7]
theorem QhA (ns:List Int):(Zf ns none (some 63)).length<=63:=by
 unfold Zf Z8
 rw [List.length_take]
 simp only []
 rw [if_neg (by decide)]
 omega
def Vd:Nat:=58
def JZ (ns:List Int):List Int:=(List.range (mix (cell ns 5) 29%Vd).toNat).map fun k:Nat=>(Zu ns).getD ((k:Int)%((Zu ns).length:Int)).toNat 0
theorem QmD (ns:List Int):(JZ ns).length<Vd:=by
 unfold JZ
 rw [List.length_map,List.length_range]
 have h1:=Int.emod_lt_of_pos (mix (cell ns 5) 29) (show (0:Int)<Vd by decide)
 have h2:=Int.emod_nonneg (mix (cell ns 5) 29) (show (Vd:Int)≠0 by decide)
 omega
theorem Qhz:Vd<=58:=by decide
noncomputable def Jz (cs:List Int):List At:=cs.zipIdx.map fun p=>YO p.1 p.2
theorem Qbh (cs:List Int):(Jz cs).length=cs.length:=by unfold Jz;simp
noncomputable def Qba (cs:List Int):List Bk:=(grp (Jj cs (Jz cs)++[.fin])).1
def AtB:At->Prop
 | .bk (.para _)=>False
 | .bk b=>BkB b
 | .it i=>ItB i
 | .brk=>True
 | .fin=>False
theorem QsT {k:Nat}:∀ {a:At},QoJ k a->AtB a
 | .brk,h=>trivial
 | .bk (.chapter t l),h=>h.1
 | .bk (.heading t n l),h=>⟨h.1,h.2.1⟩
 | .bk (.table rs l),h=>⟨h.1,h.2.1⟩
 | .bk (.plates n l),h=>h.1
 | .it (.mark l),h=>trivial
 | .it (.key w),h=>h
 | .it (.ref l a b),h=>h.2
 | .it (.word w ns),h=>h
 | .bk (.para _),h=>h.elim
 | .fin,h=>h.elim
theorem Qex:∀ {a:At},AtB a->AtS a
 | .brk,h=>trivial
 | .bk (.chapter t l),h=>trivial
 | .bk (.heading t n l),h=>trivial
 | .bk (.table rs l),h=>trivial
 | .bk (.plates n l),h=>trivial
 | .it _,h=>trivial
 | .bk (.para _),h=>h.elim
 | .fin,h=>h.elim
theorem Qsl:ItB (.word (Str.ofString "lost") []):=⟨by decide +kernel,by simp,by simp⟩
theorem Qtp:ItB (.word (Str.ofString "end") []):=⟨by decide +kernel,by simp,by simp⟩
theorem QtW (ls:List Str) (cs:List Int) (i:Nat) (a:At) (h:AtB a):AtB (pt ls cs i a):=by
 unfold pt
 split
 ·split
  ·exact Qsl
  ·exact h
 ·exact h
theorem QkX {α:Type} {xs:List α} {p:α×Nat} (h:p∈xs.zipIdx):p.2<xs.length:=by
 obtain ⟨x,i⟩:=p
 exact (List.mem_zipIdx' h).1
theorem Qfk (cs:List Int) (h:cs.length<=58):∀ a∈Jz cs,AtB a:=by
 intro a ha
 obtain ⟨p,hp,rfl⟩:=List.mem_map.mp ha
 exact QsT (Qel p.1 p.2 (by have:=QkX hp;omega)).2
theorem Qhf (cs:List Int) (as:List At) (h:∀ a∈as,AtB a):∀ a∈Jj cs as,AtB a:=by
 intro a ha
 unfold Jj at ha
 obtain ⟨i,hi,rfl⟩:=List.mem_mapIdx.mp ha
 exact QtW _ _ _ _ (h _ (List.getElem_mem hi))
theorem QeI (cs:List Int) (as:List At):(Jj cs as).length=as.length:=by unfold Jj;simp
theorem QmI {row:List It} (h:∀ i∈row,ItB i):∀ i∈Qp row,ItB i:=by
 intro i hi
 unfold Qp at hi
 split at hi
 ·split at hi
  ·rcases List.mem_append.mp hi with z | z
   ·exact h i z
   ·rw [List.mem_singleton.mp z];exact Qtp
  ·exact h i hi
 ·exact h i hi
def GB (s:List Bk×List It):Prop:=(∀ b∈s.1,BkB b)/\(∀ i∈s.2,ItB i)
theorem Qq7 {s:List Bk×List It} {a:At} (hs:GB s) (ha:AtB a\/a=.fin):GB (JI s a):=by
 obtain ⟨bs,row⟩:=s
 have hp:BkB (.para (Qp row)):=QmI hs.2
 have h1:∀ b∈bs++[.para (Qp row)],BkB b:=by
  intro b hb
  rcases List.mem_append.mp hb with z | z
  ·exact hs.1 b z
  ·rw [List.mem_singleton.mp z];exact hp
 have h2:∀ b∈(if Qp row=[] then bs else bs++[.para (Qp row)]),BkB b:=by
  intro b hb
  split at hb
  ·exact hs.1 b hb
  ·exact h1 b hb
 cases a with
 | it i =>
  refine ⟨hs.1,fun j hj=>?_⟩
  rcases List.mem_append.mp hj with z | z
  ·exact hs.2 j z
  ·rw [List.mem_singleton.mp z]
   rcases ha with q | q
   ·exact q
   ·cases q
 | bk b =>
  refine ⟨fun j hj=>?_,fun j hj=>by cases hj⟩
  rcases List.mem_append.mp hj with z | z
  ·exact h2 j z
  ·rw [List.mem_singleton.mp z]
   rcases ha with q | q
   ·cases b<;>first | exact q | exact q.elim
   ·cases q
 | brk=>exact ⟨h1,fun j hj=>by cases hj⟩
 | fin=>exact ⟨h2,fun j hj=>by cases hj⟩
theorem Qsz (as:List At):∀ s,GB s->(∀ a∈as,AtB a\/a=.fin)->GB (as.foldl JI s):=by
 induction as with
 | nil=>intro s h _;exact h
 | cons a as ih=>intro s h ha;exact ih _ (Qq7 h (ha a List.mem_cons_self)) (fun x hx=>ha x (List.mem_cons_of_mem _ hx))
def tot (s:List Bk×List It):Nat:=(s.1.flatMap iO).length+s.2.length
theorem Qn2 (s:List Bk×List It) (a:At) (ha:AtS a\/a=.fin):tot (JI s a)<=tot s+1:=by
 obtain ⟨bs,row⟩:=s
 have hc:=QjV row
 have h1:((bs++[Bk.para (Qp row)]).flatMap iO).length=(bs.flatMap iO).length+(Qp row).length:=by
  rw [List.flatMap_append,List.length_append];simp [iO]
 have h2:((if Qp row=[] then bs else bs++[Bk.para (Qp row)]).flatMap iO).length<=(bs.flatMap iO).length+(Qp row).length:=by
  split
  ·omega
  ·rw [h1];omega
 unfold tot
 cases a with
 | it i=>simp only [JI,List.length_append,List.length_cons,List.length_nil];omega
 | bk b =>
  have hb:iO b=[]:=by
   rcases ha with q | q
   ·cases b<;>first | rfl | exact q.elim
   ·cases q
  simp only [JI,List.flatMap_append,List.length_append,List.length_nil,List.flatMap_cons,List.flatMap_nil,hb,List.append_nil]
  omega
 | brk=>simp only [JI,h1,List.length_nil];omega
 | fin=>simp only [JI,List.length_nil];omega
theorem Qpv (as:List At):∀ s,(∀ a∈as,AtS a\/a=.fin)->tot (as.foldl JI s)<=tot s+as.length:=by
 induction as with
 | nil=>intro s _;exact Nat.le_refl _
 | cons a as ih =>
  intro s ha
  have h1:=Qn2 s a (ha a List.mem_cons_self)
  have h2:=ih (JI s a) (fun x hx=>ha x (List.mem_cons_of_mem _ hx))
  rw [List.foldl_cons,List.length_cons];omega
theorem QfG (cs:List Int) (h:cs.length<58):∀ a∈Jj cs (Jz cs)++[At.fin],AtB a\/a=.fin:=by
 intro a ha
 rcases List.mem_append.mp ha with z | z
 ·exact .inl (Qhf cs _ (Qfk cs (by omega)) a z)
 ·exact .inr (List.mem_singleton.mp z)
theorem Qrn (cs:List Int) (h:cs.length<58):∀ b∈Qba cs,BkB b :=
 (Qsz _ ([],[]) (by simp [GB]) (QfG cs h)).1
theorem Qof (cs:List Int) (h:cs.length<58):(Qba cs).length<=116/\((Qba cs).flatMap iO).length<=58:=by
 have h1:=(Qk6 (Jj cs (Jz cs)++[At.fin]) ([],[])).1
 have h2:=Qpv (Jj cs (Jz cs)++[At.fin]) ([],[]) (fun a ha=>by
  rcases QfG cs h a ha with z | z
  ·exact .inl (Qex z)
  ·exact .inr z)
 have hl:(Jj cs (Jz cs)++[At.fin]).length<=58:=by rw [List.length_append,QeI,Qbh];simp;omega
 unfold tot at h2
 unfold Qba grp
 simp at h1 h2 hl ⊢
 omega
theorem QpN (cs:List Int) (h:cs.length<58):YL [.lst ((Jj cs (Jz cs)).map At.d)]=some (bks (Qba cs)) :=
 Qmo _ (by rw [QeI,Qbh];omega) (fun a ha=>Qex (Qhf cs _ (Qfk cs (by omega)) a ha))
theorem QcN {m M:Int} {xs:List Int} (h:m<=M) (hx:∀ x∈xs,x<=M):JX m xs<=M:=by
 rcases (QaX xs m).1 with z | z
 ·rw [z];exact h
 ·exact hx _ z
theorem Qbk (m:Int) (xs:List Int):m<=JX m xs:=(QaX xs m).2.1
theorem QbL {m x:Int} {xs:List Int} (h:x∈xs):x<=JX m xs:=(QaX xs m).2.2 x h
theorem Qbd (nss:List (List Str)):∀ w,w<=nss.foldl (fun w ns=>JX w (VI ns)) w:=by
 induction nss with
 | nil=>intro w;exact Int.le_refl _
 | cons ns nss ih=>intro w;exact Int.le_trans (Qbk w _) (ih _)
theorem Qmp {M:Int} (nss:List (List Str)) (h:∀ ns∈nss,∀ r∈ns,(r.length:Int)<=M):∀ w,w<=M->nss.foldl (fun w ns=>JX w (VI ns)) w<=M:=by
 induction nss with
 | nil=>intro w hw;exact hw
 | cons ns nss ih =>
  intro w hw
  refine ih (fun x hx=>h x (List.mem_cons_of_mem _ hx)) _ (QcN hw fun x hx=>?_)
  obtain ⟨r,hr,rfl⟩:=List.mem_map.mp hx
  exact h ns List.mem_cons_self r hr
theorem QkC (nss:List (List Str)):∀ w,∀ ns∈nss,∀ r∈ns,(r.length:Int)<=nss.foldl (fun w ns=>JX w (VI ns)) w:=by
 induction nss with
 | nil=>intro w ns h;cases h
 | cons n0 nss ih =>
  intro w ns h r hr
  rcases List.mem_cons.mp h with z | z
  ·subst z
   exact Int.le_trans (QbL (m:=w) (List.mem_map.mpr ⟨r,hr,rfl⟩)) (Qbd nss _)
  ·exact ih _ ns z r hr
theorem Qhn {is:List It} {w:Str} {ns:List Str} (h:It.word w ns∈is):ns∈Yl is:=List.mem_map.mpr ⟨_,List.mem_filter.mpr ⟨h,rfl⟩,rfl⟩
theorem Qpg {room w M:Int} {b:Bk} (hb:BkB b) (h0:0<=room) (hM:43+room<=M) (hw:w<=M):Zs room w b<=M:=by
 cases b with
 | chapter t l=>have:=hb.2;simp only [Zs];split<;>omega
 | heading t k l=>have:=hb.1.2;simp only [Zs];split<;>omega
 | plates n l=>exact hw
 | table rs l =>
  refine QcN hw fun x hx=>?_
  obtain ⟨r,hr,rfl⟩:=List.mem_map.mp hx
  have:=hb.2 r hr
  omega
 | para is =>
  have hi:∀ i∈is,ItB i:=hb
  refine Qmp _ (fun ns hn r hr=>?_) _ (QcN (QcN hw fun x hx=>?_) fun x hx=>?_)
  ·have:=(QgL hi ns hn).2 r hr;omega
  ·obtain ⟨i,hr,rfl⟩:=List.mem_map.mp hx
   have h1:=hi i (List.mem_filter.mp hr).1
   cases i with
   | ref l a b=>have:=h1.1;have:=h1.2;simp only [Qc6];omega
   | _=>simp only [Qc6];omega
  ·obtain ⟨i,hr,rfl⟩:=List.mem_map.mp hx
   have h1:=hi i (List.mem_filter.mp hr).1
   cases i with
   | word w ns=>have:=h1.1.2;simp only [QdR];omega
   | _=>simp only [QdR];omega
theorem Qpi {h M:Int} {b:Bk} (hb:BkB b) (hM:31<=M) (hh:h<=M):Zt h b<=M:=by
 cases b with
 | heading t k l=>have:=hb.2;simp only [Zt];split<;>omega
 | table rs l=>have:=hb.1;simp only [Zt];split<;>omega
 | para is =>
  refine QcN hh fun x hx=>?_
  obtain ⟨ns,hn,rfl⟩:=List.mem_map.mp hx
  have:=(QgL (show ∀ i∈is,ItB i from hb) ns hn).1
  omega
 | _=>exact hh
theorem Qph (room w:Int) (b:Bk):w<=Zs room w b:=by
 cases b with
 | chapter t l=>simp only [Zs];split<;>omega
 | heading t k l=>simp only [Zs];split<;>omega
 | plates n l=>exact Int.le_refl _
 | table rs l=>exact Qbk _ _
 | para is=>exact Int.le_trans (Int.le_trans (Qbk _ _) (Qbk _ _)) (Qbd _ _)
theorem Qpj (h:Int) (b:Bk):h<=Zt h b:=by
 cases b with
 | heading t k l=>simp only [Zt];split<;>omega
 | table rs l=>simp only [Zt];split<;>omega
 | para is=>exact Qbk _ _
 | _=>exact Int.le_refl _
def Qe4 (room w h:Int):It->Prop
 | .word x ns=>(x.length:Int)<=w/\1+(ns.length:Int)<=h/\∀ r∈ns,(r.length:Int)<=w
 | .ref _ a b=>(a.length:Int)+room+b.length<=w
 | _=>True
def Qbr (room w h:Int):Bk->Prop
 | .chapter t _=>(t.length:Int)+2+room<=w
 | .heading t k _=>(t.length:Int)+2+room<=w/\k+1<=h
 | .table rs _=>(rs.length:Int)<=h/\∀ r∈rs,(r.length:Int)<=w
 | .para is=>∀ i∈is,Qe4 room w h i
 | .plates _ _=>True
theorem Qn3 {room w h w' h':Int} {i:It} (hw:w<=w') (hh:h<=h') (f:Qe4 room w h i):Qe4 room w' h' i:=by
 cases i with
 | word x ns=>exact ⟨Int.le_trans f.1 hw,Int.le_trans f.2.1 hh,fun r hr=>Int.le_trans (f.2.2 r hr) hw⟩
 | ref l a b=>exact Int.le_trans f hw
 | _=>trivial
theorem Qhv {room w h w' h':Int} {b:Bk} (hw:w<=w') (hh:h<=h') (f:Qbr room w h b):Qbr room w' h' b:=by
 cases b with
 | chapter t l=>exact Int.le_trans f hw
 | heading t k l=>exact ⟨Int.le_trans f.1 hw,Int.le_trans f.2 hh⟩
 | table rs l=>exact ⟨Int.le_trans f.1 hh,fun r hr=>Int.le_trans (f.2 r hr) hw⟩
 | para is=>exact fun i hi=>Qn3 hw hh (f i hi)
 | plates n l=>trivial
theorem Qpf (room w h:Int) (b:Bk):Qbr room (Zs room w b) (Zt h b) b:=by
 cases b with
 | chapter t l=>show _<=Zs _ _ _;simp only [Zs];split<;>omega
 | heading t k l =>
  refine ⟨?_,?_⟩
  ·simp only [Zs];split<;>omega
  ·simp only [Zt];split<;>omega
 | plates n l=>trivial
 | table rs l =>
  refine ⟨?_,fun r hr=>QbL (List.mem_map.mpr ⟨r,hr,rfl⟩)⟩
  simp only [Zt];split<;>omega
 | para is =>
  intro i hi
  cases i with
  | word x ns =>
   refine ⟨Int.le_trans (QbL (List.mem_map.mpr ⟨It.word x ns,List.mem_filter.mpr ⟨hi,rfl⟩,rfl⟩)) (Qbd _ _),?_,fun r hr=>?_⟩
   ·exact QbL (List.mem_map.mpr ⟨ns,Qhn hi,rfl⟩)
   ·exact QkC _ _ ns (Qhn hi) r hr
  | ref l a b=>exact Int.le_trans (Int.le_trans (QbL (List.mem_map.mpr ⟨It.ref l a b,List.mem_filter.mpr ⟨hi,rfl⟩,rfl⟩)) (Qbk _ _)) (Qbd _ _)
  | _=>trivial
theorem Qhk (room M H:Int) (h0:0<=room) (hM:43+room<=M) (hH:31<=H):∀ (bs:List Bk) (s:Int×Int),(∀ b∈bs,BkB b)->s.1<=M->s.2<=H ->
  let r:=bs.foldl (fun s b=>(Zs room s.1 b,Zt s.2 b)) s
  s.1<=r.1/\r.1<=M/\s.2<=r.2/\r.2<=H/\∀ b∈bs,Qbr room r.1 r.2 b
 | [],s,_,h1,h2=>⟨Int.le_refl _,h1,Int.le_refl _,h2,fun _ h=>by cases h⟩
 | b::bs,s,hb,h1,h2=>by
  obtain ⟨a1,a2,a3,a4,a5⟩:=Qhk room M H h0 hM hH bs (Zs room s.1 b,Zt s.2 b) (fun x hx=>hb x (List.mem_cons_of_mem _ hx)) (Qpg (hb b List.mem_cons_self) h0 hM h1) (Qpi (hb b List.mem_cons_self) hH h2)
  refine ⟨Int.le_trans (Qph _ _ _) a1,a2,Int.le_trans (Qpj _ _) a3,a4,fun x hx=>?_⟩
  rcases List.mem_cons.mp hx with z | z
  ·subst z;exact Qhv a1 a3 (Qpf room s.1 s.2 x)
  ·exact a5 x z
theorem QpS {li:Bool} {b:Bk} (hb:BkB b) (hl:(iO b).length<=1000):2<=JH li b/\JH li b<=10^39+3000:=by
 have:(3000:Int)<=10^39:=by decide
 cases b with
 | chapter t l=>simp only [JH];split<;>omega
 | heading t k l=>simp only [JH];split<;>omega
 | table rs l=>simp only [JH];omega
 | plates n l=>have h1:=hb.1;have h2:=hb.2;simp only [JH];omega
 | para is =>
  have h1:=List.length_filter_le Jl is
  have h2:is.length<=1000:=hl
  simp only [JH];omega
theorem Qm2 (li:Bool):∀ (bs:List Bk) (s:Int),(∀ b∈bs,BkB b/\(iO b).length<=1000)->s<=bs.foldl (fun s b=>s+JH li b) s/\bs.foldl (fun s b=>s+JH li b) s<=s+bs.length*(10^39+3000)
 | [],s,_=>by simp
 | b::bs,s,h=>by
  have h1:=QpS (li:=li) (h b List.mem_cons_self).1 (h b List.mem_cons_self).2
  have h2:=Qm2 li bs (s+JH li b) (fun x hx=>h x (List.mem_cons_of_mem _ hx))
  rw [List.foldl_cons,List.length_cons]
  refine ⟨by omega,Int.le_trans h2.2 ?_⟩
  have:((bs.length+1:Nat):Int)*(10^39+3000)=bs.length*(10^39+3000)+(10^39+3000):=by
   rw [show ((bs.length+1:Nat):Int)=(bs.length:Int)+1 from by omega,Int.add_mul,Int.one_mul]
  omega
def dLi (ns:List Int):Bool:=decide (cell ns 3%2=1)
def dO (ns:List Int):Bool:=decide (cell ns 2%2=1)
def dE0 (ns:List Int):List Bk:=ZN ns 4 2 (dLi ns)
noncomputable def dBk (ns:List Int):List Bk:=Qba (JZ ns)
noncomputable def ZV (ns:List Int):Int:=most (dLi ns) (dE0 ns++dBk ns)
noncomputable def dR (ns:List Int):Int:=Qbq (ZV ns).toNat
noncomputable def Jt (ns:List Int):Int×Int:=QlO (dR ns) (dBk ns++dE0 ns)
noncomputable def Vm (ns:List Int):Int:=if (dE0 ns).isEmpty then (Jt ns).1 else if dR ns+2 > (Jt ns).1 then dR ns+2 else (Jt ns).1
noncomputable def dW (ns:List Int):Int:=if 4+mix (cell ns 0) 1%30 > Vm ns then 4+mix (cell ns 0) 1%30 else Vm ns
noncomputable def dH (ns:List Int):Int:=if cell ns 1%5=1 then (if 2+mix (cell ns 1) 4%59 > (Jt ns).2 then 2+mix (cell ns 1) 4%59 else (Jt ns).2) else (if 2+mix (cell ns 1) 2%5 > (Jt ns).2 then 2+mix (cell ns 1) 2%5 else (Jt ns).2)
noncomputable def Q2 (ns:List Int):List Bk:=ZN ns (dW ns) (dH ns) (dLi ns)++dBk ns
theorem Z2:(Str.ofString "").length=0:=by decide +kernel
theorem QlI (n:Int):(YX (Str.ofString "w") n).length=n.toNat:=by
 rw [QiS,show (Str.ofString "w").length=1 from by decide +kernel];omega
theorem VN (ns:List Int) (w h:Int) (li:Bool):(ZN ns w h li).length<=3/\((ZN ns w h li).flatMap iO).length<=3:=by
 unfold ZN
 split
 ·simp
 ·simp [iO]
theorem Qrs {n:Int} (h:1<=n/\n<=6):(10:Int)<=10^n.toNat/\(10:Int)^n.toNat<=10^6:=by
 have:n=1\/n=2\/n=3\/n=4\/n=5\/n=6:=by omega
 rcases this with q | q | q | q | q | q<;>subst q<;>decide
theorem QlV (ns:List Int):∀ b∈dE0 ns,BkB b:=by
 intro b hb
 unfold dE0 ZN at hb
 have h6:=Qrs (Qbl ns)
 have hN:=Qbl ns
 split at hb
 ·cases hb
 ·simp only [List.mem_cons,List.not_mem_nil,or_false] at hb
  rcases hb with z | z | z
  ·subst z
   have:(10:Int)^6<=10^39:=by decide
   exact ⟨by omega,by omega⟩
  ·subst z
   refine ⟨by simp,fun r hr=>?_⟩
   rw [List.eq_of_mem_replicate hr,Z2];omega
  ·subst z
   intro i hi
   simp only [List.mem_cons,List.not_mem_nil,or_false] at hi
   rcases hi with z | z | z<;>subst z
   ·refine ⟨?_,by simp,by simp⟩
    rw [QlI]
    split<;>omega
   ·trivial
   ·exact ⟨by rw [Z2];omega,by rw [Z2];omega⟩
theorem QgN {xs ys:List Bk} {a b:Nat} (h1:xs.length<=a/\(xs.flatMap iO).length<=a) (h2:ys.length<=b/\(ys.flatMap iO).length<=b) (h:a+b<=100000):Few (xs++ys):=by
 refine ⟨?_,?_⟩
 ·rw [List.length_append];omega
 ·rw [List.flatMap_append,List.length_append];omega
theorem Vh (ns:List Int):(JZ ns).length<58:=Nat.lt_of_lt_of_le (QmD ns) Qhz
theorem Qbm (ns:List Int):(dBk ns).length<=116/\((dBk ns).flatMap iO).length<=116:=by
 have:=Qof (JZ ns) (Vh ns)
 exact ⟨this.1,by have:=this.2;unfold dBk;omega⟩
theorem Qid (ns:List Int):∀ b∈dBk ns,BkB b:=Qrn _ (Vh ns)
theorem QgP (ns:List Int):3<=ZV ns/\ZV ns<10^42:=by
 have h:=Qm2 (dLi ns) (dE0 ns++dBk ns) 3 (fun b hb=>by
  have h1:BkB b:=by
   rcases List.mem_append.mp hb with z | z
   ·exact QlV ns b z
   ·exact Qid ns b z
  refine ⟨h1,?_⟩
  have hf:((dE0 ns++dBk ns).flatMap iO).length<=119:=by
   rw [List.flatMap_append,List.length_append]
   have h1:=(VN ns 4 2 (dLi ns)).2
   have h2:=(Qbm ns).2
   unfold dE0;omega
  obtain ⟨s,t,e⟩:=List.append_of_mem hb
  rw [e,List.flatMap_append,List.flatMap_cons] at hf
  simp only [List.length_append] at hf
  omega)
 have hl:((dE0 ns++dBk ns).length:Int)<=119:=by
  rw [List.length_append]
  have h1:=(VN ns 4 2 (dLi ns)).1
  have h2:=(Qbm ns).1
  unfold dE0;omega
 refine ⟨h.1,?_⟩
 have h2:ZV ns<=3+((dE0 ns++dBk ns).length:Int)*(10^39+3000):=h.2
 have h3:((dE0 ns++dBk ns).length:Int)*(10^39+3000)<=119*(10^39+3000):=Int.mul_le_mul_of_nonneg_right hl (by decide)
 have h4:(3:Int)+119*(10^39+3000)<10^42:=by decide
 omega
theorem QcU (ns:List Int):1<=dR ns/\dR ns<=42:=by
 have h:=QgP ns
 have h1:=QpA (ZV ns).toNat
 have h2:Qbq (ZV ns).toNat<=42:=(Nat.length_toDigits_le_iff (by decide) (by decide)).mpr (by
  have:((10^42:Nat):Int)=10^42:=by decide
  omega)
 unfold dR
 omega
theorem Qa0 (ns:List Int):4<=(Jt ns).1/\(Jt ns).1<=85/\2<=(Jt ns).2/\(Jt ns).2<=31/\∀ b∈dBk ns++dE0 ns,Qbr (dR ns) (Jt ns).1 (Jt ns).2 b:=by
 have hr:=QcU ns
 exact Qhk (dR ns) 85 31 (by omega) (by omega) (by decide) (dBk ns++dE0 ns) (4,2) (fun b hb=>by
  rcases List.mem_append.mp hb with z | z
  ·exact Qid ns b z
  ·exact QlV ns b z) (by decide) (by decide)
theorem Qli (ns:List Int):(Jt ns).1<=Vm ns/\Vm ns<=85:=by
 have h1:=Qa0 ns
 have h2:=QcU ns
 unfold Vm
 split
 ·omega
 ·split<;>omega
theorem QlE (ns:List Int):Vm ns<=dW ns/\4<=dW ns/\dW ns<=90:=by
 have h1:=Qa0 ns
 have h2:=Qli ns
 unfold dW
 split<;>omega
theorem QgD (ns:List Int):(Jt ns).2<=dH ns/\2<=dH ns/\dH ns<=60:=by
 have h1:=Qa0 ns
 unfold dH
 split
 ·split<;>omega
 ·split<;>omega
theorem QiD {xs ys:List Bk} (h:xs.length+ys.length<=lI):D.add (bks xs) (bks ys)=some (bks (xs++ys)):=Qii (f:=Bk.d) h
theorem Qtf (xs:List Bk):D.neO (bks xs) (.lst [])=some (.bl (!xs.isEmpty)):=Qh7 Qm9 (by decide) xs
theorem Qom (ns:List Int) (e:Qr) (hc:Qci 1 [1] e=[none,some (.lst ((Zu ns).map .int))]) (a:EvE) (ha:a e=some (.int (mix (cell ns 5) 29%Vd))):QX 1 [1] (Yy a) (gS 0) (eC (.bl true)) (eOp D.ix (eV 1) (eOp D.mod (eV 0) (eUn D.len (eV 1)))) e=some (.lst ((JZ ns).map .int)):=by
 obtain ⟨m,em⟩:∃ m:Nat,mix (cell ns 5) 29%Vd=m:=⟨(mix (cell ns 5) 29%Vd).toNat,by have:=Int.emod_nonneg (mix (cell ns 5) 29) (show (Vd:Int)≠0 by decide);omega⟩
 have hm:m<=58:=by
  have h1:=Int.emod_lt_of_pos (mix (cell ns 5) 29) (show (0:Int)<Vd by decide)
  have:=Qhz
  omega
 rw [Zq (fun i:Nat=>D.int (0+(i:Int))) (List.range m) (fun e=>∃ v,e=[v,some (.lst ((Zu ns).map .int))]) (fun _=>true) (fun i:Nat=>.int ((Zu ns).getD ((i:Int)%((Zu ns).length:Int)).toNat 0)) (by unfold Yy;rw [ha,em];exact Qbj m (by omega)) (lB (by simp;omega)) ⟨none,hc⟩ (by
  rintro i hi e ⟨v,rfl⟩
  refine ⟨[some (.int (0+(i:Int))),some (.lst ((Zu ns).map .int))],rfl,⟨_,rfl⟩,rfl,fun _=>?_⟩
  have hn:(0:Int)<((Zu ns).length:Int):=by unfold Zu;simp only [List.length_append,List.length_cons,List.length_nil];omega
  have ln:D.len (.lst ((Zu ns).map .int))=some (.int (Zu ns).length):=by
   show some (D.int ((Zu ns).map D.int).length)=_
   rw [List.length_map]
  have md:D.mod (.int (i:Int)) (.int ((Zu ns).length:Int))=some (.int ((i:Int)%((Zu ns).length:Int))):=VE hn
  have ixl:=Qe2 (f:=D.int) (Zu ns) ((i:Int)%((Zu ns).length:Int)) 0 (Int.emod_nonneg _ (by omega)) (Int.emod_lt_of_pos _ hn)
  generalize (Zu ns).map D.int=EV at *
  simp [eOp,eV,eUn,ln,md,ixl])]
 rw [Z1]
 unfold JZ
 rw [em,List.map_map]
 rfl
theorem QmK (cs:List Int) (A:Int×Nat->At) (hl:cs.length<=58) (e:Qr) (h2:eV 2 e=some (.lst (cs.map .int))) (hA:∀ p∈cs.zipIdx,∀ j:Int,j=p.2->VP [.int p.1,.int j]=some (A p).d):QX 2 [] (QaI (eV 2)) (Js [gS 0,gS 1]) (eC (.bl true)) (eK VP (lC (eV 1) (lC (eV 0) lN))) e=some (.lst ((cs.zipIdx.map A).map At.d)):=by
 rw [Zq (fun p:Int×Nat=>D.tup [.int p.2,.int p.1]) cs.zipIdx (fun e=>∃ u v,e=[u,v]) (fun _=>true) (fun p:Int×Nat=>(A p).d) (by unfold QaI;rw [h2];show some (Vl 0 (cs.map .int))=_;rw [QbQ]) (lB (by simp;omega)) ⟨none,none,rfl⟩ (by
  rintro p hp e ⟨u,v,rfl⟩
  obtain ⟨j,ej⟩:∃ j:Int,(p.2:Int)=j:=⟨_,rfl⟩
  have h:=hA p hp j ej.symm
  rw [ej]
  refine ⟨[some (.int j),some (.int p.1)],rfl,⟨_,_,rfl⟩,rfl,fun _=>?_⟩
  generalize (A p).d=X at *
  simp only [eK,lC,lN,eV,List.getElem?_cons_zero,List.getElem?_cons_succ,Option.join_some,Option.bind_some,Option.map_some,h])]
 rw [Z1,List.map_map]
 rfl
theorem Qou (ns:List Int) (e:Qr) (h2:eV 2 e=some (.lst ((JZ ns).map .int))):QX 2 [] (QaI (eV 2)) (Js [gS 0,gS 1]) (eC (.bl true)) (eK VP (lC (eV 1) (lC (eV 0) lN))) e=some (.lst ((Jz (JZ ns)).map At.d)):=by
 have hl:=Vh ns
 exact QmK (JZ ns) (fun p=>YO p.1 p.2) (by omega) e h2 (fun p hp j ej=>by
  rw [ej]
  exact (Qel p.1 p.2 (by have:=QkX hp;omega)).1)
theorem Qpy (ns:List Int):QbO [.scr ns]=some (.tup [bks (Q2 ns),.tup [.int (dW ns),.int (dH ns),.bl (dO ns),.bl (dLi ns)],.int (dR ns)]):=by
 have cl:=Vh ns
 have hB:=Qbm ns
 have hE:=VN ns 4 2 (dLi ns)
 have hE2:=VN ns (dW ns) (dH ns) (dLi ns)
 have hm:=QgP ns
 have hn:=Qa0 ns
 have hw:=QlE ns
 have hh:=QgD ns
 have eE:ZN ns 4 2 (dLi ns)=dE0 ns:=rfl
 rw [eE] at hE
 have c0:Jm [.scr ns,.int 0]=some (.int (cell ns 0)):=Qbn ns 0
 have c1:Jm [.scr ns,.int 1]=some (.int (cell ns 1)):=Qbn ns 1
 have c2:Jm [.scr ns,.int 2]=some (.int (cell ns 2)):=Qbn ns 2
 have c3:Jm [.scr ns,.int 3]=some (.int (cell ns 3)):=Qbn ns 3
 have c5:Jm [.scr ns,.int 5]=some (.int (cell ns 5)):=Qbn ns 5
 have m29:=QaT (cell ns 5) 29 (by decide) (by decide)
 have m1:=QaT (cell ns 0) 1 (by decide) (by decide)
 have m2:=QaT (cell ns 1) 2 (by decide) (by decide)
 have m4:=QaT (cell ns 1) 4 (by decide) (by decide)
 have cu:Zg (.scr ns) none (some 63)=some (.lst ((Zf ns none (some 63)).map .int)):=rfl
 have ev:D.add (.lst ((Zf ns none (some 63)).map .int)) (.lst [.int 7])=some (.lst ((Zu ns).map .int)):=Qii (f:=D.int) (ys:=[7]) (lB (by have:=QhA ns;simp;omega))
 have pe:=Qma (Jz (JZ ns)) (JZ ns) (Qbh _) (by rw [Qbh];omega) (fun a ha=>Qex (Qfk _ (by omega) a ha))
 have ge:=QpN (JZ ns) cl
 have ee:=Qld ns 4 2 false (dLi ns) (by decide) (by decide)
 have ee2:=Qld ns (dW ns) (dH ns) (dO ns) (dLi ns) (by omega) (by omega)
 have fw:Few (dE0 ns++dBk ns):=QgN hE hB (by decide)
 have fw2:Few (dBk ns++dE0 ns):=QgN hB hE (by decide)
 have a1:D.add (bks (dE0 ns)) (bks (dBk ns))=some (bks (dE0 ns++dBk ns)):=QiD (lB (by omega))
 have a2:D.add (bks (dBk ns)) (bks (dE0 ns))=some (bks (dBk ns++dE0 ns)):=QiD (lB (by omega))
 have a3:D.add (bks (ZN ns (dW ns) (dH ns) (dLi ns))) (bks (dBk ns))=some (bks (Q2 ns)):=QiD (lB (by omega))
 have mo:QcQ [bks (dE0 ns++dBk ns),.bl (dLi ns)]=some (.int (ZV ns)):=QqS _ _ fw
 have ne:QbN [bks (dBk ns++dE0 ns),.int (dR ns)]=some (.tup [.int (Jt ns).1,.int (Jt ns).2]):=Qpe _ _ fw2 (fun b hb=>by
  rcases List.mem_append.mp hb with z | z
  ·exact Qid ns b z
  ·exact QlV ns b z)
 have nb:=Qtf (dE0 ns)
 have st1:D.strI (.int (ZV ns))=some (.str (Str.ofString (toString (ZV ns)))):=if_pos (by
  have:(10:Nat)^42<2^1900:=by decide +kernel
  have:((10^42:Nat):Int)=10^42:=by decide
  omega)
 have st2:(Str.ofString (toString (ZV ns))).length=Qbq (ZV ns).toNat:=by
  have:ZV ns=((ZV ns).toNat:Int):=by omega
  conv=>lhs;rw [this]
  exact QkN _
 have hr:=QcU ns
 have st3:D.len (.str (Str.ofString (toString (ZV ns))))=some (.int (dR ns)):=by
  rw [YY (by rw [st2];have:dR ns=Qbq (ZV ns).toNat:=rfl;omega),st2];rfl
 have eWd:(if (!(dE0 ns).isEmpty)=true then (if dR ns+2 > (Jt ns).1 then dR ns+2 else (Jt ns).1) else (Jt ns).1)=Vm ns:=by
  unfold Vm
  cases (dE0 ns).isEmpty<;>rfl
 have dli:D.eqO (.int (cell ns 3%2)) (.int 1)=some (.bl (dLi ns)):=by simp [D.eqO,Qy,QD,D.cmp,dLi]
 have dlo:D.eqO (.int (cell ns 2%2)) (.int 1)=some (.bl (dO ns)):=by simp [D.eqO,Qy,QD,D.cmp,dO]
 have ddh:D.eqO (.int (cell ns 1%5)) (.int 1)=some (.bl (decide (cell ns 1%5=1))):=by simp [D.eqO,Qy,QD,D.cmp]
 unfold QbO Qfs
 refine stD rfl ?_
 refine st (e1:=[some (.scr ns),some (.lst ((Zu ns).map .int)),none,none,none,none,none,none,none,none,none,none]) (asg (by simp only [eOp,JT,eV,sD,List.map_cons,List.map_nil,List.cons_append,List.nil_append,List.getElem?_cons_zero,Option.join_some,Option.bind_some,oNo,oAt,eC,cu,Qo,lC,lN,Option.map_some,ev]) rfl) ?_
 refine st (e1:=[some (.scr ns),some (.lst ((Zu ns).map .int)),some (.lst ((JZ ns).map .int)),none,none,none,none,none,none,none,none,none]) (asg (Qom ns _ rfl _ (by simp [eOp,eK,lC,lN,eV,eC,c5,m29,ZH,Vd])) rfl) ?_
 have ac:=Qou ns [some (.scr ns),some (.lst ((Zu ns).map .int)),some (.lst ((JZ ns).map .int)),none,none,none,none,none,none,none,none,none] rfl
 generalize hCE:(JZ ns).map D.int=CE at *
 generalize hEV:(Zu ns).map D.int=EV at *
 refine st (e1:=[some (.scr ns),some (.lst EV),some (.lst CE),some (bks (dBk ns)),none,none,none,none,none,none,none,none]) (asg (by
  have ge':YL [.lst ((Jj (JZ ns) (Jz (JZ ns))).map At.d)]=some (bks (dBk ns)):=ge
  generalize (Jj (JZ ns) (Jz (JZ ns))).map At.d=P at *
  generalize (Jz (JZ ns)).map At.d=A at *
  simp only [eK,lC,lN,ac,eV,List.getElem?_cons_zero,List.getElem?_cons_succ,Option.join_some,Option.bind_some,Option.map_some,pe,ge']) rfl) ?_
 refine st (e1:=[some (.scr ns),some (.lst EV),some (.lst CE),some (bks (dBk ns)),some (.bl (dLi ns)),none,none,none,none,none,none,none]) (asg (by simp [eOp,eK,lC,lN,eV,eC,c3,ZH,dli]) rfl) ?_
 rw [eE] at ee
 generalize Str.ofString (toString (ZV ns))=SM at *
 generalize bks (Q2 ns)=ALL at *
 generalize bks (ZN ns (dW ns) (dH ns) (dLi ns))=ED at *
 generalize bks (dE0 ns++dBk ns)=EB at *
 generalize bks (dBk ns++dE0 ns)=BE at *
 generalize bks (dE0 ns)=E0 at *
 generalize bks (dBk ns)=BK at *
 refine st (e1:=[some (.scr ns),some (.lst EV),some (.lst CE),some BK,some (.bl (dLi ns)),some E0,none,none,none,none,none,none]) (asg (by simp [eK,Qn,lC,lN,eV,eC,ee]) rfl) ?_
 refine st (e1:=[some (.scr ns),some (.lst EV),some (.lst CE),some BK,some (.bl (dLi ns)),some E0,some (.int (dR ns)),none,none,none,none,none]) (asg (by simp [eUn,eOp,eK,lC,lN,eV,a1,mo,st1,st3]) rfl) ?_
 refine st (e1:=[some (.scr ns),some (.lst EV),some (.lst CE),some BK,some (.bl (dLi ns)),some E0,some (.int (dR ns)),some (.int (Jt ns).1),some (.int (Jt ns).2),none,none,none]) (asg (d:=.tup [.int (Jt ns).1,.int (Jt ns).2]) (by simp only [eOp,eK,lC,lN,eV,List.getElem?_cons_zero,List.getElem?_cons_succ,Option.join_some,Option.bind_some,Option.map_some,a2,ne]) rfl) ?_
 refine st (e1:=[some (.scr ns),some (.lst EV),some (.lst CE),some BK,some (.bl (dLi ns)),some E0,some (.int (dR ns)),some (.int (Vm ns)),some (.int (Jt ns).2),none,none,none]) (by
  rw [<- eWd]
  cases q:(dE0 ns).isEmpty<;>rw [q] at nb<;>simp [sIf,eOp,eV,Qo,lN,nb,Qq,Qd,gS,eC,add_int,D.max2,sNx]) ?_
 refine st (e1:=[some (.scr ns),some (.lst EV),some (.lst CE),some BK,some (.bl (dLi ns)),some E0,some (.int (dR ns)),some (.int (Vm ns)),some (.int (Jt ns).2),some (.int (dW ns)),none,none]) (asg (by unfold dW;simp [eOp,eV,eC,eK,lC,lN,c0,m1,ZH,add_int,D.max2]) rfl) ?_
 obtain ⟨H0,eH0⟩:∃ H0:Int,(if 2+mix (cell ns 1) 2%5 > (Jt ns).2 then 2+mix (cell ns 1) 2%5 else (Jt ns).2)=H0:=⟨_,rfl⟩
 refine st (e1:=[some (.scr ns),some (.lst EV),some (.lst CE),some BK,some (.bl (dLi ns)),some E0,some (.int (dR ns)),some (.int (Vm ns)),some (.int (Jt ns).2),some (.int (dW ns)),some (.int H0),none]) (asg (by rw [<- eH0];simp [eOp,eV,eC,eK,lC,lN,c1,m2,ZH,add_int,D.max2]) rfl) ?_
 refine st (e1:=[some (.scr ns),some (.lst EV),some (.lst CE),some BK,some (.bl (dLi ns)),some E0,some (.int (dR ns)),some (.int (Vm ns)),some (.int (Jt ns).2),some (.int (dW ns)),some (.int (dH ns)),none]) (by
  unfold dH
  by_cases z:cell ns 1%5=1
  ·rw [if_pos z]
   rw [z] at ddh
   simp [sIf,eOp,eV,eC,eK,lC,lN,c1,m4,ZH,ddh,z,Qq,Qd,gS,add_int,D.max2]
  ·rw [if_neg z,eH0]
   simp [sIf,eOp,eV,eC,eK,lC,lN,c1,ZH,ddh,z,Qq,sNx]) ?_
 refine st (e1:=[some (.scr ns),some (.lst EV),some (.lst CE),some BK,some (.bl (dLi ns)),some E0,some (.int (dR ns)),some (.int (Vm ns)),some (.int (Jt ns).2),some (.int (dW ns)),some (.int (dH ns)),some (.tup [.int (dW ns),.int (dH ns),.bl (dO ns),.bl (dLi ns)])]) (asg (by simp [Qn,eOp,eV,eC,eK,lC,lN,c2,ZH,dlo]) rfl) ?_
 refine ret ?_
 simp [Qn,eOp,eV,eK,lC,lN,ee2,a3]
theorem ZR:∀ xs:List D,(∀ x∈xs,D.eq x x=some true)->D.eqL xs xs=some true
 | [],_=>Jn
 | x::xs,h=>by rw [Jf,h x List.mem_cons_self,ZR xs (fun y hy=>h y (List.mem_cons_of_mem _ hy))];rfl
theorem Yc (x:Str):D.eq (.str x) (.str x)=some true:=by rw [QK];simp
theorem Qfj (x:Int):D.eq (.int x) (.int x)=some true:=by rw [QD];simp
theorem QbP {α:Type} {f:α->D} (h:∀ a,D.eq (f a) (f a)=some true) (xs:List α):D.eq (.lst (xs.map f)) (.lst (xs.map f))=some true:=by
 rw [JS]
 refine ZR _ fun x hx=>?_
 obtain ⟨a,_,rfl⟩:=List.mem_map.mp hx
 exact h a
theorem Qhw (xs:List Str):D.eq (QP xs) (QP xs)=some true:=QbP Yc xs
theorem Qq9 (i:It):D.eq i.d i.d=some true:=by
 cases i with
 | word w ns=>simp only [It.d];rw [Jg];refine ZR _ fun x hx=>?_;simp only [List.mem_cons,List.not_mem_nil,or_false] at hx;rcases hx with z | z | z<;>subst z<;>first | exact Yc _ | exact Qhw _
 | ref l a b=>simp only [It.d];rw [Jg];refine ZR _ fun x hx=>?_;simp only [List.mem_cons,List.not_mem_nil,or_false] at hx;rcases hx with z | z | z | z<;>subst z<;>exact Yc _
 | mark l=>simp only [It.d];rw [Jg];refine ZR _ fun x hx=>?_;simp only [List.mem_cons,List.not_mem_nil,or_false] at hx;rcases hx with z | z<;>subst z<;>exact Yc _
 | key l=>simp only [It.d];rw [Jg];refine ZR _ fun x hx=>?_;simp only [List.mem_cons,List.not_mem_nil,or_false] at hx;rcases hx with z | z<;>subst z<;>exact Yc _
theorem Qlc (b:Bk):D.eq b.d b.d=some true:=by
 cases b with
 | chapter t l=>simp only [Bk.d];rw [Jg];refine ZR _ fun x hx=>?_;simp only [List.mem_cons,List.not_mem_nil,or_false] at hx;rcases hx with z | z | z<;>subst z<;>exact Yc _
 | heading t k l=>simp only [Bk.d];rw [Jg];refine ZR _ fun x hx=>?_;simp only [List.mem_cons,List.not_mem_nil,or_false] at hx;rcases hx with z | z | z | z<;>subst z<;>first | exact Yc _ | exact Qfj _
 | para is=>simp only [Bk.d];rw [Jg];refine ZR _ fun x hx=>?_;simp only [List.mem_cons,List.not_mem_nil,or_false] at hx;rcases hx with z | z<;>subst z<;>first | exact Yc _ | exact QbP Qq9 _
 | table rs l=>simp only [Bk.d];rw [Jg];refine ZR _ fun x hx=>?_;simp only [List.mem_cons,List.not_mem_nil,or_false] at hx;rcases hx with z | z | z<;>subst z<;>first | exact Yc _ | exact Qhw _
 | plates n l=>simp only [Bk.d];rw [Jg];refine ZR _ fun x hx=>?_;simp only [List.mem_cons,List.not_mem_nil,or_false] at hx;rcases hx with z | z | z<;>subst z<;>first | exact Yc _ | exact Qfj _
theorem Qt8 (bs:List Bk):D.eqO (bks bs) (bks bs)=some (.bl true):=by
 unfold D.eqO
 rw [if_pos (by have:=Qlf bs;omega),show D.eq (bks bs) (bks bs)=some true from QbP Qlc bs];rfl
theorem QqR (bs:List Bk):D.neO (bks bs) (bks bs)=some (.bl false):=by
 unfold D.neO
 rw [if_pos (by have:=Qlf bs;omega),show D.eq (bks bs) (bks bs)=some true from QbP Qlc bs];rfl
theorem QbS (ns:List Int):Few (Q2 ns):=QgN (VN ns _ _ _) (Qbm ns) (by decide)
structure Sta where
 p:Int
 l:Int
 u:Int
 f:Int
structure Plc where
 p:Int
 l:Int
 c:Int
def Sta.d (s:Sta):D:=.tup [.int s.p,.int s.l,.int s.u,.int s.f]
def Plc.d (s:Plc):D:=.tup [.int s.p,.int s.l,.int s.c]
def sty (w h:Int) (o li:Bool):D:=.tup [.int w,.int h,.bl o,.bl li]
def J2 (x:Plc×Sta):D:=.tup [x.1.d,x.2.d]
theorem p0 (x:Plc×Sta):D.ix (J2 x) (.int 0)=some x.1.d:=rfl
theorem p1 (x:Plc×Sta):D.ix (J2 x) (.int 1)=some x.2.d:=rfl
def QA (w h:Int) (s:Sta) (n r:Int):Plc×Sta :=
 if (s.u=0\/s.u+1+n<=w)/\s.l+s.f+(1+r)<=h then (⟨s.p,s.l,if s.u=0 then 0 else s.u+1⟩,⟨s.p,s.l,(if s.u=0 then 0 else s.u+1)+n,s.f+r⟩)
 else if 0<s.u/\s.l+s.f+(2+r)<=h then (⟨s.p,s.l+1,0⟩,⟨s.p,s.l+1,0+n,s.f+r⟩)
 else (⟨s.p+1,0,0⟩,⟨s.p+1,0,0+n,r⟩)
theorem Qtj (w h:Int) (o li:Bool) (s:Sta) (n:Int):QaP [sty w h o li,s.d,.int n]=some (.bl (decide (s.u=0\/s.u+1+n<=w))):=by
 unfold QaP Qcv sty Sta.d
 by_cases h1:s.u=0<;>by_cases h2:s.u+1+n<=w<;>simp [QI,JT,Zg,lI,QC,sD,sQ,sIf,Qk,ZA,Qd,Zr,J4,sNx,Z9,ZM,gS,Js,J6,eV,eC,eOp,eUn,Q1,QG,eOr,eIf,JF,Qn,Qo,eK,lN,lC,JJ,oNo,oAt,ZC,D.len,D.lt,D.le,D.gt,D.ge,D.add,D.sub,D.ix,D.eqO,D.neO,D.cmp,D.cmpN,D.inst,tyD,D.isT,D.intB,D.min2,D.max2,D.neg,D.addI,Qq,JM,JO,Jv,QM,QS,JL,JK,Jh,Ju,JP,JQ,Jw,Jx,JN,Jb,JC,J1,Qy,QB,Q9,Jd,QY,QQ,D.rng,D.its,D.itsT,QD,ZB,QK,Jg,JS,Jn,Jf,ixD,h1,h2]
theorem QlS (w h:Int) (o li:Bool) (s:Sta) (n:Int):Yt [sty w h o li,s.d,.int n]=some (.bl (decide (s.l+s.f+n<=h))):=by
 unfold Yt QbX sty Sta.d
 simp [QI,JT,Zg,lI,QC,sD,sQ,sIf,Qk,ZA,Qd,Zr,J4,sNx,Z9,ZM,gS,Js,J6,eV,eC,eOp,eUn,Q1,QG,eOr,eIf,JF,Qn,Qo,eK,lN,lC,JJ,oNo,oAt,ZC,D.len,D.lt,D.le,D.gt,D.ge,D.add,D.sub,D.ix,D.eqO,D.neO,D.cmp,D.cmpN,D.inst,tyD,D.isT,D.intB,D.min2,D.max2,D.neg,D.addI,Qq,JM,JO,Jv,QM,QS,JL,JK,Jh,Ju,JP,JQ,Jw,Jx,JN,Jb,JC,J1,Qy,QB,Q9,Jd,QY,QQ,D.rng,D.its,D.itsT,QD,ZB,QK,Jg,JS,Jn,Jf,ixD]
theorem QfW (w h:Int) (o li:Bool) (s:Sta) (n r:Int):Qab [sty w h o li,s.d,.int n,.int r]=some (J2 (QA w h s n r)):=by
 have a1:=Qtj w h o li s n
 have a2:=QlS w h o li s (1+r)
 have a3:=QlS w h o li s (2+r)
 have i0:D.ix s.d (.int 0)=some (.int s.p):=rfl
 have i1:D.ix s.d (.int 1)=some (.int s.l):=rfl
 have i2:D.ix s.d (.int 2)=some (.int s.u):=rfl
 have i3:D.ix s.d (.int 3)=some (.int s.f):=rfl
 have wa:∀ a b c d e:Int,VU [.int a,.int b,.int c,.int d,.int e]=some (J2 (⟨a,b,c⟩,⟨a,b,c+d,e⟩)):=fun a b c d e=>by
  unfold VU Qeh J2 Plc.d Sta.d
  simp [QI,JT,Zg,lI,QC,sD,sQ,sIf,Qk,ZA,Qd,Zr,J4,sNx,Z9,ZM,gS,Js,J6,eV,eC,eOp,eUn,Q1,QG,eOr,eIf,JF,Qn,Qo,eK,lN,lC,JJ,oNo,oAt,ZC,D.len,D.lt,D.le,D.gt,D.ge,D.add,D.sub,D.ix,D.eqO,D.neO,D.cmp,D.cmpN,D.inst,tyD,D.isT,D.intB,D.min2,D.max2,D.neg,D.addI,Qq,JM,JO,Jv,QM,QS,JL,JK,Jh,Ju,JP,JQ,Jw,Jx,JN,Jb,JC,J1,Qy,QB,Q9,Jd,QY,QQ,D.rng,D.its,D.itsT,QD,ZB,QK,Jg,JS,Jn,Jf]
 have eu:D.eqO (.int s.u) (.int 0)=some (.bl (decide (s.u=0))):=by simp [D.eqO,Qy,QD,D.cmp]
 have gu:D.gt (.int s.u) (.int 0)=some (.bl (decide (0<s.u))):=rfl
 unfold Qab QdB QA
 generalize Sta.d s=σ at *
 generalize sty w h o li=S at *
 refine stD rfl ?_
 refine st (e1:=[some S,some σ,some (.int n),some (.int r),some (.int s.p),none,none,none,none]) (asg (opE rfl rfl i0) rfl) ?_
 refine st (e1:=[some S,some σ,some (.int n),some (.int r),some (.int s.p),some (.int s.l),none,none,none]) (asg (opE rfl rfl i1) rfl) ?_
 refine st (e1:=[some S,some σ,some (.int n),some (.int r),some (.int s.p),some (.int s.l),some (.int s.u),none,none]) (asg (opE rfl rfl i2) rfl) ?_
 refine st (e1:=[some S,some σ,some (.int n),some (.int r),some (.int s.p),some (.int s.l),some (.int s.u),some (.int (s.f+r)),none]) (asg (opE (opE rfl rfl i3) rfl rfl) rfl) ?_
 by_cases h1:(s.u=0\/s.u+1+n<=w)/\s.l+s.f+(1+r)<=h
 ·rw [if_pos h1]
  refine stR (ifT (J9 (Yp rfl rfl rfl (by rw [a1,decide_eq_true h1.1])) (Yp rfl rfl (opE rfl rfl rfl) (by rw [a2,decide_eq_true h1.2]))) ?_)
  refine st (e1:=[some S,some σ,some (.int n),some (.int r),some (.int s.p),some (.int s.l),some (.int s.u),some (.int (s.f+r)),some (.int (if s.u=0 then 0 else s.u+1))]) ?_ ?_
  ·refine asg ?_ rfl
   unfold eIf
   rw [show eOp D.eqO (eV 6) (eC (.int 0)) [some S,some σ,some (.int n),some (.int r),some (.int s.p),some (.int s.l),some (.int s.u),some (.int (s.f+r)),none]=some (.bl (decide (s.u=0))) from opE rfl rfl eu,Qq]
   by_cases z:s.u=0
   ·rw [decide_eq_true z,if_pos rfl,if_pos z];rfl
   ·rw [decide_eq_false z,if_neg (by decide),if_neg z];rfl
  ·refine ret ?_
   simp only [eK,lC,lN,eV,List.getElem?_cons_zero,List.getElem?_cons_succ,Option.join_some,Option.bind_some,Option.map_some,wa]
 ·rw [if_neg h1]
  refine st (e1:=[some S,some σ,some (.int n),some (.int r),some (.int s.p),some (.int s.l),some (.int s.u),some (.int (s.f+r)),none]) ?_ ?_
  ·refine ifF ?_ rfl
   by_cases z:s.u=0\/s.u+1+n<=w
   ·exact J9 (Yp rfl rfl rfl (by rw [a1,decide_eq_true z])) (Yp rfl rfl (opE rfl rfl rfl) (by rw [a2,decide_eq_false fun q=>h1 ⟨z,q⟩]))
   ·exact ZI (Yp rfl rfl rfl (by rw [a1,decide_eq_false z]))
  ·by_cases h2:0<s.u/\s.l+s.f+(2+r)<=h
   ·rw [if_pos h2]
    refine stR (ifT (J9 (opE rfl rfl (by rw [gu,decide_eq_true h2.1])) (Yp rfl rfl (opE rfl rfl rfl) (by rw [a3,decide_eq_true h2.2]))) (ret ?_))
    simp only [eK,eOp,eC,lC,lN,eV,List.getElem?_cons_zero,List.getElem?_cons_succ,Option.join_some,Option.bind_some,Option.map_some,add_int,wa]
   ·rw [if_neg h2]
    refine st (e1:=[some S,some σ,some (.int n),some (.int r),some (.int s.p),some (.int s.l),some (.int s.u),some (.int (s.f+r)),none]) ?_ ?_
    ·refine ifF ?_ rfl
     by_cases z:0<s.u
     ·exact J9 (opE rfl rfl (by rw [gu,decide_eq_true z])) (Yp rfl rfl (opE rfl rfl rfl) (by rw [a3,decide_eq_false fun q=>h2 ⟨z,q⟩]))
     ·exact ZI (opE rfl rfl (by rw [gu,decide_eq_false z]))
    ·refine ret ?_
     simp only [eK,eOp,eC,lC,lN,eV,List.getElem?_cons_zero,List.getElem?_cons_succ,Option.join_some,Option.bind_some,Option.map_some,add_int,wa]
def endLine (s:Sta):Sta:=if s.u=0 then s else ⟨s.p,s.l+1,0,s.f⟩
theorem Qf4 (s:Sta):Qae [s.d]=some (endLine s).d:=by
 unfold Qae QdG endLine
 by_cases z:s.u=0<;>simp [QI,JT,Zg,lI,QC,sD,sQ,sIf,Qk,ZA,Qd,Zr,J4,sNx,Z9,ZM,gS,Js,J6,eV,eC,eOp,eUn,Q1,QG,eOr,eIf,JF,Qn,Qo,eK,lN,lC,JJ,oNo,oAt,ZC,D.len,D.lt,D.le,D.gt,D.ge,D.add,D.sub,D.ix,D.eqO,D.neO,D.cmp,D.cmpN,D.inst,tyD,D.isT,D.intB,D.min2,D.max2,D.neg,D.addI,Qq,JM,JO,Jv,QM,QS,JL,JK,Jh,Ju,JP,JQ,Jw,Jx,JN,Jb,JC,J1,Qy,QB,Q9,Jd,QY,QQ,D.rng,D.its,D.itsT,QD,ZB,QK,Jg,JS,Jn,Jf,Sta.d,ixD,z]
def Jp (p:Int):Sta:=⟨p,0,0,0⟩
theorem Qbo (p:Int):V3 [.int p]=some (Jp p).d:=by
 unfold V3 Qiy
 simp [QI,JT,Zg,lI,QC,sD,sQ,sIf,Qk,ZA,Qd,Zr,J4,sNx,Z9,ZM,gS,Js,J6,eV,eC,eOp,eUn,Q1,QG,eOr,eIf,JF,Qn,Qo,eK,lN,lC,JJ,oNo,oAt,ZC,D.len,D.lt,D.le,D.gt,D.ge,D.add,D.sub,D.ix,D.eqO,D.neO,D.cmp,D.cmpN,D.inst,tyD,D.isT,D.intB,D.min2,D.max2,D.neg,D.addI,Qq,JM,JO,Jv,QM,QS,JL,JK,Jh,Ju,JP,JQ,Jw,Jx,JN,Jb,JC,J1,Qy,QB,Q9,Jd,QY,QQ,D.rng,D.its,D.itsT,QD,ZB,QK,Jg,JS,Jn,Jf,Sta.d,Jp]
def QO (h:Int) (s:Sta) (rows keep:Int):Plc×Sta :=
 let t:=if (endLine s).l+(endLine s).f+(rows+keep)<=h then endLine s else Jp ((endLine s).p+1)
 (⟨t.p,t.l,0⟩,⟨t.p,t.l+rows,0,t.f⟩)
theorem QaN (w h:Int) (o li:Bool) (s:Sta) (rows keep:Int):Yk [sty w h o li,s.d,.int rows,.int keep]=some (J2 (QO h s rows keep)):=by
 have a1:=Qf4 s
 have a2:=QlS w h o li (endLine s) (rows+keep)
 have a3:=Qbo ((endLine s).p+1)
 unfold Yk Qcs QO
 generalize endLine s=t at *
 generalize Sta.d s=σ at *
 have i0:D.ix t.d (.int 0)=some (.int t.p):=rfl
 generalize sty w h o li=S at *
 refine stD rfl ?_
 refine st (e1:=[some S,some σ,some (.int rows),some (.int keep),some t.d,none]) (asg (Q6 rfl a1) rfl) ?_
 obtain ⟨t2,e2⟩:∃ t2,(if t.l+t.f+(rows+keep)<=h then t else Jp (t.p+1))=t2:=⟨_,rfl⟩
 refine st (e1:=[some S,some σ,some (.int rows),some (.int keep),some t2.d,none]) ?_ ?_
 ·by_cases z:t.l+t.f+(rows+keep)<=h
  ·rw [if_pos z] at e2
   subst e2
   exact ifF (Qa3 (b:=true) (Yp rfl rfl (opE rfl rfl rfl) (by rw [a2,decide_eq_true z]))) rfl
  ·rw [if_neg z] at e2
   subst e2
   exact ifT (Qa3 (b:=false) (Yp rfl rfl (opE rfl rfl rfl) (by rw [a2,decide_eq_false z]))) (asg (Q6 (opE (opE rfl rfl i0) rfl rfl) a3) rfl)
 ·simp only [e2]
  simp [QI,JT,Zg,lI,QC,sD,sQ,sIf,Qk,ZA,Qd,Zr,J4,sNx,Z9,ZM,gS,Js,J6,eV,eC,eOp,eUn,Q1,QG,eOr,eIf,JF,Qn,Qo,eK,lN,lC,JJ,oNo,oAt,ZC,D.len,D.lt,D.le,D.gt,D.ge,D.add,D.sub,D.ix,D.eqO,D.neO,D.cmp,D.cmpN,D.inst,tyD,D.isT,D.intB,D.min2,D.max2,D.neg,D.addI,Qq,JM,JO,Jv,QM,QS,JL,JK,Jh,Ju,JP,JQ,Jw,Jx,JN,Jb,JC,J1,Qy,QB,Q9,Jd,QY,QQ,D.rng,D.its,D.itsT,QD,ZB,QK,Jg,JS,Jn,Jf,Sta.d,Plc.d,J2,ixD]
def Q0 (s:Sta):Sta:=if s.l=0/\s.u=0/\s.f=0 then s else Jp (s.p+1)
theorem QfX (s:Sta):Qac [s.d]=some (Q0 s).d:=by
 have b0:=Qbo s.p
 have b1:=Qbo (s.p+1)
 unfold Qac QdC Q0
 have i0:D.ix s.d (.int 0)=some (.int s.p):=rfl
 have eq:D.eqO s.d (Jp s.p).d=some (.bl (decide (s.l=0/\s.u=0/\s.f=0))):=by
  unfold Sta.d Jp
  by_cases h1:s.l=0<;>by_cases h2:s.u=0<;>by_cases h3:s.f=0<;>simp [D.eqO,Q9,QQ,QY,Qy,Jg,Jf,Jn,QD,D.cmp,Qih,h1,h2,h3]
 refine stD rfl ?_
 by_cases z:s.l=0/\s.u=0/\s.f=0
 ·rw [if_pos z]
  exact stR (ifT (opE (x:=s.d) rfl (Q6 (opE (x:=s.d) rfl rfl i0) b0) (by rw [eq,decide_eq_true z])) (ret rfl))
 ·rw [if_neg z]
  exact st (e1:=[some s.d]) (ifF (opE (x:=s.d) rfl (Q6 (opE (x:=s.d) rfl rfl i0) b0) (by rw [eq,decide_eq_false z])) rfl) (ret (Q6 (opE (opE (x:=s.d) rfl rfl i0) rfl rfl) b1))
def QZ (o:Bool) (s:Sta):Sta:=if o=true/\(Q0 s).p%2=0 then Jp ((Q0 s).p+1) else Q0 s
theorem QdP (w h:Int) (o li:Bool) (s:Sta):YR [sty w h o li,s.d]=some (QZ o s).d:=by
 have a1:=QfX s
 have b1:=Qbo ((Q0 s).p+1)
 unfold YR Qa6 QZ
 generalize Q0 s=t at *
 have i0:D.ix t.d (.int 0)=some (.int t.p):=rfl
 have io:D.ix (sty w h o li) (.int 2)=some (.bl o):=rfl
 have em:D.eqO (.int (t.p%2)) (.int 0)=some (.bl (decide (t.p%2=0))):=by simp [D.eqO,Qy,QD,D.cmp]
 generalize sty w h o li=S at *
 refine stD rfl ?_
 refine st (e1:=[some S,some s.d,some t.d]) (asg (Q6 rfl a1) rfl) ?_
 by_cases z:o=true/\t.p%2=0
 ·rw [if_pos z]
  exact stR (ifT (J9 (opE rfl rfl (by rw [io,z.1])) (opE (opE (opE (x:=t.d) rfl rfl i0) rfl (ZH _ (by decide))) rfl (by rw [em,decide_eq_true z.2]))) (ret (Q6 (opE (opE (x:=t.d) rfl rfl i0) rfl rfl) b1)))
 ·rw [if_neg z]
  refine st (e1:=[some S,some s.d,some t.d]) (ifF ?_ rfl) (ret rfl)
  cases o with
  | false=>exact ZI (opE rfl rfl io)
  | true=>exact J9 (opE rfl rfl io) (opE (opE (opE (x:=t.d) rfl rfl i0) rfl (ZH _ (by decide))) rfl (by rw [em,decide_eq_false fun q=>z ⟨rfl,q⟩]))
def VS (s:Sta) (n:Int):Plc×Sta:=(⟨(Q0 s).p,0,0⟩,Jp ((Q0 s).p+n))
theorem QjB (s:Sta) (n:Int):Qag [s.d,.int n]=some (J2 (VS s n)):=by
 have a1:=QfX s
 have b1:=Qbo ((Q0 s).p+n)
 unfold Qag QbW VS
 generalize Q0 s=t at *
 have i0:D.ix t.d (.int 0)=some (.int t.p):=rfl
 refine stD rfl ?_
 refine st (e1:=[some s.d,some (.int n),some (.int t.p)]) (asg (opE (Q6 rfl a1) rfl i0) rfl) (ret ?_)
 simp only [Qn,lC,lN,eV,eC,eK,eOp,List.getElem?_cons_zero,List.getElem?_cons_succ,Option.join_some,Option.bind_some,Option.map_some,add_int,b1,J2,Plc.d]
def Qa8:Bk->Bool
 | .chapter _ _=>true
 | .heading _ _ _=>true
 | _=>false
theorem Qfh (b:Bk):YV [b.d]=some (.bl (Qa8 b)):=by
 unfold YV Qcu
 cases b<;>simp [QI,JT,Zg,lI,QC,sD,sQ,sIf,Qk,ZA,Qd,Zr,J4,sNx,Z9,ZM,gS,Js,J6,eV,eC,eOp,eUn,Q1,QG,eOr,eIf,JF,Qn,Qo,eK,lN,lC,JJ,oNo,oAt,ZC,D.len,D.lt,D.le,D.gt,D.ge,D.add,D.sub,D.ix,D.eqO,D.neO,D.cmp,D.cmpN,D.inst,tyD,D.isT,D.intB,D.min2,D.max2,D.neg,D.addI,Qq,JM,JO,Jv,QM,QS,JL,JK,Jh,Ju,JP,JQ,Jw,Jx,JN,Jb,JC,J1,Qy,QB,Q9,Jd,QY,QQ,D.rng,D.its,D.itsT,QD,ZB,QK,Jg,JS,Jn,Jf,ixD,D.inO,J7,inD,Qa8]
theorem Qfi (i:It):Yb [i.d]=some (.bl (Jl i)):=by
 unfold Yb Qfn
 cases i<;>simp [QI,JT,Zg,lI,QC,sD,sQ,sIf,Qk,ZA,Qd,Zr,J4,sNx,Z9,ZM,gS,Js,J6,eV,eC,eOp,eUn,Q1,QG,eOr,eIf,JF,Qn,Qo,eK,lN,lC,JJ,oNo,oAt,ZC,D.len,D.lt,D.le,D.gt,D.ge,D.add,D.sub,D.ix,D.eqO,D.neO,D.cmp,D.cmpN,D.inst,tyD,D.isT,D.intB,D.min2,D.max2,D.neg,D.addI,Qq,JM,JO,Jv,QM,QS,JL,JK,Jh,Ju,JP,JQ,Jw,Jx,JN,Jb,JC,J1,Qy,QB,Q9,Jd,QY,QQ,D.rng,D.its,D.itsT,QD,ZB,QK,Jg,JS,Jn,Jf,ixD,D.inO,J7,inD,Jl,Y0,JW]
def QE (xs:List Plc):D:=.lst (xs.map Plc.d)
theorem QfR {xs:List Plc} (x:Plc) (h:xs.length<lI):D.app (QE xs) x.d=some (QE (xs++[x])):=Qbz (f:=Plc.d) x h
def QJ (w h:Int) (rooms:List Int) (s:List Plc×Nat×Sta):It->List Plc×Nat×Sta
 | .word x ns=>(s.1++[(QA w h s.2.2 x.length ns.length).1],s.2.1,(QA w h s.2.2 x.length ns.length).2)
 | .ref _ a b=>(s.1++[(QA w h s.2.2 ((a.length:Int)+rooms.getD s.2.1 0+b.length) 0).1],s.2.1+1,(QA w h s.2.2 ((a.length:Int)+rooms.getD s.2.1 0+b.length) 0).2)
 | _=>s
def Q4 (w h:Int) (s:Sta) (rooms:List Int) (is:List It):List Plc×Nat×Sta:=is.foldl (QJ w h rooms) ([],0,s)
theorem VT {α σ:Type} (f:σ->α->σ) (s:σ) (xs:List α) (i:Nat) (hi:i<xs.length):(xs.take (i+1)).foldl f s=f ((xs.take i).foldl f s) xs[i]:=by
 rw [List.take_succ_eq_append_getElem hi,List.foldl_append];rfl
theorem Qdv (is:List It) (i:Nat) (hi:i<is.length):(QF (is.take (i+1))).length=(QF (is.take i)).length+(if JW is[i] then 1 else 0):=by
 unfold QF
 rw [List.take_succ_eq_append_getElem hi,List.filter_append,List.map_append,List.length_append]
 congr 1
 cases q:JW is[i]<;>simp [q]
theorem QdO (is:List It) (i:Nat):(QF (is.take i)).length<=(QF is).length:=by
 unfold QF
 rw [List.length_map,List.length_map]
 exact ((List.take_sublist i is).filter _).length_le
theorem QbV (w h:Int) (rooms:List Int):∀ (is:List It) (s:List Plc×Nat×Sta),(is.foldl (QJ w h rooms) s).1.length<=s.1.length+is.length/\(is.foldl (QJ w h rooms) s).2.1=s.2.1+(QF is).length
 | [],s=>⟨Nat.le_refl _,rfl⟩
 | i::is,s=>by
  obtain ⟨h1,h2⟩:=QbV w h rooms is (QJ w h rooms s i)
  rw [List.foldl_cons,List.length_cons]
  unfold QF at h2 ⊢
  cases i<;>simp [QJ,List.filter_cons,JW] at h1 h2 ⊢<;>omega
def ItT:It->Prop
 | .word x ns=>x.length<=1000/\ns.length<=1000/\∀ r∈ns,r.length<=1000
 | .ref _ a b=>a.length<=1000/\b.length<=1000
 | _=>True
theorem Qj3 (w h:Int) (o li:Bool) (s:Sta) (rooms:List Int) (is:List It) (hl:is.length<=100000) (hr:(QF is).length<=rooms.length) (ht:∀ i∈is,ItT i) :
  VA [.lst (is.map It.d),sty w h o li,s.d,.lst (rooms.map .int)]=some (.tup [QE (Q4 w h s rooms is).1,(endLine (Q4 w h s rooms is).2.2).d]):=by
 unfold VA Qcq
 refine stD rfl ?_
 refine st (e1:=[some (.lst (is.map It.d)),some (sty w h o li),some s.d,some (.lst (rooms.map .int)),some (QE []),none,none,none,none]) rfl ?_
 refine st (e1:=[some (.lst (is.map It.d)),some (sty w h o li),some s.d,some (.lst (rooms.map .int)),some (QE []),some (.int 0),none,none,none]) rfl ?_
 refine QaH It.d is (fun i e=>∃ a b c,e=[some (.lst (is.map It.d)),some (sty w h o li),some ((is.take i).foldl (QJ w h rooms) ([],0,s)).2.2.d,some (.lst (rooms.map .int)),some (QE ((is.take i).foldl (QJ w h rooms) ([],0,s)).1),some (.int ((is.take i).foldl (QJ w h rooms) ([],0,s)).2.1),a,b,c]) rfl ⟨none,none,none,rfl⟩ ?_ ?_
 ·rintro i hi e ⟨a,b,c,rfl⟩
  rw [VT _ _ _ _ hi]
  have hb:=(QbV w h rooms (is.take i) ([],0,s))
  have hlt:((is.take i).foldl (QJ w h rooms) ([],0,s)).1.length<lI:=ZJ (by have:=hb.1;rw [List.length_take] at this;simp at this;omega)
  have h2:=hb.2
  have h3:=Qdv is i hi
  have h4:=QdO is (i+1)
  have hT:=ht is[i] (List.getElem_mem hi)
  have iset:=Qfi is[i]
  generalize is[i]=x at *
  generalize (is.take i).foldl (QJ w h rooms) ([],0,s)=z at *
  obtain ⟨pl,k,t⟩:=z
  simp only [] at hlt h2 ⊢
  simp at h2
  have ap:=fun y=>QfR (xs:=pl) y hlt
  generalize D.lst (is.map It.d)=IS at *
  cases x with
  | word wd ns =>
   refine ⟨_,.inl ?_,some (It.word wd ns).d,b,some (J2 (QA w h t wd.length ns.length)),rfl⟩
   refine bnd (e1:=[some IS,some (sty w h o li),some t.d,some (.lst (rooms.map .int)),some (QE pl),some (.int k),some (It.word wd ns).d,b,c]) rfl ?_
   refine ifT (Q6 rfl iset) ?_
   have l1:=YY (x:=wd) (by have:=hT.1;omega)
   have l2:=YS ns
   have pw:=QfW w h o li t wd.length ns.length
   refine st (e1:=[some IS,some (sty w h o li),some t.d,some (.lst (rooms.map .int)),some (QE pl),some (.int k),some (It.word wd ns).d,b,some (J2 (QA w h t wd.length ns.length))]) ?_ ?_
   ·refine ifF (opE (x:=.str "word") (opE (x:=(It.word wd ns).d) rfl rfl rfl) rfl (by rw [eqS];simp)) ?_
    exact asg (Yo rfl rfl (unE (opE (x:=(It.word wd ns).d) rfl rfl rfl) l1) (unE (opE (x:=(It.word wd ns).d) rfl rfl rfl) l2) pw) rfl
   ·refine st (e1:=[some IS,some (sty w h o li),some t.d,some (.lst (rooms.map .int)),some (QE (pl++[(QA w h t wd.length ns.length).1])),some (.int k),some (It.word wd ns).d,b,some (J2 (QA w h t wd.length ns.length))]) (VJ rfl (opE (x:=J2 (QA w h t wd.length ns.length)) rfl rfl (p0 _)) (ap _)) ?_
    exact asg (opE (x:=J2 (QA w h t wd.length ns.length)) rfl rfl (p1 _)) rfl
  | ref l x1 x2 =>
   have hk:k<rooms.length:=by
    have e1:JW (It.ref l x1 x2)=true:=rfl
    rw [e1,if_pos rfl] at h3
    omega
   have rx:D.ix (.lst (rooms.map .int)) (.int k)=some (.int (rooms.getD k 0)):=Qe2 (f:=D.int) rooms k 0 (by omega) (by omega)
   obtain ⟨sz,esz⟩:∃ sz:Int,(x1.length:Int)+rooms.getD k 0+x2.length=sz:=⟨_,rfl⟩
   have pw:=QfW w h o li t sz 0
   have e1:QJ w h rooms (pl,k,t) (.ref l x1 x2)=(pl++[(QA w h t sz 0).1],k+1,(QA w h t sz 0).2):=by rw [<- esz];rfl
   rw [e1]
   refine ⟨_,.inl ?_,some (It.ref l x1 x2).d,some (.int sz),some (J2 (QA w h t sz 0)),rfl⟩
   refine bnd (e1:=[some IS,some (sty w h o li),some t.d,some (.lst (rooms.map .int)),some (QE pl),some (.int k),some (It.ref l x1 x2).d,b,c]) rfl ?_
   refine ifT (Q6 rfl iset) ?_
   have l1:=YY (x:=x1) (by have:=hT.1;omega)
   have l2:=YY (x:=x2) (by have:=hT.2;omega)
   refine st (e1:=[some IS,some (sty w h o li),some t.d,some (.lst (rooms.map .int)),some (QE pl),some (.int (k+1:Nat)),some (It.ref l x1 x2).d,some (.int sz),some (J2 (QA w h t sz 0))]) ?_ ?_
   ·refine ifT (opE (x:=.str "ref") (opE (x:=(It.ref l x1 x2).d) rfl rfl rfl) rfl (by rw [eqS];simp)) ?_
    refine st (e1:=[some IS,some (sty w h o li),some t.d,some (.lst (rooms.map .int)),some (QE pl),some (.int k),some (It.ref l x1 x2).d,some (.int sz),c]) (asg (opE (opE (unE (opE (x:=(It.ref l x1 x2).d) rfl rfl rfl) l1) (opE (x:=.lst (rooms.map .int)) rfl rfl rx) rfl) (unE (opE (x:=(It.ref l x1 x2).d) rfl rfl rfl) l2) (by rw [add_int,esz])) rfl) ?_
    refine st (e1:=[some IS,some (sty w h o li),some t.d,some (.lst (rooms.map .int)),some (QE pl),some (.int k),some (It.ref l x1 x2).d,some (.int sz),some (J2 (QA w h t sz 0))]) (asg (Yo rfl rfl rfl rfl pw) rfl) ?_
    rfl
   ·refine st (e1:=[some IS,some (sty w h o li),some t.d,some (.lst (rooms.map .int)),some (QE (pl++[(QA w h t sz 0).1])),some (.int (k+1:Nat)),some (It.ref l x1 x2).d,some (.int sz),some (J2 (QA w h t sz 0))]) (VJ rfl (opE (x:=J2 (QA w h t sz 0)) rfl rfl (p0 _)) (ap _)) ?_
    exact asg (opE (x:=J2 (QA w h t sz 0)) rfl rfl (p1 _)) rfl
  | mark l=>exact ⟨_,.inl (bnd (e1:=[some IS,some (sty w h o li),some t.d,some (.lst (rooms.map .int)),some (QE pl),some (.int k),some (It.mark l).d,b,c]) rfl (ifF (Q6 rfl iset) rfl)),some (It.mark l).d,b,c,rfl⟩
  | key l=>exact ⟨_,.inl (bnd (e1:=[some IS,some (sty w h o li),some t.d,some (.lst (rooms.map .int)),some (QE pl),some (.int k),some (It.key l).d,b,c]) rfl (ifF (Q6 rfl iset) rfl)),some (It.key l).d,b,c,rfl⟩
 ·rintro e ⟨a,b,c,rfl⟩
  rw [List.take_length]
  refine ret ?_
  have:=Qf4 (Q4 w h s rooms is).2.2
  simp only [Qn,lC,lN,eV,eK,List.getElem?_cons_zero,List.getElem?_cons_succ,Option.join_some,Option.bind_some,Option.map_some]
  rw [show (is.foldl (QJ w h rooms) ([],0,s)).2.2=(Q4 w h s rooms is).2.2 from rfl,this]
  rfl
def JR (h:Int) (s:List Plc×Sta) (b:Bk):List Plc×Sta:=if Qa8 b then (s.1++[(QO h s.2 1 0).1],(QO h s.2 1 0).2) else s
def ZW (h:Int) (bs:List Bk):List Plc×Sta:=bs.foldl (JR h) ([],Jp 1)
def Q5 (h:Int) (o li:Bool) (bs:List Bk):List Plc×Sta :=
 if li=true then ((ZW h bs).1,if (ZW h bs).1.length > 0 then QZ o (ZW h bs).2 else (ZW h bs).2) else ([],Jp 1)
theorem Qah (h:Int):∀ (bs:List Bk) (s:List Plc×Sta),(bs.foldl (JR h) s).1.length<=s.1.length+bs.length
 | [],s=>Nat.le_refl _
 | b::bs,s=>by
  have:=Qah h bs (JR h s b)
  rw [List.foldl_cons,List.length_cons]
  have:(JR h s b).1.length<=s.1.length+1:=by unfold JR;split<;>simp
  omega
theorem Qk1 (xs:List Plc):D.len (QE xs)=some (.int xs.length):=by
 show some (D.int (xs.map Plc.d).length)=_
 rw [List.length_map]
theorem Qg1 (w h:Int) (o li:Bool) (bs:List Bk) (hl:bs.length<=100000):Vr [bks bs,sty w h o li]=some (.tup [QE (Q5 h o li bs).1,(Q5 h o li bs).2.d]):=by
 have b1:=Qbo 1
 have io:D.ix (sty w h o li) (.int 3)=some (.bl li):=rfl
 unfold Vr QaA Q5
 refine stD rfl ?_
 refine st (e1:=[some (bks bs),some (sty w h o li),some (QE []),none,none,none]) rfl ?_
 refine st (e1:=[some (bks bs),some (sty w h o li),some (QE []),some (Jp 1).d,none,none]) (asg (Q6 rfl b1) rfl) ?_
 cases li with
 | false =>
  rw [if_neg (by decide)]
  exact stR (ifT (Qa3 (b:=false) (opE rfl rfl io)) (ret rfl))
 | true =>
  rw [if_pos rfl]
  refine st (e1:=[some (bks bs),some (sty w h o true),some (QE []),some (Jp 1).d,none,none]) (ifF (Qa3 (b:=true) (opE rfl rfl io)) rfl) ?_
  refine QaH Bk.d bs (fun i e=>∃ a b,e=[some (bks bs),some (sty w h o true),some (QE ((bs.take i).foldl (JR h) ([],Jp 1)).1),some ((bs.take i).foldl (JR h) ([],Jp 1)).2.d,a,b]) rfl ⟨none,none,rfl⟩ ?_ ?_
  ·rintro i hi e ⟨a,b,rfl⟩
   rw [VT _ _ _ _ hi]
   have hb:=Qah h (bs.take i) ([],Jp 1)
   have hlt:((bs.take i).foldl (JR h) ([],Jp 1)).1.length<lI:=ZJ (by rw [List.length_take] at hb;simp at hb;omega)
   have it:=Qfh bs[i]
   generalize bs[i]=x at *
   generalize (bs.take i).foldl (JR h) ([],Jp 1)=z at *
   obtain ⟨pl,t⟩:=z
   simp only [] at hlt ⊢
   have ap:=fun y=>QfR (xs:=pl) y hlt
   have pb:=QaN w h o true t 1 0
   unfold JR
   cases q:Qa8 x with
   | true =>
    rw [if_pos rfl]
    rw [q] at it
    refine ⟨_,.inl ?_,some x.d,some (J2 (QO h t 1 0)),rfl⟩
    refine bnd (e1:=[some (bks bs),some (sty w h o true),some (QE pl),some t.d,some x.d,b]) rfl (ifT (Q6 rfl it) ?_)
    refine st (e1:=[some (bks bs),some (sty w h o true),some (QE pl),some t.d,some x.d,some (J2 (QO h t 1 0))]) (asg (Yo rfl rfl rfl rfl pb) rfl) ?_
    refine st (e1:=[some (bks bs),some (sty w h o true),some (QE (pl++[(QO h t 1 0).1])),some t.d,some x.d,some (J2 (QO h t 1 0))]) (VJ rfl (opE (x:=J2 (QO h t 1 0)) rfl rfl (p0 _)) (ap _)) ?_
    exact asg (opE (x:=J2 (QO h t 1 0)) rfl rfl (p1 _)) rfl
   | false =>
    rw [if_neg (by decide)]
    rw [q] at it
    exact ⟨_,.inl (bnd (e1:=[some (bks bs),some (sty w h o true),some (QE pl),some t.d,some x.d,b]) rfl (ifF (Q6 rfl it) rfl)),some x.d,b,rfl⟩
  ·rintro e ⟨a,b,rfl⟩
   rw [List.take_length]
   have nc:=QdP w h o true (ZW h bs).2
   have ln:=Qk1 (ZW h bs).1
   have cf:bs.foldl (JR h) ([],Jp 1)=ZW h bs:=rfl
   rw [cf]
   generalize ZW h bs=z at *
   obtain ⟨pl,t⟩:=z
   simp only [] at nc ln ⊢
   refine st (e1:=[some (bks bs),some (sty w h o true),some (QE pl),some (if pl.length > 0 then QZ o t else t).d,a,b]) ?_ (ret rfl)
   by_cases z:pl.length > 0
   ·rw [if_pos z]
    exact ifT (opE (unE (x:=QE pl) rfl ln) rfl (by show some (D.bl (decide ((0:Int)<pl.length)))=_;rw [decide_eq_true (by omega)])) (asg (ZF rfl rfl nc) rfl)
   ·rw [if_neg z]
    exact ifF (opE (unE (x:=QE pl) rfl ln) rfl (by show some (D.bl (decide ((0:Int)<pl.length)))=_;rw [decide_eq_false (by omega)])) rfl
def Jr (h:Int) (o:Bool) (s:Sta):Bk->Plc×Sta
 | .plates n _=>VS s n
 | .table rs _=>QO h s rs.length 0
 | .heading _ k _=>QO h s 1 k
 | _=>QO h (QZ o s) 1 0
theorem Qj4 (w h:Int) (o li:Bool) (s:Sta) (b:Bk) (hb:Qbv b=false):VB [b.d,sty w h o li,s.d]=some (J2 (Jr h o s b)):=by
 unfold VB Qcr
 cases b with
 | para is=>cases hb
 | plates n l =>
  have pp:=QjB s n
  exact stD rfl (stR (ifT (opE (x:=.str "plates") (opE (x:=(Bk.plates n l).d) rfl rfl rfl) rfl (by rw [eqS];simp)) (ret (ZF rfl (opE (x:=(Bk.plates n l).d) rfl rfl rfl) pp))))
 | table rs l =>
  have pb:=QaN w h o li s rs.length 0
  refine stD rfl ?_
  refine st (e1:=[some (Bk.table rs l).d,some (sty w h o li),some s.d]) (ifF (opE (x:=.str "table") (opE (x:=(Bk.table rs l).d) rfl rfl rfl) rfl (by rw [eqS];simp)) rfl) ?_
  exact stR (ifT (opE (x:=.str "table") (opE (x:=(Bk.table rs l).d) rfl rfl rfl) rfl (by rw [eqS];simp)) (ret (Yo rfl rfl (unE (opE (x:=(Bk.table rs l).d) rfl rfl rfl) (YS rs)) rfl pb)))
 | heading t k l =>
  have pb:=QaN w h o li s 1 k
  refine stD rfl ?_
  refine st (e1:=[some (Bk.heading t k l).d,some (sty w h o li),some s.d]) (ifF (opE (x:=.str "heading") (opE (x:=(Bk.heading t k l).d) rfl rfl rfl) rfl (by rw [eqS];simp)) rfl) ?_
  refine st (e1:=[some (Bk.heading t k l).d,some (sty w h o li),some s.d]) (ifF (opE (x:=.str "heading") (opE (x:=(Bk.heading t k l).d) rfl rfl rfl) rfl (by rw [eqS];simp)) rfl) ?_
  exact stR (ifT (opE (x:=.str "heading") (opE (x:=(Bk.heading t k l).d) rfl rfl rfl) rfl (by rw [eqS];simp)) (ret (Yo rfl rfl rfl (opE (x:=(Bk.heading t k l).d) rfl rfl rfl) pb)))
 | chapter t l =>
  have nc:=QdP w h o li s
  have pb:=QaN w h o li (QZ o s) 1 0
  refine stD rfl ?_
  refine st (e1:=[some (Bk.chapter t l).d,some (sty w h o li),some s.d]) (ifF (opE (x:=.str "chapter") (opE (x:=(Bk.chapter t l).d) rfl rfl rfl) rfl (by rw [eqS];simp)) rfl) ?_
  refine st (e1:=[some (Bk.chapter t l).d,some (sty w h o li),some s.d]) (ifF (opE (x:=.str "chapter") (opE (x:=(Bk.chapter t l).d) rfl rfl rfl) rfl (by rw [eqS];simp)) rfl) ?_
  refine st (e1:=[some (Bk.chapter t l).d,some (sty w h o li),some s.d]) (ifF (opE (x:=.str "chapter") (opE (x:=(Bk.chapter t l).d) rfl rfl rfl) rfl (by rw [eqS];simp)) rfl) ?_
  exact ret (Yo rfl (ZF rfl rfl nc) rfl rfl pb)
def QT (w h:Int) (o:Bool) (rooms:List Int) (s:List (List Plc)×Sta×Nat) (b:Bk):List (List Plc)×Sta×Nat:=match b with
 | .para is=>(s.1++[(Q4 w h s.2.1 (rooms.drop s.2.2) is).1],endLine (Q4 w h s.2.1 (rooms.drop s.2.2) is).2.2,s.2.2+(QF is).length)
 | b=>(s.1++[[(Jr h o s.2.1 b).1]],(Jr h o s.2.1 b).2,s.2.2)
def QcF (w h:Int) (o li:Bool) (rooms:List Int) (bs:List Bk):List (List Plc)×Sta×Nat:=bs.foldl (QT w h o rooms) ([(Q5 h o li bs).1],(Q5 h o li bs).2,0)
theorem Qai (w h:Int) (o:Bool) (rooms:List Int):∀ (bs:List Bk) (s:List (List Plc)×Sta×Nat),(bs.foldl (QT w h o rooms) s).1.length=s.1.length+bs.length/\(bs.foldl (QT w h o rooms) s).2.2=s.2.2+(rO bs).length
 | [],s=>⟨rfl,rfl⟩
 | b::bs,s=>by
  obtain ⟨h1,h2⟩:=Qai w h o rooms bs (QT w h o rooms s b)
  rw [List.foldl_cons,List.length_cons,h1,h2]
  have e:(rO (b::bs)).length=(QF (iO b)).length+(rO bs).length:=by unfold rO;rw [List.flatMap_cons,List.length_append]
  rw [e]
  cases b<;>simp [QT,iO,QF]<;>omega
def Jq (xs:List (List Plc)):D:=.lst (xs.map QE)
theorem Qlm {xs:List (List Plc)} (x:List Plc) (h:xs.length<lI):D.app (Jq xs) (QE x)=some (Jq (xs++[x])):=Qbz (f:=QE) x h
theorem QpP (xs:List Int) (k:Nat) (h:k<=xs.length):Zg (.lst (xs.map .int)) (some (k:Int)) none=some (.lst ((xs.drop k).map .int)):=by
 show some (D.lst (Zf (xs.map D.int) (some (k:Int)) none))=_
 congr 1
 unfold Zf Z8
 simp only []
 rw [if_neg (by omega),List.length_map,show min (k:Int).toNat xs.length=k from by omega,List.map_drop,List.take_of_length_le (by rw [List.length_drop,List.length_map];omega)]
def BkT (b:Bk):Prop:=∀ i∈iO b,ItT i
theorem Qk8 {bs:List Bk} (hf:Few bs) (b:Bk) (hb:b∈bs):Few [b]:=⟨by simp,by have:=YA hf b hb;simpa using this⟩
theorem QfU (b:Bk):rO [b]=QF (iO b):=by unfold rO;simp
theorem Ql0 (w h:Int) (o li:Bool) (rooms:List Int) (bs:List Bk) (hf:Few bs) (hr:(rO bs).length<=rooms.length) (ht:∀ b∈bs,BkT b) :
  Qaa [bks bs,sty w h o li,.lst (rooms.map .int)]=some (Jq (QcF w h o li rooms bs).1):=by
 have sc:=Qg1 w h o li bs hf.1
 unfold Qaa QdA QcF
 generalize Q5 h o li bs=c0 at *
 obtain ⟨pl0,s0⟩:=c0
 simp only [] at sc ⊢
 refine stD rfl ?_
 refine st (e1:=[some (bks bs),some (sty w h o li),some (.lst (rooms.map .int)),some (.tup [QE pl0,s0.d]),none,none,none,none]) (asg (ZF rfl rfl sc) rfl) ?_
 refine st (e1:=[some (bks bs),some (sty w h o li),some (.lst (rooms.map .int)),some (.tup [QE pl0,s0.d]),some (Jq [pl0]),none,none,none]) rfl ?_
 refine st (e1:=[some (bks bs),some (sty w h o li),some (.lst (rooms.map .int)),some (.tup [QE pl0,s0.d]),some (Jq [pl0]),some s0.d,none,none]) rfl ?_
 refine st (e1:=[some (bks bs),some (sty w h o li),some (.lst (rooms.map .int)),some (.tup [QE pl0,s0.d]),some (Jq [pl0]),some s0.d,some (.int 0),none]) rfl ?_
 refine QaH Bk.d bs (fun i e=>∃ a b,e=[some (bks bs),some (sty w h o li),some (.lst (rooms.map .int)),a,some (Jq ((bs.take i).foldl (QT w h o rooms) ([pl0],s0,0)).1),some ((bs.take i).foldl (QT w h o rooms) ([pl0],s0,0)).2.1.d,some (.int ((bs.take i).foldl (QT w h o rooms) ([pl0],s0,0)).2.2),b]) rfl ⟨_,none,rfl⟩ ?_ ?_
 ·rintro i hi e ⟨a,b,rfl⟩
  rw [VT _ _ _ _ hi]
  have hb:=Qai w h o rooms (bs.take i) ([pl0],s0,0)
  have h1:=hb.1
  have h2:=hb.2
  rw [List.length_take] at h1
  simp at h1 h2
  have hlt:((bs.take i).foldl (QT w h o rooms) ([pl0],s0,0)).1.length<lI:=ZJ (by have:=hf.1;omega)
  have t1:rO (bs.take (i+1))=rO (bs.take i)++QF (iO bs[i]):=fT _ bs i hi
  have t3:(rO (bs.take (i+1))).length<=(rO bs).length:=ZU (fun b=>QF (iO b)) bs (i+1)
  rw [t1,List.length_append] at t3
  have hil:=YA hf bs[i] (List.getElem_mem hi)
  have hT:=ht bs[i] (List.getElem_mem hi)
  have f1:=Qk8 hf bs[i] (List.getElem_mem hi)
  generalize bs[i]=x at *
  generalize (bs.take i).foldl (QT w h o rooms) ([pl0],s0,0)=z at *
  obtain ⟨tl,s,k⟩:=z
  simp only [] at h1 h2 hlt ⊢
  have ap:=fun y=>Qlm (xs:=tl) y hlt
  generalize bks bs=BS at *
  have Ji:Qbv x=false->∃ e',((gS 7 x.d [some BS,some (sty w h o li),some (.lst (rooms.map .int)),a,some (Jq tl),some s.d,some (.int k),b]).bind (sQ (sIf (eOp D.eqO (eOp D.ix (eV 7) (eC (.int 0))) (eC (.str "para"))) (sQ (Qd (eK VA (lC (eOp D.ix (eV 7) (eC (.int 1))) (lC (eV 1) (lC (eV 5) (lC (JT (eV 2) (oAt (eV 6)) (oNo)) lN))))) (gS 3)) (sQ (sP 4 (eOp D.ix (eV 3) (eC (.int 0)))) (Zr 6 D.addI (eUn D.len (eK Vb (lC (Qo (lC (eV 7) lN)) lN)))))) (sQ (Qd (eK VB (lC (eV 7) (lC (eV 1) (lC (eV 5) lN)))) (gS 3)) (sP 4 (Qo (lC (eOp D.ix (eV 3) (eC (.int 0))) lN))))) (Qd (eOp D.ix (eV 3) (eC (.int 1))) (gS 5)))=some (.nx e')) /\
    ∃ a b,e'=[some BS,some (sty w h o li),some (.lst (rooms.map .int)),a,some (Jq (tl++[[(Jr h o s x).1]])),some (Jr h o s x).2.d,some (.int k),b]:=by
   intro hp
   have sb:=Qj4 w h o li s x hp
   have tg:=QiJ x
   rw [hp] at tg
   refine ⟨_,bnd (e1:=[some BS,some (sty w h o li),some (.lst (rooms.map .int)),a,some (Jq tl),some s.d,some (.int k),some x.d]) rfl ?_,some (J2 (Jr h o s x)),some x.d,rfl⟩
   refine st (e1:=[some BS,some (sty w h o li),some (.lst (rooms.map .int)),some (J2 (Jr h o s x)),some (Jq (tl++[[(Jr h o s x).1]])),some s.d,some (.int k),some x.d]) ?_ (asg (opE (x:=J2 (Jr h o s x)) rfl rfl (p1 _)) rfl)
   refine ifF (opE (x:=.str (Qap x)) (opE (x:=x.d) rfl rfl (QfM x)) rfl (by rw [eqS,tg])) ?_
   refine st (e1:=[some BS,some (sty w h o li),some (.lst (rooms.map .int)),some (J2 (Jr h o s x)),some (Jq tl),some s.d,some (.int k),some x.d]) (asg (Yp rfl rfl rfl sb) rfl) ?_
   exact VJ rfl (d:=QE [(Jr h o s x).1]) rfl (ap _)
  cases x with
  | para is =>
   have hk:k<=rooms.length:=by omega
   have hr2:(QF is).length<=(rooms.drop k).length:=by rw [List.length_drop];have:(QF (iO (.para is))).length=(QF is).length:=rfl;omega
   have si:=Qj3 w h o li s (rooms.drop k) is hil hr2 hT
   have rf:=QkR [.para is] f1
   rw [QfU] at rf
   have cu:=QpP rooms k hk
   generalize hz:Q4 w h s (rooms.drop k) is=z at *
   have e1:QT w h o rooms (tl,s,k) (.para is)=(tl++[z.1],endLine z.2.2,k+(QF is).length):=by show (tl++[(Q4 w h s (rooms.drop k) is).1],_,_)=_;rw [hz]
   rw [e1]
   refine ⟨_,.inl ?_,some (.tup [QE z.1,(endLine z.2.2).d]),some (Bk.para is).d,rfl⟩
   refine bnd (e1:=[some BS,some (sty w h o li),some (.lst (rooms.map .int)),a,some (Jq tl),some s.d,some (.int k),some (Bk.para is).d]) rfl ?_
   refine st (e1:=[some BS,some (sty w h o li),some (.lst (rooms.map .int)),some (.tup [QE z.1,(endLine z.2.2).d]),some (Jq (tl++[z.1])),some s.d,some (.int (k+(QF is).length:Nat)),some (Bk.para is).d]) ?_ rfl
   refine ifT (opE (x:=.str "para") (opE (x:=(Bk.para is).d) rfl rfl rfl) rfl (by rw [eqS];simp)) ?_
   refine st (e1:=[some BS,some (sty w h o li),some (.lst (rooms.map .int)),some (.tup [QE z.1,(endLine z.2.2).d]),some (Jq tl),some s.d,some (.int k),some (Bk.para is).d]) (asg (Yo (opE (x:=(Bk.para is).d) rfl rfl rfl) rfl rfl (by show Zg (.lst (rooms.map .int)) (some (k:Int)) none=_;exact cu) si) rfl) ?_
   refine st (e1:=[some BS,some (sty w h o li),some (.lst (rooms.map .int)),some (.tup [QE z.1,(endLine z.2.2).d]),some (Jq (tl++[z.1])),some s.d,some (.int k),some (Bk.para is).d]) (VJ rfl (d:=QE z.1) rfl (ap _)) ?_
   have ln:=YS (QF is)
   have rf':Vb [.lst [(Bk.para is).d]]=some (QP (QF is)):=rf
   have hA:eUn D.len (eK Vb (lC (Qo (lC (eV 7) lN)) lN)) [some BS,some (sty w h o li),some (.lst (rooms.map .int)),some (.tup [QE z.1,(endLine z.2.2).d]),some (Jq (tl++[z.1])),some s.d,some (.int k),some (Bk.para is).d]=some (.int (QF is).length):=unE (Q6 (x:=.lst [(Bk.para is).d]) rfl rf') ln
   unfold Zr
   rw [hA]
   rfl
  | chapter t l =>
   obtain ⟨e',h5,h6⟩:=Ji rfl
   exact ⟨e',.inl h5,h6⟩
  | heading t n l =>
   obtain ⟨e',h5,h6⟩:=Ji rfl
   exact ⟨e',.inl h5,h6⟩
  | table rs l =>
   obtain ⟨e',h5,h6⟩:=Ji rfl
   exact ⟨e',.inl h5,h6⟩
  | plates n l =>
   obtain ⟨e',h5,h6⟩:=Ji rfl
   exact ⟨e',.inl h5,h6⟩
 ·rintro e ⟨a,b,rfl⟩
  rw [List.take_length]
  exact ret rfl
theorem Qef (w h:Int) (s:Sta) (n r:Int):s.p<=(QA w h s n r).1.p/\(QA w h s n r).2.p=(QA w h s n r).1.p/\(QA w h s n r).1.p<=s.p+1:=by
 unfold QA
 split
 ·exact ⟨Int.le_refl _,rfl,by show s.p<=s.p+1;omega⟩
 ·split
  ·exact ⟨Int.le_refl _,rfl,by show s.p<=s.p+1;omega⟩
  ·exact ⟨by show s.p<=s.p+1;omega,rfl,Int.le_refl _⟩
theorem Qhy (s:Sta):(endLine s).p=s.p:=by unfold endLine;split<;>rfl
theorem Qdw (h:Int) (s:Sta) (a b:Int):s.p<=(QO h s a b).1.p/\(QO h s a b).2.p=(QO h s a b).1.p/\(QO h s a b).1.p<=s.p+1:=by
 have e:=Qhy s
 unfold QO
 refine ⟨?_,rfl,?_⟩
 ·show s.p<=(if _ then _ else _:Sta).p
  split
  ·omega
  ·show s.p<=(endLine s).p+1;omega
 ·show (if _ then _ else _:Sta).p<=s.p+1
  split
  ·omega
  ·show (endLine s).p+1<=s.p+1;omega
theorem Qhj (s:Sta):s.p<=(Q0 s).p/\(Q0 s).p<=s.p+1/\(Q0 s).l=0/\(Q0 s).u=0/\(Q0 s).f=0:=by
 unfold Q0
 split
 ·rename_i z;exact ⟨Int.le_refl _,by omega,z⟩
 ·exact ⟨by show s.p<=s.p+1;omega,Int.le_refl _,rfl,rfl,rfl⟩
theorem QjN (o:Bool) (s:Sta):s.p<=(QZ o s).p/\(QZ o s).p<=s.p+2/\(QZ o s).l=0/\(QZ o s).u=0/\(QZ o s).f=0:=by
 obtain ⟨h1,h2,h3⟩:=Qhj s
 unfold QZ
 split
 ·exact ⟨by show s.p<=(Q0 s).p+1;omega,by show (Q0 s).p+1<=s.p+2;omega,rfl,rfl,rfl⟩
 ·exact ⟨h1,by omega,h3⟩
theorem QhV (h:Int) (s:Sta) (hh:1<=h) (z:s.l=0/\s.u=0/\s.f=0):(QO h s 1 0).1.p=s.p:=by
 have e:endLine s=s:=by unfold endLine;rw [if_pos z.2.1]
 unfold QO
 rw [e]
 show (if s.l+s.f+(1+0)<=h then s else _:Sta).p=s.p
 rw [if_pos (by rw [z.1,z.2.2];omega)]
def QlG:Bk->Int
 | .plates n _=>2+n
 | .para is=>2+2*((is.filter Jl).length:Int)
 | _=>2
theorem Ql2 (h:Int) (o:Bool) (s:Sta) (b:Bk) (hh:1<=h) (hp:Qbv b=false) (hn:∀ n l,b=.plates n l->1<=n):s.p<=(Jr h o s b).1.p/\(Jr h o s b).1.p<=(Jr h o s b).2.p/\(Jr h o s b).2.p<=s.p+QlG b:=by
 cases b with
 | para is=>cases hp
 | plates n l =>
  have h1:=Qhj s
  have h2:=hn n l rfl
  refine ⟨h1.1,?_,?_⟩
  ·show (Q0 s).p<=(Q0 s).p+n;omega
  ·show (Q0 s).p+n<=s.p+(2+n);omega
 | table rs l =>
  obtain ⟨a,b,c⟩:=Qdw h s rs.length 0
  exact ⟨a,Int.le_of_eq b.symm,by show (QO h s rs.length 0).2.p<=s.p+2;omega⟩
 | heading t k l =>
  obtain ⟨a,b,c⟩:=Qdw h s 1 k
  exact ⟨a,Int.le_of_eq b.symm,by show (QO h s 1 k).2.p<=s.p+2;omega⟩
 | chapter t l =>
  have h1:=QjN o s
  have h2:=QhV h (QZ o s) hh h1.2.2
  obtain ⟨a,b,c⟩:=Qdw h (QZ o s) 1 0
  refine ⟨?_,Int.le_of_eq b.symm,?_⟩
  ·show s.p<=(QO h (QZ o s) 1 0).1.p;omega
  ·show (QO h (QZ o s) 1 0).2.p<=s.p+2;omega
def JD (is:List It):Nat:=(is.filter Jl).length
theorem Qhl (i:It) (is:List It):JD (i::is)=(if Jl i then 1 else 0)+JD is:=by
 unfold JD
 rw [List.filter_cons]
 split<;>simp<;>omega
theorem Qk3 (w h:Int) (rooms:List Int) (lo:Int):∀ (is:List It) (s:List Plc×Nat×Sta),(∀ x∈s.1,lo<=x.p/\x.p<=s.2.2.p)->lo<=s.2.2.p ->
  let r:=is.foldl (QJ w h rooms) s
  (∀ x∈r.1,lo<=x.p/\x.p<=r.2.2.p)/\s.2.2.p<=r.2.2.p/\r.2.2.p<=s.2.2.p+JD is/\r.1.length=s.1.length+JD is
 | [],s,h1,h2=>⟨h1,Int.le_refl _,by simp [JD],by simp [JD]⟩
 | i::is,s,h1,h2=>by
  have key:(∀ x∈(QJ w h rooms s i).1,lo<=x.p/\x.p<=(QJ w h rooms s i).2.2.p)/\s.2.2.p<=(QJ w h rooms s i).2.2.p/\(QJ w h rooms s i).2.2.p<=s.2.2.p+(if Jl i then 1 else 0:Nat)/\(QJ w h rooms s i).1.length=s.1.length+(if Jl i then 1 else 0:Nat):=by
   have wd:∀ n r,(∀ x∈s.1++[(QA w h s.2.2 n r).1],lo<=x.p/\x.p<=(QA w h s.2.2 n r).2.p):=fun n r x hx=>by
    obtain ⟨a,b,c⟩:=Qef w h s.2.2 n r
    rcases List.mem_append.mp hx with z | z
    ·have:=h1 x z;omega
    ·rw [List.mem_singleton.mp z];omega
   cases i with
   | word x ns =>
    obtain ⟨a,b,c⟩:=Qef w h s.2.2 x.length ns.length
    refine ⟨wd _ _,?_,?_,by simp [QJ,Jl,Y0]⟩
    ·show s.2.2.p<=(QA w h s.2.2 x.length ns.length).2.p;omega
    ·show (QA w h s.2.2 x.length ns.length).2.p<=s.2.2.p+1;omega
   | ref l x y =>
    obtain ⟨a,b,c⟩:=Qef w h s.2.2 ((x.length:Int)+rooms.getD s.2.1 0+y.length) 0
    refine ⟨wd _ _,?_,?_,by simp [QJ,Jl,Y0,JW]⟩
    ·show s.2.2.p<=(QA w h s.2.2 _ 0).2.p;omega
    ·show (QA w h s.2.2 _ 0).2.p<=s.2.2.p+1;omega
   | mark l=>exact ⟨h1,Int.le_refl _,by show s.2.2.p<=s.2.2.p+0;omega,by simp [QJ,Jl,Y0,JW]⟩
   | key l=>exact ⟨h1,Int.le_refl _,by show s.2.2.p<=s.2.2.p+0;omega,by simp [QJ,Jl,Y0,JW]⟩
  obtain ⟨k1,k2,k3,k4⟩:=key
  obtain ⟨r1,r2,r3,r4⟩:=Qk3 w h rooms lo is (QJ w h rooms s i) k1 (by omega)
  refine ⟨r1,Int.le_trans k2 r2,?_,?_⟩
  ·have:=Qhl i is
   show (is.foldl (QJ w h rooms) (QJ w h rooms s i)).2.2.p<=_
   rw [this]
   omega
  ·have:=Qhl i is
   show (is.foldl (QJ w h rooms) (QJ w h rooms s i)).1.length=_
   rw [this,r4,k4]
   omega
def nPl:Bk->Nat
 | .para is=>JD is
 | _=>1
def Qdh (b:Bk):Prop:=∀ n l,b=.plates n l->1<=n
theorem Qnb (w h:Int) (o:Bool) (rooms:List Int) (hh:1<=h):∀ (bs:List Bk) (s:List (List Plc)×Sta×Nat),(∀ b∈bs,Qdh b) ->
  let r:=bs.foldl (QT w h o rooms) s
  s.2.1.p<=r.2.1.p/\r.2.1.p<=s.2.1.p+(bs.map QlG).sum/\∃ rows,r.1=s.1++rows/\rows.length=bs.length/\∀ q∈bs.zip rows,q.2.length=nPl q.1/\∀ x∈q.2,s.2.1.p<=x.p/\x.p<=r.2.1.p
 | [],s,_=>⟨Int.le_refl _,by simp,[],by simp,rfl,by simp⟩
 | b::bs,s,hb=>by
  have hbp:=hb b List.mem_cons_self
  have key:∃ row,(QT w h o rooms s b).1=s.1++[row]/\row.length=nPl b/\(∀ x∈row,s.2.1.p<=x.p/\x.p<=(QT w h o rooms s b).2.1.p)/\s.2.1.p<=(QT w h o rooms s b).2.1.p/\(QT w h o rooms s b).2.1.p<=s.2.1.p+QlG b:=by
   have other:Qbv b=false->QT w h o rooms s b=(s.1++[[(Jr h o s.2.1 b).1]],(Jr h o s.2.1 b).2,s.2.2)->nPl b=1->∃ row,(QT w h o rooms s b).1=s.1++[row]/\row.length=nPl b/\(∀ x∈row,s.2.1.p<=x.p/\x.p<=(QT w h o rooms s b).2.1.p)/\s.2.1.p<=(QT w h o rooms s b).2.1.p/\(QT w h o rooms s b).2.1.p<=s.2.1.p+QlG b:=by
    intro hp e hn
    obtain ⟨a1,a2,a3⟩:=Ql2 h o s.2.1 b hh hp hbp
    rw [e]
    refine ⟨[(Jr h o s.2.1 b).1],rfl,by rw [hn];rfl,fun x hx=>?_,?_,a3⟩
    ·rw [List.mem_singleton.mp hx];exact ⟨a1,a2⟩
    ·show s.2.1.p<=(Jr h o s.2.1 b).2.p;omega
   cases b with
   | para is =>
    obtain ⟨a1,a2,a3,a4⟩:=Qk3 w h (rooms.drop s.2.2) s.2.1.p is ([],0,s.2.1) (by simp) (Int.le_refl _)
    have e:=Qhy (Q4 w h s.2.1 (rooms.drop s.2.2) is).2.2
    refine ⟨(Q4 w h s.2.1 (rooms.drop s.2.2) is).1,rfl,by unfold nPl Q4;simpa using a4,fun x hx=>?_,?_,?_⟩
    ·show _/\x.p<=(endLine (Q4 w h s.2.1 (rooms.drop s.2.2) is).2.2).p
     rw [e];exact a1 x hx
    ·show _<=(endLine (Q4 w h s.2.1 (rooms.drop s.2.2) is).2.2).p
     rw [e];exact a2
    ·show (endLine (Q4 w h s.2.1 (rooms.drop s.2.2) is).2.2).p<=s.2.1.p+(2+2*((is.filter Jl).length:Int))
     rw [e]
     have a3':(Q4 w h s.2.1 (rooms.drop s.2.2) is).2.2.p<=s.2.1.p+(JD is:Int):=a3
     have:JD is=(is.filter Jl).length:=rfl
     omega
   | chapter t l=>exact other rfl rfl rfl
   | heading t k l=>exact other rfl rfl rfl
   | table rs l=>exact other rfl rfl rfl
   | plates n l=>exact other rfl rfl rfl
  obtain ⟨row,k1,k2,k3,k4,k5⟩:=key
  obtain ⟨r1,r2,rows,r3,r4,r5⟩:=Qnb w h o rooms hh bs (QT w h o rooms s b) (fun x hx=>hb x (List.mem_cons_of_mem _ hx))
  refine ⟨Int.le_trans k4 r1,?_,row::rows,?_,by simp [r4],?_⟩
  ·rw [List.map_cons,List.sum_cons]
   show (bs.foldl (QT w h o rooms) (QT w h o rooms s b)).2.1.p<=_
   omega
  ·show (bs.foldl (QT w h o rooms) (QT w h o rooms s b)).1=_
   rw [r3,k1];simp
  ·intro q hq
   rw [List.zip_cons_cons] at hq
   rcases List.mem_cons.mp hq with z | z
   ·rw [z]
    refine ⟨k2,fun x hx=>?_⟩
    have:=k3 x hx
    exact ⟨this.1,Int.le_trans this.2 r1⟩
   ·obtain ⟨a,b'⟩:=r5 q z
    exact ⟨a,fun x hx=>⟨Int.le_trans k4 (b' x hx).1,(b' x hx).2⟩⟩
theorem Qb6 {f:Bk->Int}:∀ (bs:List Bk) (s:Int),bs.foldl (fun s b=>s+f b) s=s+(bs.map f).sum
 | [],s=>by simp
 | b::bs,s=>by rw [List.foldl_cons,Qb6 bs,List.map_cons,List.sum_cons];omega
def YZ:Bk->Str
 | .chapter _ l=>l
 | .heading _ _ l=>l
 | .para _=>""
 | .table _ l=>l
 | .plates _ l=>l
theorem Qq0 (b:Bk):Qad [b.d]=some (.str (YZ b)):=by
 unfold Qad QdD
 cases b<;>simp [QI,JT,Zg,lI,QC,sD,sQ,sIf,Qk,ZA,Qd,Zr,J4,sNx,Z9,ZM,gS,Js,J6,eV,eC,eOp,eUn,Q1,QG,eOr,eIf,JF,Qn,Qo,eK,lN,lC,JJ,oNo,oAt,ZC,D.len,D.lt,D.le,D.gt,D.ge,D.add,D.sub,D.ix,D.eqO,D.neO,D.cmp,D.cmpN,D.inst,tyD,D.isT,D.intB,D.min2,D.max2,D.neg,D.addI,Qq,JM,JO,Jv,QM,QS,JL,JK,Jh,Ju,JP,JQ,Jw,Jx,JN,Jb,JC,J1,Qy,QB,Q9,Jd,QY,QQ,D.rng,D.its,D.itsT,QD,ZB,QK,Jg,JS,Jn,Jf,ixD,YZ]
def V1 (is:List It):Prop:=∀ i (hi:i<is.length),Jl is[i]=false->JD (is.take i)<JD is
def mkL:It->List Str
 | .mark l=>[l]
 | _=>[]
def QN (is:List It):List Str:=is.flatMap mkL
def Yn (b:Bk):List Str:=(if YZ b="" then [] else [YZ b])++QN (iO b)
def Qz (bs:List Bk):List Str:=bs.flatMap Yn
theorem Qmh (is:List It):(QN is).length<=is.length:=by
 unfold QN
 induction is with
 | nil=>exact Nat.le_refl _
 | cons i is ih =>
  rw [List.flatMap_cons,List.length_append,List.length_cons]
  have:(mkL i).length<=1:=by cases i<;>simp [mkL]
  omega
theorem Qj0 (bs:List Bk):(Qz bs).length<=bs.length+(bs.flatMap iO).length:=by
 unfold Qz
 induction bs with
 | nil=>exact Nat.le_refl _
 | cons b bs ih =>
  rw [List.flatMap_cons,List.flatMap_cons,List.length_append,List.length_append,List.length_cons]
  have h1:=Qmh (iO b)
  have h2:(Yn b).length<=1+(iO b).length:=by unfold Yn;rw [List.length_append];split<;>simp<;>omega
  omega
theorem Qmq (n:Int) (h0:0<=n) (h:n<10^60):Qb7 [.int n]=some (.int (Qbq n.toNat)):=by
 obtain ⟨m,rfl⟩:∃ m:Nat,n=m:=⟨n.toNat,by omega⟩
 have h':m<10^60:=by
  have:((10^60:Nat):Int)=10^60:=by decide
  omega
 have h2:m<2^1900:=Nat.lt_trans h' (by decide +kernel)
 have e1:D.strI (.int m)=some (.str (Str.ofString (toString (m:Int)))):=if_pos h2
 have hs:=QkN m
 have hd:=Qrd m h'
 have ln:=YY (x:=Str.ofString (toString (m:Int))) (by omega)
 rw [hs] at ln
 unfold Qb7 Qei
 exact stD rfl (ret (unE (unE rfl e1) ln))
theorem QiK {it:EvI} {e:Qr} (is:List It) (hit:it e=some (is.map It.d)) (hl:is.length<=1000000):QX 1 [] it (gS 0) (eK Yb (lC (eV 0) lN)) (eV 0) e=some (.lst ((is.filter Jl).map It.d)) :=
 Zq (g:=gS 0) (n:=1) (caps:=[]) It.d is (fun e=>∃ v,e=[v]) Jl It.d hit (lB hl) ⟨none,rfl⟩ (by
  rintro i hm e ⟨v,rfl⟩
  exact ⟨[some i.d],rfl,⟨_,rfl⟩,Q6 rfl (Qfi i),fun h=>rfl⟩)
theorem Qm3 (is:List It):D.len (.lst (is.map It.d))=some (.int is.length):=by
 show some (D.int (is.map It.d).length)=_
 rw [List.length_map]
theorem Qkj (w h:Int) (o li:Bool) (b:Bk) (hl:(iO b).length<=100000):YU [b.d,sty w h o li]=some (.int (JH li b)):=by
 have it:=Qfh b
 have io:=Qdx b
 have ix3:D.ix (sty w h o li) (.int 3)=some (.bl li):=rfl
 have plain:∀ m:Int,((iO b).filter Jl).length=m->(Qk (eOp D.add (eC (.int 2)) (eOp D.mulA (eC (.int 2)) (eUn D.len (QX 1 [] (QW (eK Zj (lC (eV 0) lN))) (gS 0) (eK Yb (lC (eV 0) lN)) (eV 0)))))) [some b.d,some (sty w h o li)]=some (.rt (.int (2+2*m))):=by
  intro m em
  have hc:=QiK (it:=QW (eK Zj (lC (eV 0) lN))) (e:=[some b.d,some (sty w h o li)]) (iO b) (by unfold QW;rw [Q6 rfl io];rfl) (by omega)
  have ln:=Qm3 ((iO b).filter Jl)
  rw [em] at ln
  exact ret (opE rfl (opE rfl (unE hc ln) (Qrz m)) rfl)
 unfold YU Qct
 refine stD rfl ?_
 cases b with
 | plates n l=>exact stR (ifT (opE (x:=.str "plates") (opE (x:=(Bk.plates n l).d) rfl rfl rfl) rfl (by rw [eqS];simp)) (ret (opE rfl (opE (x:=(Bk.plates n l).d) rfl rfl rfl) rfl)))
 | para is =>
  refine st (e1:=[some (Bk.para is).d,some (sty w h o li)]) (ifF (opE (x:=.str "para") (opE (x:=(Bk.para is).d) rfl rfl rfl) rfl (by rw [eqS];simp)) rfl) ?_
  refine st (e1:=[some (Bk.para is).d,some (sty w h o li)]) (ifF (ZI (Q6 rfl it)) rfl) ?_
  exact plain _ rfl
 | table rs l =>
  refine st (e1:=[some (Bk.table rs l).d,some (sty w h o li)]) (ifF (opE (x:=.str "table") (opE (x:=(Bk.table rs l).d) rfl rfl rfl) rfl (by rw [eqS];simp)) rfl) ?_
  refine st (e1:=[some (Bk.table rs l).d,some (sty w h o li)]) (ifF (ZI (Q6 rfl it)) rfl) ?_
  exact plain 0 rfl
 | chapter t l =>
  refine st (e1:=[some (Bk.chapter t l).d,some (sty w h o li)]) (ifF (opE (x:=.str "chapter") (opE (x:=(Bk.chapter t l).d) rfl rfl rfl) rfl (by rw [eqS];simp)) rfl) ?_
  cases li with
  | true=>exact stR (ifT (J9 (Q6 rfl it) (opE rfl rfl ix3)) (ret rfl))
  | false =>
   refine st (e1:=[some (Bk.chapter t l).d,some (sty w h o false)]) (ifF (J9 (Q6 rfl it) (opE rfl rfl ix3)) rfl) ?_
   exact plain 0 rfl
 | heading t k l =>
  refine st (e1:=[some (Bk.heading t k l).d,some (sty w h o li)]) (ifF (opE (x:=.str "heading") (opE (x:=(Bk.heading t k l).d) rfl rfl rfl) rfl (by rw [eqS];simp)) rfl) ?_
  cases li with
  | true=>exact stR (ifT (J9 (Q6 rfl it) (opE rfl rfl ix3)) (ret rfl))
  | false =>
   refine st (e1:=[some (Bk.heading t k l).d,some (sty w h o false)]) (ifF (J9 (Q6 rfl it) (opE rfl rfl ix3)) rfl) ?_
   exact plain 0 rfl
theorem Qg3 (w h:Int) (o li:Bool) (bs:List Bk) (hf:Few bs):Y6 [bks bs,sty w h o li]=some (.int (most li bs)):=by
 have hc:QX 1 [1] (QW (eV 0)) (gS 0) (eC (.bl true)) (eK YU (lC (eV 0) (lC (eV 1) lN))) [some (bks bs),some (sty w h o li)]=some (.lst ((bs.map (JH li)).map .int)):=by
  rw [Zq (g:=gS 0) (n:=1) (caps:=[1]) (c:=eC (.bl true)) (el:=eK YU (lC (eV 0) (lC (eV 1) lN))) Bk.d bs (fun e=>∃ v,e=[v,some (sty w h o li)]) (fun _=>true) (fun b=>.int (JH li b)) rfl (lB (Nat.le_trans hf.1 (by decide))) ⟨none,rfl⟩ (by
   rintro b hb e ⟨v,rfl⟩
   exact ⟨[some b.d,some (sty w h o li)],rfl,⟨_,rfl⟩,rfl,fun _=>ZF rfl rfl (Qkj w h o li b (YA hf b hb))⟩)]
  rw [Z1,List.map_map]
  rfl
 have sm:D.sumL (.lst ((bs.map (JH li)).map .int))=some (.int (bs.map (JH li)).sum):=by
  show (intsOf ((bs.map (JH li)).map .int)).map _=_
  rw [Qdy];rfl
 have me:most li bs=3+(bs.map (JH li)).sum:=by unfold most;rw [Qb6]
 rw [me]
 unfold Y6 Qam
 exact stD rfl (ret (opE rfl (unE hc sm) rfl))
theorem QhU (w h:Int) (o li:Bool) (bs:List Bk) (hf:Few bs) (h0:0<=most li bs) (h1:most li bs<10^60):Vs [bks bs,sty w h o li]=some (.int (Qbq (most li bs).toNat)):=by
 unfold Vs QaB
 exact stD rfl (ret (Q6 (ZF rfl rfl (Qg3 w h o li bs hf)) (Qmq _ h0 h1)))
theorem Qer (xs:List Str) (w:Int) (hl:xs.length<=1000000) (hx:∀ x∈xs,x.length<=1000000) (hw:∀ x∈xs,(x.length:Int)<=w):Vj [QP xs,.int w]=some (.bl false):=by
 have hc:QX 1 [1] (QW (eV 0)) (gS 0) (eC (.bl true)) (eOp D.gt (eUn D.len (eV 0)) (eV 1)) [some (QP xs),some (.int w)]=some (.lst (xs.map fun _=>.bl false)):=by
  rw [Zq (g:=gS 0) (n:=1) (caps:=[1]) (c:=eC (.bl true)) (el:=eOp D.gt (eUn D.len (eV 0)) (eV 1)) D.str xs (fun e=>∃ v,e=[v,some (.int w)]) (fun _=>true) (fun _=>.bl false) rfl (lB hl) ⟨none,rfl⟩ (by
   rintro x hb e ⟨v,rfl⟩
   refine ⟨[some (.str x),some (.int w)],rfl,⟨_,rfl⟩,rfl,fun _=>opE (unE rfl (YY (hx x hb))) rfl ?_⟩
   have:=hw x hb
   show some (D.bl (decide (w<(x.length:Int))))=_
   rw [decide_eq_false (by omega)])]
  rw [Z1]
 have ay:∀ xs:List Str,D.anyL (.lst (xs.map fun _=>.bl false))=some (.bl false):=by
  intro xs
  have:Vq (xs.map fun _=>D.bl false)=some (xs.map fun _=>false):=by
   induction xs with
   | nil=>rfl
   | cons x xs ih =>
    show (Vq (xs.map fun _=>D.bl false)).map _=_
    rw [ih];rfl
  show (Vq (xs.map fun _=>D.bl false)).map _=_
  rw [this]
  show some (D.bl ((xs.map fun _=>false).any id))=_
  simp
 unfold Vj QbY
 exact stD rfl (ret (unE hc (ay xs)))
def BkS:Bk->Prop
 | .chapter t _=>t.length<=1000
 | .heading t _ _=>t.length<=1000
 | .table rs _=>rs.length<=1000/\∀ r∈rs,r.length<=1000
 | .para is=>∀ i∈is,ItT i
 | .plates _ _=>True
theorem Qjr (w h:Int) (o li:Bool) (room:Int) (b:Bk) (h0:0<=room) (hs:BkS b) (hf:Qbr room w h b):J5 [b.d,sty w h o li,.int room]=some (.bl false):=by
 have it:=Qfh b
 have ix3:D.ix (sty w h o li) (.int 3)=some (.bl li):=rfl
 have ix0:D.ix (sty w h o li) (.int 0)=some (.int w):=rfl
 have tit:∀ (t:Str),D.ix b.d (.int 1)=some (.str t)->t.length<=1000->(t.length:Int)+2+room<=w->Qa8 b=true->J5 [b.d,sty w h o li,.int room]=some (.bl false):=by
  intro t i1 tl tw tt
  rw [tt] at it
  unfold J5 ZG
  refine stD rfl (stR (ifT (Q6 rfl it) ?_))
  refine st (e1:=[some b.d,some (sty w h o li),some (.int room),some (.int (if li then 2+room else 0))]) ?_ ?_
  ·refine asg ?_ rfl
   unfold eIf
   have hX:eOp D.ix (eV 1) (eC (.int 3)) (sD 4 [b.d,sty w h o li,.int room])=some (.bl li):=opE (x:=sty w h o li) rfl rfl ix3
   rw [hX,Qq]
   cases li<;>rfl
  ·refine ret (opE (opE (unE (opE (x:=b.d) rfl rfl i1) (YY (by omega))) rfl rfl) (opE rfl rfl ix0) ?_)
   show some (D.bl (decide (w<(t.length:Int)+_)))=_
   rw [decide_eq_false (by cases li<;>simp<;>omega)]
 cases b with
 | chapter t l=>exact tit t rfl hs hf rfl
 | heading t k l=>exact tit t rfl hs hf.1 rfl
 | table rs l =>
  have al:=Qer rs w (by have:=hs.1;omega) (fun x hx=>by have:=hs.2 x hx;omega) hf.2
  unfold J5 ZG
  refine stD rfl (st (e1:=[some (Bk.table rs l).d,some (sty w h o li),some (.int room),none]) (ifF (Q6 rfl it) rfl) (ret ?_))
  exact J9 (opE (x:=.str "table") (opE (x:=(Bk.table rs l).d) rfl rfl rfl) rfl (by rw [eqS];simp)) (ZF (opE (x:=(Bk.table rs l).d) rfl rfl rfl) (opE rfl rfl ix0) al)
 | para is =>
  unfold J5 ZG
  exact stD rfl (st (e1:=[some (Bk.para is).d,some (sty w h o li),some (.int room),none]) (ifF (Q6 rfl it) rfl) (ret (ZI (opE (x:=.str "para") (opE (x:=(Bk.para is).d) rfl rfl rfl) rfl (by rw [eqS];simp)))))
 | plates n l =>
  unfold J5 ZG
  exact stD rfl (st (e1:=[some (Bk.plates n l).d,some (sty w h o li),some (.int room),none]) (ifF (Q6 rfl it) rfl) (ret (ZI (opE (x:=.str "plates") (opE (x:=(Bk.plates n l).d) rfl rfl rfl) rfl (by rw [eqS];simp)))))
theorem QjR (w h:Int) (o li:Bool) (room:Int) (b:Bk) (hf:Qbr room w h b):Y7 [b.d,sty w h o li]=some (.bl false):=by
 have ix1:D.ix (sty w h o li) (.int 1)=some (.int h):=rfl
 unfold Y7 Qao
 refine stD rfl ?_
 cases b with
 | heading t k l =>
  refine stR (ifT (opE (x:=.str "heading") (opE (x:=(Bk.heading t k l).d) rfl rfl rfl) rfl (by rw [eqS];simp)) (ret (opE (opE (opE (x:=(Bk.heading t k l).d) rfl rfl rfl) rfl rfl) (opE rfl rfl ix1) ?_)))
  have:=hf.2
  show some (D.bl (decide (h<k+1)))=_
  rw [decide_eq_false (by omega)]
 | table rs l =>
  refine st (e1:=[some (Bk.table rs l).d,some (sty w h o li)]) (ifF (opE (x:=.str "table") (opE (x:=(Bk.table rs l).d) rfl rfl rfl) rfl (by rw [eqS];simp)) rfl) (ret ?_)
  refine J9 (opE (x:=.str "table") (opE (x:=(Bk.table rs l).d) rfl rfl rfl) rfl (by rw [eqS];simp)) (opE (unE (opE (x:=(Bk.table rs l).d) rfl rfl rfl) (YS rs)) (opE rfl rfl ix1) ?_)
  have:=hf.1
  show some (D.bl (decide (h<(rs.length:Int))))=_
  rw [decide_eq_false (by omega)]
 | chapter t l=>exact st (e1:=[some (Bk.chapter t l).d,some (sty w h o li)]) (ifF (opE (x:=.str "chapter") (opE (x:=(Bk.chapter t l).d) rfl rfl rfl) rfl (by rw [eqS];simp)) rfl) (ret (ZI (opE (x:=.str "chapter") (opE (x:=(Bk.chapter t l).d) rfl rfl rfl) rfl (by rw [eqS];simp))))
 | para is=>exact st (e1:=[some (Bk.para is).d,some (sty w h o li)]) (ifF (opE (x:=.str "para") (opE (x:=(Bk.para is).d) rfl rfl rfl) rfl (by rw [eqS];simp)) rfl) (ret (ZI (opE (x:=.str "para") (opE (x:=(Bk.para is).d) rfl rfl rfl) rfl (by rw [eqS];simp))))
 | plates n l=>exact st (e1:=[some (Bk.plates n l).d,some (sty w h o li)]) (ifF (opE (x:=.str "plates") (opE (x:=(Bk.plates n l).d) rfl rfl rfl) rfl (by rw [eqS];simp)) rfl) (ret (ZI (opE (x:=.str "plates") (opE (x:=(Bk.plates n l).d) rfl rfl rfl) rfl (by rw [eqS];simp))))
theorem Qj1 (w h:Int) (o li:Bool) (room:Int) (i:It) (hs:ItT i) (hf:Qe4 room w h i):Vt [i.d,sty w h o li,.int room]=some (.bl false):=by
 have ix0:D.ix (sty w h o li) (.int 0)=some (.int w):=rfl
 unfold Vt QaE
 refine stD rfl ?_
 cases i with
 | word x ns =>
  have ad:D.add (.lst [.str x]) (QP ns)=some (QP (x::ns)):=Qii (f:=D.str) (xs:=[x]) (ys:=ns) (QfZ (by have:=hs.2.1;omega))
  have al:=Qer (x::ns) w (by have:=hs.2.1;simp;omega) (fun y hy=>by rcases List.mem_cons.mp hy with z | z;rw [z];have:=hs.1;omega;have:=hs.2.2 y z;omega) (fun y hy=>by rcases List.mem_cons.mp hy with z | z;rw [z];exact hf.1;exact hf.2.2 y z)
  exact stR (ifT (opE (x:=.str "word") (opE (x:=(It.word x ns).d) rfl rfl rfl) rfl (by rw [eqS];simp)) (ret (ZF (opE (x:=.lst [.str x]) (y:=QP ns) rfl rfl ad) (opE rfl rfl ix0) al)))
 | ref l a b =>
  refine st (e1:=[some (It.ref l a b).d,some (sty w h o li),some (.int room)]) (ifF (opE (x:=.str "ref") (opE (x:=(It.ref l a b).d) rfl rfl rfl) rfl (by rw [eqS];simp)) rfl) (ret ?_)
  refine J9 (opE (x:=.str "ref") (opE (x:=(It.ref l a b).d) rfl rfl rfl) rfl (by rw [eqS];simp)) (opE (opE (opE (unE (opE (x:=(It.ref l a b).d) rfl rfl rfl) (YY (by have:=hs.1;omega))) rfl rfl) (unE (opE (x:=(It.ref l a b).d) rfl rfl rfl) (YY (by have:=hs.2;omega))) rfl) (opE rfl rfl ix0) ?_)
  have hf':(a.length:Int)+room+b.length<=w:=hf
  show some (D.bl (decide (w<(a.length:Int)+room+b.length)))=_
  rw [decide_eq_false (by omega)]
 | mark l=>exact st (e1:=[some (It.mark l).d,some (sty w h o li),some (.int room)]) (ifF (opE (x:=.str "mark") (opE (x:=(It.mark l).d) rfl rfl rfl) rfl (by rw [eqS];simp)) rfl) (ret (ZI (opE (x:=.str "mark") (opE (x:=(It.mark l).d) rfl rfl rfl) rfl (by rw [eqS];simp))))
 | key l=>exact st (e1:=[some (It.key l).d,some (sty w h o li),some (.int room)]) (ifF (opE (x:=.str "key") (opE (x:=(It.key l).d) rfl rfl rfl) rfl (by rw [eqS];simp)) rfl) (ret (ZI (opE (x:=.str "key") (opE (x:=(It.key l).d) rfl rfl rfl) rfl (by rw [eqS];simp))))
theorem QkB (w h:Int) (o li:Bool) (room:Int) (i:It) (hf:Qe4 room w h i):Vu [i.d,sty w h o li]=some (.bl false):=by
 have ix1:D.ix (sty w h o li) (.int 1)=some (.int h):=rfl
 unfold Vu QaF
 refine stD rfl (ret ?_)
 cases i with
 | word x ns =>
  refine J9 (opE (x:=.str "word") (opE (x:=(It.word x ns).d) rfl rfl rfl) rfl (by rw [eqS];simp)) (opE (opE (unE (opE (x:=(It.word x ns).d) rfl rfl rfl) (YS ns)) rfl rfl) (opE rfl rfl ix1) ?_)
  have:=hf.2.1
  show some (D.bl (decide (h<(ns.length:Int)+1)))=_
  rw [decide_eq_false (by omega)]
 | ref l a b=>exact ZI (opE (x:=.str "ref") (opE (x:=(It.ref l a b).d) rfl rfl rfl) rfl (by rw [eqS];simp))
 | mark l=>exact ZI (opE (x:=.str "mark") (opE (x:=(It.mark l).d) rfl rfl rfl) rfl (by rw [eqS];simp))
 | key l=>exact ZI (opE (x:=.str "key") (opE (x:=(It.key l).d) rfl rfl rfl) rfl (by rw [eqS];simp))
theorem lc {a:EvE} {l:EvL} {e:Qr} {x:D} {xs:List D} (ha:a e=some x) (hl:l e=some xs):lC a l e=some (x::xs):=by unfold lC;rw [ha,hl];rfl
theorem stM {n k:Nat} {b:EvS} {ds:List D} {e:Qr} {d:D} (hl:ds.length=k) (h:b (sD n ds)=some (.nx e)) (he:(e[k-1]?).join=some d):Qch n k b ds=some d:=by
 unfold Qch
 rw [if_pos hl,h]
 exact he
theorem QfH {i:Nat} {f:List D->Option D} {l:EvL} {e:Qr} {ds:List D} {d z:D} (hl:l e=some ds) (hd:eV i e=some d) (hf:f (ds++[d])=some z):Y9 i f l e=some (.nx (e.set i (some z))):=by
 unfold Y9
 rw [hl,hd]
 show (f (ds++[d])).map _=_
 rw [hf];rfl
def Je (ls:List Str):D:=.dic (ls.map Sum.inr) (ls.map fun _=>.bl true)
theorem Qir (l:Str) (ls:List Str):hasK (.inr l) (ls.map Sum.inr)=decide (l∈ls):=by
 unfold hasK
 induction ls with
 | nil=>simp
 | cons a ls ih =>
  rw [List.map_cons,List.any_cons,ih]
  by_cases z:a=l
  ·subst z;simp
  ·have:¬ l=a:=fun q=>z q.symm
   simp [z,this]
theorem QeO (l:Str) (n:Int) (ls:List Str) (h:l∉ls) (hl:ls.length<lI):VC [.str l,.int n,Je ls]=some (Je (ls++[l])):=by
 have hi:D.dIn (.str l) (Je ls)=some (.bl false):=by
  show some (D.bl (hasK (.inr l) (ls.map Sum.inr)))=_
  rw [Qir,decide_eq_false h]
 have pd:D.put (Je ls) (.str l) (.bl true)=some (Je (ls++[l])):=by
  show (if (ls.map Sum.inr:List Kd).length<lI then some (QgC _ _ (.inr l) (.bl true)) else none)=_
  rw [if_pos (by rw [List.length_map];exact hl)]
  unfold QgC
  rw [Qir,if_neg (by simpa using h)]
  unfold Je
  rw [List.map_append,List.map_append];rfl
 unfold VC Qcw
 refine stM (e:=[some (.str l),some (.int n),some (Je (ls++[l]))]) rfl ?_ rfl
 refine st (e1:=[some (.str l),some (.int n),some (Je ls)]) (ifF (opE rfl rfl hi) rfl) ?_
 show (D.put (Je ls) (.str l) (.bl true)).map _=_
 rw [pd];rfl
def QdT (b:Bk):List Str:=if YZ b="" then [] else [YZ b]
theorem QjP (w h:Int) (o li:Bool) (room:Int) (b:Bk) (n:Int) (ls:List Str) (h0:0<=room) (hs:BkS b) (hf:Qbr room w h b) (hn:∀ l∈QdT b,l∉ls) (hl:ls.length<lI):Z7 [b.d,.int n,sty w h o li,.int room,Je ls]=some (Je (ls++QdT b)):=by
 have a1:=Qjr w h o li room b h0 hs hf
 have a2:=QjR w h o li room b hf
 have a3:=Qq0 b
 have ne:D.neO (.str (YZ b)) (.str (Str.ofString ""))=some (.bl (!decide (YZ b=Str.ofString ""))):=by simp [D.neO,QB,QK,D.cmpN]
 unfold Z7 Qan
 refine stM (e:=[some b.d,some (.int n),some (sty w h o li),some (.int room),some (Je (ls++QdT b))]) rfl ?_ rfl
 refine st (e1:=[some b.d,some (.int n),some (sty w h o li),some (.int room),some (Je ls)]) (ifF (Yp rfl rfl rfl a1) rfl) ?_
 refine st (e1:=[some b.d,some (.int n),some (sty w h o li),some (.int room),some (Je ls)]) (ifF (ZF rfl rfl a2) rfl) ?_
 unfold QdT at hn ⊢
 by_cases z:YZ b=""
 ·rw [if_pos z,List.append_nil]
  exact ifF (opE (Q6 rfl a3) rfl (by rw [ne,decide_eq_true z];rfl)) rfl
 ·rw [if_neg z] at hn ⊢
  have al:=QeO (YZ b) n ls (hn _ (by simp)) hl
  refine ifT (opE (Q6 rfl a3) rfl (by rw [ne,decide_eq_false z];rfl)) ?_
  exact QfH (ds:=[.str (YZ b),.int n]) (lc (Q6 rfl a3) rfl) rfl al
theorem Qky (w h:Int) (o li:Bool) (room:Int) (i:It) (n:Int) (ls:List Str) (hs:ItT i) (hf:Qe4 room w h i) (hn:∀ l∈mkL i,l∉ls) (hl:ls.length<lI):Yx [i.d,.int n,sty w h o li,.int room,Je ls]=some (Je (ls++mkL i)):=by
 have a1:=Qj1 w h o li room i hs hf
 have a2:=QkB w h o li room i hf
 unfold Yx QaD
 refine stM (e:=[some i.d,some (.int n),some (sty w h o li),some (.int room),some (Je (ls++mkL i))]) rfl ?_ rfl
 refine st (e1:=[some i.d,some (.int n),some (sty w h o li),some (.int room),some (Je ls)]) (ifF (Yp rfl rfl rfl a1) rfl) ?_
 refine st (e1:=[some i.d,some (.int n),some (sty w h o li),some (.int room),some (Je ls)]) (ifF (ZF rfl rfl a2) rfl) ?_
 cases i with
 | mark l =>
  have al:=QeO l n ls (hn l (by simp [mkL])) hl
  exact ifT (opE (x:=.str "mark") (opE (x:=(It.mark l).d) rfl rfl rfl) rfl (by rw [eqS];simp)) (QfH (ds:=[.str l,.int n]) rfl rfl al)
 | word x ns =>
  have e:mkL (.word x ns)=[]:=rfl
  rw [e,List.append_nil]
  exact ifF (opE (x:=.str "word") (opE (x:=(It.word x ns).d) rfl rfl rfl) rfl (by rw [eqS];simp)) rfl
 | ref l x y =>
  have e:mkL (.ref l x y)=[]:=rfl
  rw [e,List.append_nil]
  exact ifF (opE (x:=.str "ref") (opE (x:=(It.ref l x y).d) rfl rfl rfl) rfl (by rw [eqS];simp)) rfl
 | key x =>
  have e:mkL (.key x)=[]:=rfl
  rw [e,List.append_nil]
  exact ifF (opE (x:=.str "key") (opE (x:=(It.key x).d) rfl rfl rfl) rfl (by rw [eqS];simp)) rfl
theorem QnQ (is:List It) (i:Nat) (hi:i<is.length):JD (is.take (i+1))=JD (is.take i)+(if Jl is[i] then 1 else 0):=by
 unfold JD
 rw [List.take_succ_eq_append_getElem hi,List.filter_append,List.length_append]
 congr 1
 cases q:Jl is[i]<;>simp [q]
theorem QkV (is:List It) (i:Nat):JD (is.take i)<=JD is:=((List.take_sublist i is).filter _).length_le
theorem QjO (w h:Int) (o li:Bool) (room:Int) (is:List It) (n:Int) (ls:List Str) (hl:is.length<=100000) (hs:∀ i∈is,ItT i) (hf:∀ i∈is,Qe4 room w h i) (ht:V1 is) (hn:(ls++QN is).Nodup) (hll:(ls++QN is).length<lI) :
  Z6 [.lst (is.map It.d),.int n,sty w h o li,.int room,Je ls]=some (Je (ls++QN is)):=by
 have body:∃ e,Y8 (sD 7 [.lst (is.map It.d),.int n,sty w h o li,.int room,Je ls])=some (.nx e)/\∃ a b,e=[some (.lst (is.map It.d)),some (.int n),some (sty w h o li),some (.int room),some (Je (ls++QN is)),a,b]:=by
  unfold Y8
  have hc:=QiK (it:=QW (eV 0)) (e:=sD 7 [.lst (is.map It.d),.int n,sty w h o li,.int room,Je ls]) is rfl (by omega)
  have ln:=Qm3 (is.filter Jl)
  have e1:((is.filter Jl).length:Int)=(JD is:Int):=rfl
  rw [e1] at ln
  obtain ⟨e',h1,a,b,h2⟩:=VZ (g:=gS 6) (b:=sQ (Y9 4 Yx (lC (eV 6) (lC (eV 1) (lC (eV 2) (lC (eV 3) lN))))) (sIf (eK Yb (lC (eV 6) lN)) (Zr 5 D.sub (eC (.int 1))) (sIf (eOp D.eqO (eV 5) (eC (.int 0))) (YM) (sNx)))) It.d is (fun i e=>∃ a b,e=[some (.lst (is.map It.d)),some (.int n),some (sty w h o li),some (.int room),some (Je (ls++QN (is.take i))),a,b]/\a=some (.int ((JD is:Int)-JD (is.take i)))) (by
   rintro i hi e ⟨a,b,rfl,rfl⟩
   have tk:QN (is.take (i+1))=QN (is.take i)++mkL is[i]:=fT mkL is i hi
   have hm:is[i]∈is:=List.getElem_mem hi
   have iset:=Qfi is[i]
   have nt:=QnQ is i hi
   have nl:=QkV is (i+1)
   have hT:=ht i hi
   have split:ls++QN is=(ls++QN (is.take i))++(mkL is[i]++QN (is.drop (i+1))):=by
    have:QN is=QN (is.take (i+1))++QN (is.drop (i+1)):=by
     unfold QN
     rw [<- List.flatMap_append,List.take_append_drop]
    rw [this,tk];simp [List.append_assoc]
   have hnot:∀ l∈mkL is[i],l∉ls++QN (is.take i):=fun l h1 h2=>by
    rw [split] at hn
    exact (List.nodup_append.mp hn).2.2 l h2 l (List.mem_append_left _ h1) rfl
   have hlt:(ls++QN (is.take i)).length<lI:=by
    rw [split,List.length_append] at hll
    omega
   have li':=Qky w h o li room is[i] n (ls++QN (is.take i)) (hs _ hm) (hf _ hm) hnot hlt
   rw [tk,<- List.append_assoc]
   generalize is[i]=x at *
   refine ⟨[some (.lst (is.map It.d)),some (.int n),some (sty w h o li),some (.int room),some (Je (ls++QN (is.take i)++mkL x)),some (.int ((JD is:Int)-JD (is.take (i+1)))),some x.d],.inl ?_,_,_,rfl,rfl⟩
   refine bnd (e1:=[some (.lst (is.map It.d)),some (.int n),some (sty w h o li),some (.int room),some (Je (ls++QN (is.take i))),some (.int ((JD is:Int)-JD (is.take i))),some x.d]) rfl ?_
   refine st (e1:=[some (.lst (is.map It.d)),some (.int n),some (sty w h o li),some (.int room),some (Je (ls++QN (is.take i)++mkL x)),some (.int ((JD is:Int)-JD (is.take i))),some x.d]) (QfH (ds:=[x.d,.int n,sty w h o li,.int room]) rfl rfl li') ?_
   cases q:Jl x with
   | true =>
    rw [q] at iset nt
    refine ifT (Q6 rfl iset) ?_
    rw [nt,if_pos rfl,show ((JD is:Int)-((JD (is.take i)+1:Nat):Int))=(JD is:Int)-JD (is.take i)-1 from by omega]
    rfl
   | false =>
    rw [q] at iset nt
    have:=hT q
    refine ifF (Q6 rfl iset) (ifF (opE rfl rfl ?_) ?_)
    ·simp [D.eqO,Qy,QD,D.cmp];omega
    ·rw [nt,if_neg (by decide),Nat.add_zero];rfl) [some (.lst (is.map It.d)),some (.int n),some (sty w h o li),some (.int room),some (Je ls),some (.int (JD is)),none] ⟨some (.int (JD is)),none,by rw [List.take_zero];simp [QN],by rw [List.take_zero];simp [JD]⟩
  obtain ⟨h2,h3⟩:=h2
  rw [List.take_length] at h2
  refine ⟨e',?_,a,b,h2⟩
  refine st (e1:=[some (.lst (is.map It.d)),some (.int n),some (sty w h o li),some (.int room),some (Je ls),some (.int (JD is)),none]) (asg (unE hc ln) rfl) ?_
  unfold Ja
  exact h1
 obtain ⟨e,h1,a,b,rfl⟩:=body
 unfold Z6
 exact stM rfl h1 rfl
theorem stN {n k:Nat} {b:EvS} {ds:List D} {e:Qr} (hl:ds.length=k) (h:b (sD n ds)=some (.nx e)):QC n k b ds=some .non:=by unfold QC;rw [if_pos hl,h];rfl
theorem Qsg (l:Str) (ls:List Str) (h:l∈ls):D.dNotIn (.str l) (Je ls)=some (.bl false):=by
 show some (D.bl (!hasK (.inr l) (ls.map Sum.inr)))=_
 rw [Qir,decide_eq_true h];rfl
theorem Qkx (bs:List Bk) (ls:List Str) (hf:Few bs) (hr:∀ l∈rO bs,l∈ls):Yw [bks bs,Je ls]=some .non:=by
 obtain ⟨e',h1,_⟩:=VZ (g:=Js [gS 2,gS 3]) (b:=Ja (QW (eK Vb (lC (Qo (lC (eV 3) lN)) lN))) (gS 4) (sIf (eOp D.dNotIn (eV 4) (eV 1)) (YM) (sNx))) (fun p:Bk×Nat=>D.tup [.int p.2,p.1.d]) bs.zipIdx (fun i e=>∃ a b c,e=[some (bks bs),some (Je ls),a,b,c]) (by
  rintro i hi e ⟨a,b,c,rfl⟩
  have hi':i<bs.length:=by simpa using hi
  have ei:bs.zipIdx[i]=(bs[i],i):=by simp
  rw [ei]
  have hm:bs[i]∈bs:=List.getElem_mem hi'
  have f1:=Qk8 hf _ hm
  have rf:=QkR [bs[i]] f1
  rw [QfU] at rf
  have rf':Vb [.lst [bs[i].d]]=some (QP (QF (iO bs[i]))):=rf
  have hin:∀ l∈QF (iO bs[i]),l∈ls:=fun l hl=>hr l (List.mem_flatMap.mpr ⟨bs[i],hm,hl⟩)
  generalize QF (iO bs[i])=rs at *
  generalize bs[i]=x at *
  obtain ⟨e2,g1,c',g2⟩:=VZ (g:=gS 4) (b:=sIf (eOp D.dNotIn (eV 4) (eV 1)) (YM) (sNx)) D.str rs (fun _ e=>∃ c,e=[some (bks bs),some (Je ls),some (.int i),some x.d,c]) (by
   rintro j hj e ⟨c,rfl⟩
   have nn:=Qsg rs[j] ls (hin _ (List.getElem_mem hj))
   exact ⟨_,.inl (bnd (e1:=[some (bks bs),some (Je ls),some (.int i),some x.d,some (.str rs[j])]) rfl (ifF (opE rfl rfl nn) rfl)),_,rfl⟩) [some (bks bs),some (Je ls),some (.int i),some x.d,c] ⟨c,rfl⟩
  subst g2
  refine ⟨[some (bks bs),some (Je ls),some (.int i),some x.d,c'],.inl (bnd (e1:=[some (bks bs),some (Je ls),some (.int i),some x.d,c]) rfl ?_),some (.int i),some x.d,c',rfl⟩
  ·unfold Ja QW
   have hR:eK Vb (lC (Qo (lC (eV 3) lN)) lN) [some (bks bs),some (Je ls),some (.int i),some x.d,c]=some (QP rs):=Q6 (x:=.lst [x.d]) rfl rf'
   rw [hR]
   exact g1) [some (bks bs),some (Je ls),none,none,none] ⟨none,none,none,rfl⟩
 unfold Yw QaC
 refine stN (e:=e') rfl ?_
 unfold Ja QaI
 show (some (Vl 0 (bs.map Bk.d))).bind _=_
 rw [QbQ]
 exact h1
theorem QqU (w h:Int) (o li:Bool) (bs:List Bk) (hf:Few bs) (hw:4<=w/\w<=90/\2<=h/\h<=60) (h0:0<=most li bs) (h1:most li bs<10^60) (hs:∀ b∈bs,BkS b) (ht:∀ b∈bs,BkT b) (hfit:∀ b∈bs,Qbr (Qbq (most li bs).toNat) w h b) (htt:∀ b∈bs,V1 (iO b))
  (hn:(Qz bs).Nodup) (hr:∀ l∈rO bs,l∈Qz bs):Qbw [bks bs,sty w h o li]=some .non:=by
 have si:Qbe [sty w h o li]=some (.bl true):=by
  unfold Qbe QdF sty
  simp [QI,JT,Zg,lI,QC,sD,sQ,sIf,Qk,ZA,Qd,Zr,J4,sNx,Z9,ZM,gS,Js,J6,eV,eC,eOp,eUn,Q1,QG,eOr,eIf,JF,Qn,Qo,eK,lN,lC,JJ,oNo,oAt,ZC,D.len,D.lt,D.le,D.gt,D.ge,D.add,D.sub,D.ix,D.eqO,D.neO,D.cmp,D.cmpN,D.inst,tyD,D.isT,D.intB,D.min2,D.max2,D.neg,D.addI,Qq,JM,JO,Jv,QM,QS,JL,JK,Jh,Ju,JP,JQ,Jw,Jx,JN,Jb,JC,J1,Qy,QB,Q9,Jd,QY,QQ,D.rng,D.its,D.itsT,QD,ZB,QK,Jg,JS,Jn,Jf,ixD,hw.1,hw.2.1,hw.2.2.1,hw.2.2.2]
 have ra:=QhU w h o li bs hf h0 h1
 have lr:=Qkx bs (Qz bs) hf hr
 have hbl:=Qj0 bs
 obtain ⟨room,er⟩:∃ room:Int,(Qbq (most li bs).toNat:Int)=room:=⟨_,rfl⟩
 rw [er] at ra hfit
 have r0:0<=room:=by omega
 obtain ⟨e',g1,g2⟩:=VZ (g:=Js [gS 4,gS 5]) (b:=sQ (Y9 3 Z7 (lC (eV 5) (lC (eV 4) (lC (eV 1) (lC (eV 2) lN))))) (Y9 3 Z6 (lC (eK Zj (lC (eV 5) lN)) (lC (eV 4) (lC (eV 1) (lC (eV 2) lN)))))) (fun p:Bk×Nat=>D.tup [.int p.2,p.1.d]) bs.zipIdx (fun i e=>∃ a b,e=[some (bks bs),some (sty w h o li),some (.int room),some (Je (Qz (bs.take i))),a,b]) (by
  rintro i hi e ⟨a,b,rfl⟩
  have hi':i<bs.length:=by simpa using hi
  have ei:bs.zipIdx[i]=(bs[i],i):=by simp
  rw [ei]
  have hm:bs[i]∈bs:=List.getElem_mem hi'
  have tk:Qz (bs.take (i+1))=Qz (bs.take i)++Yn bs[i]:=fT Yn bs i hi'
  have lb:Yn bs[i]=QdT bs[i]++QN (iO bs[i]):=rfl
  have sub:(Qz (bs.take (i+1))).Nodup:=by
   refine List.Nodup.sublist ?_ hn
   unfold Qz
   conv=>rhs;rw [<- List.take_append_drop (i+1) bs,List.flatMap_append]
   exact List.sublist_append_left _ _
  have len:(Qz (bs.take (i+1))).length<=(Qz bs).length:=ZU Yn bs (i+1)
  have hlen:(Qz bs).length<=200000:=by have:=hf.1;have:=hf.2;omega
  have io:=Qdx bs[i]
  have il:=YA hf _ hm
  rw [tk,lb,<- List.append_assoc] at sub len
  rw [tk,lb,<- List.append_assoc]
  have sN:=sub
  rw [List.append_assoc] at sN
  have lk1:=QjP w h o li room bs[i] i (Qz (bs.take i)) r0 (hs _ hm) (hfit _ hm) (fun l h1 h2=>(List.nodup_append.mp sN).2.2 l h2 l (List.mem_append_left _ h1) rfl) (ZJ (by rw [List.length_append,List.length_append] at len;omega))
  have lk2:=QjO w h o li room (iO bs[i]) i (Qz (bs.take i)++QdT bs[i]) il (ht _ hm) (by
   have:=hfit _ hm
   intro j hj
   cases q:bs[i] with
   | para is=>rw [q] at this hj;exact this j hj
   | _=>rw [q] at hj;cases hj) (htt _ hm) sub (ZJ (by omega))
  generalize bs[i]=x at *
  refine ⟨[some (bks bs),some (sty w h o li),some (.int room),some (Je (Qz (bs.take i)++QdT x++QN (iO x))),some (.int i),some x.d],.inl ?_,_,_,rfl⟩
  refine bnd (e1:=[some (bks bs),some (sty w h o li),some (.int room),some (Je (Qz (bs.take i))),some (.int i),some x.d]) rfl ?_
  refine st (e1:=[some (bks bs),some (sty w h o li),some (.int room),some (Je (Qz (bs.take i)++QdT x)),some (.int i),some x.d]) (QfH (ds:=[x.d,.int i,sty w h o li,.int room]) rfl rfl lk1) ?_
  exact QfH (ds:=[.lst ((iO x).map It.d),.int i,sty w h o li,.int room]) (lc (Q6 rfl io) rfl) rfl lk2) [some (bks bs),some (sty w h o li),some (.int room),some (Je []),none,none] ⟨none,none,rfl⟩
 obtain ⟨a,b,rfl⟩:=g2
 have zl:bs.zipIdx.length=bs.length:=by simp
 rw [zl,List.take_length] at g1
 unfold Qbw Qiw
 refine stN (e:=[some (bks bs),some (sty w h o li),some (.int room),some (Je (Qz bs)),a,b]) rfl ?_
 refine st (e1:=[some (bks bs),some (sty w h o li),none,none,none,none]) (ifF (Qa3 (b:=true) (Q6 rfl si)) rfl) ?_
 refine st (e1:=[some (bks bs),some (sty w h o li),some (.int room),none,none,none]) (asg (ZF rfl rfl ra) rfl) ?_
 refine st (e1:=[some (bks bs),some (sty w h o li),some (.int room),some (Je []),none,none]) rfl ?_
 refine st (e1:=[some (bks bs),some (sty w h o li),some (.int room),some (Je (Qz bs)),a,b]) ?_ ?_
 ·unfold Ja QaI
  show (some (Vl 0 (bs.map Bk.d))).bind _=_
  rw [QbQ]
  exact g1
 ·unfold J4
  have hR:eK Yw (lC (eV 0) (lC (eV 3) lN)) [some (bks bs),some (sty w h o li),some (.int room),some (Je (Qz bs)),a,b]=some .non:=ZF rfl rfl lr
  rw [hR]
  rfl
theorem Qpr (i:It):Jl i=!isMK i:=by cases i<;>rfl
theorem Qdj {r:List It} {x:It} (hx:Jl x=true):V1 (r++[x]):=by
 intro i hi h
 have hl:(r++[x]).length=r.length+1:=by simp
 have hir:i<r.length:=by
  rcases Nat.lt_or_ge i r.length with z | z
  ·exact z
  ·have e:i=r.length:=by omega
   subst e
   have:(r++[x])[r.length]=x:=by simp
   rw [this,hx] at h;cases h
 have e1:(r++[x]).take i=r.take i:=by rw [List.take_append_of_le_length (by omega)]
 have e2:JD (r++[x])=JD r+1:=by unfold JD;rw [List.filter_append,List.length_append];simp [hx]
 rw [e1,e2]
 have:=QkV r i
 omega
theorem Qb4:V1 []:=fun i hi=>by simp at hi
theorem Qj2 (row:List It):V1 (Qp row):=by
 rcases QmT row with z | ⟨r,x,z⟩
 ·subst z;exact Qb4
 ·have cl:Qp row=if isMK x then row++[.word "end" []] else row:=by unfold Qp;rw [z];simp
  rw [cl]
  cases q:isMK x with
  | true=>rw [if_pos rfl];exact Qdj rfl
  | false=>rw [if_neg (by decide),z];exact Qdj (by rw [Qpr,q];rfl)
theorem Qhr:∀ (as:List At) (s:List Bk×List It),(∀ a∈as,AtS a\/a=.fin)->(∀ b∈s.1,V1 (iO b))->∀ b∈(as.foldl JI s).1,V1 (iO b)
 | [],s,_,h=>h
 | a::as,s,ha,h=>by
  refine Qhr as (JI s a) (fun x hx=>ha x (List.mem_cons_of_mem _ hx)) fun b hb=>?_
  obtain ⟨bs,row⟩:=s
  have tc:V1 (iO (.para (Qp row))):=Qj2 row
  have h1:∀ b∈bs++[Bk.para (Qp row)],V1 (iO b):=fun b hb=>by
   rcases List.mem_append.mp hb with z | z
   ·exact h b z
   ·rw [List.mem_singleton.mp z];exact tc
  have h2:∀ b∈(if Qp row=[] then bs else bs++[.para (Qp row)]),V1 (iO b):=fun b hb=>by
   split at hb
   ·exact h b hb
   ·exact h1 b hb
  cases a with
  | it i=>exact h b hb
  | bk x =>
   rcases List.mem_append.mp hb with z | z
   ·exact h2 b z
   ·rw [List.mem_singleton.mp z]
    rcases ha (.bk x) List.mem_cons_self with q | q
    ·cases x<;>first | exact Qb4 | exact q.elim
    ·cases q
  | brk=>exact h1 b hb
  | fin=>exact h2 b hb
theorem QaY (P:It->Prop) (he:P (.word "end" [])):∀ (as:List At) (s:List Bk×List It),(∀ a∈as,AtS a\/a=.fin)->(∀ i,At.it i∈as->P i)->(∀ b∈s.1,∀ i∈iO b,P i)->(∀ i∈s.2,P i)->∀ b∈(as.foldl JI s).1,∀ i∈iO b,P i
 | [],s,_,_,h,_=>h
 | a::as,s,ha,hi,h,hrow=>by
  obtain ⟨bs,row⟩:=s
  have hc:∀ i∈Qp row,P i:=fun i hi=>by
   unfold Qp at hi
   split at hi
   ·split at hi
    ·rcases List.mem_append.mp hi with z | z
     ·exact hrow i z
     ·rw [List.mem_singleton.mp z];exact he
    ·exact hrow i hi
   ·exact hrow i hi
  have h1:∀ b∈bs++[Bk.para (Qp row)],∀ i∈iO b,P i:=fun b hb=>by
   rcases List.mem_append.mp hb with z | z
   ·exact h b z
   ·rw [List.mem_singleton.mp z];exact hc
  have h2:∀ b∈(if Qp row=[] then bs else bs++[.para (Qp row)]),∀ i∈iO b,P i:=fun b hb=>by
   split at hb
   ·exact h b hb
   ·exact h1 b hb
  have ha':∀ x∈as,AtS x\/x=.fin:=fun x hx=>ha x (List.mem_cons_of_mem _ hx)
  have hi':∀ i,At.it i∈as->P i:=fun i hx=>hi i (List.mem_cons_of_mem _ hx)
  have nil:∀ i∈([]:List It),P i:=fun i h=>by cases h
  cases a with
  | it x =>
   refine QaY P he as _ ha' hi' h fun i hx=>?_
   rcases List.mem_append.mp hx with z | z
   ·exact hrow i z
   ·rw [List.mem_singleton.mp z];exact hi x List.mem_cons_self
  | bk x =>
   refine QaY P he as _ ha' hi' (fun b hb=>?_) nil
   rcases List.mem_append.mp hb with z | z
   ·exact h2 b z
   ·rw [List.mem_singleton.mp z]
    rcases ha (.bk x) List.mem_cons_self with q | q
    ·cases x<;>first | exact nil | exact q.elim
    ·cases q
  | brk=>exact QaY P he as _ ha' hi' h1 nil
  | fin=>exact QaY P he as _ ha' hi' h2 nil
theorem QeK (row:List It):QN (Qp row)=QN row:=by
 unfold Qp
 split
 ·split
  ·unfold QN;rw [List.flatMap_append];simp [mkL]
  ·rfl
 ·rfl
theorem Qi0:∀ (as:List At) (s:List Bk×List It),(∀ a∈as,AtS a\/a=.fin)->Qz (as.foldl JI s).1++QN (as.foldl JI s).2=Qz s.1++QN s.2++as.flatMap Jy
 | [],s,_=>by simp
 | a::as,s,ha=>by
  rw [List.foldl_cons,Qi0 as _ (fun x hx=>ha x (List.mem_cons_of_mem _ hx)),List.flatMap_cons,<- List.append_assoc]
  congr 1
  obtain ⟨bs,row⟩:=s
  have e1:Qz (bs++[.para (Qp row)])=Qz bs++QN row:=by
   unfold Qz
   rw [List.flatMap_append]
   simp [Yn,YZ,iO,QeK]
  have e2:Qz (if Qp row=[] then bs else bs++[.para (Qp row)])=Qz bs++QN row:=by
   split
   ·rename_i z
    rw [<- QeK row,z];simp [QN]
   ·exact e1
  have app:∀ (xs:List Bk) (b:Bk),Qz (xs++[b])=Qz xs++Yn b:=fun xs b=>by unfold Qz;rw [List.flatMap_append];simp
  cases a with
  | it i =>
   show Qz bs++QN (row++[i])=Qz bs++QN row++Jy (.it i)
   unfold QN
   rw [List.flatMap_append,<- List.append_assoc]
   congr 1
   cases i<;>simp [mkL,Jy]
  | bk x =>
   show Qz ((if Qp row=[] then bs else bs++[.para (Qp row)])++[x])++QN []=_
   rw [app,e2]
   have:Yn x=Jy (.bk x):=by
    rcases ha (.bk x) List.mem_cons_self with q | q
    ·cases x with
     | para is=>exact q.elim
     | chapter t l=>by_cases z:l=""<;>simp [Yn,YZ,Jy,iO,QN,z]
     | heading t k l=>by_cases z:l=""<;>simp [Yn,YZ,Jy,iO,QN,z]
     | table rs l=>by_cases z:l=""<;>simp [Yn,YZ,Jy,iO,QN,z]
     | plates n l=>by_cases z:l=""<;>simp [Yn,YZ,Jy,iO,QN,z]
    ·cases q
   rw [this];simp [QN]
  | brk =>
   show Qz (bs++[.para (Qp row)])++QN []=_
   rw [e1];simp [QN,Jy]
  | fin =>
   show Qz (if Qp row=[] then bs else bs++[.para (Qp row)])++QN []=_
   rw [e2];simp [QN,Jy]
theorem QqX (ls:List Str) (cs:List Int) (i:Nat) (a:At):Jy (pt ls cs i a)=Jy a:=by
 unfold pt
 split
 ·split<;>rfl
 ·rfl
theorem QcW {α β γ:Type} (f:β->List γ) (h:α->List γ):∀ (g:Nat->α->β) (xs:List α),(∀ i a,f (g i a)=h a)->(xs.mapIdx g).flatMap f=xs.flatMap h
 | g,[],_=>rfl
 | g,x::xs,hg=>by
  rw [List.mapIdx_cons,List.flatMap_cons,List.flatMap_cons,hg,QcW f h _ xs (fun i a=>hg _ a)]
theorem QjQ (cs:List Int) (as:List At):ZX (Jj cs as)=ZX as:=QcW Jy Jy _ as (fun i a=>QqX _ _ i a)
theorem QiV:∀ (cs:List Int) (n:Nat),n+cs.length<=58->((cs.zipIdx n).flatMap fun p=>Jy (YO p.1 p.2)).Sublist ((List.range' n cs.length).map lab)
 | [],n,_=>by simp
 | c::cs,n,h=>by
  rw [List.length_cons] at h
  have ih:=QiV cs (n+1) (by omega)
  have ok:=(Qel c n (by omega)).2
  rw [List.zipIdx_cons,List.flatMap_cons,List.length_cons,List.range'_succ,List.map_cons]
  have key:Jy (YO c n)=[]\/Jy (YO c n)=[lab n]:=by
   have lb:∀ l,Qe3 n l->(if l=Str.ofString "" then [] else [l])=[]\/(if l=Str.ofString "" then [] else [l])=[lab n]:=fun l hl=>by
    by_cases z:l=Str.ofString ""
    ·left;rw [if_pos z]
    ·right
     rw [if_neg z]
     rcases hl with q | q
     ·exact absurd q z
     ·rw [q]
   cases q:YO c n with
   | brk=>exact .inl rfl
   | fin=>exact .inl rfl
   | it i =>
    rw [q] at ok
    cases i with
    | mark l=>right;show [l]=_;rw [show l=lab n from ok]
    | _=>exact .inl rfl
   | bk b =>
    rw [q] at ok
    cases b with
    | chapter t l=>exact lb l ok.2
    | heading t k l=>exact lb l ok.2.2
    | table rs l=>exact lb l ok.2.2
    | plates m l=>exact lb l ok.2
    | para is=>exact ok.elim
  rcases key with z | z
  ·have z':Jy (YO (c,n).1 (c,n).2)=[]:=z
   rw [z',List.nil_append];exact ih.cons _
  ·have z':Jy (YO (c,n).1 (c,n).2)=[lab n]:=z
   rw [z'];exact ih.cons_cons _
theorem QeJ:∀ xs:List Str,Qh6 xs=true->xs.Nodup
 | [],_=>List.nodup_nil
 | x::xs,h=>by
  simp only [Qh6,Bool.and_eq_true,List.all_eq_true,decide_eq_true_eq] at h
  exact List.nodup_cons.mpr ⟨fun z=>h.1 x z rfl,QeJ xs h.2⟩
theorem Qoe (cs:List Int) (h:cs.length<=58):(ZX (Jz cs)).Sublist ((List.range 58).map lab):=by
 have h1:=QiV cs 0 (by omega)
 have e:ZX (Jz cs)=(cs.zipIdx 0).flatMap fun p=>Jy (YO p.1 p.2):=by
  unfold ZX Jz
  rw [List.flatMap_map]
 rw [e]
 refine h1.trans (List.Sublist.map _ ?_)
 have e2:List.range' 0 cs.length++List.range' (0+cs.length) (58-cs.length)=List.range' 0 (cs.length+(58-cs.length)):=List.range'_append_1
 rw [List.range_eq_range',show 58=cs.length+(58-cs.length) from by omega,<- e2]
 exact List.sublist_append_left _ _
theorem Qjd (xs ys:List Bk):Qz (xs++ys)=Qz xs++Qz ys:=by unfold Qz;rw [List.flatMap_append]
theorem Qf6 (cs:List Int) (h:cs.length<58):Qz (Qba cs)=ZX (Jz cs):=by
 have hB:=QfG cs h
 have g:=Qi0 (Jj cs (Jz cs)++[.fin]) ([],[]) (fun a ha=>by
  rcases hB a ha with z | z
  ·exact .inl (Qex z)
  ·exact .inr z)
 have e2:((Jj cs (Jz cs)++[At.fin]).foldl JI ([],[])).2=[]:=by
  rw [List.foldl_append]
  show (JI _ .fin).2=[]
  rfl
 rw [e2] at g
 have e3:(Jj cs (Jz cs)++[At.fin]).flatMap Jy=ZX (Jz cs):=by
  rw [List.flatMap_append]
  show ZX (Jj cs (Jz cs))++_=_
  rw [QjQ];simp [Jy]
 rw [e3] at g
 have e4:Qz (Qba cs)=Qz ((Jj cs (Jz cs)++[At.fin]).foldl JI ([],[])).1:=rfl
 rw [e4]
 simpa [QN,Qz] using g
theorem Qn6 (ns:List Int) (w h:Int) (li:Bool):Qz (ZN ns w h li)=[]\/Qz (ZN ns w h li)=[Str.ofString "z"]:=by
 unfold ZN
 split
 ·exact .inl rfl
 ·right;simp [Qz,Yn,YZ,iO,QN,mkL]
theorem QnV:((List.range 58).map lab).Nodup:=QeJ _ QqY
theorem Qoi (ns:List Int):(Qz (Q2 ns)).Nodup:=by
 have hl:=Vh ns
 have sub:=Qoe (JZ ns) (by omega)
 unfold Q2 dBk
 rw [Qjd,Qf6 _ hl]
 have nd:(ZX (Jz (JZ ns))).Nodup:=sub.nodup QnV
 rcases Qn6 ns (dW ns) (dH ns) (dLi ns) with z | z
 ·rw [z];exact nd
 ·rw [z]
  refine List.nodup_cons.mpr ⟨fun q=>?_,nd⟩
  obtain ⟨k,hk,e⟩:=List.mem_map.mp (sub.subset q)
  exact Qtg k (List.mem_range.mp hk) e
theorem QfY {bs:List Bk} {l:Str} (h:l∈rO bs):∃ b∈bs,∃ x y,It.ref l x y∈iO b:=by
 obtain ⟨b,hb,h1⟩:=List.mem_flatMap.mp h
 unfold QF at h1
 obtain ⟨i,hi,e⟩:=List.mem_map.mp h1
 obtain ⟨h2,h3⟩:=List.mem_filter.mp hi
 cases i with
 | ref l' x y=>cases e;exact ⟨b,hb,x,y,h2⟩
 | _=>cases h3
def QlX (L:List Str):It->Prop
 | .ref l _ _=>l∈L
 | _=>True
theorem QrT (ls:List Str) (cs:List Int) (k:Nat) (a:At):∀ i,pt ls cs k a=.it i->(∀ j,a=.it j->(∃ l x y,j=.ref l x y)\/QlX ls j)->QlX ls i:=by
 intro i e h
 unfold pt at e
 split at e
 ·split at e
  ·cases e;trivial
  ·rename_i ne
   cases e
   show List.getD _ _ _∈ls
   have hp:(0:Int)<ls.length:=by
    cases ls with
    | nil=>exact absurd rfl ne
    | cons a b=>simp only [List.length_cons];omega
   have h1:=Int.emod_nonneg (mix (cs.getD k 0) (k+90)) (show (ls.length:Int)≠0 by omega)
   have h2:=Int.emod_lt_of_pos (mix (cs.getD k 0) (k+90)) hp
   rw [List.getD_eq_getElem?_getD,List.getElem?_eq_getElem (by omega)]
   exact List.getElem_mem _
 ·rename_i nr
  subst e
  rcases h i rfl with ⟨l,x,y,rfl⟩ | q
  ·exact absurd rfl (nr l x y)
  ·exact q
theorem QmE (cs:List Int) (h:cs.length<58):∀ l∈rO (Qba cs),l∈ZX (Jz cs):=by
 intro l hl
 obtain ⟨b,hb,x,y,hi⟩:=QfY hl
 have hB:=QfG cs h
 have g:=QaY (QlX (ZX (Jz cs))) trivial (Jj cs (Jz cs)++[At.fin]) ([],[]) (fun a ha=>by
  rcases hB a ha with z | z
  ·exact .inl (Qex z)
  ·exact .inr z) (fun i hm=>by
   rcases List.mem_append.mp hm with z | z
   ·unfold Jj at z
    obtain ⟨k,hk,e⟩:=List.mem_mapIdx.mp z
    refine QrT _ _ _ _ i e fun j _=>?_
    cases j with
    | ref l x y=>exact .inl ⟨l,x,y,rfl⟩
    | _=>exact .inr trivial
   ·cases List.mem_singleton.mp z) (by simp) (by simp) b hb (.ref l x y) hi
 exact g
theorem Ql8 (xs ys:List Bk):rO (xs++ys)=rO xs++rO ys:=by unfold rO;rw [List.flatMap_append]
theorem Qog (ns:List Int):∀ l∈rO (Q2 ns),l∈Qz (Q2 ns):=by
 intro l hl
 have hc:=Vh ns
 unfold Q2 dBk at *
 rw [Ql8] at hl
 rw [Qjd]
 rcases List.mem_append.mp hl with z | z
 ·refine List.mem_append_left _ ?_
  unfold ZN at z ⊢
  split at z
  ·cases z
  ·rename_i ne
   rw [if_neg ne]
   obtain ⟨b,hb,x,y,hi⟩:=QfY z
   simp only [List.mem_cons,List.not_mem_nil,or_false] at hb
   rcases hb with q | q | q<;>subst q
   ·cases hi
   ·cases hi
   ·simp only [iO,List.mem_cons,List.not_mem_nil,or_false] at hi
    rcases hi with q | q | q
    ·cases q
    ·cases q
    ·cases q
     simp [Qz,Yn,YZ,iO,QN,mkL]
 ·refine List.mem_append_right _ ?_
  rw [Qf6 _ hc]
  exact QmE _ hc l z
theorem QmF (ns:List Int):∀ b∈Q2 ns,V1 (iO b):=by
 intro b hb
 unfold Q2 dBk at hb
 rcases List.mem_append.mp hb with z | z
 ·unfold ZN at z
  split at z
  ·cases z
  ·simp only [List.mem_cons,List.not_mem_nil,or_false] at z
   rcases z with q | q | q<;>subst q
   ·exact Qb4
   ·exact Qb4
   ·exact Qdj (r:=[_,_]) rfl
 ·exact Qhr _ ([],[]) (fun a ha=>by
   rcases QfG _ (Vh ns) a ha with z | z
   ·exact .inl (Qex z)
   ·exact .inr z) (by simp) b z
theorem QsE (ns:List Int) (w h:Int) (li:Bool) (hw:4<=w/\w<=90) (hh:2<=h/\h<=60):∀ b∈ZN ns w h li,BkS b/\BkT b/\Qdh b:=by
 intro b hb
 have h6:=Qrs (Qbl ns)
 have hN:=Qbl ns
 unfold ZN at hb
 split at hb
 ·cases hb
 ·simp only [List.mem_cons,List.not_mem_nil,or_false] at hb
  have it:∀ i∈[It.word (YX (Str.ofString "w") (if w-1-VG ns > 1 then w-1-VG ns else 1)) [],It.mark "z",It.ref "z" "" ""],ItT i:=fun i hi=>by
   simp only [List.mem_cons,List.not_mem_nil,or_false] at hi
   rcases hi with q | q | q<;>subst q
   ·refine ⟨?_,by simp,by simp⟩
    rw [QlI];split<;>omega
   ·trivial
   ·exact ⟨by rw [Z2];omega,by rw [Z2];omega⟩
  rcases hb with q | q | q<;>subst q
  ·refine ⟨trivial,fun i hi=>(by cases hi),fun n l e=>?_⟩
   cases e;omega
  ·refine ⟨⟨by simp;omega,fun r hr=>?_⟩,fun i hi=>(by cases hi),fun n l e=>(by cases e)⟩
   rw [List.eq_of_mem_replicate hr,Z2];omega
  ·exact ⟨it,it,fun n l e=>(by cases e)⟩
theorem QtA:∀ {b:Bk},BkB b->BkS b/\BkT b/\Qdh b:=by
 intro b h
 have itT:∀ i,ItB i->ItT i:=fun i hi=>by
  cases i with
  | word x ns=>exact ⟨by have:=hi.1.2;omega,by have:=hi.2.1;omega,fun r hr=>by have:=hi.2.2 r hr;omega⟩
  | ref l x y=>exact ⟨by have:=hi.1;omega,by have:=hi.2;omega⟩
  | _=>trivial
 cases b with
 | chapter t l=>exact ⟨by have:=h.2;show t.length<=1000;omega,fun i hi=>(by cases hi),fun n l e=>(by cases e)⟩
 | heading t k l=>exact ⟨by have:=h.1.2;show t.length<=1000;omega,fun i hi=>(by cases hi),fun n l e=>(by cases e)⟩
 | table rs l=>exact ⟨⟨by have:=h.1.2;omega,fun r hr=>by have:=h.2 r hr;omega⟩,fun i hi=>(by cases hi),fun n l e=>(by cases e)⟩
 | plates n l=>exact ⟨trivial,fun i hi=>(by cases hi),fun m l' e=>(by cases e;exact h.1)⟩
 | para is=>exact ⟨fun i hi=>itT i (h i hi),fun i hi=>itT i (h i hi),fun n l e=>(by cases e)⟩
theorem Qd7 (ns:List Int):∀ b∈Q2 ns,BkS b/\BkT b/\Qdh b:=by
 intro b hb
 have hw:=QlE ns
 have hh:=QgD ns
 unfold Q2 at hb
 rcases List.mem_append.mp hb with z | z
 ·exact QsE ns _ _ _ ⟨hw.2.1,hw.2.2⟩ ⟨hh.2.1,hh.2.2⟩ b z
 ·exact QtA (Qid ns b z)
theorem Qn5 (ns:List Int) (w h w' h':Int) (li li':Bool):(ZN ns w h li).map (JH li')=(ZN ns w' h' li).map (JH li'):=by
 unfold ZN
 split
 ·rfl
 ·simp [JH,Jl,Y0,JW]
theorem Qoh (ns:List Int):most (dLi ns) (Q2 ns)=ZV ns:=by
 unfold ZV Q2 dE0 most
 rw [Qb6,Qb6,List.map_append,List.map_append,Qn5 ns _ _ 4 2]
theorem QpO (ns:List Int):∀ b∈Q2 ns,Qbr (dR ns) (dW ns) (dH ns) b:=by
 intro b hb
 have hn:=Qa0 ns
 have hw:=QlE ns
 have hwd:=Qli ns
 have hh:=QgD ns
 have hr:=QcU ns
 have hN:=Qbl ns
 unfold Q2 at hb
 rcases List.mem_append.mp hb with z | z
 ·have fe:∀ b∈dE0 ns,Qbr (dR ns) (Jt ns).1 (Jt ns).2 b:=fun b hb=>hn.2.2.2.2 b (List.mem_append_right _ hb)
  have ne:¬ (dLi ns=true\/cell ns 4%3≠1):=fun q=>by
   unfold ZN at z
   rw [if_pos q] at z;cases z
  unfold ZN at z
  rw [if_neg ne] at z
  have rm:dR ns<=(Jt ns).1:=by
   have:=fe (.para [.word (YX "w" (if (4:Int)-1-VG ns > 1 then 4-1-VG ns else 1)) [],.mark "z",.ref "z" "" ""]) (by unfold dE0 ZN;rw [if_neg ne];simp) (.ref "z" "" "") (by simp)
   have e:((Str.ofString "").length:Int)+dR ns+((Str.ofString "").length:Int)<=(Jt ns).1:=this
   rw [Z2] at e
   omega
  simp only [List.mem_cons,List.not_mem_nil,or_false] at z
  rcases z with q | q | q<;>subst q
  ·trivial
  ·refine ⟨by simp;omega,fun r hr=>?_⟩
   rw [List.eq_of_mem_replicate hr,Z2];omega
  ·intro i hi
   simp only [List.mem_cons,List.not_mem_nil,or_false] at hi
   rcases hi with q | q | q<;>subst q
   ·refine ⟨?_,by simp;omega,by simp⟩
    rw [QlI];split<;>omega
   ·trivial
   ·show ((Str.ofString "").length:Int)+dR ns+((Str.ofString "").length:Int)<=_
    rw [Z2];omega
 ·exact Qhv (by omega) hh.1 (hn.2.2.2.2 b (List.mem_append_left _ z))
theorem Qtv (ns:List Int):Qbw [bks (Q2 ns),sty (dW ns) (dH ns) (dO ns) (dLi ns)]=some .non:=by
 have hw:=QlE ns
 have hh:=QgD ns
 have hm:=QgP ns
 have e:=Qoh ns
 have:(10:Int)^42<10^60:=by decide
 refine QqU _ _ _ _ _ (QbS ns) ⟨hw.2.1,hw.2.2,hh.2.1,hh.2.2⟩ (by omega) (by omega) (fun b hb=>(Qd7 ns b hb).1) (fun b hb=>(Qd7 ns b hb).2.1) (fun b hb=>?_) (QmF ns) (Qoi ns) (Qog ns)
 rw [e]
 exact QpO ns b hb
theorem QpR (ns:List Int) (t:Int):D.add (.lst ((Zf ns none (some 63)).map .int)) (.lst [.int t])=some (.lst ((Zf ns none (some 63)++[t]).map .int)):=Qii (f:=D.int) (ys:=[t]) (lB (by have:=QhA ns;simp;omega))
def QbB (room:Int) (rs:List Int):Prop:=∀ r∈rs,1<=r/\r<=room
theorem QoV (room t:Int) (cs:List Int) (S B b:Option D) (is:List It) (rs:List Int) (hc:0<cs.length) (ht:0<=t) (hrm:0<room) (ok:QbB room rs) (hlen:t+(rs.length:Int)+is.length<=1000) (u v:Option D) (hb:∀ e0,b=some e0->D.ix e0 (.int 1)=some (.lst (is.map It.d))) (hbs:∃ e0,b=some e0) :
  ∃ rs' u' v',Ja (QW (eOp D.ix (eV 6) (eC (.int 1)))) (gS 7) (sIf (eOp D.eqO (eOp D.ix (eV 7) (eC (.int 0))) (eC (.str "ref"))) (sQ (Qd (eOp D.ix (eV 5) (eOp D.mod (eUn D.len (eV 4)) (eUn D.len (eV 5)))) (gS 8)) (sP 4 (eOp D.add (eC (.int 1)) (eOp D.mod (eK ZE (lC (eV 8) (lC (eOp D.add (eV 3) (eUn D.len (eV 4))) lN))) (eV 2))))) (sNx)) [S,B,some (.int room),some (.int t),some (.lst (rs.map .int)),some (.lst (cs.map .int)),b,u,v]=some (.nx [S,B,some (.int room),some (.int t),some (.lst (rs'.map .int)),some (.lst (cs.map .int)),b,u',v'])/\QbB room rs'/\rs'.length=rs.length+(QF is).length:=by
 obtain ⟨e',h1,rs',u',v',h2,h3,h4⟩:=VZ (g:=gS 7) (b:=sIf (eOp D.eqO (eOp D.ix (eV 7) (eC (.int 0))) (eC (.str "ref"))) (sQ (Qd (eOp D.ix (eV 5) (eOp D.mod (eUn D.len (eV 4)) (eUn D.len (eV 5)))) (gS 8)) (sP 4 (eOp D.add (eC (.int 1)) (eOp D.mod (eK ZE (lC (eV 8) (lC (eOp D.add (eV 3) (eUn D.len (eV 4))) lN))) (eV 2))))) (sNx)) It.d is (fun i e=>∃ rs' u v,e=[S,B,some (.int room),some (.int t),some (.lst (rs'.map .int)),some (.lst (cs.map .int)),b,u,v]/\QbB room rs'/\rs'.length=rs.length+(QF (is.take i)).length) (by
  rintro i hi e ⟨rs,u,v,rfl,ok',hl⟩
  have rt:=Qdv is i hi
  have rl:=Qhd (is.take i)
  rw [List.length_take] at rl
  have i0:=QcB is[i]
  have tg:=Qey is[i]
  generalize is[i]=x at *
  cases q:JW x with
  | false =>
   rw [q] at tg rt
   refine ⟨_,.inl (bnd (e1:=[S,B,some (.int room),some (.int t),some (.lst (rs.map .int)),some (.lst (cs.map .int)),b,some x.d,v]) rfl (ifF (opE (x:=.str (Qe0 x)) (opE (x:=x.d) rfl rfl i0) rfl (by rw [eqS,tg])) rfl)),rs,_,_,rfl,ok',?_⟩
   rw [rt,hl];rfl
  | true =>
   rw [q] at tg rt
   obtain ⟨L,eL⟩:∃ L:Int,(rs.length:Int)=L:=⟨_,rfl⟩
   have lnr:D.len (.lst (rs.map .int))=some (.int L):=by
    show some (D.int (rs.map D.int).length)=_
    rw [List.length_map,eL]
   have lnc:D.len (.lst (cs.map .int))=some (.int cs.length):=by
    show some (D.int (cs.map D.int).length)=_
    rw [List.length_map]
   have hcp:(0:Int)<(cs.length:Int):=by omega
   have md:D.mod (.int L) (.int cs.length)=some (.int (L%(cs.length:Int))):=VE hcp
   have ixc:=Qe2 (f:=D.int) cs (L%(cs.length:Int)) 0 (Int.emod_nonneg _ (by omega)) (Int.emod_lt_of_pos _ hcp)
   generalize cs.getD (L%(cs.length:Int)).toNat 0=c at *
   have mx:=QaT c (t+L) (by omega) (by omega)
   have m0:=Qiq c (t+L)
   generalize mix c (t+L)=m at *
   have mm:D.mod (.int m) (.int room)=some (.int (m%room)):=VE hrm
   have b0:=Int.emod_nonneg m (show room≠0 by omega)
   have b1:=Int.emod_lt_of_pos m hrm
   have ap:=Qbz (f:=D.int) (xs:=rs) (1+m%room) (ZJ (by omega))
   refine ⟨[S,B,some (.int room),some (.int t),some (.lst ((rs++[1+m%room]).map .int)),some (.lst (cs.map .int)),b,some x.d,some (.int c)],.inl ?_,rs++[1+m%room],_,_,rfl,fun r hr=>?_,?_⟩
   ·refine bnd (e1:=[S,B,some (.int room),some (.int t),some (.lst (rs.map .int)),some (.lst (cs.map .int)),b,some x.d,v]) rfl ?_
    refine ifT (opE (x:=.str (Qe0 x)) (opE (x:=x.d) rfl rfl i0) rfl (by rw [eqS,tg])) ?_
    refine st (e1:=[S,B,some (.int room),some (.int t),some (.lst (rs.map .int)),some (.lst (cs.map .int)),b,some x.d,some (.int c)]) (asg (opE (x:=.lst (cs.map .int)) rfl (opE (unE (x:=.lst (rs.map .int)) rfl lnr) (unE (x:=.lst (cs.map .int)) rfl lnc) md) ixc) rfl) ?_
    exact VJ rfl (opE rfl (opE (ZF rfl (opE rfl (unE (x:=.lst (rs.map .int)) rfl lnr) rfl) mx) rfl mm) rfl) ap
   ·rcases List.mem_append.mp hr with z | z
    ·exact ok' r z
    ·rw [List.mem_singleton.mp z];omega
   ·rw [rt,List.length_append,hl];rfl) [S,B,some (.int room),some (.int t),some (.lst (rs.map .int)),some (.lst (cs.map .int)),b,u,v] ⟨rs,u,v,rfl,ok,by simp [QF]⟩
 subst h2
 rw [List.take_length] at h4
 refine ⟨rs',u',v',?_,h3,h4⟩
 obtain ⟨e0,rfl⟩:=hbs
 have hx:eOp D.ix (eV 6) (eC (.int 1)) [S,B,some (.int room),some (.int t),some (.lst (rs.map .int)),some (.lst (cs.map .int)),some e0,u,v]=some (.lst (is.map It.d)):=opE rfl rfl (hb e0 rfl)
 unfold Ja QW
 rw [hx]
 exact h1
theorem Qhp {bs:List Bk} (i:Nat) (hi:i<bs.length):((bs.take i).flatMap iO).length+(iO bs[i]).length<=(bs.flatMap iO).length:=by
 have:=ZU iO bs (i+1)
 rw [fT iO bs i hi,List.length_append] at this
 exact this
theorem QoU (ns:List Int) (bs:List Bk) (room t:Int) (hf:(bs.flatMap iO).length<=200) (ht:0<=t/\t<=500) (hrm:0<room):∃ rs,Qdf [.scr ns,bks bs,.int room,.int t]=some (.lst (rs.map .int))/\QbB room rs/\rs.length=(rO bs).length:=by
 obtain ⟨cs,ec⟩:∃ cs,Zf ns none (some 63)++[t]=cs:=⟨_,rfl⟩
 have ca:=QpR ns t
 rw [ec] at ca
 have hc:0<cs.length:=by rw [<- ec];simp
 obtain ⟨e',h1,rs,a,b,c,h2,h3,h4⟩:=VZ (g:=gS 6) (b:=sIf (eOp D.eqO (eOp D.ix (eV 6) (eC (.int 0))) (eC (.str "para"))) (Ja (QW (eOp D.ix (eV 6) (eC (.int 1)))) (gS 7) (sIf (eOp D.eqO (eOp D.ix (eV 7) (eC (.int 0))) (eC (.str "ref"))) (sQ (Qd (eOp D.ix (eV 5) (eOp D.mod (eUn D.len (eV 4)) (eUn D.len (eV 5)))) (gS 8)) (sP 4 (eOp D.add (eC (.int 1)) (eOp D.mod (eK ZE (lC (eV 8) (lC (eOp D.add (eV 3) (eUn D.len (eV 4))) lN))) (eV 2))))) (sNx))) (sNx)) Bk.d bs (fun i e=>∃ rs a b c,e=[some (.scr ns),some (bks bs),some (.int room),some (.int t),some (.lst (rs.map .int)),some (.lst (cs.map .int)),a,b,c]/\QbB room rs/\rs.length=(rO (bs.take i)).length) (by
  rintro i hi e ⟨rs,a,b,c,rfl,ok,hl⟩
  have t1:rO (bs.take (i+1))=rO (bs.take i)++QF (iO bs[i]):=fT _ bs i hi
  have tt:=Qhp i hi
  have rl:=QfV (bs.take i)
  rw [t1,List.length_append,<- hl]
  generalize bs[i]=x at *
  have tg:=QiJ x
  have i0:=QfM x
  cases q:Qbv x with
  | true =>
   rw [q] at tg
   cases x with
   | para is =>
    have tt':((bs.take i).flatMap iO).length+is.length<=(bs.flatMap iO).length:=tt
    obtain ⟨rs',u',v',g1,g2,g3⟩:=QoV room t cs (some (.scr ns)) (some (bks bs)) (some (Bk.para is).d) is rs hc ht.1 hrm ok (by omega) b c (fun e0 h=>by cases h;rfl) ⟨_,rfl⟩
    exact ⟨_,.inl (bnd (e1:=[some (.scr ns),some (bks bs),some (.int room),some (.int t),some (.lst (rs.map .int)),some (.lst (cs.map .int)),some (Bk.para is).d,b,c]) rfl (ifT (opE (x:=.str "para") (opE (x:=(Bk.para is).d) rfl rfl rfl) rfl (by rw [eqS];simp)) g1)),rs',_,_,_,rfl,g2,g3⟩
   | _=>cases q
  | false =>
   rw [q] at tg
   have e0:iO x=[]:=by cases x<;>first | rfl | cases q
   refine ⟨_,.inl (bnd (e1:=[some (.scr ns),some (bks bs),some (.int room),some (.int t),some (.lst (rs.map .int)),some (.lst (cs.map .int)),some x.d,b,c]) rfl (ifF (opE (x:=.str (Qap x)) (opE (x:=x.d) rfl rfl i0) rfl (by rw [eqS,tg])) rfl)),rs,_,_,_,rfl,ok,?_⟩
   rw [e0];rfl) [some (.scr ns),some (bks bs),some (.int room),some (.int t),some (.lst (([]:List Int).map .int)),some (.lst (cs.map .int)),none,none,none] ⟨[],none,none,none,rfl,fun r h=>(by cases h),rfl⟩
 subst h2
 rw [List.take_length] at h4
 refine ⟨rs,?_,h3,h4⟩
 unfold Qdf Qfq
 refine stD rfl ?_
 refine st (e1:=[some (.scr ns),some (bks bs),some (.int room),some (.int t),some (.lst (([]:List Int).map .int)),none,none,none,none]) rfl ?_
 refine st (e1:=[some (.scr ns),some (bks bs),some (.int room),some (.int t),some (.lst (([]:List Int).map .int)),some (.lst (cs.map .int)),none,none,none]) (asg (opE (x:=.lst ((Zf ns none (some 63)).map .int)) (y:=.lst [.int t]) rfl rfl ca) rfl) ?_
 refine st (e1:=[some (.scr ns),some (bks bs),some (.int room),some (.int t),some (.lst (rs.map .int)),some (.lst (cs.map .int)),a,b,c]) ?_ (ret rfl)
 ·unfold Ja
  exact h1
theorem Qsh (xs:List Int):D.neO (.lst (xs.map .int)) (.lst (xs.map .int))=some (.bl false):=by
 unfold D.neO
 rw [if_pos (by rw [Jd];have:=VO (f:=D.int) (n:=0) (fun a=>by rw [Qy];exact Nat.le_refl _) xs;omega),QbP Qfj];rfl
theorem Qf0 (w h:Int) (o li:Bool) (s:Sta) (n r:Int) (hu:0<=s.u):QcP [sty w h o li,s.d,.int n,.int r]=some (J2 (QA w h s n r)):=by
 obtain ⟨p,l,u,f⟩:=s
 have hu':0<=u:=hu
 unfold QcP QgR
 refine stD rfl ?_
 refine st (e1:=[some (sty w h o li),some (Sta.d ⟨p,l,u,f⟩),some (.int n),some (.int r),some (.int w),some (.int h),some (.bl o),some (.bl li),none,none,none,none]) rfl ?_
 refine st (e1:=[some (sty w h o li),some (Sta.d ⟨p,l,u,f⟩),some (.int n),some (.int r),some (.int w),some (.int h),some (.bl o),some (.bl li),some (.int p),some (.int l),some (.int u),some (.int f)]) rfl ?_
 generalize sty w h o li=S
 generalize Sta.d ⟨p,l,u,f⟩=T
 have e0:D.eqO (.int u) (.int 0)=some (.bl (decide (u=0))):=by simp [D.eqO,Qy,QD,D.cmp]
 have g0:D.gt (.int u) (.int 0)=some (.bl (decide (0<u))):=rfl
 have l1:D.le (.int (l+1+f+r)) (.int h)=some (.bl (decide (l+1+f+r<=h))):=rfl
 have l2:D.le (.int (l+2+f+r)) (.int h)=some (.bl (decide (l+2+f+r<=h))):=rfl
 have l3:D.le (.int (u+1+n)) (.int w)=some (.bl (decide (u+1+n<=w))):=rfl
 by_cases c0:u=0
 ·rw [decide_eq_true c0] at e0
  rw [decide_eq_false (by omega)] at g0
  by_cases c1:l+1+f+r<=h
  ·rw [decide_eq_true c1] at l1
   have pw:QA w h ⟨p,l,u,f⟩ n r=(⟨p,l,0⟩,⟨p,l,n,f+r⟩):=by
    unfold QA
    rw [if_pos ⟨.inl c0,by simp only [];omega⟩]
    simp only []
    rw [if_pos c0]
    simp
   rw [pw]
   exact stR (ifT (J9 (opE rfl rfl e0) (opE (opE (opE (opE rfl rfl rfl) rfl rfl) rfl rfl) rfl l1)) (ret rfl))
  ·rw [decide_eq_false c1] at l1
   have pw:QA w h ⟨p,l,u,f⟩ n r=(⟨p+1,0,0⟩,⟨p+1,0,n,r⟩):=by
    unfold QA
    rw [if_neg (by simp only [];omega),if_neg (by simp only [];omega)]
    simp
   rw [pw]
   refine st (ifF (J9 (opE rfl rfl e0) (opE (opE (opE (opE rfl rfl rfl) rfl rfl) rfl rfl) rfl l1)) rfl) ?_
   refine st (ifF (ZI (opE rfl rfl g0)) rfl) ?_
   refine st (ifF (ZI (opE rfl rfl g0)) rfl) ?_
   exact ret rfl
 ·rw [decide_eq_false c0] at e0
  rw [decide_eq_true (by omega)] at g0
  refine st (ifF (ZI (opE rfl rfl e0)) rfl) ?_
  by_cases c3:u+1+n<=w/\l+1+f+r<=h
  ·rw [decide_eq_true c3.1] at l3
   rw [decide_eq_true c3.2] at l1
   have pw:QA w h ⟨p,l,u,f⟩ n r=(⟨p,l,u+1⟩,⟨p,l,u+1+n,f+r⟩):=by
    unfold QA
    rw [if_pos ⟨.inr c3.1,by simp only [];omega⟩]
    simp only []
    rw [if_neg c0]
   rw [pw]
   exact stR (ifT (J9 (opE rfl rfl g0) (J9 (opE (opE (opE rfl rfl rfl) rfl rfl) rfl l3) (opE (opE (opE (opE rfl rfl rfl) rfl rfl) rfl rfl) rfl l1))) (ret rfl))
  ·have cf:QG (eOp D.gt (eV 10) (eC (.int 0))) (QG (eOp D.le (eOp D.add (eOp D.add (eV 10) (eC (.int 1))) (eV 2)) (eV 4)) (eOp D.le (eOp D.add (eOp D.add (eOp D.add (eV 9) (eC (.int 1))) (eV 11)) (eV 3)) (eV 5))) [some S,some T,some (.int n),some (.int r),some (.int w),some (.int h),some (.bl o),some (.bl li),some (.int p),some (.int l),some (.int u),some (.int f)]=some (.bl false):=by
    refine J9 (opE rfl rfl g0) ?_
    by_cases c4:u+1+n<=w
    ·rw [decide_eq_true c4] at l3
     rw [decide_eq_false (by omega)] at l1
     exact J9 (opE (opE (opE rfl rfl rfl) rfl rfl) rfl l3) (opE (opE (opE (opE rfl rfl rfl) rfl rfl) rfl rfl) rfl l1)
    ·rw [decide_eq_false c4] at l3
     exact ZI (opE (opE (opE rfl rfl rfl) rfl rfl) rfl l3)
   refine st (ifF cf rfl) ?_
   by_cases c2:l+2+f+r<=h
   ·rw [decide_eq_true c2] at l2
    have pw:QA w h ⟨p,l,u,f⟩ n r=(⟨p,l+1,0⟩,⟨p,l+1,n,f+r⟩):=by
     unfold QA
     rw [if_neg (by simp only [];omega),if_pos (by simp only [];omega)]
     simp
    rw [pw]
    exact stR (ifT (J9 (opE rfl rfl g0) (opE (opE (opE (opE rfl rfl rfl) rfl rfl) rfl rfl) rfl l2)) (ret rfl))
   ·rw [decide_eq_false c2] at l2
    have pw:QA w h ⟨p,l,u,f⟩ n r=(⟨p+1,0,0⟩,⟨p+1,0,n,r⟩):=by
     unfold QA
     rw [if_neg (by simp only [];omega),if_neg (by simp only [];omega)]
     simp
    rw [pw]
    refine st (ifF (J9 (opE rfl rfl g0) (opE (opE (opE (opE rfl rfl rfl) rfl rfl) rfl rfl) rfl l2)) rfl) ?_
    exact ret rfl
theorem QaO (w h:Int) (o li:Bool) (s:Sta) (rows keep:Int) (hu:0<=s.u):YE [sty w h o li,s.d,.int rows,.int keep]=some (J2 (QO h s rows keep)):=by
 obtain ⟨p,l,u,f⟩:=s
 have hu':0<=u:=hu
 unfold YE Qft
 refine stD rfl ?_
 refine st (e1:=[some (sty w h o li),some (Sta.d ⟨p,l,u,f⟩),some (.int rows),some (.int keep),some (.int p),some (.int l),some (.int u),some (.int f)]) rfl ?_
 have ih:D.ix (sty w h o li) (.int 1)=some (.int h):=rfl
 generalize sty w h o li=S at *
 generalize Sta.d ⟨p,l,u,f⟩=T
 have g0:D.gt (.int u) (.int 0)=some (.bl (decide (0<u))):=rfl
 have el:endLine ⟨p,l,u,f⟩=⟨p,if 0<u then l+1 else l,0,f⟩:=by
  unfold endLine
  by_cases c0:u=0
  ·rw [if_pos c0,if_neg (by omega),c0]
  ·rw [if_neg c0,if_pos (by omega)]
 refine st (e1:=[some S,some T,some (.int rows),some (.int keep),some (.int p),some (.int (if 0<u then l+1 else l)),some (.int u),some (.int f)]) ?_ ?_
 ·by_cases c0:0<u
  ·rw [if_pos c0]
   rw [decide_eq_true c0] at g0
   exact ifT (opE rfl rfl g0) rfl
  ·rw [if_neg c0]
   rw [decide_eq_false c0] at g0
   exact ifF (opE rfl rfl g0) rfl
 ·unfold QO
  rw [el]
  simp only []
  generalize (if 0<u then l+1 else l)=m at *
  have l1:D.le (.int (m+rows+keep+f)) (.int h)=some (.bl (decide (m+rows+keep+f<=h))):=rfl
  by_cases c:m+rows+keep+f<=h
  ·rw [decide_eq_true c] at l1
   rw [if_pos (by omega)]
   exact stR (ifT (opE (opE (opE (opE rfl rfl rfl) rfl rfl) rfl rfl) (opE (x:=S) rfl rfl ih) l1) (ret rfl))
  ·rw [decide_eq_false c] at l1
   rw [if_neg (by omega)]
   refine st (ifF (opE (opE (opE (opE rfl rfl rfl) rfl rfl) rfl rfl) (opE (x:=S) rfl rfl ih) l1) rfl) (ret ?_)
   simp only [Jp,J2,Plc.d,Sta.d,Int.zero_add]
   rfl
theorem Qf1 (s:Sta):QcS [s.d]=some (Q0 s).d:=by
 obtain ⟨p,l,u,f⟩:=s
 have e:∀ x:Int,D.eqO (.int x) (.int 0)=some (.bl (decide (x=0))):=fun x=>by simp [D.eqO,Qy,QD,D.cmp]
 unfold QcS QgV Q0
 refine stD rfl ?_
 have i1:D.ix (Sta.d ⟨p,l,u,f⟩) (.int 1)=some (.int l):=rfl
 have i2:D.ix (Sta.d ⟨p,l,u,f⟩) (.int 2)=some (.int u):=rfl
 have i3:D.ix (Sta.d ⟨p,l,u,f⟩) (.int 3)=some (.int f):=rfl
 have cd:QG (eOp D.eqO (eOp D.ix (eV 0) (eC (.int 1))) (eC (.int 0))) (QG (eOp D.eqO (eOp D.ix (eV 0) (eC (.int 2))) (eC (.int 0))) (eOp D.eqO (eOp D.ix (eV 0) (eC (.int 3))) (eC (.int 0)))) [some (Sta.d ⟨p,l,u,f⟩)]=some (.bl (decide (l=0/\u=0/\f=0))):=by
  by_cases a:l=0
  ·refine (J9 (opE (opE rfl rfl i1) rfl (by rw [e,decide_eq_true a])) ?_)
   by_cases b:u=0
   ·refine (J9 (opE (opE rfl rfl i2) rfl (by rw [e,decide_eq_true b])) (opE (opE rfl rfl i3) rfl (e f))).trans ?_
    simp [a,b]
   ·refine (ZI (opE (opE rfl rfl i2) rfl (by rw [e,decide_eq_false b]))).trans ?_
    simp [b]
  ·refine (ZI (opE (opE rfl rfl i1) rfl (by rw [e,decide_eq_false a]))).trans ?_
   simp [a]
 by_cases z:l=0/\u=0/\f=0
 ·rw [decide_eq_true z] at cd
  simp only []
  rw [if_pos z]
  exact stR (ifT cd (ret rfl))
 ·rw [decide_eq_false z] at cd
  simp only []
  rw [if_neg z]
  exact st (ifF cd rfl) (ret rfl)
theorem Qeo (s:Sta):Q0 s=Jp (Q0 s).p:=by
 obtain ⟨p,l,u,f⟩:=s
 unfold Q0
 simp only []
 split
 ·rename_i h;rw [h.1,h.2.1,h.2.2];rfl
 ·rfl
theorem QeM (w h:Int) (o li:Bool) (s:Sta):Qas [sty w h o li,s.d]=some (QZ o s).d:=by
 have b:=Qf1 s
 have nb:=Qeo s
 unfold Qas Qfu QZ
 have i2:D.ix (sty w h o li) (.int 2)=some (.bl o):=rfl
 have i0:D.ix (Q0 s).d (.int 0)=some (.int (Q0 s).p):=rfl
 generalize sty w h o li=S at *
 generalize Q0 s=t at *
 refine stD rfl ?_
 refine st (e1:=[some S,some s.d,some (.int t.p)]) (asg (opE (Q6 rfl b) rfl i0) rfl) ?_
 have em:D.eqO (.int (t.p%2)) (.int 0)=some (.bl (decide (t.p%2=0))):=by simp [D.eqO,Qy,QD,D.cmp]
 by_cases z:o=true/\t.p%2=0
 ·rw [if_pos z]
  exact stR (ifT (J9 (opE rfl rfl (by rw [i2,z.1])) (opE (opE rfl rfl (ZH _ (by decide))) rfl (by rw [em,decide_eq_true z.2]))) (ret rfl))
 ·have hd:t.d=(Jp t.p).d:=congrArg Sta.d nb
  rw [if_neg z,hd]
  refine st (e1:=[some S,some s.d,some (.int t.p)]) (ifF ?_ rfl) (ret rfl)
  cases o with
  | false=>exact ZI (opE rfl rfl i2)
  | true=>exact J9 (opE rfl rfl i2) (opE (opE rfl rfl (ZH _ (by decide))) rfl (by rw [em,decide_eq_false fun q=>z ⟨rfl,q⟩]))
theorem Qhe (w h:Int) (s:Sta) (n r:Int) (hu:0<=s.u) (hn:0<=n):0<=(QA w h s n r).2.u:=by
 unfold QA
 split
 ·show 0<=(if s.u=0 then 0 else s.u+1)+n
  split<;>omega
 ·split
  ·show 0<=0+n;omega
  ·show 0<=0+n;omega
theorem QgM (w h:Int) (rooms:List Int) (hr:∀ x∈rooms,0<=x):∀ (is:List It) (s:List Plc×Nat×Sta),0<=s.2.2.u->0<=(is.foldl (QJ w h rooms) s).2.2.u
 | [],s,h=>h
 | i::is,s,h=>by
  rw [List.foldl_cons]
  refine QgM w _ rooms hr is _ ?_
  cases i with
  | word x ns=>exact Qhe _ _ _ _ _ h (by omega)
  | ref l a b =>
   refine Qhe _ _ _ _ _ h ?_
   have:0<=rooms.getD s.2.1 0:=by
    rw [List.getD_eq_getElem?_getD]
    rcases Nat.lt_or_ge s.2.1 rooms.length with q | q
    ·rw [List.getElem?_eq_getElem q];exact hr _ (List.getElem_mem q)
    ·rw [List.getElem?_eq_none q];exact Int.le_refl _
   omega
  | _=>exact h
theorem Qmk (w h:Int) (o li:Bool) (s:Sta) (rooms:List Int) (is:List It) (hl:is.length<=100000) (hr:(QF is).length<=rooms.length) (ht:∀ i∈is,ItT i) (hu:0<=s.u) (h0:∀ x∈rooms,0<=x) :
  QaQ [sty w h o li,s.d,.lst (is.map It.d),.lst (rooms.map .int)]=some (.tup [QE (Q4 w h s rooms is).1,(endLine (Q4 w h s rooms is).2.2).d]):=by
 unfold QaQ Qcx
 refine stD rfl ?_
 refine st (e1:=[some (sty w h o li),some s.d,some (.lst (is.map It.d)),some (.lst (rooms.map .int)),some (QE []),none,none,none]) rfl ?_
 refine st (e1:=[some (sty w h o li),some s.d,some (.lst (is.map It.d)),some (.lst (rooms.map .int)),some (QE []),some (.lst (rooms.map .int)),none,none]) rfl ?_
 refine QaH It.d is (fun i e=>∃ a b,e=[some (sty w h o li),some ((is.take i).foldl (QJ w h rooms) ([],0,s)).2.2.d,some (.lst (is.map It.d)),some (.lst (rooms.map .int)),some (QE ((is.take i).foldl (QJ w h rooms) ([],0,s)).1),some (.lst ((rooms.drop ((is.take i).foldl (QJ w h rooms) ([],0,s)).2.1).map .int)),a,b]) rfl ⟨none,none,rfl⟩ ?_ ?_
 ·rintro i hi e ⟨a,b,rfl⟩
  rw [VT _ _ _ _ hi]
  have hb:=(QbV w h rooms (is.take i) ([],0,s))
  have hU:=QgM w h rooms h0 (is.take i) ([],0,s) hu
  have hlt:((is.take i).foldl (QJ w h rooms) ([],0,s)).1.length<lI:=ZJ (by have:=hb.1;rw [List.length_take] at this;simp at this;omega)
  have h2:=hb.2
  have h3:=Qdv is i hi
  have h4:=QdO is (i+1)
  have hT:=ht is[i] (List.getElem_mem hi)
  generalize is[i]=x at *
  generalize (is.take i).foldl (QJ w h rooms) ([],0,s)=z at *
  obtain ⟨pl,k,t⟩:=z
  simp only [] at hlt h2 hU ⊢
  simp at h2
  have ap:=fun y=>QfR (xs:=pl) y hlt
  generalize D.lst (is.map It.d)=IS at *
  cases x with
  | word wd ns =>
   have l1:=YY (x:=wd) (by have:=hT.1;omega)
   have l2:=YS ns
   have pw:=Qf0 w h o li t wd.length ns.length hU
   refine ⟨_,.inl ?_,some (It.word wd ns).d,some (QA w h t wd.length ns.length).1.d,rfl⟩
   refine bnd (e1:=[some (sty w h o li),some t.d,some IS,some (.lst (rooms.map .int)),some (QE pl),some (.lst ((rooms.drop k).map .int)),some (It.word wd ns).d,b]) rfl ?_
   refine st (e1:=[some (sty w h o li),some (QA w h t wd.length ns.length).2.d,some IS,some (.lst (rooms.map .int)),some (QE (pl++[(QA w h t wd.length ns.length).1])),some (.lst ((rooms.drop k).map .int)),some (It.word wd ns).d,some (QA w h t wd.length ns.length).1.d]) ?_ ?_
   ·refine ifT (opE (x:=.str "word") (opE (x:=(It.word wd ns).d) rfl rfl rfl) rfl (by rw [eqS];simp)) ?_
    refine st (e1:=[some (sty w h o li),some (QA w h t wd.length ns.length).2.d,some IS,some (.lst (rooms.map .int)),some (QE pl),some (.lst ((rooms.drop k).map .int)),some (It.word wd ns).d,some (QA w h t wd.length ns.length).1.d]) (asg (Yo rfl rfl (unE (opE (x:=(It.word wd ns).d) rfl rfl rfl) l1) (unE (opE (x:=(It.word wd ns).d) rfl rfl rfl) l2) pw) rfl) ?_
    exact VJ rfl rfl (ap _)
   ·exact ifF (opE (x:=.str "word") (opE (x:=(It.word wd ns).d) rfl rfl rfl) rfl (by rw [eqS];simp)) rfl
  | ref l x1 x2 =>
   have hk:k<rooms.length:=by
    have e1:JW (It.ref l x1 x2)=true:=rfl
    rw [e1,if_pos rfl] at h3
    omega
   have dk:rooms.drop k=rooms.getD k 0::rooms.drop (k+1):=by
    rw [List.getD_eq_getElem?_getD,List.getElem?_eq_getElem hk]
    exact List.drop_eq_getElem_cons hk
   obtain ⟨sz,esz⟩:∃ sz:Int,(x1.length:Int)+rooms.getD k 0+x2.length=sz:=⟨_,rfl⟩
   have pw:=Qf0 w h o li t sz 0 hU
   have e1:QJ w h rooms (pl,k,t) (.ref l x1 x2)=(pl++[(QA w h t sz 0).1],k+1,(QA w h t sz 0).2):=by rw [<- esz];rfl
   rw [e1]
   have l1:=YY (x:=x1) (by have:=hT.1;omega)
   have l2:=YY (x:=x2) (by have:=hT.2;omega)
   refine ⟨_,.inl ?_,some (It.ref l x1 x2).d,some (QA w h t sz 0).1.d,rfl⟩
   refine bnd (e1:=[some (sty w h o li),some t.d,some IS,some (.lst (rooms.map .int)),some (QE pl),some (.lst ((rooms.drop k).map .int)),some (It.ref l x1 x2).d,b]) rfl ?_
   refine st (e1:=[some (sty w h o li),some t.d,some IS,some (.lst (rooms.map .int)),some (QE pl),some (.lst ((rooms.drop k).map .int)),some (It.ref l x1 x2).d,b]) (ifF (opE (x:=.str "ref") (opE (x:=(It.ref l x1 x2).d) rfl rfl rfl) rfl (by rw [eqS];simp)) rfl) ?_
   refine ifT (opE (x:=.str "ref") (opE (x:=(It.ref l x1 x2).d) rfl rfl rfl) rfl (by rw [eqS];simp)) ?_
   refine st (e1:=[some (sty w h o li),some (QA w h t sz 0).2.d,some IS,some (.lst (rooms.map .int)),some (QE pl),some (.lst ((rooms.drop (k+1)).map .int)),some (It.ref l x1 x2).d,some (QA w h t sz 0).1.d]) ?_ (VJ rfl rfl (ap _))
   rw [dk]
   show Qd _ _ [some (sty w h o li),some t.d,some IS,some (.lst (rooms.map .int)),some (QE pl),some (.lst ((rooms.drop (k+1)).map .int)),some (It.ref l x1 x2).d,b]=_
   exact asg (Yo rfl rfl (opE (opE (unE (opE (x:=(It.ref l x1 x2).d) rfl rfl rfl) l1) rfl rfl) (unE (opE (x:=(It.ref l x1 x2).d) rfl rfl rfl) l2) (by rw [add_int,esz])) rfl pw) rfl
  | mark l=>exact ⟨_,.inl (bnd (e1:=[some (sty w h o li),some t.d,some IS,some (.lst (rooms.map .int)),some (QE pl),some (.lst ((rooms.drop k).map .int)),some (It.mark l).d,b]) rfl (st (ifF (opE (x:=.str "mark") (opE (x:=(It.mark l).d) rfl rfl rfl) rfl (by rw [eqS];simp)) rfl) (ifF (opE (x:=.str "mark") (opE (x:=(It.mark l).d) rfl rfl rfl) rfl (by rw [eqS];simp)) rfl))),some (It.mark l).d,b,rfl⟩
  | key l=>exact ⟨_,.inl (bnd (e1:=[some (sty w h o li),some t.d,some IS,some (.lst (rooms.map .int)),some (QE pl),some (.lst ((rooms.drop k).map .int)),some (It.key l).d,b]) rfl (st (ifF (opE (x:=.str "key") (opE (x:=(It.key l).d) rfl rfl rfl) rfl (by rw [eqS];simp)) rfl) (ifF (opE (x:=.str "key") (opE (x:=(It.key l).d) rfl rfl rfl) rfl (by rw [eqS];simp)) rfl))),some (It.key l).d,b,rfl⟩
 ·rintro e ⟨a,b,rfl⟩
  rw [List.take_length]
  have hU:=QgM w h rooms h0 is ([],0,s) hu
  show sQ _ _ [some (sty w h o li),some (Q4 w h s rooms is).2.2.d,some (.lst (is.map It.d)),some (.lst (rooms.map .int)),some (QE (Q4 w h s rooms is).1),some (.lst ((rooms.drop (Q4 w h s rooms is).2.1).map .int)),a,b]=_
  have hU':0<=(Q4 w h s rooms is).2.2.u:=hU
  generalize Q4 w h s rooms is=z at *
  obtain ⟨pl,k,⟨p,l,u,f⟩⟩:=z
  have hU2:0<=u:=hU'
  have g0:D.gt (.int u) (.int 0)=some (.bl (decide (0<u))):=rfl
  unfold endLine
  simp only []
  by_cases c0:u=0
  ·rw [if_pos c0]
   rw [decide_eq_false (by omega)] at g0
   exact st (ifF (opE (opE (x:=Sta.d ⟨p,l,u,f⟩) rfl rfl rfl) rfl g0) rfl) (ret rfl)
  ·rw [if_neg c0]
   rw [decide_eq_true (by omega)] at g0
   refine st (e1:=[some (sty w h o li),some (Sta.d ⟨p,l+1,0,f⟩),some (.lst (is.map It.d)),some (.lst (rooms.map .int)),some (QE pl),some (.lst ((rooms.drop k).map .int)),a,b]) (ifT (opE (opE (x:=Sta.d ⟨p,l,u,f⟩) rfl rfl rfl) rfl g0) rfl) (ret rfl)
theorem Ql9 (h:Int) (s:Sta) (a b:Int):(QO h s a b).2.u=0:=rfl
theorem Ql1 (h:Int) (o:Bool) (s:Sta) (b:Bk):(Jr h o s b).2.u=0:=by cases b<;>rfl
theorem Qn4 (s:Sta):(endLine s).u=0:=by
 unfold endLine
 split
 ·assumption
 ·rfl
theorem Qep (o:Bool) (s:Sta):(QZ o s).u=0:=by
 unfold QZ
 split
 ·rfl
 ·rw [Qeo];rfl
def Qc7 (w h:Int) (o:Bool) (s:Sta) (rooms:List Int):Bk->List Plc×Sta
 | .para is=>((Q4 w h s rooms is).1,endLine (Q4 w h s rooms is).2.2)
 | b=>([(Jr h o s b).1],(Jr h o s b).2)
theorem QnT (w h:Int) (o li:Bool) (s:Sta) (rooms:List Int) (x:Bk) (hl:(iO x).length<=100000) (hr:(QF (iO x)).length<=rooms.length) (ht:BkT x) (hu:0<=s.u) (h0:∀ x∈rooms,0<=x) :
  Qbf [sty w h o li,s.d,x.d,.lst (rooms.map .int)]=some (.tup [QE (Qc7 w h o s rooms x).1,(Qc7 w h o s rooms x).2.d]):=by
 unfold Qbf QdH
 refine stD rfl ?_
 generalize hS:sty w h o li=S
 cases x with
 | para is =>
  have lp:=Qmk w h o li s rooms is hl hr ht hu h0
  rw [hS] at lp
  exact stR (ifT (opE (x:=.str "para") (opE (x:=(Bk.para is).d) rfl rfl rfl) rfl (by rw [eqS];simp)) (ret (Yo rfl rfl (opE (x:=(Bk.para is).d) rfl rfl rfl) rfl lp)))
 | plates n l =>
  have lb:=Qf1 s
  have i0:D.ix (Q0 s).d (.int 0)=some (.int (Q0 s).p):=rfl
  show sQ _ _ _=some (.rt (.tup [QE [(VS s n).1],(VS s n).2.d]))
  unfold VS
  generalize Q0 s=t at *
  refine st (e1:=[some S,some s.d,some (Bk.plates n l).d,some (.lst (rooms.map .int)),none,none]) (ifF (opE (x:=.str "plates") (opE (x:=(Bk.plates n l).d) rfl rfl rfl) rfl (by rw [eqS];simp)) rfl) ?_
  refine stR (ifT (opE (x:=.str "plates") (opE (x:=(Bk.plates n l).d) rfl rfl rfl) rfl (by rw [eqS];simp)) ?_)
  exact st (e1:=[some S,some s.d,some (Bk.plates n l).d,some (.lst (rooms.map .int)),some (.int t.p),none]) (asg (opE (Q6 rfl lb) rfl i0) rfl) (ret rfl)
 | chapter t l =>
  have bg:=QeM w h o li s
  have bl:=QaO w h o li (QZ o s) 1 0 (by rw [Qep];omega)
  rw [hS] at bg bl
  refine st (e1:=[some S,some s.d,some (Bk.chapter t l).d,some (.lst (rooms.map .int)),none,none]) (ifF (opE (x:=.str "chapter") (opE (x:=(Bk.chapter t l).d) rfl rfl rfl) rfl (by rw [eqS];simp)) rfl) ?_
  refine st (e1:=[some S,some s.d,some (Bk.chapter t l).d,some (.lst (rooms.map .int)),none,none]) (ifF (opE (x:=.str "chapter") (opE (x:=(Bk.chapter t l).d) rfl rfl rfl) rfl (by rw [eqS];simp)) rfl) ?_
  refine st (e1:=[some S,some (QO h (QZ o s) 1 0).2.d,some (Bk.chapter t l).d,some (.lst (rooms.map .int)),none,some (QO h (QZ o s) 1 0).1.d]) (ifT (opE (x:=.str "chapter") (opE (x:=(Bk.chapter t l).d) rfl rfl rfl) rfl (by rw [eqS];simp)) (asg (Yo rfl (ZF rfl rfl bg) rfl rfl bl) rfl)) (ret rfl)
 | heading t k l =>
  have bl:=QaO w h o li s 1 k hu
  rw [hS] at bl
  refine st (e1:=[some S,some s.d,some (Bk.heading t k l).d,some (.lst (rooms.map .int)),none,none]) (ifF (opE (x:=.str "heading") (opE (x:=(Bk.heading t k l).d) rfl rfl rfl) rfl (by rw [eqS];simp)) rfl) ?_
  refine st (e1:=[some S,some s.d,some (Bk.heading t k l).d,some (.lst (rooms.map .int)),none,none]) (ifF (opE (x:=.str "heading") (opE (x:=(Bk.heading t k l).d) rfl rfl rfl) rfl (by rw [eqS];simp)) rfl) ?_
  refine st (e1:=[some S,some (QO h s 1 k).2.d,some (Bk.heading t k l).d,some (.lst (rooms.map .int)),none,some (QO h s 1 k).1.d]) (ifF (opE (x:=.str "heading") (opE (x:=(Bk.heading t k l).d) rfl rfl rfl) rfl (by rw [eqS];simp)) (ifT (opE (x:=.str "heading") (opE (x:=(Bk.heading t k l).d) rfl rfl rfl) rfl (by rw [eqS];simp)) (asg (Yo rfl rfl rfl (opE (x:=(Bk.heading t k l).d) rfl rfl rfl) bl) rfl))) (ret rfl)
 | table rs l =>
  have bl:=QaO w h o li s rs.length 0 hu
  rw [hS] at bl
  refine st (e1:=[some S,some s.d,some (Bk.table rs l).d,some (.lst (rooms.map .int)),none,none]) (ifF (opE (x:=.str "table") (opE (x:=(Bk.table rs l).d) rfl rfl rfl) rfl (by rw [eqS];simp)) rfl) ?_
  refine st (e1:=[some S,some s.d,some (Bk.table rs l).d,some (.lst (rooms.map .int)),none,none]) (ifF (opE (x:=.str "table") (opE (x:=(Bk.table rs l).d) rfl rfl rfl) rfl (by rw [eqS];simp)) rfl) ?_
  refine st (e1:=[some S,some (QO h s rs.length 0).2.d,some (Bk.table rs l).d,some (.lst (rooms.map .int)),none,some (QO h s rs.length 0).1.d]) (ifF (opE (x:=.str "table") (opE (x:=(Bk.table rs l).d) rfl rfl rfl) rfl (by rw [eqS];simp)) (ifF (opE (x:=.str "table") (opE (x:=(Bk.table rs l).d) rfl rfl rfl) rfl (by rw [eqS];simp)) (asg (Yo rfl rfl (unE (opE (x:=(Bk.table rs l).d) rfl rfl rfl) (YS rs)) rfl bl) rfl))) (ret rfl)
theorem Qf2 (w h:Int) (X:List Int) (n:Nat):∀ (is:List It) (s:List Plc×Nat×Sta),s.2.1+(QF is).length<=n->is.foldl (QJ w h (X.take n)) s=is.foldl (QJ w h X) s
 | [],s,_=>rfl
 | i::is,s,hn=>by
  rw [List.foldl_cons,List.foldl_cons]
  have e:QJ w h (X.take n) s i=QJ w h X s i:=by
   cases i with
   | ref l a b =>
    have hlt:s.2.1<n:=by simp [QF,JW,List.filter_cons] at hn;omega
    have:(X.take n).getD s.2.1 0=X.getD s.2.1 0:=by rw [List.getD_eq_getElem?_getD,List.getD_eq_getElem?_getD,List.getElem?_take,if_pos hlt]
    unfold QJ
    rw [this]
   | _=>rfl
  rw [e]
  refine Qf2 w h X n is _ ?_
  cases i<;>simp [QJ,QF,JW,List.filter_cons] at hn ⊢<;>omega
theorem QnC (w h:Int) (o:Bool) (s:Sta) (X:List Int) (x:Bk):Qc7 w h o s (X.take (QF (iO x)).length) x=Qc7 w h o s X x:=by
 cases x with
 | para is =>
  have e:Q4 w h s (X.take (QF is).length) is=Q4 w h s X is:=Qf2 w h X _ is ([],0,s) (by simp)
  show ((Q4 w h s (X.take (QF is).length) is).1,endLine (Q4 w h s (X.take (QF is).length) is).2.2)=_
  rw [e];rfl
 | _=>rfl
theorem Qeq (w h:Int) (o:Bool) (rooms:List Int) (z:List (List Plc)×Sta×Nat) (x:Bk):QT w h o rooms z x=(z.1++[(Qc7 w h o z.2.1 (rooms.drop z.2.2) x).1],(Qc7 w h o z.2.1 (rooms.drop z.2.2) x).2,z.2.2+(QF (iO x)).length):=by cases x<;>rfl
theorem Qse (w h:Int) (o:Bool) (s:Sta) (rooms:List Int) (x:Bk):(Qc7 w h o s rooms x).2.u=0:=by
 cases x with
 | para is=>exact Qn4 _
 | _=>exact Ql1 _ _ _ _
theorem Qna (w h:Int) (o:Bool) (rooms:List Int):∀ (bs:List Bk) (z:List (List Plc)×Sta×Nat),0<=z.2.1.u->0<=(bs.foldl (QT w h o rooms) z).2.1.u
 | [],z,hz=>hz
 | b::bs,z,hz=>by
  rw [List.foldl_cons]
  refine Qna w h o rooms bs _ ?_
  rw [Qeq]
  show 0<=(Qc7 w h o z.2.1 (rooms.drop z.2.2) b).2.u
  rw [Qse];omega
theorem Qiu (h:Int):∀ (bs:List Bk) (z:List Plc×Sta),0<=z.2.u->0<=(bs.foldl (JR h) z).2.u
 | [],z,hz=>hz
 | b::bs,z,hz=>by
  rw [List.foldl_cons]
  refine Qiu h bs _ ?_
  unfold JR
  split
  ·show 0<=(QO h z.2 1 0).2.u;rw [Ql9];omega
  ·exact hz
theorem QpQ (xs:List Int) (k n:Nat) (h:k+n<=xs.length):Zg (.lst (xs.map .int)) (some (k:Int)) (some ((k:Int)+n))=some (.lst (((xs.drop k).take n).map .int)):=by
 show some (D.lst (Zf (xs.map D.int) (some (k:Int)) (some ((k:Int)+n))))=_
 congr 1
 unfold Zf Z8
 simp only []
 rw [if_neg (by omega),if_neg (by omega),List.length_map,show min (k:Int).toNat xs.length=k from by omega,show min ((k:Int)+n).toNat xs.length=k+n from by omega,show k+n-k=n from by omega,List.map_take,List.map_drop]
theorem QtS {a b k:EvS} {e e1:Qr} {r:Option Fl} (h:sQ a b e=some (.nx e1)) (hk:k e1=r):sQ a (sQ b k) e=r:=by
 unfold sQ at h ⊢
 cases q:a e with
 | none=>rw [q] at h;cases h
 | some fl =>
  rw [q] at h
  cases fl with
  | nx e2 =>
   have h':b e2=some (.nx e1):=h
   show Qbp (b e2) k=r
   rw [h'];exact hk
  | _=>cases h
theorem QgO (x:Plc):x.d.dep<=1:=by
 unfold Plc.d
 simp [Q9,QQ,QY,Qy]
theorem Qml (w h:Int) (o li:Bool) (rooms:List Int) (bs:List Bk) (hf:Few bs) (hr:(rO bs).length<=rooms.length) (ht:∀ b∈bs,BkT b) (h0:∀ x∈rooms,0<=x) :
  VD [bks bs,sty w h o li,.lst (rooms.map .int)]=some (Jq (QcF w h o li rooms bs).1):=by
 have io:D.ix (sty w h o li) (.int 3)=some (.bl li):=rfl
 unfold VD Qcy QcF
 refine stD rfl ?_
 refine st (e1:=[some (bks bs),some (sty w h o li),some (.lst (rooms.map .int)),some (Jp 1).d,none,none,none,none,none,none]) rfl ?_
 refine st (e1:=[some (bks bs),some (sty w h o li),some (.lst (rooms.map .int)),some (Jp 1).d,some (QE []),none,none,none,none,none]) rfl ?_
 have c1:∃ a b,sIf (eOp D.ix (eV 1) (eC (.int 3))) (Ja (QW (eV 0)) (gS 5) (sIf (eOr (eOp D.eqO (eOp D.ix (eV 5) (eC (.int 0))) (eC (.str "chapter"))) (eOp D.eqO (eOp D.ix (eV 5) (eC (.int 0))) (eC (.str "heading")))) (sQ (Qd (eK YE (lC (eV 1) (lC (eV 3) (lC (eC (.int 1)) (lC (eC (.int 0)) lN))))) (Js [gS 6,gS 3])) (sP 4 (eV 6))) (sNx))) (sNx) [some (bks bs),some (sty w h o li),some (.lst (rooms.map .int)),some (Jp 1).d,some (QE []),none,none,none,none,none]=some (.nx [some (bks bs),some (sty w h o li),some (.lst (rooms.map .int)),some (if li=true then (ZW h bs).2 else Jp 1).d,some (QE (if li=true then (ZW h bs).1 else [])),a,b,none,none,none]):=by
  cases li with
  | false=>exact ⟨none,none,ifF (opE rfl rfl io) rfl⟩
  | true =>
   obtain ⟨e',g1,a,b,g2⟩:=VZ (g:=gS 5) (b:=sIf (eOr (eOp D.eqO (eOp D.ix (eV 5) (eC (.int 0))) (eC (.str "chapter"))) (eOp D.eqO (eOp D.ix (eV 5) (eC (.int 0))) (eC (.str "heading")))) (sQ (Qd (eK YE (lC (eV 1) (lC (eV 3) (lC (eC (.int 1)) (lC (eC (.int 0)) lN))))) (Js [gS 6,gS 3])) (sP 4 (eV 6))) (sNx)) Bk.d bs (fun i e=>∃ a b,e=[some (bks bs),some (sty w h o true),some (.lst (rooms.map .int)),some ((bs.take i).foldl (JR h) ([],Jp 1)).2.d,some (QE ((bs.take i).foldl (JR h) ([],Jp 1)).1),a,b,none,none,none]) (by
    rintro i hi e ⟨a,b,rfl⟩
    rw [VT _ _ _ _ hi]
    have hb:=Qah h (bs.take i) ([],Jp 1)
    have hlt:((bs.take i).foldl (JR h) ([],Jp 1)).1.length<lI:=ZJ (by have:=hf.1;rw [List.length_take] at hb;simp at hb;omega)
    have hU:=Qiu h (bs.take i) ([],Jp 1) (by show (0:Int)<=0;omega)
    generalize bs[i]=x at *
    generalize (bs.take i).foldl (JR h) ([],Jp 1)=z at *
    obtain ⟨pl,t⟩:=z
    simp only [] at hlt hU ⊢
    have ap:=fun y=>QfR (xs:=pl) y hlt
    have pb:=QaO w h o true t 1 0 hU
    have cd:∀ a,eOr (eOp D.eqO (eOp D.ix (eV 5) (eC (.int 0))) (eC (.str "chapter"))) (eOp D.eqO (eOp D.ix (eV 5) (eC (.int 0))) (eC (.str "heading"))) [some (bks bs),some (sty w h o true),some (.lst (rooms.map .int)),some t.d,some (QE pl),some x.d,a,none,none,none]=some (.bl (Qa8 x)):=fun a=>by
     have i0:=QfM x
     cases x with
     | chapter t l=>exact orT (opE (opE rfl rfl i0) rfl (by rw [eqS];simp [Qap]))
     | heading t k l=>exact orF (opE (opE rfl rfl i0) rfl (by rw [eqS];simp [Qap])) (opE (opE rfl rfl i0) rfl (by rw [eqS];simp [Qap,Qa8]))
     | _=>exact orF (opE (opE rfl rfl i0) rfl (by rw [eqS];simp [Qap])) (opE (opE rfl rfl i0) rfl (by rw [eqS];simp [Qap,Qa8]))
    unfold JR
    cases q:Qa8 x with
    | true =>
     rw [if_pos rfl]
     rw [q] at cd
     refine ⟨_,.inl ?_,some x.d,some (QO h t 1 0).1.d,rfl⟩
     refine bnd (e1:=[some (bks bs),some (sty w h o true),some (.lst (rooms.map .int)),some t.d,some (QE pl),some x.d,b,none,none,none]) rfl (ifT (cd _) ?_)
     refine st (e1:=[some (bks bs),some (sty w h o true),some (.lst (rooms.map .int)),some (QO h t 1 0).2.d,some (QE pl),some x.d,some (QO h t 1 0).1.d,none,none,none]) (asg (Yo rfl rfl rfl rfl pb) rfl) ?_
     exact VJ rfl rfl (ap _)
    | false =>
     rw [if_neg (by decide)]
     rw [q] at cd
     exact ⟨_,.inl (bnd (e1:=[some (bks bs),some (sty w h o true),some (.lst (rooms.map .int)),some t.d,some (QE pl),some x.d,b,none,none,none]) rfl (ifF (cd _) rfl)),some x.d,b,rfl⟩) [some (bks bs),some (sty w h o true),some (.lst (rooms.map .int)),some (Jp 1).d,some (QE []),none,none,none,none,none] ⟨none,none,rfl⟩
   subst g2
   rw [List.take_length] at g1
   refine ⟨a,b,ifT (opE rfl rfl io) ?_⟩
   unfold Ja
   exact g1
 obtain ⟨a,b,c1⟩:=c1
 refine st c1 ?_
 have sc:sIf (eOp D.neO (eV 4) (Qo (lN))) (Qd (eK Qas (lC (eV 1) (lC (eV 3) lN))) (gS 3)) (sNx) [some (bks bs),some (sty w h o li),some (.lst (rooms.map .int)),some (if li=true then (ZW h bs).2 else Jp 1).d,some (QE (if li=true then (ZW h bs).1 else [])),a,b,none,none,none]=some (.nx [some (bks bs),some (sty w h o li),some (.lst (rooms.map .int)),some (Q5 h o li bs).2.d,some (QE (Q5 h o li bs).1),a,b,none,none,none]):=by
  unfold Q5
  cases li with
  | false =>
   have nn:D.neO (QE []) (.lst [])=some (.bl false):=Qh7 QgO (by decide) []
   exact ifF (opE rfl rfl nn) rfl
  | true =>
   simp only [if_true]
   have nc:=QeM w h o true (ZW h bs).2
   have nn:D.neO (QE (ZW h bs).1) (.lst [])=some (.bl (!(ZW h bs).1.isEmpty)):=Qh7 QgO (by decide) _
   generalize ZW h bs=z at *
   obtain ⟨pl,t⟩:=z
   simp only [] at nc nn ⊢
   cases pl with
   | nil=>exact ifF (opE rfl rfl nn) rfl
   | cons y ys =>
    rw [if_pos (by simp)]
    exact ifT (opE rfl rfl nn) (asg (ZF rfl rfl nc) rfl)
 refine st sc ?_
 have hU0:0<=(Q5 h o li bs).2.u:=by
  unfold Q5
  split
  ·have:=Qiu h bs ([],Jp 1) (by show (0:Int)<=0;omega)
   show 0<=(if _ then _ else _:Sta).u
   split
   ·rw [Qep];omega
   ·exact this
  ·show (0:Int)<=0;omega
 generalize Q5 h o li bs=c0 at *
 obtain ⟨pl0,s0⟩:=c0
 simp only [] at hU0 ⊢
 refine st (e1:=[some (bks bs),some (sty w h o li),some (.lst (rooms.map .int)),some s0.d,some (QE pl0),a,b,some (Jq [pl0]),none,none]) rfl ?_
 refine st (e1:=[some (bks bs),some (sty w h o li),some (.lst (rooms.map .int)),some s0.d,some (QE pl0),a,b,some (Jq [pl0]),some (.int 0),none]) rfl ?_
 refine QaH Bk.d bs (fun i e=>∃ p a b c,e=[some (bks bs),some (sty w h o li),some (.lst (rooms.map .int)),some ((bs.take i).foldl (QT w h o rooms) ([pl0],s0,0)).2.1.d,p,a,b,some (Jq ((bs.take i).foldl (QT w h o rooms) ([pl0],s0,0)).1),some (.int ((bs.take i).foldl (QT w h o rooms) ([pl0],s0,0)).2.2),c]) rfl ⟨_,_,_,none,rfl⟩ ?_ ?_
 ·rintro i hi e ⟨p,a,b,c,rfl⟩
  rw [VT _ _ _ _ hi]
  have hb:=Qai w h o rooms (bs.take i) ([pl0],s0,0)
  have hU:=Qna w h o rooms (bs.take i) ([pl0],s0,0) hU0
  have h1:=hb.1
  have h2:=hb.2
  rw [List.length_take] at h1
  simp at h1 h2
  have hlt:((bs.take i).foldl (QT w h o rooms) ([pl0],s0,0)).1.length<lI:=ZJ (by have:=hf.1;omega)
  have t1:rO (bs.take (i+1))=rO (bs.take i)++QF (iO bs[i]):=fT _ bs i hi
  have t3:(rO (bs.take (i+1))).length<=(rO bs).length:=ZU (fun b=>QF (iO b)) bs (i+1)
  rw [t1,List.length_append] at t3
  have hil:=YA hf bs[i] (List.getElem_mem hi)
  have hT:=ht bs[i] (List.getElem_mem hi)
  generalize bs[i]=x at *
  generalize (bs.take i).foldl (QT w h o rooms) ([pl0],s0,0)=z at *
  obtain ⟨tl,s,k⟩:=z
  simp only [] at h1 h2 hlt hU ⊢
  have ap:=fun y=>Qlm (xs:=tl) y hlt
  have ct:=QpQ rooms k (QF (iO x)).length (by omega)
  have lo:=QnT w h o li s ((rooms.drop k).take (QF (iO x)).length) x hil (by rw [List.length_take,List.length_drop];omega) hT hU (fun y hy=>h0 y (List.mem_of_mem_drop (List.mem_of_mem_take hy)))
  rw [QnC] at lo
  rw [Qeq]
  simp only []
  generalize Qc7 w h o s (rooms.drop k) x=r at *
  obtain ⟨rp,rt⟩:=r
  simp only [] at lo ⊢
  have many:∃ c',sQ (Qd (eC (.int 0)) (gS 9)) (sIf (eOp D.eqO (eOp D.ix (eV 5) (eC (.int 0))) (eC (.str "para"))) (Qd (eUn D.len (QX 1 [] (QW (eOp D.ix (eV 5) (eC (.int 1)))) (gS 0) (eOp D.eqO (eOp D.ix (eV 0) (eC (.int 0))) (eC (.str "ref"))) (eV 0))) (gS 9)) (sNx)) [some (bks bs),some (sty w h o li),some (.lst (rooms.map .int)),some s.d,p,some x.d,b,some (Jq tl),some (.int k),c]=some (.nx [some (bks bs),some (sty w h o li),some (.lst (rooms.map .int)),some s.d,p,some x.d,b,some (Jq tl),some (.int k),c'])/\c'=some (.int (QF (iO x)).length):=by
   refine ⟨_,?_,rfl⟩
   refine st (e1:=[some (bks bs),some (sty w h o li),some (.lst (rooms.map .int)),some s.d,p,some x.d,b,some (Jq tl),some (.int k),some (.int 0)]) rfl ?_
   cases x with
   | para is =>
    have hc:QX 1 [] (QW (eOp D.ix (eV 5) (eC (.int 1)))) (gS 0) (eOp D.eqO (eOp D.ix (eV 0) (eC (.int 0))) (eC (.str "ref"))) (eV 0) [some (bks bs),some (sty w h o li),some (.lst (rooms.map .int)),some s.d,p,some (Bk.para is).d,b,some (Jq tl),some (.int k),some (.int 0)]=some (.lst ((is.filter JW).map It.d)):=by
     refine Zq (g:=gS 0) (n:=1) (caps:=[]) It.d is (fun e=>∃ v,e=[v]) JW It.d rfl (lB (Nat.le_trans hil (by decide))) ⟨none,rfl⟩ ?_
     rintro j hj e ⟨v,rfl⟩
     refine ⟨[some j.d],rfl,⟨_,rfl⟩,?_,fun _=>rfl⟩
     cases j<;>exact opE (opE rfl rfl rfl) rfl (by rw [eqS];simp [JW])
    refine ifT (opE (x:=.str "para") (opE (x:=(Bk.para is).d) rfl rfl rfl) rfl (by rw [eqS];simp)) (asg (unE hc ?_) rfl)
    show some (D.int ((is.filter JW).map It.d).length)=_
    simp [QF,iO]
   | _ =>
    refine ifF (by simp [eOp,eV,eC,D.ix,ixD,eqS]) ?_
    simp [sNx,iO,QF]
  obtain ⟨c',hm,rfl⟩:=many
  refine ⟨[some (bks bs),some (sty w h o li),some (.lst (rooms.map .int)),some rt.d,some (QE rp),some x.d,b,some (Jq (tl++[rp])),some (.int (k+(QF (iO x)).length:Nat)),some (.int (QF (iO x)).length)],.inl ?_,_,_,_,_,rfl⟩
  refine bnd (e1:=[some (bks bs),some (sty w h o li),some (.lst (rooms.map .int)),some s.d,p,some x.d,b,some (Jq tl),some (.int k),c]) rfl ?_
  refine QtS hm ?_
  refine st (e1:=[some (bks bs),some (sty w h o li),some (.lst (rooms.map .int)),some rt.d,some (QE rp),some x.d,b,some (Jq tl),some (.int k),some (.int (QF (iO x)).length)]) (asg (Yo rfl rfl rfl (Qig rfl (atE rfl) (atE (opE rfl rfl rfl)) ct) lo) rfl) ?_
  refine st (e1:=[some (bks bs),some (sty w h o li),some (.lst (rooms.map .int)),some rt.d,some (QE rp),some x.d,b,some (Jq (tl++[rp])),some (.int k),some (.int (QF (iO x)).length)]) (VJ rfl rfl (ap rp)) ?_
  exact asg (opE rfl rfl rfl) rfl
 ·rintro e ⟨p,a,b,c,rfl⟩
  rw [List.take_length]
  exact ret rfl
theorem Qe5 (i:Int):YC [.int i]=some (.bl true):=by
 unfold YC Qfo
 simp [QI,JT,Zg,lI,QC,sD,sQ,sIf,Qk,ZA,Qd,Zr,J4,sNx,Z9,ZM,gS,Js,J6,eV,eC,eOp,eUn,Q1,QG,eOr,eIf,JF,Qn,Qo,eK,lN,lC,JJ,oNo,oAt,ZC,D.len,D.lt,D.le,D.gt,D.ge,D.add,D.sub,D.ix,D.eqO,D.neO,D.cmp,D.cmpN,D.inst,tyD,D.isT,D.intB,D.min2,D.max2,D.neg,D.addI,Qq,JM,JO,Jv,QM,QS,JL,JK,Jh,Ju,JP,JQ,Jw,Jx,JN,Jb,JC,J1,Qy,QB,Q9,Jd,QY,QQ,D.rng,D.its,D.itsT,QD,ZB,QK,Jg,JS,Jn,Jf]
theorem neI (i:Int):D.neO (.int i) (.int i)=some (.bl false):=by simp [D.neO,Qy,QD,D.cmpN]
theorem Qte (x:Plc):D.neO x.d x.d=some (.bl false):=by
 unfold D.neO
 rw [if_pos (by have:=QgO x;omega)]
 unfold Plc.d
 simp [Jg,Jf,Jn,QD,Qih,D.cmpN]
theorem QtY (X:List (List Plc)):D.len (Jq X)=some (.int X.length):=by show some (D.int (X.map QE).length)=_;rw [List.length_map]
theorem Qsu (X:List (List Plc)) (k:Nat) (hk:k<X.length):D.ix (Jq X) (.int (0+(k:Int)))=some (QE (X.getD k [])):=by
 have:=Qe2 (f:=QE) X (0+(k:Int)) [] (by omega) (by omega)
 rw [show (0+(k:Int)).toNat=k from by omega] at this
 exact this
theorem Qsw (X:List Plc) (k:Nat) (hk:k<X.length):D.ix (QE X) (.int (0+(k:Int)))=some (X.getD k ⟨0,0,0⟩).d:=by
 have:=Qe2 (f:=Plc.d) X (0+(k:Int)) ⟨0,0,0⟩ (by omega) (by omega)
 rw [show (0+(k:Int)).toNat=k from by omega] at this
 exact this
theorem Qny (X:List (List Plc)) (hX:X.length<=100000) (hx:∀ r∈X,r.length<=100000):QaZ [Jq X,Jq X]=some (.bl true):=by
 unfold QaZ Qek
 refine stD rfl ?_
 have ln:=QtY X
 refine st (e1:=[some (Jq X),some (Jq X),none,none,none]) (ifF (orF (Qa3 (b:=true) (QlQ (x:=Jq X) rfl rfl)) (opE (unE rfl ln) (unE rfl ln) (neI _))) rfl) ?_
 refine QpV X.length (fun _ e=>∃ a b c,e=[some (Jq X),some (Jq X),a,b,c]) (by
  have hl:eUn D.len (eV 1) [some (Jq X),some (Jq X),none,none,none]=some (.int X.length):=unE rfl ln
  unfold Yy
  rw [hl]
  exact Qbj X.length hX) ⟨none,none,none,rfl⟩ ?_ ?_
 ·rintro k hk e ⟨a,b,c,rfl⟩
  have ik:=Qsu X k hk
  have hr:=hx (X.getD k []) (by rw [List.getD_eq_getElem?_getD,List.getElem?_eq_getElem hk];exact List.getElem_mem hk)
  generalize Jq X=T at *
  generalize X.getD k []=r at *
  have lr:=Qk1 r
  obtain ⟨e',h1,b',c',h2⟩:=QkY (g:=gS 3) (b:=sQ (Qd (eOp D.ix (eOp D.ix (eV 0) (eV 2)) (eV 3)) (gS 4)) (sQ (sIf (eOr (Q1 (JJ "tuple" (eV 4))) (eOr (eOp D.neO (eUn D.len (eV 4)) (eC (.int 3))) (eOp D.neO (eV 4) (eOp D.ix (eOp D.ix (eV 1) (eV 2)) (eV 3))))) (Qk (eC (.bl false))) (sNx)) (sIf (eOr (Q1 (eK YC (lC (eOp D.ix (eV 4) (eC (.int 0))) lN))) (eOr (Q1 (eK YC (lC (eOp D.ix (eV 4) (eC (.int 1))) lN))) (Q1 (eK YC (lC (eOp D.ix (eV 4) (eC (.int 2))) lN))))) (Qk (eC (.bl false))) (sNx)))) r.length (fun _ e=>∃ b c,e=[some T,some T,some (.int (0+(k:Int))),b,c]) (by
   rintro j hj e ⟨b,c,rfl⟩
   have ij:=Qsw r j hj
   generalize r.getD j ⟨0,0,0⟩=y at *
   have np:=Qte y
   refine ⟨[some T,some T,some (.int (0+(k:Int))),some (.int (0+(j:Int))),some y.d],.inl (bnd (e1:=[some T,some T,some (.int (0+(k:Int))),some (.int (0+(j:Int))),c]) rfl ?_),_,_,rfl⟩
   refine st (e1:=[some T,some T,some (.int (0+(k:Int))),some (.int (0+(j:Int))),some y.d]) (asg (opE (opE rfl rfl ik) rfl ij) rfl) ?_
   refine st (e1:=[some T,some T,some (.int (0+(k:Int))),some (.int (0+(j:Int))),some y.d]) (ifF (orF (Qa3 (b:=true) (QlQ (x:=y.d) rfl rfl)) (orF (opE (unE (x:=y.d) rfl rfl) rfl (neI 3)) (opE (x:=y.d) rfl (opE (opE rfl rfl ik) rfl ij) np))) rfl) ?_
   exact ifF (orF (Qa3 (b:=true) (Q6 (opE (x:=y.d) rfl rfl rfl) (Qe5 y.p))) (orF (Qa3 (b:=true) (Q6 (opE (x:=y.d) rfl rfl rfl) (Qe5 y.l))) (Qa3 (b:=true) (Q6 (opE (x:=y.d) rfl rfl rfl) (Qe5 y.c))))) rfl) [some T,some T,some (.int (0+(k:Int))),b,c] ⟨b,c,rfl⟩
  subst h2
  refine ⟨[some T,some T,some (.int (0+(k:Int))),b',c'],.inl (bnd (e1:=[some T,some T,some (.int (0+(k:Int))),b,c]) rfl ?_),_,_,_,rfl⟩
  refine st (e1:=[some T,some T,some (.int (0+(k:Int))),b,c]) (ifF (orF (Qa3 (b:=true) (QlQ (x:=QE r) (opE rfl rfl ik) rfl)) (opE (unE (opE rfl rfl ik) lr) (unE (opE rfl rfl ik) lr) (neI _))) rfl) ?_
  have hl:eUn D.len (eOp D.ix (eV 1) (eV 2)) [some T,some T,some (.int (0+(k:Int))),b,c]=some (.int r.length):=unE (opE rfl rfl ik) lr
  unfold Ja Yy
  rw [hl,show (some (D.int r.length)).bind D.rng=some (rD 0 r.length) from Qbj r.length hr]
  exact h1
 ·rintro e ⟨a,b,c,rfl⟩
  exact ret rfl
noncomputable def S0 (ns:List Int):D:=sty (dW ns) (dH ns) (dO ns) (dLi ns)
noncomputable def Qc5 (ns rs:List Int):List (List Plc):=(QcF (dW ns) (dH ns) (dO ns) (dLi ns) rs (Q2 ns)).1
theorem QoT (ns rs:List Int):(Qc5 ns rs).length<=100001/\∀ x∈Qc5 ns rs,x.length<=100000:=by
 have hh:=QgD ns
 have fw:=QbS ns
 obtain ⟨_,_,rows,r3,r4,r5⟩:=Qnb (dW ns) (dH ns) (dO ns) rs (by omega) (Q2 ns) ([(Q5 (dH ns) (dO ns) (dLi ns) (Q2 ns)).1],(Q5 (dH ns) (dO ns) (dLi ns) (Q2 ns)).2,0) (fun b hb=>(Qd7 ns b hb).2.2)
 have e:Qc5 ns rs=[(Q5 (dH ns) (dO ns) (dLi ns) (Q2 ns)).1]++rows:=r3
 rw [e]
 have f1:=fw.1
 refine ⟨by simp;omega,fun x hx=>?_⟩
 rcases List.mem_append.mp hx with z | z
 ·rw [List.mem_singleton.mp z]
  unfold Q5
  split
  ·have:=Qah (dH ns) (Q2 ns) ([],Jp 1)
   have t:(ZW (dH ns) (Q2 ns)).1.length<=0+(Q2 ns).length:=this
   show (ZW (dH ns) (Q2 ns)).1.length<=_
   omega
  ·simp
 ·obtain ⟨i,hi,rfl⟩:=List.getElem_of_mem z
  have hz:((Q2 ns)[i]'(by omega),rows[i])∈(Q2 ns).zip rows:=by
   have:i<((Q2 ns).zip rows).length:=by simp;omega
   have e:((Q2 ns).zip rows)[i]=((Q2 ns)[i]'(by omega),rows[i]):=by simp
   rw [<- e];exact List.getElem_mem this
  have q:=(r5 _ hz).1
  simp only [] at q
  rw [q]
  have it:=Qhp (bs:=Q2 ns) i (by omega)
  have f2:=fw.2
  generalize (Q2 ns)[i]'(by omega)=b at *
  cases b with
  | para is =>
   show JD is<=_
   have:JD is<=is.length:=List.length_filter_le _ _
   have e:(iO (.para is)).length=is.length:=rfl
   omega
  | _=>show 1<=_;omega
theorem QaW {α:Type} {f:α->D} (h:∀ a,NoPl (f a)):∀ xs:List α,NoPls (xs.map f)
 | []=>.nil
 | x::xs=>.cons (h x) (QaW h xs)
theorem Qde {α:Type} {f:α->D} (h:∀ a,QlD (f a)=false):∀ xs:List α,QoD (xs.map f)=false
 | []=>rfl
 | x::_=>h x
theorem Qhi (xs:List Str):NoPl (QP xs):=.lst (QaW (fun x=>.str x) xs) (Qde (fun _=>rfl) xs)
theorem QqP (i:It):NoPl i.d:=by
 cases i with
 | word w ns=>exact .tup (.cons (.str _) (.cons (.str _) (.cons (Qhi _) .nil)))
 | ref l a b=>exact .tup (.cons (.str _) (.cons (.str _) (.cons (.str _) (.cons (.str _) .nil))))
 | mark l=>exact .tup (.cons (.str _) (.cons (.str _) .nil))
 | key l=>exact .tup (.cons (.str _) (.cons (.str _) .nil))
theorem QqQ (b:Bk):NoPl b.d:=by
 cases b with
 | chapter t l=>exact .tup (.cons (.str _) (.cons (.str _) (.cons (.str _) .nil)))
 | heading t k l=>exact .tup (.cons (.str _) (.cons (.str _) (.cons (.int _) (.cons (.str _) .nil))))
 | para is=>exact .tup (.cons (.str _) (.cons (.lst (QaW QqP is) (Qde (fun i=>by cases i<;>rfl) is)) .nil))
 | table rs l=>exact .tup (.cons (.str _) (.cons (Qhi _) (.cons (.str _) .nil)))
 | plates n l=>exact .tup (.cons (.str _) (.cons (.int _) (.cons (.str _) .nil)))
theorem Qpd (bs:List Bk):NoPl (bks bs):=.lst (QaW QqQ bs) (Qde (fun b=>by cases b<;>rfl) bs)
theorem QmL (X:List (List Plc)):Qie (Jq X):=fun t ht=>by
 obtain ⟨r,_,rfl⟩:=List.mem_map.mp ht
 refine ⟨r.map Plc.d,rfl,fun d hd=>?_⟩
 obtain ⟨x,_,rfl⟩:=List.mem_map.mp hd
 rfl
theorem QrE {i j:Nat} {f:List D->Option D} {l:EvL} {c:EvE} {a b:EvS} {e:Qr} {ds:List D} {T:D} {r:Option Fl} (hl:l e=some ds) (hf:f ds=some T) (np:NoPls ds) (ap:Qie T) (hi:i<e.length) (hj:j<e.length) (hc:c (e.set i (some T))=some (.bl false)) (hb:b ((e.set i none).set j none)=r):QfJ i j f l c a b e=r:=by
 unfold QfJ
 rw [hl,Option.bind_some,hf,Option.bind_some,if_pos ⟨np,ap,hi,hj⟩,hc]
 exact hb
theorem Qpo (ns:List Int):Qew [.scr ns]=some (.bl true):=by
 have dr:QbO [.scr ns]=some (.tup [bks (Q2 ns),S0 ns,.int (dR ns)]):=Qpy ns
 have rb:=QcU ns
 have hh:=QgD ns
 have hit:((Q2 ns).flatMap iO).length<=200:=by
  unfold Q2
  rw [List.flatMap_append,List.length_append]
  have h1:=(VN ns (dW ns) (dH ns) (dLi ns)).2
  have h2:=(Qbm ns).2
  omega
 obtain ⟨rs,ra,rok,Qc6⟩:=QoU ns (Q2 ns) (dR ns) 200 hit (by decide) (by omega)
 have cp:=Qro (Q2 ns) (QbS ns)
 have lb:VD [bks (Q2 ns),S0 ns,.lst (rs.map .int)]=some (Jq (Qc5 ns rs)):=Qml (dW ns) (dH ns) (dO ns) (dLi ns) rs (Q2 ns) (QbS ns) (by omega) (fun b hb=>(Qd7 ns b hb).2.1) (fun x hx=>by have:=rok x hx;omega)
 have sb:Qaa [bks (Q2 ns),S0 ns,.lst (rs.map .int)]=some (Jq (Qc5 ns rs)):=Ql0 (dW ns) (dH ns) (dO ns) (dLi ns) rs (Q2 ns) (QbS ns) (by omega) (fun b hb=>(Qd7 ns b hb).2.1)
 have lk:Qbw [bks (Q2 ns),S0 ns]=some .non:=Qtv ns
 have rw_:=QoT ns rs
 have sl:(Qc5 ns rs).length<=100000:=by
  have h1:=(VN ns (dW ns) (dH ns) (dLi ns)).1
  have h2:=(Qbm ns).1
  have h3:=(Qai (dW ns) (dH ns) (dO ns) rs (Q2 ns) ([(Q5 (dH ns) (dO ns) (dLi ns) (Q2 ns)).1],(Q5 (dH ns) (dO ns) (dLi ns) (Q2 ns)).2,0)).1
  have h4:(Q2 ns).length<=119:=by unfold Q2;rw [List.length_append];omega
  show ((Q2 ns).foldl (QT (dW ns) (dH ns) (dO ns) rs) ([(Q5 (dH ns) (dO ns) (dLi ns) (Q2 ns)).1],(Q5 (dH ns) (dO ns) (dLi ns) (Q2 ns)).2,0)).1.length<=_
  rw [h3]
  simp
  omega
 have pl:=Qny (Qc5 ns rs) sl rw_.2
 have nb:=QqR (Q2 ns)
 have nB:=Qpd (Q2 ns)
 have nS:NoPl (S0 ns):=.tup (.cons (.int _) (.cons (.int _) (.cons (.bl _) (.cons (.bl _) .nil))))
 have nR:NoPl (.lst (rs.map .int)):=.lst (QaW (fun i=>.int i) rs) (Qde (fun _=>rfl) rs)
 have aT:=QmL (Qc5 ns rs)
 generalize S0 ns=S at *
 generalize hT:Jq (Qc5 ns rs)=T at *
 have la:Qd5 [bks (Q2 ns),S,.lst (rs.map .int)]=some T:=by
  unfold Qd5 Qix
  refine stD rfl ?_
  refine st (e1:=[some (bks (Q2 ns)),some S,some (.lst (rs.map .int))]) ?_ (ret (Yp rfl rfl rfl sb))
  have hR:eK Qbw (lC (eV 0) (lC (eV 1) lN)) (sD 3 [bks (Q2 ns),S,.lst (rs.map .int)])=some .non:=ZF rfl rfl lk
  unfold J4
  rw [hR];rfl
 generalize bks (Q2 ns)=B at *
 unfold Qew QlW
 refine stD rfl ?_
 refine st (e1:=[some (.scr ns),some B,some S,some (.int (dR ns)),none,none,none,none,none,none]) (asg (Q6 rfl dr) rfl) ?_
 refine st (e1:=[some (.scr ns),some B,some S,some (.int (dR ns)),some (.lst (rs.map .int)),none,none,none,none,none]) (asg (Yo rfl rfl rfl rfl ra) rfl) ?_
 refine st (e1:=[some (.scr ns),some B,some S,some (.int (dR ns)),some (.lst (rs.map .int)),some B,none,none,none,none]) (asg (Q6 rfl cp) rfl) ?_
 refine st (e1:=[some (.scr ns),some B,some S,some (.int (dR ns)),some (.lst (rs.map .int)),some B,some (.lst (rs.map .int)),none,none,none]) rfl ?_
 refine st (e1:=[some (.scr ns),some B,some S,some (.int (dR ns)),some (.lst (rs.map .int)),some B,some (.lst (rs.map .int)),some T,none,none]) (asg (Yp rfl rfl rfl lb) rfl) ?_
 exact QrE (l:=lC (eV 5) (lC (eV 2) (lC (eV 6) lN))) (ds:=[B,S,.lst (rs.map .int)]) (T:=T) rfl la (.cons nB (.cons nS (.cons nR .nil))) aT (by simp) (by simp) (orF (Qa3 (b:=true) (ZF rfl rfl pl)) (orF (opE rfl rfl nb) (opE rfl rfl (Qsh rs)))) (ret (ZF (Yp rfl rfl rfl la) rfl pl))
end
section
open PySem PySem.Spec PyProof.Rows L2 Wd
def top (i:Nat):Stmt:=PySem.Challenge.pw_leastbook_k14_laid_by_the_rules.main.body.getD i (.Pass ⟨0,0,0,0⟩)
abbrev Qeb:Stmt:=top 17
abbrev Qim:Stmt:=top 18
abbrev QbU:Stmt:=top 19
abbrev Qcn:Stmt:=top 20
abbrev Qea:Stmt:=top 21
abbrev Qdl:Stmt:=top 22
abbrev Qdq:Stmt:=top 23
abbrev Qcl:Stmt:=top 24
abbrev Qdm:Stmt:=top 25
abbrev Qa5:Stmt:=top 26
abbrev QbT:Stmt:=top 27
abbrev Qdp:Stmt:=top 29
abbrev Qcm:Stmt:=top 30
abbrev Qe8:Stmt:=top 31
abbrev Qdn:Stmt:=top 32
abbrev Qdo:Stmt:=top 33
abbrev QfI:Stmt:=top 34
abbrev QaL:Stmt:=top 35
abbrev Y4:Stmt:=top 36
abbrev Qau:Stmt:=top 37
abbrev Qaf:Stmt:=top 38
abbrev Qak:Stmt:=top 39
abbrev Qax:Stmt:=top 40
abbrev Qal:Stmt:=top 41
abbrev Qay:Stmt:=top 42
abbrev Qco:Stmt:=top 43
abbrev Qaj:Stmt:=top 44
abbrev Qaw:Stmt:=top 45
abbrev Y5:Stmt:=top 46
abbrev Qav:Stmt:=top 47
abbrev Qik:Stmt:=top 48
abbrev Qat:Stmt:=top 50
abbrev Qcj:Stmt:=top 51
abbrev Qck:Stmt:=top 52
abbrev Qdk:Stmt:=top 53
abbrev Qil:Stmt:=top 54
abbrev Qdu:Stmt:=top 56
abbrev Qe9:Stmt:=top 57
abbrev Qin:Stmt:=top 58
abbrev Qfc:Stmt:=top 59
abbrev Qec:Stmt:=top 60
abbrev Qfa:Stmt:=top 61
abbrev QcG:Stmt:=top 62
abbrev Qds:Stmt:=top 63
abbrev Qdt:Stmt:=top 64
abbrev QeA:Stmt:=top 65
abbrev Yz:Stmt:=top 66
abbrev Qez:Stmt:=top 67
abbrev QbA:Stmt:=top 68
abbrev Qfb:Stmt:=top 69
abbrev QgG:Stmt:=top 70
abbrev QgF:Stmt:=top 71
abbrev Qfd:Stmt:=top 72
abbrev QgH:Stmt:=top 73
abbrev Qfe:Stmt:=top 74
abbrev Qcp:Stmt:=top 75
abbrev Qdr:Stmt:=top 76
abbrev QaM:Stmt:=top 77
abbrev Qed:Stmt:=top 78
abbrev Qh3:Stmt:=top 79
structure Txt (K:Fg) (mg:Str->Option Value):Prop where
 g_FOOT:∃ t,mg "FOOT"=some (.int 3 t)
 g_HEIGHT:∃ t,mg "HEIGHT"=some (.int 1 t)
 g_LINE:∃ t,mg "LINE"=some (.int 1 t)
 g_LISTED:∃ t,mg "LISTED"=some (.int 3 t)
 g_ODD:∃ t,mg "ODD"=some (.int 2 t)
 g_PAGE:∃ t,mg "PAGE"=some (.int 0 t)
 g_USED:∃ t,mg "USED"=some (.int 2 t)
 g_WIDTH:∃ t,mg "WIDTH"=some (.int 0 t)
 b_any:mg "any"=none
 b_bool:mg "bool"=none
 b_enumerate:mg "enumerate"=none
 b_int:mg "int"=none
 b_isinstance:mg "isinstance"=none
 b_len:mg "len"=none
 b_list:mg "list"=none
 b_max:mg "max"=none
 b_range:mg "range"=none
 b_str:mg "str"=none
 b_sum:mg "sum"=none
 b_tuple:mg "tuple"=none
 z:True
section
variable {P:Program} {w:World} {K:Fg} {mg:Str->Option Value} {base:Heap}
abbrev Vg:List Str:=["number"]
abbrev Qbu:List Str:=["page"]
abbrev ZS:List Str:=["style","state","lines"]
abbrev Yi:List Str:=["style","state","size"]
abbrev Vf:List Str:=["page","line","column","size","foot"]
abbrev V6:List Str:=["style","state","size","rows"]
abbrev Qf8:List Str:=["style","state","size","rows","page","line","used","foot","column"]
abbrev YJ:List Str:=["state"]
abbrev Vx:List Str:=["style","state","rows","keep"]
abbrev QeQ:List Str:=["style","state","rows","keep","start","place"]
abbrev YF:List Str:=["state"]
abbrev YQ:List Str:=["style","state"]
abbrev QdQ:List Str:=["style","state","start"]
abbrev Vi:List Str:=["state","many"]
abbrev Qes:List Str:=["state","many","page"]
abbrev YI:List Str:=["style"]
abbrev Yh:List Str:=["block"]
abbrev VL:List Str:=["item"]
abbrev YG:List Str:=["block"]
abbrev YH:List Str:=["block"]
abbrev QdZ:List Str:=["book"]
abbrev Qnc:List Str:=["book","labels","block"]
abbrev Yg:List Str:=["block","style"]
abbrev Zk:List Str:=["book","style"]
abbrev Zw:List Str:=["book","style"]
abbrev ZT:List Str:=["texts","width"]
abbrev Z5:List Str:=["block","style","room"]
abbrev Qcb:List Str:=["block","style","room","beside"]
abbrev Zy:List Str:=["item","style","room"]
abbrev Zm:List Str:=["block","style"]
abbrev Zz:List Str:=["item","style"]
abbrev Yj:List Str:=["label","number","known"]
abbrev Zl:List Str:=["block","number","style","room","known"]
abbrev Zx:List Str:=["item","number","style","room","known"]
abbrev Z4:List Str:=["items","number","style","room","known"]
abbrev Qca:List Str:=["items","number","style","room","known","words_left","item"]
abbrev Yv:List Str:=["book","known"]
abbrev QcY:List Str:=["book","known","number","block","label"]
abbrev Qd0:List Str:=["book","style"]
abbrev Qnd:List Str:=["book","style","room","known","number","block"]
abbrev Yu:List Str:=["book","style"]
abbrev QcX:List Str:=["book","style","places","state","block","put"]
abbrev Vw:List Str:=["items","style","state","rooms"]
abbrev QeP:List Str:=["items","style","state","rooms","places","refs_set","item","size","put"]
abbrev Ye:List Str:=["block","style","state"]
abbrev V5:List Str:=["book","style","rooms"]
abbrev Qf7:List Str:=["book","style","rooms","put","told","state","refs_set","block"]
abbrev Qbt:List Str:=["book","style","rooms"]
abbrev YK:List Str:=["_law_script","_law_k"]
abbrev VM:List Str:=["_law_found"]
abbrev Qd1:List Str:=["_law_cell","_law_turn"]
abbrev Qne:List Str:=["_law_cell","_law_turn","_law_number"]
abbrev QbG:List Str:=["_law_k"]
abbrev Qjh:List Str:=["_law_k","_law_some"]
abbrev QaU:List Str:=["_law_cell","_law_number"]
abbrev QhJ:List Str:=["_law_cell","_law_number","_law_ten","_law_k"]
abbrev QbD:List Str:=["_law_number","_law_size","_law_gaps"]
abbrev Qje:List Str:=["_law_number","_law_size","_law_gaps","_law_some","_law_found","_law_k","_law_at","_law_sign"]
abbrev QcM:List Str:=["_law_cell","_law_k"]
abbrev Qls:List Str:=["_law_cell","_law_k","_law_number","_law_kind","_law_size","_law_many","_law_text","_law_word_here","_law_label_here","_law_name"]
abbrev V8:List Str:=["_law_atoms","_law_cells"]
abbrev Qga:List Str:=["_law_atoms","_law_cells","_law_labels","_law_atom_here","_law_found","_law_k","_law_label_here"]
abbrev V9:List Str:=["_law_atoms"]
abbrev Qgb:List Str:=["_law_atoms","_law_book","_law_row","_law_atom_here"]
abbrev QcK:List Str:=["_law_script","_law_style"]
abbrev Qlq:List Str:=["_law_script","_law_style","_law_many","_law_ten","_law_k","_law_row"]
abbrev QbF:List Str:=["_law_book","_law_most_here"]
abbrev Qjg:List Str:=["_law_book","_law_most_here","_law_wide","_law_high","_law_block_here","_law_notes","_law_rows"]
abbrev QcJ:List Str:=["_law_book","_law_listed"]
abbrev Qlp:List Str:=["_law_book","_law_listed","_law_most_here","_law_block_here"]
abbrev QbH:List Str:=["_law_script"]
abbrev Qji:List Str:=["_law_script","_law_every","_law_cells","_law_book","_law_listed","_law_edge_here","_law_most_here","_law_wide","_law_high","_law_width","_law_height","_law_style"]
abbrev QbE:List Str:=["_law_script","_law_book","_law_most_here","_law_turn"]
abbrev Qjf:List Str:=["_law_script","_law_book","_law_most_here","_law_turn","_law_found","_law_cells","_law_block_here","_law_item","_law_cell"]
abbrev QcL:List Str:=["_law_book"]
abbrev Qlr:List Str:=["_law_book","_law_found","_law_block_here","_law_row","_law_item"]
abbrev QcI:List Str:=["_law_style","_law_state","_law_size","_law_rows"]
abbrev Qlo:List Str:=["_law_style","_law_state","_law_size","_law_rows","_law_width","_law_height","_law_odd","_law_listed","_law_page","_law_line","_law_used","_law_foot"]
abbrev QbI:List Str:=["_law_style","_law_state","_law_rows","_law_keep"]
abbrev Qjj:List Str:=["_law_style","_law_state","_law_rows","_law_keep","_law_page","_law_line","_law_used","_law_foot"]
abbrev Qaq:List Str:=["_law_state"]
abbrev QbJ:List Str:=["_law_style","_law_state"]
abbrev Qjk:List Str:=["_law_style","_law_state","_law_page"]
abbrev Vy:List Str:=["_law_style","_law_state","_law_row","_law_rooms_here"]
abbrev QeR:List Str:=["_law_style","_law_state","_law_row","_law_rooms_here","_law_places_here","_law_left","_law_item","_law_place"]
abbrev V7:List Str:=["_law_style","_law_state","_law_block_here","_law_rooms_here"]
abbrev Qf9:List Str:=["_law_style","_law_state","_law_block_here","_law_rooms_here","_law_page","_law_place"]
abbrev Vz:List Str:=["_law_book","_law_style","_law_rooms_here"]
abbrev QeS:List Str:=["_law_book","_law_style","_law_rooms_here","_law_state","_law_places_here","_law_block_here","_law_place","_law_found","_law_first","_law_many"]
abbrev QaV:List Str:=["_law_found","_law_due"]
abbrev QhK:List Str:=["_law_found","_law_due","_law_k","_law_j","_law_one"]
abbrev Qp1:List Str:=["_law_script"]
abbrev Qqb:List Str:=["_law_script","_law_book","_law_style","_law_most_here","_law_rooms_here","_law_handed","_law_given","_law_due","_law_found","_law_places_here"]
section
variable (P:Program) (w:World) (K:Fg) (mg:Str->Option Value) (base:Heap)
abbrev QhM:=Cal P w K mg base 1 "figures" Vg (spD K Qb7)
abbrev QcD:=Cal P w K mg base 1 "bare" Qbu (spD K V3)
abbrev QbZ:=Cal P w K mg base 1 "has_height" ZS (spD K Yt)
abbrev QeW:=Cal P w K mg base 1 "has_width" Yi (spD K QaP)
abbrev QhL:=Cal P w K mg base 1 "word_at" Vf (spD K VU)
abbrev Qgd:=Cal P w K mg base 2 "put_word" V6 (spD K Qab)
abbrev QdM:=Cal P w K mg base 1 "end_line" YJ (spD K Qae)
abbrev Qcz:=Cal P w K mg base 2 "put_block" Vx (spD K Yk)
abbrev QdL:=Cal P w K mg base 2 "new_page" YF (spD K Qac)
abbrev Qa7:=Cal P w K mg base 3 "new_chapter" YQ (spD K YR)
abbrev Qet:=Cal P w K mg base 3 "put_plates" Vi (spD K Qag)
abbrev Qgf:=Cal P w K mg base 1 "is_style" YI (spD K Qbe)
abbrev QaS:=Cal P w K mg base 1 "is_titled" Yh (spD K YV)
abbrev Qdi:=Cal P w K mg base 1 "is_set" VL (spD K Yb)
abbrev Qge:=Cal P w K mg base 1 "label_of" YG (spD K Qad)
abbrev Qbi:=Cal P w K mg base 1 "items_of" YH (spD K Zj)
abbrev QiF:=Cal P w K mg base 2 "refs" QdZ (spD K Vb)
abbrev QeV:=Cal P w K mg base 2 "pages_for" Yg (spD K YU)
abbrev Qcc:=Cal P w K mg base 3 "pages_at_most" Zk (spD K Y6)
abbrev Qc0:=Cal P w K mg base 4 "room_at_most" Zw (spD K Vs)
abbrev Qb0:=Cal P w K mg base 1 "any_longer" ZT (spD K Vj)
abbrev Qcf:=Cal P w K mg base 2 "is_wide_block" Z5 (spD K J5)
abbrev Qc3:=Cal P w K mg base 2 "is_wide_item" Zy (spD K Vt)
abbrev Qcg:=Cal P w K mg base 1 "is_high_block" Zm (spD K Y7)
abbrev Qc4:=Cal P w K mg base 1 "is_high_item" Zz (spD K Vu)
abbrev QcA:=Cal P w K mg base 1 "add_label" Yj (spM K VC)
abbrev Qce:=Cal P w K mg base 3 "look_at_block" Zl (spM K Z7)
abbrev Qc2:=Cal P w K mg base 3 "look_at_item" Zx (spM K Yx)
abbrev Qcd:=Cal P w K mg base 4 "look_at_items" Z4 (spM K Z6)
abbrev Qc1:=Cal P w K mg base 3 "look_at_refs" Yv (spD K Yw)
abbrev Qnf:=Cal P w K mg base 5 "look" Qd0 (spD K Qbw)
abbrev QcZ:=Cal P w K mg base 4 "set_contents" Yu (spD K Vr)
abbrev QeT:=Cal P w K mg base 3 "set_items" Vw (spD K VA)
abbrev QeU:=Cal P w K mg base 4 "set_block" Ye (spD K VB)
abbrev Qgc:=Cal P w K mg base 5 "set_book" V5 (spD K Qaa)
abbrev Qng:=Cal P w K mg base 6 "laid" Qbt (spD K Qd5)
abbrev QdN:=Cal P w K mg base 1 "_law_cell_at" YK (spD K Jm)
abbrev Qjl:=Cal P w K mg base 1 "_law_whole" VM (spD K YC)
abbrev QcE:=Cal P w K mg base 1 "_law_mix" Qd1 (spD K ZE)
abbrev Qjp:=Cal P w K mg base 1 "_law_label" QbG (spD K Qar)
abbrev QhN:=Cal P w K mg base 1 "_law_plates" QaU (spD K Qb8)
abbrev Qjm:=Cal P w K mg base 1 "_law_signs" QbD (spD K YD)
abbrev Qlx:=Cal P w K mg base 2 "_law_atom" QcM (spD K VP)
abbrev Qgh:=Cal P w K mg base 2 "_law_pointed" V8 (spD K Qbg)
abbrev Qgi:=Cal P w K mg base 1 "_law_grouped" V9 (spD K YL)
abbrev Qlv:=Cal P w K mg base 2 "_law_edge" QcK (spD K QcR)
abbrev Qjo:=Cal P w K mg base 1 "_law_needs" QbF (spD K QbN)
abbrev Qlu:=Cal P w K mg base 1 "_law_most" QcJ (spD K QcQ)
abbrev Qjq:=Cal P w K mg base 3 "_law_drawn" QbH (spD K QbO)
abbrev Qjn:=Cal P w K mg base 2 "_law_rooms" QbE (spD K Qdf)
abbrev Qlw:=Cal P w K mg base 1 "_law_copy" QcL (spD K QeE)
abbrev Qlt:=Cal P w K mg base 1 "_law_word" QcI (spD K QcP)
abbrev Qfv:=Cal P w K mg base 1 "_law_block" QbI (spD K YE)
abbrev QgZ:=Cal P w K mg base 1 "_law_bare" Qaq (spD K QcS)
abbrev Qfw:=Cal P w K mg base 2 "_law_begun" QbJ (spD K Qas)
abbrev QeX:=Cal P w K mg base 2 "_law_set_para" Vy (spD K QaQ)
abbrev Qgg:=Cal P w K mg base 3 "_law_set_one" V7 (spD K Qbf)
abbrev QeY:=Cal P w K mg base 4 "_law_set_book" Vz (spD K VD)
abbrev QhO:=Cal P w K mg base 2 "_law_places" QaV (spD K QaZ)
end
theorem Ql5:FnScope Vg Vg (Qc Qeb):=by constructor<;>first | rfl | decide +kernel
theorem Qme (h:Df K mg "figures" Qeb Vg) (T:Txt K mg):QhM P w K mg base :=
 okD Vg Vg Qei 0 h Ql5 (fun nd=>fun hr=>(So (Qm (QV Qw rfl T.b_len PySem.boot_len (dr (QfO QhC rfl T.b_str PyProof.Rows.boot_str (dv 0)))))))
theorem Qqn:FnScope Qbu Qbu (Qc Qim):=by constructor<;>first | rfl | decide +kernel
theorem QqM (h:Df K mg "bare" Qim Qbu) (T:Txt K mg):QcD P w K mg base :=
 okD Qbu Qbu Qiy 0 h Qqn (fun nd=>fun hr=>(So (Qm (Qu (dn 0 (Dk Qj (Dk Qj (Dk Qj Dz)))) lz4))))
theorem QhS:FnScope ZS ZS (Qc QbU):=by constructor<;>first | rfl | decide +kernel
theorem QhX (h:Df K mg "has_height" QbU ZS) (T:Txt K mg):QbZ P w K mg base :=
 okD ZS ZS QbX 0 h QhS (fun nd=>fun hr=>(So (Qm (Zi (Va hr.units0) (dr (Qa Qe (dr (Qa Qe (dr (Qb (dv 1) (dr (QU T.g_LINE rfl)))) (dr (Qb (dv 1) (dr (QU T.g_FOOT rfl)))))) (dv 2))) (dr (Qb (dv 0) (dr (QU T.g_HEIGHT rfl)))) (Qg _)))))
theorem Qjy:FnScope Yi Yi (Qc Qcn):=by constructor<;>first | rfl | decide +kernel
theorem QjI (h:Df K mg "has_width" Qcn Yi) (T:Txt K mg):QeW P w K mg base :=
 okD Yi Yi Qcv 0 h Qjy (fun nd=>fun hr=>(So (Qm (Qtt (dr (Zi (Qs hr.units) (dr (Qb (dv 1) (dr (QU T.g_USED rfl)))) dq (Qg _))) (Qbx (Zi (Va hr.units0) (dr (Qa Qe (dr (Qa Qe (dr (Qb (dv 1) (dr (QU T.g_USED rfl)))) dq)) (dv 2))) (dr (Qb (dv 0) (dr (QU T.g_WIDTH rfl)))) (Qg _)))))))
theorem Ql4:FnScope Vf Vf (Qc Qea):=by constructor<;>first | rfl | decide +kernel
theorem Qmd (h:Df K mg "word_at" Qea Vf) (T:Txt K mg):QhL P w K mg base :=
 okD Vf Vf Qeh 0 h Ql4 (fun nd=>fun hr=>(So (Qm (Qu (Dt (Qu (dn 0 (dn 1 (dn 2 Dz))) lz3) (Dt (Qu (dn 0 (dn 1 (Db (Qa Qe (dv 2) (dv 3)) (dn 4 Dz)))) lz4) Dz)) lz2))))
theorem Qj8:FnScope Qf8 V6 (Qc Qdl):=by constructor<;>first | rfl | decide +kernel
theorem Qkl (h:Df K mg "put_word" Qdl V6) (T:Txt K mg) (c_has_height:QbZ P w K mg base) (c_has_width:QeW P w K mg base) (c_word_at:QhL P w K mg base):Qgd P w K mg base :=
 okD Qf8 V6 QdB 1 h Qj8 (fun nd=>fun hr=>(by refine Ss (O1:=[]) ?_ ?_;exact (Qi 4 nd (Qb (dv 1) (dr (QU T.g_PAGE rfl))));exact (by refine Ss (O1:=[]) ?_ ?_;exact (Qi 5 nd (Qb (dv 1) (dr (QU T.g_LINE rfl))));exact (by refine Ss (O1:=[]) ?_ ?_;exact (Qi 6 nd (Qb (dv 1) (dr (QU T.g_USED rfl))));exact (by refine Ss (O1:=[]) ?_ ?_;exact (Qi 7 nd (Qa Qe (dr (Qb (dv 1) (dr (QU T.g_FOOT rfl)))) (dv 3)));exact (by refine Ss (O1:=[]) ?_ ?_;exact (Qt (PW.pt (ZK (Jk (dr (dc c_has_width hr (dn 0 (dn 1 (dn 2 Dz)))))) (JG (Jk (dr (dc c_has_height hr (dn 0 (dn 1 (Db (Qa Qe dq (dv 3)) Dz))))))))) (Ss (O1:=[]) (Qi 8 nd (Qic (Qh (Qs hr.units) (dv 6) dq (Qg _)) Qj (Qa Qe (dv 6) dq))) (So (Qm (dc c_word_at hr (dn 4 (dn 5 (dn 8 (dn 2 (dn 7 Dz))))))))) Sn);exact (by refine Ss (O1:=[]) ?_ ?_;exact (Qt (PW.pt (ZK (Qh YN (dv 6) dq (Qg _)) (JG (Jk (dr (dc c_has_height hr (dn 0 (dn 1 (Db (Qa Qe dq (dv 3)) Dz))))))))) (So (Qm (dc c_word_at hr (dn 4 (Db (Qa Qe (dv 5) dq) (Dk Qj (dn 2 (dn 7 Dz)))))))) Sn);exact (So (Qm (dc c_word_at hr (Db (Qa Qe (dv 4) dq) (Dk Qj (Dk Qj (dn 2 (dn 3 Dz)))))))))))))))
theorem Qkd:FnScope YJ YJ (Qc Qdq):=by constructor<;>first | rfl | decide +kernel
theorem Qkq (h:Df K mg "end_line" Qdq YJ) (T:Txt K mg):QdM P w K mg base :=
 okD YJ YJ QdG 0 h Qkd (fun nd=>fun hr=>(Ss (O1:=[]) (Qt (Qh (Qs hr.units) (dr (Qb (dv 0) (dr (QU T.g_USED rfl)))) dq (Qg _)) (So (Qm (Qx 0))) Sn) (So (Qm (Qu (Du (Qb (dv 0) (dr (QU T.g_PAGE rfl))) (Db (Qa Qe (dr (Qb (dv 0) (dr (QU T.g_LINE rfl)))) dq) (Dk Qj (Du (Qb (dv 0) (dr (QU T.g_FOOT rfl))) Dz)))) lz4)))))
theorem Qjv:FnScope QeQ Vx (Qc Qcl):=by constructor<;>first | rfl | decide +kernel
theorem QjF (h:Df K mg "put_block" Qcl Vx) (T:Txt K mg) (c_bare:QcD P w K mg base) (c_end_line:QdM P w K mg base) (c_has_height:QbZ P w K mg base):Qcz P w K mg base :=
 okD QeQ Vx Qcs 1 h Qjv (fun nd=>fun hr=>(by refine Ss (O1:=[]) ?_ ?_;exact (Qi 4 nd (dc c_end_line hr (dn 1 Dz)));exact (by refine Ss (O1:=[]) ?_ ?_;exact (Qt (Vv (Jk (dr (dc c_has_height hr (dn 0 (dn 4 (Db (Qa Qe (dv 2) (dv 3)) Dz))))))) (So (Qi 4 nd (dc c_bare hr (Db (Qa Qe (dr (Qb (dv 4) (dr (QU T.g_PAGE rfl)))) dq) Dz)))) Sn);exact (Ss (O1:=[]) (Qi 5 nd (Qu (Du (Qb (dv 4) (dr (QU T.g_PAGE rfl))) (Du (Qb (dv 4) (dr (QU T.g_LINE rfl))) (Dk Qj Dz))) lz3)) (So (Qm (Qu (dn 5 (Dt (Qu (Du (Qb (dv 4) (dr (QU T.g_PAGE rfl))) (Db (Qa Qe (dr (Qb (dv 4) (dr (QU T.g_LINE rfl)))) (dv 2)) (Dk Qj (Du (Qb (dv 4) (dr (QU T.g_FOOT rfl))) Dz)))) lz4) Dz)) lz2)))))))
theorem Qj9:FnScope YF YF (Qc Qdm):=by constructor<;>first | rfl | decide +kernel
theorem Qkm (h:Df K mg "new_page" Qdm YF) (T:Txt K mg) (c_bare:QcD P w K mg base):QdL P w K mg base :=
 okD YF YF QdC 1 h Qj9 (fun nd=>fun hr=>(Ss (O1:=[]) (Qt (Qh (Qs hr.units) (dv 0) (dr (dc c_bare hr (Du (Qb (dv 0) (dr (QU T.g_PAGE rfl))) Dz))) (Qg _)) (So (Qm (Qx 0))) Sn) (So (Qm (dc c_bare hr (Db (Qa Qe (dr (Qb (dv 0) (dr (QU T.g_PAGE rfl)))) dq) Dz))))))
theorem Qg2:FnScope QdQ YQ (Qc Qa5):=by constructor<;>first | rfl | decide +kernel
theorem Qg4 (h:Df K mg "new_chapter" Qa5 YQ) (T:Txt K mg) (c_bare:QcD P w K mg base) (c_new_page:QdL P w K mg base):Qa7 P w K mg base :=
 okD QdQ YQ Qa6 2 h Qg2 (fun nd=>fun hr=>(by refine Ss (O1:=[]) ?_ ?_;exact (Qi 2 nd (dc c_new_page hr (dn 1 Dz)));exact (by refine Ss (O1:=[]) ?_ ?_;exact (Qt (PW.pt (ZK (Jk (dr (Qb (dv 0) (dr (QU T.g_ODD rfl))))) (JG (Qh (Qs hr.units) (dr (Qa QR (dr (Qb (dv 2) (dr (QU T.g_PAGE rfl)))) dq)) dq (Qg _))))) (So (Qm (dc c_bare hr (Db (Qa Qe (dr (Qb (dv 2) (dr (QU T.g_PAGE rfl)))) dq) Dz)))) Sn);exact (So (Qm (Qx 2))))))
theorem QhR:FnScope Qes Vi (Qc QbT):=by constructor<;>first | rfl | decide +kernel
theorem QhW (h:Df K mg "put_plates" QbT Vi) (T:Txt K mg) (c_bare:QcD P w K mg base) (c_new_page:QdL P w K mg base):Qet P w K mg base :=
 okD Qes Vi QbW 2 h QhR (fun nd=>fun hr=>(Ss (O1:=[]) (Qi 2 nd (Qb (dr (dc c_new_page hr (dn 0 Dz))) (dr (QU T.g_PAGE rfl)))) (So (Qm (Qu (Dt (Qu (dn 2 (Dk Qj (Dk Qj Dz))) lz3) (Dl (dc c_bare hr (Db (Qa Qe (dv 2) (dv 1)) Dz)) Dz)) lz2)))))
theorem Qkc:FnScope YI YI (Qc Qdp):=by constructor<;>first | rfl | decide +kernel
theorem Qkp (h:Df K mg "is_style" Qdp YI) (T:Txt K mg):Qgf P w K mg base :=
 okD YI YI QdF 0 h Qkc (fun nd=>fun hr=>(So (Qm (QcC (dr (Qi6 (Va hr.units0) (Va hr.units0) dq (dr (Qb (dv 0) (dr (QU T.g_WIDTH rfl)))) dq)) (Qbx (Qi6 (Va hr.units0) (Va hr.units0) dq (dr (Qb (dv 0) (dr (QU T.g_HEIGHT rfl)))) dq))))))
theorem Qjx:FnScope Yh Yh (Qc Qcm):=by constructor<;>first | rfl | decide +kernel
theorem QjH (h:Df K mg "is_titled" Qcm Yh) (T:Txt K mg):QaS P w K mg base :=
 okD Yh Yh Qcu 0 h Qjx (fun nd=>fun hr=>(So (Qm (Zi QfK (dr (Qb (dv 0) dq)) (dr (Qu (Dk Qf (Dk Qf Dz)) lz2)) (by with_unfolding_all rfl)))))
theorem Qnm:FnScope VL VL (Qc Qe8):=by constructor<;>first | rfl | decide +kernel
theorem QnD (h:Df K mg "is_set" Qe8 VL) (T:Txt K mg):Qdi P w K mg base :=
 okD VL VL Qfn 0 h Qnm (fun nd=>fun hr=>(So (Qm (Zi QfK (dr (Qb (dv 0) dq)) (dr (Qu (Dk Qf (Dk Qf Dz)) lz2)) (by with_unfolding_all rfl)))))
theorem Qka:FnScope YG YG (Qc Qdn):=by constructor<;>first | rfl | decide +kernel
theorem Qkn (h:Df K mg "label_of" Qdn YG) (T:Txt K mg):Qge P w K mg base :=
 okD YG YG QdD 0 h Qka (fun nd=>fun hr=>(So (Qm (Qic (Qh (Qs hr.units) (dr (Qb (dv 0) dq)) (dr Qf) (Qg _)) Qf (Qb (dv 0) (dr (QfP dq)))))))
theorem Qkb:FnScope YH YH (Qc Qdo):=by constructor<;>first | rfl | decide +kernel
theorem Qko (h:Df K mg "items_of" Qdo YH) (T:Txt K mg):Qbi P w K mg base :=
 okD YH YH QdE 0 h Qkb (fun nd=>fun hr=>(So (Qm (Qic (Qh (Qs hr.units) (dr (Qb (dv 0) dq)) (dr Qf) (Qg _)) (Qb (dv 0) dq) (Jc Dz lz0)))))
theorem Qqk:FnScope Qnc QdZ (Qc QfI):=by constructor<;>first | rfl | decide +kernel
theorem QqJ (h:Df K mg "refs" QfI QdZ) (T:Txt K mg) (c_items_of:Qbi P w K mg base):QiF P w K mg base :=
 okD Qnc QdZ Qiv 1 h Qqk (fun nd=>fun hr=>(by refine Ss (O1:=[1]) ?_ ?_;exact (Zd 1 nd (ZQ Dz lz0));exact (by refine Ss (O1:=[1]) ?_ ?_;exact (by refine JB rfl PassesOwn.never ?_ ?_ ?_;exact (Jo (Qx 0));exact Ql 2 nd;exact (by refine So ?_;exact (by refine QsG 1 (by decide) ?_;exact (by refine dr ?_;exact (by refine Zh ?_;exact (by refine Zp rfl rfl (JA (show Za (Qc QfI) ["book","labels","block"] _ 1 ["item"] []=true by decide +kernel)) (by decide) ?_ ?_ ?_ ?_;exact (dih (Jo (dc c_items_of hr (dn 2 Dz))));exact fun cl C ex s2 H2 pn=>Ql 0 (show List.Nodup (["item"]:List Str) by decide +kernel);exact fun cl C ex s2 H2 pn=>(VQ (Qh (Qs hr.units) (dr (Qb (dv 0) dq)) (dr Qf) (Qg _)));exact fun cl C ex s2 H2 pn=>(Qb (dv 0) dq)))))));exact (Zc 1 (So (Qm (Qx 1)))))))
theorem Qjw:FnScope Yg Yg (Qc QaL):=by constructor<;>first | rfl | decide +kernel
theorem QjG (h:Df K mg "pages_for" QaL Yg) (T:Txt K mg) (c_is_set:Qdi P w K mg base) (c_is_titled:QaS P w K mg base) (c_items_of:Qbi P w K mg base):QeV P w K mg base :=
 okD Yg Yg Qct 1 h Qjw (fun nd=>fun hr=>(by refine Ss (O1:=[]) ?_ ?_;exact (Qt (Qh (Qs hr.units) (dr (Qb (dv 0) dq)) (dr Qf) (Qg _)) (So (Qm (Qa Qe dq (dr (Qb (dv 0) dq))))) Sn);exact (by refine Ss (O1:=[]) ?_ ?_;exact (Qt (PW.pt (ZK (Jk (dr (dc c_is_titled hr (dn 0 Dz)))) (JG (Jk (dr (Qb (dv 1) (dr (QU T.g_LISTED rfl)))))))) (So (Qm Qj)) Sn);exact (by refine So ?_;exact (by refine Qm ?_;exact (by refine Qa Qe ?_ ?_;exact dq;exact (by refine dr ?_;exact (by refine Qa Zv ?_ ?_;exact dq;exact (by refine dr ?_;exact (by refine QV Qw rfl T.b_len PySem.boot_len ?_;exact (by refine dr ?_;exact (by refine Zh ?_;exact (by refine Zp rfl rfl (JA (show Za (Qc QaL) ["block","style"] _ 1 ["item"] []=true by decide +kernel)) (by decide) ?_ ?_ ?_ ?_;exact (dih (Jo (dc c_items_of hr (dn 0 Dz))));exact fun cl C ex s2 H2 pn=>Ql 0 (show List.Nodup (["item"]:List Str) by decide +kernel);exact fun cl C ex s2 H2 pn=>(VQ (Jk (dr (dc c_is_set hr (dn 0 Dz)))));exact fun cl C ex s2 H2 pn=>Qx 0)))))))))))))
theorem Qfy:FnScope Zk Zk (Qc Y4):=by constructor<;>first | rfl | decide +kernel
theorem QfB (h:Df K mg "pages_at_most" Y4 Zk) (T:Txt K mg) (c_pages_for:QeV P w K mg base):Qcc P w K mg base :=
 okD Zk Zk Qam 2 h Qfy (fun nd=>fun hr=>(by refine So ?_;exact (by refine Qm ?_;exact (by refine Qa Qe ?_ ?_;exact dq;exact (by refine dr ?_;exact (by refine QV (Qoo rfl) rfl T.b_sum PyProof.Rows.boot_sum ?_;exact (by refine dr ?_;exact (by refine Zh ?_;exact (by refine Zp rfl rfl (JA (show Za (Qc Y4) ["book","style"] _ 1 ["block","style"] [1]=true by decide +kernel)) (by decide) ?_ ?_ ?_ ?_;exact (dih (Jo (Qx 0)));exact fun cl C ex s2 H2 pn=>Ql 0 (show List.Nodup (["block","style"]:List Str) by decide +kernel);exact fun cl C ex s2 H2 pn=>Yd;exact fun cl C ex s2 H2 pn=>(dc c_pages_for hr (dn 0 (dn 1 Dz))))))))))))
theorem Qgk:FnScope Zw Zw (Qc Qau):=by constructor<;>first | rfl | decide +kernel
theorem Qgp (h:Df K mg "room_at_most" Qau Zw) (T:Txt K mg) (c_figures:QhM P w K mg base) (c_pages_at_most:Qcc P w K mg base):Qc0 P w K mg base :=
 okD Zw Zw QaB 3 h Qgk (fun nd=>fun hr=>(So (Qm (dc c_figures hr (Dl (dc c_pages_at_most hr (dn 0 (dn 1 Dz))) Dz)))))
theorem QhT:FnScope ZT ZT (Qc Qaf):=by constructor<;>first | rfl | decide +kernel
theorem QhY (h:Df K mg "any_longer" Qaf ZT) (T:Txt K mg):Qb0 P w K mg base :=
 okD ZT ZT QbY 0 h QhT (fun nd=>fun hr=>(by refine So ?_;exact (by refine Qm ?_;exact (by refine QV (Qot rfl) rfl T.b_any PyProof.Rows.boot_any ?_;exact (by refine dr ?_;exact (by refine Zh ?_;exact (by refine Zp rfl rfl (JA (show Za (Qc Qaf) ["texts","width"] _ 1 ["text","width"] [1]=true by decide +kernel)) (by decide) ?_ ?_ ?_ ?_;exact (dih (Jo (Qx 0)));exact fun cl C ex s2 H2 pn=>Ql 0 (show List.Nodup (["text","width"]:List Str) by decide +kernel);exact fun cl C ex s2 H2 pn=>Yd;exact fun cl C ex s2 H2 pn=>(Zi YN (dr (QV Qw rfl T.b_len PySem.boot_len (dv 0))) (dv 1) (Qg _)))))))))
theorem Qfz:FnScope Qcb Z5 (Qc Qak):=by constructor<;>first | rfl | decide +kernel
theorem QfE (h:Df K mg "is_wide_block" Qak Z5) (T:Txt K mg) (c_any_longer:Qb0 P w K mg base) (c_is_titled:QaS P w K mg base):Qcf P w K mg base :=
 okD Qcb Z5 ZG 1 h Qfz (fun nd=>fun hr=>(by refine Ss (O1:=[]) ?_ ?_;exact (Qt (Jk (dr (dc c_is_titled hr (dn 0 Dz)))) (Ss (O1:=[]) (Qi 3 nd (Qic (Jk (dr (Qb (dv 1) (dr (QU T.g_LISTED rfl))))) (Qa Qe dq (dv 2)) Qj)) (So (Qm (Zi YN (dr (Qa Qe (dr (QV Qw rfl T.b_len PySem.boot_len (dr (Qb (dv 0) dq)))) (dv 3))) (dr (Qb (dv 1) (dr (QU T.g_WIDTH rfl)))) (Qg _))))) Sn);exact (So (Qm (QcC (dr (Zi (Qs hr.units) (dr (Qb (dv 0) dq)) (dr Qf) (Qg _))) (Qbx (dc c_any_longer hr (Du (Qb (dv 0) dq) (Du (Qb (dv 1) (dr (QU T.g_WIDTH rfl))) Dz)))))))))
theorem Qgm:FnScope Zy Zy (Qc Qax):=by constructor<;>first | rfl | decide +kernel
theorem Qgs (h:Df K mg "is_wide_item" Qax Zy) (T:Txt K mg) (c_any_longer:Qb0 P w K mg base):Qc3 P w K mg base :=
 okD Zy Zy QaE 1 h Qgm (fun nd=>fun hr=>(by refine Ss (O1:=[]) ?_ ?_;exact (Qt (Qh (Qs hr.units) (dr (Qb (dv 0) dq)) (dr Qf) (Qg _)) (So (Qm (dc c_any_longer hr (Db (Qa Qe (dr (Jc (Du (Qb (dv 0) dq) Dz) lz1)) (dr (Qb (dv 0) dq))) (Du (Qb (dv 1) (dr (QU T.g_WIDTH rfl))) Dz))))) Sn);exact (by refine So ?_;exact (by refine Qm ?_;exact (QcC (dr (Zi (Qs hr.units) (dr (Qb (dv 0) dq)) (dr Qf) (Qg _))) (Qbx (Zi YN (dr (Qa Qe (dr (Qa Qe (dr (QV Qw rfl T.b_len PySem.boot_len (dr (Qb (dv 0) dq)))) (dv 2))) (dr (QV Qw rfl T.b_len PySem.boot_len (dr (Qb (dv 0) dq)))))) (dr (Qb (dv 1) (dr (QU T.g_WIDTH rfl)))) (Qg _))))))))
theorem QfA:FnScope Zm Zm (Qc Qal):=by constructor<;>first | rfl | decide +kernel
theorem QfF (h:Df K mg "is_high_block" Qal Zm) (T:Txt K mg):Qcg P w K mg base :=
 okD Zm Zm Qao 0 h QfA (fun nd=>fun hr=>(Ss (O1:=[]) (Qt (Qh (Qs hr.units) (dr (Qb (dv 0) dq)) (dr Qf) (Qg _)) (So (Qm (Zi YN (dr (Qa Qe (dr (Qb (dv 0) dq)) dq)) (dr (Qb (dv 1) (dr (QU T.g_HEIGHT rfl)))) (Qg _)))) Sn) (So (Qm (QcC (dr (Zi (Qs hr.units) (dr (Qb (dv 0) dq)) (dr Qf) (Qg _))) (Qbx (Zi YN (dr (QV Qw rfl T.b_len PySem.boot_len (dr (Qb (dv 0) dq)))) (dr (Qb (dv 1) (dr (QU T.g_HEIGHT rfl)))) (Qg _))))))))
theorem Qgn:FnScope Zz Zz (Qc Qay):=by constructor<;>first | rfl | decide +kernel
theorem Qgt (h:Df K mg "is_high_item" Qay Zz) (T:Txt K mg):Qc4 P w K mg base :=
 okD Zz Zz QaF 0 h Qgn (fun nd=>fun hr=>(So (Qm (QcC (dr (Zi (Qs hr.units) (dr (Qb (dv 0) dq)) (dr Qf) (Qg _))) (Qbx (Zi YN (dr (Qa Qe (dr (QV Qw rfl T.b_len PySem.boot_len (dr (Qb (dv 0) dq)))) dq)) (dr (Qb (dv 1) (dr (QU T.g_HEIGHT rfl)))) (Qg _)))))))
theorem Qen:FnScope Yj Yj (Qc Qco):=by constructor<;>first | rfl | decide +kernel
theorem QjJ (h:Df K mg "add_label" Qco Yj) (T:Txt K mg):QcA P w K mg base :=
 have nd:=(Qen).nd
 QlC (b:=Qcw) (k:=0) (N:=Yj) (ps:=Yj) (O':=[2,1002]) (OL:=[]) h Qen (by decide) (by decide) (by decide) (by decide) (by decide) (fun f cdv A outer s H E hr=>(Ss (O1:=[2,1002]) (Qt (QsF hr.units1 (dv 0) (Yr 2)) (So Ve) Sn) (So (Qra 2 (by decide) hr.units1 (dv 0) Qb3))))
theorem Qb2:FnScope Zl Zl (Qc Qaj):=by constructor<;>first | rfl | decide +kernel
theorem QfD (h:Df K mg "look_at_block" Qaj Zl) (T:Txt K mg) (c_add_label:QcA P w K mg base) (c_is_high_block:Qcg P w K mg base) (c_is_wide_block:Qcf P w K mg base) (c_label_of:Qge P w K mg base):Qce P w K mg base :=
 have nd:=(Qb2).nd
 QlC (b:=Qan) (k:=2) (N:=Zl) (ps:=Zl) (O':=[4,1004]) (OL:=[]) h Qb2 (by decide) (by decide) (by decide) (by decide) (by decide) (fun f cdv A outer s H E hr=>(by refine Ss (O1:=[4,1004]) ?_ ?_;exact (Qt (Jk (dr (dc c_is_wide_block hr (dn 0 (dn 2 (dn 3 Dz)))))) (So Ve) Sn);exact (by refine Ss (O1:=[4,1004]) ?_ ?_;exact (Qt (Jk (dr (dc c_is_high_block hr (dn 0 (dn 2 Dz))))) (So Ve) Sn);exact (by refine So ?_;exact (by refine Qt ?_ ?_ ?_;exact (Qh (Yq hr.units) (dr (dc c_label_of hr (dn 0 Dz))) (dr Qf) (Qg _));exact (by refine So ?_;exact (by refine QbR 4 (by decide) c_add_label (hr.mono (by decide)) rfl ?_;exact (by refine J3 ?_ ?_ ?_;exact (dc c_label_of hr (dn 0 Dz));exact (by refine J3 ?_ ?_ ?_;exact Qx 1;exact (Qd6 4);exact Zb);exact QgE)));exact Sn)))))
theorem Qb9:FnScope Zx Zx (Qc Qaw):=by constructor<;>first | rfl | decide +kernel
theorem Qgr (h:Df K mg "look_at_item" Qaw Zx) (T:Txt K mg) (c_add_label:QcA P w K mg base) (c_is_high_item:Qc4 P w K mg base) (c_is_wide_item:Qc3 P w K mg base):Qc2 P w K mg base :=
 have nd:=(Qb9).nd
 QlC (b:=QaD) (k:=2) (N:=Zx) (ps:=Zx) (O':=[4,1004]) (OL:=[]) h Qb9 (by decide) (by decide) (by decide) (by decide) (by decide) (fun f cdv A outer s H E hr=>(by refine Ss (O1:=[4,1004]) ?_ ?_;exact (Qt (Jk (dr (dc c_is_wide_item hr (dn 0 (dn 2 (dn 3 Dz)))))) (So Ve) Sn);exact (by refine Ss (O1:=[4,1004]) ?_ ?_;exact (Qt (Jk (dr (dc c_is_high_item hr (dn 0 (dn 2 Dz))))) (So Ve) Sn);exact (by refine So ?_;exact (by refine Qt ?_ ?_ ?_;exact (Qh (Qs hr.units) (dr (Qb (dv 0) dq)) (dr Qf) (Qg _));exact (by refine So ?_;exact (by refine QbR 4 (by decide) c_add_label (hr.mono (by decide)) rfl ?_;exact (by refine J3 ?_ ?_ ?_;exact (Qb (dv 0) dq);exact (by refine J3 ?_ ?_ ?_;exact Qx 1;exact (Qd6 4);exact Zb);exact Qem)));exact Sn)))))
theorem Qb1:FnScope Qca Z4 (Qc Y5):=by constructor<;>first | rfl | decide +kernel
theorem QfC (h:Df K mg "look_at_items" Y5 Z4) (T:Txt K mg) (c_is_set:Qdi P w K mg base) (c_look_at_item:Qc2 P w K mg base):Qcd P w K mg base :=
 have nd:=(Qb1).nd
 QlC (b:=Y8) (k:=3) (N:=Qca) (ps:=Z4) (O':=[4,1004]) (OL:=[]) h Qb1 (by decide) (by decide) (by decide) (by decide) (by decide) (fun f cdv A outer s H E hr=>(by refine Ss (O1:=[4,1004]) ?_ ?_;exact (by refine Qi 5 nd ?_;exact (by refine QV Qw rfl T.b_len PySem.boot_len ?_;exact (by refine dr ?_;exact (by refine Zh ?_;exact (by refine Zp rfl rfl (JA (show Za (Qc Y5) ["items","number","style","room","known","words_left","item"] _ 1 ["item"] []=true by decide +kernel)) (by decide) ?_ ?_ ?_ ?_;exact (dih (Jo (Qx 0)));exact fun cl C ex s2 H2 pn=>Ql 0 (show List.Nodup (["item"]:List Str) by decide +kernel);exact fun cl C ex s2 H2 pn=>(VQ (Jk (dr (dc c_is_set hr (dn 0 Dz)))));exact fun cl C ex s2 H2 pn=>Qx 0)))));exact (by refine So ?_;exact (by refine JB rfl PassesOwn.never ?_ ?_ ?_;exact (Jo (Qx 0));exact Ql 6 nd;exact (by refine Ss (O1:=[4,1004]) ?_ ?_;exact (by refine QbR 4 (by decide) c_look_at_item (hr.mono (by decide)) rfl ?_;exact (by refine J3 ?_ ?_ ?_;exact Qx 6;exact (by refine J3 ?_ ?_ ?_;exact Qx 1;exact (by refine J3 ?_ ?_ ?_;exact Qx 2;exact (by refine J3 ?_ ?_ ?_;exact Qx 3;exact (Qd6 4);exact Zb);exact Zb);exact Zb);exact Zb));exact (So (Qt (Jk (dr (dc c_is_set hr (dn 6 Dz)))) (So (Qit 5 nd (by decide) dq Qq3)) (So (Qt (Qh (Qs hr.units) (dv 5) dq (Qg _)) (So Ve) Sn)))))))))
theorem Qgl:FnScope QcY Yv (Qc Qav):=by constructor<;>first | rfl | decide +kernel
theorem Qgq (h:Df K mg "look_at_refs" Qav Yv) (T:Txt K mg) (c_refs:QiF P w K mg base):Qc1 P w K mg base :=
 okD QcY Yv QaC 2 h Qgl (fun nd=>fun hr=>(by refine So ?_;exact (JB rfl PassesOwn.never (QeF rfl T.b_enumerate (Qx 0)) (ZL rfl (QL (O1:=[]) (Ql 2 nd) (QL (O1:=[]) (Ql 3 nd) Zn)) rfl) (So (JB rfl PassesOwn.never (Jo (dc c_refs hr (VR (Jc (dn 3 Dz) lz1) Dz))) (Ql 4 nd) (So (Qt (Qn7 hr.units1 (dv 4) (dv 1)) (So Ve) Sn)))))))
theorem Qql:FnScope Qnd Qd0 (Qc Qik):=by constructor<;>first | rfl | decide +kernel
theorem QqK (h:Df K mg "look" Qik Qd0) (T:Txt K mg) (c_is_style:Qgf P w K mg base) (c_items_of:Qbi P w K mg base) (c_look_at_block:Qce P w K mg base) (c_look_at_items:Qcd P w K mg base) (c_look_at_refs:Qc1 P w K mg base) (c_room_at_most:Qc0 P w K mg base):Qnf P w K mg base :=
 okD Qnd Qd0 Qiw 4 h Qql (fun nd=>fun hr=>(by refine Ss (O1:=[]) ?_ ?_;exact (Qt (Vv (Jk (dr (dc c_is_style hr (dn 1 Dz))))) (So Ve) Sn);exact (by refine Ss (O1:=[]) ?_ ?_;exact (Qi 2 nd (dc c_room_at_most hr (dn 0 (dn 1 Dz))));exact (by refine Ss (O1:=[3]) ?_ ?_;exact (Zd 3 nd Qrm);exact (by refine Ss (O1:=[3]) ?_ ?_;exact (by refine JB rfl PassesOwn.never ?_ ?_ ?_;exact (QeF rfl T.b_enumerate (Qx 0));exact (ZL rfl (QL (O1:=[3]) (Ql 4 nd) (QL (O1:=[3]) (Ql 5 nd) Zn)) rfl);exact (by refine Ss (O1:=[3]) ?_ ?_;exact (by refine QbR 3 (by decide) c_look_at_block (hr.mono (by decide)) rfl ?_;exact (by refine J3 ?_ ?_ ?_;exact Qx 5;exact (by refine J3 ?_ ?_ ?_;exact Qx 4;exact (by refine J3 ?_ ?_ ?_;exact Qx 1;exact (by refine J3 ?_ ?_ ?_;exact Qx 2;exact (Qd6 3);exact Zb);exact Zb);exact Zb);exact Zb));exact (by refine So ?_;exact (by refine QbR 3 (by decide) c_look_at_items (hr.mono (by decide)) rfl ?_;exact (by refine J3 ?_ ?_ ?_;exact (dc c_items_of hr (dn 5 Dz));exact (by refine J3 ?_ ?_ ?_;exact Qx 4;exact (by refine J3 ?_ ?_ ?_;exact Qx 1;exact (by refine J3 ?_ ?_ ?_;exact Qx 2;exact (Qd6 3);exact Zb);exact Zb);exact Zb);exact QgE)))));exact (Zc 3 (So (Qle (dc c_look_at_refs hr (dn 0 (dn 3 Dz)))))))))))
theorem Qgj:FnScope QcX Yu (Qc Qat):=by constructor<;>first | rfl | decide +kernel
theorem Qgo (h:Df K mg "set_contents" Qat Yu) (T:Txt K mg) (c_bare:QcD P w K mg base) (c_is_titled:QaS P w K mg base) (c_new_chapter:Qa7 P w K mg base) (c_put_block:Qcz P w K mg base):QcZ P w K mg base :=
 okD QcX Yu QaA 3 h Qgj (fun nd=>fun hr=>(by refine Ss (O1:=[2]) ?_ ?_;exact (Zd 2 nd (ZQ Dz lz0));exact (by refine Ss (O1:=[2]) ?_ ?_;exact (Qi 3 nd (dc c_bare hr (Dk Qj Dz)));exact (by refine Ss (O1:=[2]) ?_ ?_;exact (Qt (Vv (Jk (dr (Qb (dv 1) (dr (QU T.g_LISTED rfl)))))) (Zc 2 (So (Qm (Qu (dn 2 (dn 3 Dz)) lz2)))) Sn);exact (by refine Ss (O1:=[2]) ?_ ?_;exact (by refine JB rfl PassesOwn.never ?_ ?_ ?_;exact (Jo (Qx 0));exact Ql 4 nd;exact (by refine So ?_;exact (Qt (Jk (dr (dc c_is_titled hr (dn 4 Dz)))) (Ss (O1:=[2]) (Qi 5 nd (dc c_put_block hr (dn 1 (dn 3 (Dk Qj (Dk Qj Dz)))))) (Ss (O1:=[2]) (JY 2 (by decide) (Qb (dv 5) dq)) (So (Qi 3 nd (Qb (dv 5) dq))))) Sn)));exact (Ss (O1:=[2]) (Qt (Qh YN (dr (QV Qw rfl T.b_len PySem.boot_len (Yr 2))) dq (Qg _)) (So (Qi 3 nd (dc c_new_chapter hr (dn 1 (dn 3 Dz))))) Sn) (Zc 2 (So (Qm (Qu (dn 2 (dn 3 Dz)) lz2))))))))))
theorem Qjt:FnScope QeP Vw (Qc Qcj):=by constructor<;>first | rfl | decide +kernel
theorem QjD (h:Df K mg "set_items" Qcj Vw) (T:Txt K mg) (c_end_line:QdM P w K mg base) (c_is_set:Qdi P w K mg base) (c_put_word:Qgd P w K mg base):QeT P w K mg base :=
 okD QeP Vw Qcq 2 h Qjt (fun nd=>fun hr=>(by refine Ss (O1:=[4]) ?_ ?_;exact (Zd 4 nd (ZQ Dz lz0));exact (by refine Ss (O1:=[4]) ?_ ?_;exact (Qi 5 nd Qj);exact (by refine Ss (O1:=[4]) ?_ ?_;exact (by refine JB rfl PassesOwn.never ?_ ?_ ?_;exact (Jo (Qx 0));exact Ql 6 nd;exact (by refine So ?_;exact (by refine Qt ?_ ?_ ?_;exact (Jk (dr (dc c_is_set hr (dn 6 Dz))));exact (by refine Ss (O1:=[4]) ?_ ?_;exact (by refine Qt ?_ ?_ ?_;exact (Qh (Qs hr.units) (dr (Qb (dv 6) dq)) (dr Qf) (Qg _));exact (Ss (O1:=[4]) (Qi 7 nd (Qa Qe (dr (Qa Qe (dr (QV Qw rfl T.b_len PySem.boot_len (dr (Qb (dv 6) dq)))) (dr (Qb (dv 3) (dv 5))))) (dr (QV Qw rfl T.b_len PySem.boot_len (dr (Qb (dv 6) dq)))))) (Ss (O1:=[4]) (Qi 8 nd (dc c_put_word hr (dn 1 (dn 2 (dn 7 (Dk Qj Dz)))))) (So (Qit 5 nd (by decide) dq Qk4))));exact (So (Qi 8 nd (dc c_put_word hr (dn 1 (dn 2 (Dl (QV Qw rfl T.b_len PySem.boot_len (dr (Qb (dv 6) dq))) (Dl (QV Qw rfl T.b_len PySem.boot_len (dr (Qb (dv 6) dq))) Dz))))))));exact (Ss (O1:=[4]) (JY 4 (by decide) (Qb (dv 8) dq)) (So (Qi 2 nd (Qb (dv 8) dq)))));exact Sn)));exact (Zc 4 (So (Qm (Qu (dn 4 (Dl (dc c_end_line hr (dn 2 Dz)) Dz)) lz2))))))))
theorem Qju:FnScope Ye Ye (Qc Qck):=by constructor<;>first | rfl | decide +kernel
theorem QjE (h:Df K mg "set_block" Qck Ye) (T:Txt K mg) (c_new_chapter:Qa7 P w K mg base) (c_put_block:Qcz P w K mg base) (c_put_plates:Qet P w K mg base):QeU P w K mg base :=
 okD Ye Ye Qcr 3 h Qju (fun nd=>fun hr=>(by refine Ss (O1:=[]) ?_ ?_;exact (Qt (Qh (Qs hr.units) (dr (Qb (dv 0) dq)) (dr Qf) (Qg _)) (So (Qm (dc c_put_plates hr (dn 2 (Du (Qb (dv 0) dq) Dz))))) Sn);exact (by refine Ss (O1:=[]) ?_ ?_;exact (Qt (Qh (Qs hr.units) (dr (Qb (dv 0) dq)) (dr Qf) (Qg _)) (So (Qm (dc c_put_block hr (dn 1 (dn 2 (Dl (QV Qw rfl T.b_len PySem.boot_len (dr (Qb (dv 0) dq))) (Dk Qj Dz))))))) Sn);exact (Ss (O1:=[]) (Qt (Qh (Qs hr.units) (dr (Qb (dv 0) dq)) (dr Qf) (Qg _)) (So (Qm (dc c_put_block hr (dn 1 (dn 2 (Dk Qj (Du (Qb (dv 0) dq) Dz))))))) Sn) (So (Qm (dc c_put_block hr (dn 1 (Dl (dc c_new_chapter hr (dn 1 (dn 2 Dz))) (Dk Qj (Dk Qj Dz)))))))))))
theorem Qj7:FnScope Qf7 V5 (Qc Qdk):=by constructor<;>first | rfl | decide +kernel
theorem Qkk (h:Df K mg "set_book" Qdk V5) (T:Txt K mg) (c_refs:QiF P w K mg base) (c_set_block:QeU P w K mg base) (c_set_contents:QcZ P w K mg base) (c_set_items:QeT P w K mg base):Qgc P w K mg base :=
 okD Qf7 V5 QdA 4 h Qj7 (fun nd=>fun hr=>(by refine Ss (O1:=[]) ?_ ?_;exact (Qi 3 nd (dc c_set_contents hr (dn 0 (dn 1 Dz))));exact (by refine Ss (O1:=[4]) ?_ ?_;exact (Zd 4 nd (ZQ (Du (Qb (dv 3) dq) Dz) lz1));exact (by refine Ss (O1:=[4]) ?_ ?_;exact (Qi 5 nd (Qb (dv 3) dq));exact (by refine Ss (O1:=[4]) ?_ ?_;exact (Qi 6 nd Qj);exact (by refine Ss (O1:=[4]) ?_ ?_;exact (by refine JB rfl PassesOwn.never ?_ ?_ ?_;exact (Jo (Qx 0));exact Ql 7 nd;exact (by refine Ss (O1:=[4]) ?_ ?_;exact (by refine Qt ?_ ?_ ?_;exact (Qh (Qs hr.units) (dr (Qb (dv 7) dq)) (dr Qf) (Qg _));exact (Ss (O1:=[4]) (Qi 3 nd (dc c_set_items hr (Du (Qb (dv 7) dq) (dn 1 (dn 5 (Du (YT (dv 2) (Ys (dv 6)) Vo) Dz)))))) (Ss (O1:=[4]) (JY 4 (by decide) (Qb (dv 3) dq)) (So (Qit 6 nd (by decide) (dr (QV Qw rfl T.b_len PySem.boot_len (dr (dc c_refs hr (VR (Jc (dn 7 Dz) lz1) Dz))))) Qk4))));exact (Ss (O1:=[4]) (Qi 3 nd (dc c_set_block hr (dn 7 (dn 1 (dn 5 Dz))))) (So (JY 4 (by decide) (Jc (Du (Qb (dv 3) dq) Dz) lz1)))));exact (So (Qi 5 nd (Qb (dv 3) dq)))));exact (Zc 4 (So (Qm (Qx 4))))))))))
theorem Qqm:FnScope Qbt Qbt (Qc Qil):=by constructor<;>first | rfl | decide +kernel
theorem QqL (h:Df K mg "laid" Qil Qbt) (T:Txt K mg) (c_look:Qnf P w K mg base) (c_set_book:Qgc P w K mg base):Qng P w K mg base :=
 okD Qbt Qbt Qix 5 h Qqm (fun nd=>fun hr=>(Ss (O1:=[]) (Qle (dc c_look hr (dn 0 (dn 1 Dz)))) (So (Qm (dc c_set_book hr (dn 0 (dn 1 (dn 2 Dz))))))))
theorem Qkh:FnScope YK YK (Qc Qdu):=by constructor<;>first | rfl | decide +kernel
theorem Qku (h:Df K mg "_law_cell_at" Qdu YK) (T:Txt K mg):QdN P w K mg base :=
 okD YK YK QdK 0 h Qkh (fun nd=>fun hr=>(Ss (O1:=[]) (Qt (Qh Qip (dv 1) (dr (QV Qw rfl T.b_len PySem.boot_len (dv 0))) (Qg _)) (So (Qm (Qb (dv 0) (dv 1)))) Sn) (So (Qm Qj))))
theorem Qnn:FnScope VM VM (Qc Qe9):=by constructor<;>first | rfl | decide +kernel
theorem QnE (h:Df K mg "_law_whole" Qe9 VM) (T:Txt K mg):Qjl P w K mg base :=
 okD VM VM Qfo 0 h Qnn (fun nd=>fun hr=>(So (Qm (QcC (dr (QcT (Qq1 _) rfl T.b_isinstance PyProof.Rows.boot_isinstance rfl T.b_int PyProof.Rows.boot_int (dv 0))) (Qbx (QsM (dr (QcT (Qpq _) rfl T.b_isinstance PyProof.Rows.boot_isinstance rfl T.b_bool PyProof.Rows.boot_bool (dv 0)))))))))
theorem Qqo:FnScope Qne Qd1 (Qc Qin):=by constructor<;>first | rfl | decide +kernel
theorem QqN (h:Df K mg "_law_mix" Qin Qd1) (T:Txt K mg):QcE P w K mg base :=
 okD Qne Qd1 Qiz 0 h Qqo (fun nd=>fun hr=>(Ss (O1:=[]) (Qi 2 nd (Qa QR (dr (Qa Zv (dr (Qa Qe (dr (Qa Qe (dr (Qa QR (dv 0) dq)) (dr (Qa Zv (dr (Qa Zv (dv 1) (dv 1))) dq)))) dq)) dq)) dq)) (So (Qm (Qa QR (dr (Qa Qe (dr (Qa Zv (dv 2) (dv 2))) (dr (Qa Zv dq (dv 1))))) dq)))))
theorem Qnr:FnScope Qjh QbG (Qc Qfc):=by constructor<;>first | rfl | decide +kernel
theorem QnI (h:Df K mg "_law_label" Qfc QbG) (T:Txt K mg):Qjp P w K mg base :=
 okD Qjh QbG Qjc 0 h Qnr (fun nd=>fun hr=>(by refine Ss (O1:=[]) ?_ ?_;exact (Qi 1 nd Qf);exact (by refine So ?_;exact (by refine Qm ?_;exact (Qa Qe (dr (Qa Qe (dr (Qa Qe (dr (YT (dr Qf) Vo (Ys (dr (Qa QR (dr (Qa Zv (dv 0) dq)) dq))))) (dr (Qb (dv 1) (dr (Qa QR (dr (Qa JE (dv 0) dq)) dq)))))) (dr (Qb (dv 1) (dr (Qa QR (dv 0) dq)))))) (dr (YT (dr Qf) Vo (Ys (dr (Qa QR (dr (Qa Zv (dv 0) dq)) dq))))))))))
theorem Ql6:FnScope QhJ QaU (Qc Qec):=by constructor<;>first | rfl | decide +kernel
theorem Qmf (h:Df K mg "_law_plates" Qec QaU) (T:Txt K mg):QhN P w K mg base :=
 okD QhJ QaU Qej 0 h Ql6 (fun nd=>fun hr=>(by refine Ss (O1:=[]) ?_ ?_;exact (Qi 2 nd Qj);exact (by refine Ss (O1:=[]) ?_ ?_;exact (JB rfl PassesOwn.never (V4 rfl T.b_range (dr (Qa QR (dr (Qa JE (dv 1) dq)) dq))) (Ql 3 nd) (So (Qi 2 nd (Qa Zv (dv 2) dq))));exact (by refine Ss (O1:=[]) ?_ ?_;exact (Qt (Qh (Qs hr.units) (dr (Qa QR (dr (Qa JE (dv 1) dq)) dq)) dq (Qg _)) (So (Qi 2 nd (Qa QkU dq dq))) Sn);exact (by refine So ?_;exact (by refine Qm ?_;exact (by refine Qb ?_ ?_;exact (by refine dr ?_;exact (by refine Jc ?_ ?_;exact (Db (Qa Qe dq (dr (Qa QR (dr (Qa JE (dv 1) dq)) dq))) (Db (Qa Vn (dr (Qa Vn (dv 2) dq)) (dr (Qa QR (dr (Qa JE (dv 1) dq)) dq))) (Db (Qa Qe dq (dr (Qa QR (dv 0) (dr (Qa QkU dq dq))))) Dz)));exact lz3));exact (dr (Qa QR (dr (Qa JE (dv 1) dq)) dq)))))))))
theorem Qno:FnScope Qje QbD (Qc Qfa):=by constructor<;>first | rfl | decide +kernel
theorem QnF (h:Df K mg "_law_signs" Qfa QbD) (T:Txt K mg):Qjm P w K mg base :=
 okD Qje QbD Qfp 0 h Qno (fun nd=>fun hr=>(by refine Ss (O1:=[]) ?_ ?_;exact (Qi 3 nd Qf);exact (by refine Ss (O1:=[]) ?_ ?_;exact (Qi 3 nd (Qa Qe (dv 3) (dr Qf)));exact (by refine Ss (O1:=[]) ?_ ?_;exact (Qi 4 nd Qf);exact (by refine Ss (O1:=[]) ?_ ?_;exact (by refine JB rfl PassesOwn.never ?_ ?_ ?_;exact (V4 rfl T.b_range (dv 1));exact Ql 5 nd;exact (by refine Ss (O1:=[]) ?_ ?_;exact (Qi 6 nd (Qa Qe (dr (Qa Qe (dr (Qa JE (dv 0) dq)) (dr (Qa Zv (dv 5) (dr (Qa Qe dq (dr (Qa QR (dv 0) dq)))))))) (dr (Qa Zv (dv 5) (dv 5)))));exact (by refine Ss (O1:=[]) ?_ ?_;exact (Qi 7 nd (Qb (dv 3) (dr (Qa QR (dv 6) (dr (Qa Qe (dr (Qa Vn (dr (QV Qw rfl T.b_len PySem.boot_len (dv 3))) dq)) (dv 2)))))));exact (Ss (O1:=[]) (Qt (PW.pt (ZK (Qh (Qs hr.units) (dv 2) dq (Qg _)) (JG (Qh (Qs hr.units) (dr (Qa QR (dr (Qa Qe (dr (Qa JE (dv 0) dq)) (dv 5))) dq)) dq (Qg _))))) (So (Qi 7 nd Qf)) Sn) (So (Qi 4 nd (Qa Qe (dv 4) (dv 7))))))));exact (So (Qm (Qx 4))))))))
theorem QoS:FnScope Qls QcM (Qc QcG):=by constructor<;>first | rfl | decide +kernel
theorem Qpb (h:Df K mg "_law_atom" QcG QcM) (T:Txt K mg) (c_Llabel:Qjp P w K mg base) (c_Lmix:QcE P w K mg base) (c_Lplates:QhN P w K mg base) (c_Lsigns:Qjm P w K mg base):Qlx P w K mg base :=
 okD Qls QcM QgW 1 h QoS (fun nd=>fun hr=>(by refine Ss (O1:=[]) ?_ ?_;exact (Qi 2 nd (dc c_Lmix hr (dn 0 (Db (Qa Qe (dv 1) dq) Dz))));exact (by refine Ss (O1:=[]) ?_ ?_;exact (Qi 3 nd (Qa QR (dv 2) dq));exact (by refine Ss (O1:=[]) ?_ ?_;exact (Qi 4 nd (Qa Qe dq (dr (Qa QR (dr (Qa JE (dv 2) dq)) (dr (Qb (dr (Jc (Dk Qj (Dk Qj Dz)) lz2)) (dr (QfO QhD rfl T.b_int PyProof.Rows.boot_int (dr (Zi (Qs hr.units) (dr (Qa QR (dr (Qa JE (dv 2) dq)) dq)) dq (Qg _)))))))))));exact (by refine Ss (O1:=[]) ?_ ?_;exact (Qi 5 nd (Qa Qe dq (dr (Qa QR (dr (Qa JE (dv 2) dq)) (dr (Qb (dr (Jc (Dk Qj (Dk Qj Dz)) lz2)) (dr (QfO QhD rfl T.b_int PyProof.Rows.boot_int (dr (Zi (Qs hr.units) (dr (Qa QR (dr (Qa JE (dv 2) dq)) dq)) dq (Qg _)))))))))));exact (by refine Ss (O1:=[]) ?_ ?_;exact (Qi 6 nd (dc c_Lsigns hr (Db (Qa JE (dv 2) dq) (dn 4 (Dk Qj Dz)))));exact (by refine Ss (O1:=[]) ?_ ?_;exact (Qi 7 nd (dc c_Lsigns hr (Db (Qa JE (dv 2) dq) (dn 4 (Dk Qj Dz)))));exact (by refine Ss (O1:=[]) ?_ ?_;exact (Qi 8 nd (dc c_Llabel hr (dn 1 Dz)));exact (by refine Ss (O1:=[]) ?_ ?_;exact (Qi 9 nd (Qx 8));exact (by refine Ss (O1:=[]) ?_ ?_;exact (Qt (Qh (Qs hr.units) (dr (Qa QR (dr (Qa JE (dv 2) dq)) dq)) dq (Qg _)) (So (Qi 9 nd Qf)) Sn);exact (by refine Ss (O1:=[]) ?_ ?_;exact (Qt (Qh (Qs hr.units) (dv 3) dq (Qg _)) (So (Qm (Qu (Dk Qf (Db (Qa Qe (dr (Qb (dv 7) dq)) (dr (Qi5 (dv 6)))) (dn 9 Dz))) lz3))) Sn);exact (by refine Ss (O1:=[]) ?_ ?_;exact (Qt (Qh (Qs hr.units) (dv 3) dq (Qg _)) (So (Qm (Qu (Dk Qf (Db (Qa Qe (dr (Qb (dv 7) dq)) (dr (Qi5 (dv 6)))) (Db (Qa Vn (dv 5) dq) (dn 9 Dz)))) lz4))) Sn);exact (by refine Ss (O1:=[]) ?_ ?_;exact (by refine Qt ?_ ?_ ?_;exact (Qh (Qs hr.units) (dv 3) dq (Qg _));exact (by refine So ?_;exact (by refine Qm ?_;exact (by refine Qu ?_ ?_;exact (by refine Dk ?_ ?_;exact Qf;exact (by refine QaR ?_ ?_;exact (by refine Zh ?_;exact (by refine Zp rfl rfl (JA (show Za (Qc QcG) ["_law_cell","_law_k","_law_number","_law_kind","_law_size","_law_many","_law_text","_law_word_here","_law_label_here","_law_name"] _ 1 ["_law_j","_law_text","_law_size"] [6,4]=true by decide +kernel)) (by decide) ?_ ?_ ?_ ?_;exact (dih (V4 rfl T.b_range (dv 5)));exact fun cl C ex s2 H2 pn=>Ql 0 (show List.Nodup (["_law_j","_law_text","_law_size"]:List Str) by decide +kernel);exact fun cl C ex s2 H2 pn=>Yd;exact fun cl C ex s2 H2 pn=>(YT (dv 1) Vo (Ys (dr (Qa9 (Z3 rfl) rfl T.b_max PyProof.Rows.boot_max dq (dr (Qa Vn (dv 2) (dv 0)))))))));exact (dn 9 Dz)));exact lz3)));exact Sn);exact (by refine Ss (O1:=[]) ?_ ?_;exact (Qt (Qh (Qs hr.units) (dv 3) dq (Qg _)) (So (Qm (Qu (Dk Qf (Dl (dc c_Lplates hr (dn 0 (dn 2 Dz))) (dn 9 Dz))) lz3))) Sn);exact (by refine Ss (O1:=[]) ?_ ?_;exact (Qt (Qh (Qs hr.units) (dv 3) dq (Qg _)) (So (Qm (Qu (Dk Qf (Dk Qf (Dk Qf Dz))) lz3))) Sn);exact (by refine Ss (O1:=[]) ?_ ?_;exact (Qt (Qh Qip (dv 3) dq (Qg _)) (So (Qm (Qu (Dk Qf (dn 8 Dz)) lz2))) Sn);exact (by refine Ss (O1:=[]) ?_ ?_;exact (Qt (Qh (Qs hr.units) (dv 3) dq (Qg _)) (So (Qm (Qu (Dk Qf (Du (YT (dr (Qa Zv (dv 7) dq)) Vo (Ys (dr (Qa Qe dq (dr (Qa QR (dr (Qa JE (dv 2) dq)) dq)))))) Dz)) lz2))) Sn);exact (by refine Ss (O1:=[]) ?_ ?_;exact (by refine Qt ?_ ?_ ?_;exact (Qh Qip (dv 3) dq (Qg _));exact (by refine So ?_;exact (by refine Qm ?_;exact (by refine Qu ?_ ?_;exact (by refine Dk ?_ ?_;exact Qf;exact (Dk Qf (Du (YT (dv 7) Vo (Ys (dr (Qa QR (dr (Qa JE (dv 2) dq)) dq)))) (Dl (dc c_Lsigns hr (Db (Qa JE (dv 2) dq) (Db (Qa QR (dr (Qa JE (dv 2) dq)) dq) (Dk Qj Dz)))) Dz))));exact lz4)));exact Sn);exact (by refine Ss (O1:=[]) ?_ ?_;exact (by refine Qt ?_ ?_ ?_;exact (Qh (Qs hr.units) (dv 3) dq (Qg _));exact (by refine So ?_;exact (by refine Qm ?_;exact (by refine Qu ?_ ?_;exact (by refine Dk ?_ ?_;exact Qf;exact (by refine Qlg ?_ ?_;exact Qx 7;exact (by refine QaR ?_ ?_;exact (by refine Zh ?_;exact (by refine Zp rfl rfl (JA (show Za (Qc QcG) ["_law_cell","_law_k","_law_number","_law_kind","_law_size","_law_many","_law_text","_law_word_here","_law_label_here","_law_name"] _ 1 ["_law_j","_law_text"] [6]=true by decide +kernel)) (by decide) ?_ ?_ ?_ ?_;exact (dih (V4 rfl T.b_range (dv 5)));exact fun cl C ex s2 H2 pn=>Ql 0 (show List.Nodup (["_law_j","_law_text"]:List Str) by decide +kernel);exact fun cl C ex s2 H2 pn=>Yd;exact fun cl C ex s2 H2 pn=>(YT (dv 1) (Ys (dv 0)) Vo)));exact Dz)));exact lz3)));exact Sn);exact (So (Qm (Qu (Dk Qf (dn 7 (VR (Jc Dz lz0) Dz))) lz3))))))))))))))))))))))
theorem Qkf:FnScope Qga V8 (Qc Qds):=by constructor<;>first | rfl | decide +kernel
theorem Qks (h:Df K mg "_law_pointed" Qds V8) (T:Txt K mg) (c_Lmix:QcE P w K mg base):Qgh P w K mg base :=
 okD Qga V8 QdI 1 h Qkf (fun nd=>fun hr=>(by refine Ss (O1:=[2]) ?_ ?_;exact (Zd 2 nd (ZQ Dz lz0));exact (by refine Ss (O1:=[2]) ?_ ?_;exact (by refine JB rfl PassesOwn.never ?_ ?_ ?_;exact (Jo (Qx 0));exact Ql 3 nd;exact (by refine So ?_;exact (by refine Qt ?_ ?_ ?_;exact (Qh (Qs hr.units) (dr (Qb (dv 3) dq)) (dr Qf) (Qg _));exact (So (JY 2 (by decide) (Qb (dv 3) dq)));exact (by refine So ?_;exact (Qt (PW.pt (ZK (Qh Qhh (dr (Qb (dv 3) dq)) (dr (Jc (Dk Qf (Dk Qf (Dk Qf (Dk Qf Dz)))) lz4)) (by with_unfolding_all rfl)) (JG (Qh (Yq hr.units) (dr (Qb (dv 3) (dr (QfP dq)))) (dr Qf) (Qg _))))) (So (JY 2 (by decide) (Qb (dv 3) (dr (QfP dq))))) Sn)))));exact (by refine Ss (O1:=[2,4]) ?_ ?_;exact (Zd 4 nd (ZQ Dz lz0));exact (by refine Ss (O1:=[2,4]) ?_ ?_;exact (by refine JB rfl PassesOwn.never ?_ ?_ ?_;exact (QeF rfl T.b_enumerate (Qx 0));exact (ZL rfl (QL (O1:=[2,4]) (Ql 5 nd) (QL (O1:=[2,4]) (Ql 3 nd) Zn)) rfl);exact (by refine So ?_;exact (by refine Qt ?_ ?_ ?_;exact (PW.pt (ZK (Qh (Qs hr.units) (dr (Qb (dv 3) dq)) (dr Qf) (Qg _)) (JG (Qh (Qs hr.units) (Yr 2) (dr (Jc Dz lz0)) (Qg _)))));exact (So (JY 4 (by decide) (Qu (Dk Qf (Dk Qf (VR (Jc Dz lz0) Dz))) lz3)));exact (by refine So ?_;exact (by refine Qt ?_ ?_ ?_;exact (Qh (Qs hr.units) (dr (Qb (dv 3) dq)) (dr Qf) (Qg _));exact (Ss (O1:=[2,4]) (Qi 6 nd (Qb (Yr 2) (dr (Qa QR (dr (dc c_Lmix hr (Du (Qb (dv 1) (dv 5)) (Db (Qa Qe (dv 5) dq) Dz)))) (dr (QV Qw rfl T.b_len PySem.boot_len (Yr 2))))))) (So (JY 4 (by decide) (Qu (Dk Qf (dn 6 (Du (Qb (dv 3) dq) (Du (Qb (dv 3) dq) Dz)))) lz4))));exact (So (JY 4 (by decide) (Qx 3))))))));exact (Zc 4 (So (Qm (Qx 4)))))))))
theorem Qkg:FnScope Qgb V9 (Qc Qdt):=by constructor<;>first | rfl | decide +kernel
theorem Qkt (h:Df K mg "_law_grouped" Qdt V9) (T:Txt K mg):Qgi P w K mg base :=
 okD Qgb V9 QdJ 0 h Qkg (fun nd=>fun hr=>(by refine Ss (O1:=[1]) ?_ ?_;exact (Zd 1 nd (ZQ Dz lz0));exact (by refine Ss (O1:=[1,2]) ?_ ?_;exact (Zd 2 nd (ZQ Dz lz0));exact (by refine Ss (O1:=[1,2]) ?_ ?_;exact (by refine JB rfl PassesOwn.never ?_ ?_ ?_;exact (Jo (Qa Qe (dv 0) (dr (Jc (Dt (Qu (Dk Qf (Dk Qf (Dk Qf Dz))) lz3) Dz) lz1))));exact Ql 3 nd;exact (by refine Ss (O1:=[1,2]) ?_ ?_;exact (Qt (Qh QfK (dr (Qb (dv 3) dq)) (dr (Jc (Dk Qf (Dk Qf (Dk Qf (Dk Qf Dz)))) lz4)) (by with_unfolding_all rfl)) (Ss (O1:=[1,2]) (JY 2 (by decide) (Qx 3)) (So Qrb)) Sn);exact (by refine Ss (O1:=[1,2]) ?_ ?_;exact (Qt (PW.pt (ZK (Qh (Yq hr.units) (Yr 2) (dr (Jc Dz lz0)) (Qg _)) (JG (Qh QfK (dr (Qb (dr (Qb (Yr 2) (dr (QfP dq)))) dq)) (dr (Jc (Dk Qf (Dk Qf Dz)) lz2)) (by with_unfolding_all rfl))))) (So (JY 2 (by decide) (Qu (Dk Qf (Dk Qf (VR (Jc Dz lz0) Dz))) lz3))) Sn);exact (Ss (O1:=[1]) (Qt (PW.pt (Y3 (Qh (Yq hr.units) (Yr 2) (dr (Jc Dz lz0)) (Qg _)) (JG (Qh (Qs hr.units) (dr (Qb (dv 3) dq)) (dr Qf) (Qg _))))) (Zc 2 (So (JY 1 (by decide) (Qu (Dk Qf (dn 2 Dz)) lz2)))) (Qpx 2 [1,2] Sn)) (Ss (O1:=[1,2]) (Zd 2 nd (ZQ Dz lz0)) (So (Qt (Qh Qhh (dr (Qb (dv 3) dq)) (dr (Jc (Dk Qf (Dk Qf Dz)) lz2)) (by with_unfolding_all rfl)) (So (JY 1 (by decide) (Qx 3))) Sn)))))));exact (Zc 1 (So (Qm (Qx 1))))))))
theorem QoP:FnScope Qlq QcK (Qc QeA):=by constructor<;>first | rfl | decide +kernel
theorem Qo8 (h:Df K mg "_law_edge" QeA QcK) (T:Txt K mg) (c_Lcell_at:QdN P w K mg base) (c_Lmix:QcE P w K mg base):Qlv P w K mg base :=
 okD Qlq QcK QgT 1 h QoP (fun nd=>fun hr=>(by refine Ss (O1:=[]) ?_ ?_;exact (Qt (PW.pt (Y3 (Jk (dr (Qb (dv 1) dq))) (JG (Qh (Yq hr.units) (dr (Qa QR (dr (dc c_Lcell_at hr (dn 0 (Dk Qj Dz)))) dq)) dq (Qg _))))) (So (Qm (Jc Dz lz0))) Sn);exact (by refine Ss (O1:=[]) ?_ ?_;exact (Qi 2 nd (Qa Qe dq (dr (Qa QR (dr (dc c_Lmix hr (Dl (dc c_Lcell_at hr (dn 0 (Dk Qj Dz))) (Dk Qj Dz)))) dq))));exact (by refine Ss (O1:=[]) ?_ ?_;exact (Qi 3 nd Qj);exact (by refine Ss (O1:=[]) ?_ ?_;exact (JB rfl PassesOwn.never (V4 rfl T.b_range (dv 2)) (Ql 4 nd) (So (Qi 3 nd (Qa Zv (dv 3) dq))));exact (by refine Ss (O1:=[]) ?_ ?_;exact (by refine Qi 5 nd ?_;exact (by refine Jc ?_ ?_;exact (Dt (Qu (Dk Qf (Db (Qa Zv (dr Qf) (dr (Qa9 (Z3 rfl) rfl T.b_max PyProof.Rows.boot_max dq (dr (Qa Vn (dr (Qa Vn (dr (Qb (dv 1) dq)) dq)) (dv 2)))))) (VR (Jc Dz lz0) Dz))) lz3) (Dt (Qu (Dk Qf (Dk Qf Dz)) lz2) (Dt (Qu (Dk Qf (Dk Qf (Dk Qf (Dk Qf Dz)))) lz4) Dz)));exact lz3));exact (by refine So ?_;exact (by refine Qm ?_;exact (by refine Jc ?_ ?_;exact (by refine Dt ?_ ?_;exact (Qu (Dk Qf (Db (Qa Vn (dv 3) dq) (Dk Qf Dz))) lz3);exact (by refine Dt ?_ ?_;exact (by refine Qu ?_ ?_;exact (by refine Dk ?_ ?_;exact Qf;exact (by refine QaR ?_ ?_;exact (by refine Zh ?_;exact (by refine Zp rfl rfl (JA (show Za (Qc QeA) ["_law_script","_law_style","_law_many","_law_ten","_law_k","_law_row"] _ 1 ["_law_k"] []=true by decide +kernel)) (by decide) ?_ ?_ ?_ ?_;exact (dih (V4 rfl T.b_range (dr (Qa Vn (dr (Qb (dv 1) dq)) dq))));exact fun cl C ex s2 H2 pn=>Ql 0 (show List.Nodup (["_law_k"]:List Str) by decide +kernel);exact fun cl C ex s2 H2 pn=>Yd;exact fun cl C ex s2 H2 pn=>Qf));exact (Dk Qf Dz)));exact lz3);exact (Dt (Qu (Dk Qf (dn 5 Dz)) lz2) Dz)));exact lz3)))))))))
theorem Qnq:FnScope Qjg QbF (Qc Yz):=by constructor<;>first | rfl | decide +kernel
theorem QnH (h:Df K mg "_law_needs" Yz QbF) (T:Txt K mg):Qjo P w K mg base :=
 okD Qjg QbF Qfr 0 h Qnq (fun nd=>fun hr=>(by refine Ss (O1:=[]) ?_ ?_;exact (Qi 2 nd Qj);exact (by refine Ss (O1:=[]) ?_ ?_;exact (Qi 3 nd Qj);exact (by refine Ss (O1:=[]) ?_ ?_;exact (by refine JB rfl PassesOwn.never ?_ ?_ ?_;exact (Jo (Qx 0));exact Ql 4 nd;exact (by refine Ss (O1:=[]) ?_ ?_;exact (Qt (PW.pt (Y3 (Qh (Qs hr.units) (dr (Qb (dv 4) dq)) (dr Qf) (Qg _)) (JG (Qh (Qs hr.units) (dr (Qb (dv 4) dq)) (dr Qf) (Qg _))))) (So (Qi 2 nd (Qa9 (Z3 rfl) rfl T.b_max PyProof.Rows.boot_max (dv 2) (dr (Qa Qe (dr (Qa Qe (dr (QV Qw rfl T.b_len PySem.boot_len (dr (Qb (dv 4) dq)))) dq)) (dv 1)))))) Sn);exact (by refine Ss (O1:=[]) ?_ ?_;exact (Qt (Qh (Qs hr.units) (dr (Qb (dv 4) dq)) (dr Qf) (Qg _)) (So (Qi 3 nd (Qa9 (Z3 rfl) rfl T.b_max PyProof.Rows.boot_max (dv 3) (dr (Qa Qe (dr (Qb (dv 4) dq)) dq))))) Sn);exact (by refine Ss (O1:=[]) ?_ ?_;exact (by refine Qt ?_ ?_ ?_;exact (Qh (Qs hr.units) (dr (Qb (dv 4) dq)) (dr Qf) (Qg _));exact (by refine Ss (O1:=[]) ?_ ?_;exact (Qi 3 nd (Qa9 (Z3 rfl) rfl T.b_max PyProof.Rows.boot_max (dv 3) (dr (QV Qw rfl T.b_len PySem.boot_len (dr (Qb (dv 4) dq))))));exact (by refine So ?_;exact (by refine Qi 2 nd ?_;exact (by refine QV (Qa1 rfl) rfl T.b_max PyProof.Rows.boot_max ?_;exact (by refine dr ?_;exact (by refine Qa Qe ?_ ?_;exact (dr (Jc (dn 2 Dz) lz1));exact (by refine dr ?_;exact (by refine Zh ?_;exact (by refine Zp rfl rfl (JA (show Za (Qc Yz) ["_law_book","_law_most_here","_law_wide","_law_high","_law_block_here","_law_notes","_law_rows"] _ 1 ["_law_row"] []=true by decide +kernel)) (by decide) ?_ ?_ ?_ ?_;exact (dih (Jo (Qb (dv 4) dq)));exact fun cl C ex s2 H2 pn=>Ql 0 (show List.Nodup (["_law_row"]:List Str) by decide +kernel);exact fun cl C ex s2 H2 pn=>Yd;exact fun cl C ex s2 H2 pn=>(QV Qw rfl T.b_len PySem.boot_len (dv 0)))))))))));exact Sn);exact (by refine So ?_;exact (by refine Qt ?_ ?_ ?_;exact (Qh (Qs hr.units) (dr (Qb (dv 4) dq)) (dr Qf) (Qg _));exact (by refine Ss (O1:=[]) ?_ ?_;exact (by refine Qi 2 nd ?_;exact (by refine QV (Qa1 rfl) rfl T.b_max PyProof.Rows.boot_max ?_;exact (by refine dr ?_;exact (by refine Qa Qe ?_ ?_;exact (dr (Jc (dn 2 Dz) lz1));exact (by refine dr ?_;exact (by refine Zh ?_;exact (by refine Zp rfl rfl (JA (show Za (Qc Yz) ["_law_book","_law_most_here","_law_wide","_law_high","_law_block_here","_law_notes","_law_rows"] _ 1 ["_law_item","_law_most_here"] [1]=true by decide +kernel)) (by decide) ?_ ?_ ?_ ?_;exact (dih (Jo (Qb (dv 4) dq)));exact fun cl C ex s2 H2 pn=>Ql 0 (show List.Nodup (["_law_item","_law_most_here"]:List Str) by decide +kernel);exact fun cl C ex s2 H2 pn=>(VQ (Qh (Qs hr.units) (dr (Qb (dv 0) dq)) (dr Qf) (Qg _)));exact fun cl C ex s2 H2 pn=>(Qa Qe (dr (Qa Qe (dr (QV Qw rfl T.b_len PySem.boot_len (dr (Qb (dv 0) dq)))) (dv 1))) (dr (QV Qw rfl T.b_len PySem.boot_len (dr (Qb (dv 0) dq))))))))))));exact (by refine Ss (O1:=[]) ?_ ?_;exact (by refine Qi 2 nd ?_;exact (by refine QV (Qa1 rfl) rfl T.b_max PyProof.Rows.boot_max ?_;exact (by refine dr ?_;exact (by refine Qa Qe ?_ ?_;exact (dr (Jc (dn 2 Dz) lz1));exact (by refine dr ?_;exact (by refine Zh ?_;exact (by refine Zp rfl rfl (JA (show Za (Qc Yz) ["_law_book","_law_most_here","_law_wide","_law_high","_law_block_here","_law_notes","_law_rows"] _ 1 ["_law_item"] []=true by decide +kernel)) (by decide) ?_ ?_ ?_ ?_;exact (dih (Jo (Qb (dv 4) dq)));exact fun cl C ex s2 H2 pn=>Ql 0 (show List.Nodup (["_law_item"]:List Str) by decide +kernel);exact fun cl C ex s2 H2 pn=>(VQ (Qh (Qs hr.units) (dr (Qb (dv 0) dq)) (dr Qf) (Qg _)));exact fun cl C ex s2 H2 pn=>(QV Qw rfl T.b_len PySem.boot_len (dr (Qb (dv 0) dq))))))))));exact (by refine Ss (O1:=[5]) ?_ ?_;exact (by refine Qf5 5 nd rfl rfl (JA (show Za (Qc Yz) ["_law_book","_law_most_here","_law_wide","_law_high","_law_block_here","_law_notes","_law_rows"] _ 1 ["_law_item"] []=true by decide +kernel)) (by decide) ?_ ?_ ?_ ?_;exact (dih (Jo (Qb (dv 4) dq)));exact fun cl C ex s2 H2 pn=>Ql 0 (show List.Nodup (["_law_item"]:List Str) by decide +kernel);exact fun cl C ex s2 H2 pn=>(VQ (Qh (Qs hr.units) (dr (Qb (dv 0) dq)) (dr Qf) (Qg _)));exact fun cl C ex s2 H2 pn=>(Qb (dv 0) dq));exact (by refine Ss (O1:=[5]) ?_ ?_;exact (by refine Qi 3 nd ?_;exact (by refine QV (Qa1 rfl) rfl T.b_max PyProof.Rows.boot_max ?_;exact (by refine dr ?_;exact (by refine Qa Qe ?_ ?_;exact (dr (Jc (dn 3 Dz) lz1));exact (by refine dr ?_;exact (by refine Zh ?_;exact (by refine Zp rfl rfl (JA (show Za (Qc Yz) ["_law_book","_law_most_here","_law_wide","_law_high","_law_block_here","_law_notes","_law_rows"] _ 1 ["_law_rows"] []=true by decide +kernel)) (by decide) ?_ ?_ ?_ ?_;exact QsI 5;exact fun cl C ex s2 H2 pn=>Ql 0 (show List.Nodup (["_law_rows"]:List Str) by decide +kernel);exact fun cl C ex s2 H2 pn=>Yd;exact fun cl C ex s2 H2 pn=>(Qa Qe dq (dr (QV Qw rfl T.b_len PySem.boot_len (dv 0)))))))))));exact (by refine Zc 5 ?_;exact (by refine So ?_;exact (by refine JB rfl PassesOwn.never ?_ ?_ ?_;exact (Jo (Qx 5));exact Ql 6 nd;exact (by refine So ?_;exact (by refine Qi 2 nd ?_;exact (by refine QV (Qa1 rfl) rfl T.b_max PyProof.Rows.boot_max ?_;exact (by refine dr ?_;exact (by refine Qa Qe ?_ ?_;exact (dr (Jc (dn 2 Dz) lz1));exact (by refine dr ?_;exact (by refine Zh ?_;exact (by refine Zp rfl rfl (JA (show Za (Qc Yz) ["_law_book","_law_most_here","_law_wide","_law_high","_law_block_here","_law_notes","_law_rows"] _ 1 ["_law_row"] []=true by decide +kernel)) (by decide) ?_ ?_ ?_ ?_;exact (dih (Jo (Qx 6)));exact fun cl C ex s2 H2 pn=>Ql 0 (show List.Nodup (["_law_row"]:List Str) by decide +kernel);exact fun cl C ex s2 H2 pn=>Yd;exact fun cl C ex s2 H2 pn=>(QV Qw rfl T.b_len PySem.boot_len (dv 0)))))))))))))))));exact Sn))))));exact (So (Qm (Qu (dn 2 (dn 3 Dz)) lz2)))))))
theorem QoO:FnScope Qlp QcJ (Qc Qez):=by constructor<;>first | rfl | decide +kernel
theorem Qo7 (h:Df K mg "_law_most" Qez QcJ) (T:Txt K mg):Qlu P w K mg base :=
 okD Qlp QcJ QgS 0 h QoO (fun nd=>fun hr=>(by refine Ss (O1:=[]) ?_ ?_;exact (Qi 2 nd Qj);exact (by refine Ss (O1:=[]) ?_ ?_;exact (by refine JB rfl PassesOwn.never ?_ ?_ ?_;exact (Jo (Qx 0));exact Ql 3 nd;exact (by refine Ss (O1:=[]) ?_ ?_;exact (Qi 2 nd (Qa Qe (dv 2) dq));exact (by refine Ss (O1:=[]) ?_ ?_;exact (Qt (PW.pt (ZK (Jk (dv 1)) (JG (PW.pt (Y3 (Qh (Qs hr.units) (dr (Qb (dv 3) dq)) (dr Qf) (Qg _)) (JG (Qh (Qs hr.units) (dr (Qb (dv 3) dq)) (dr Qf) (Qg _)))))))) (So (Qi 2 nd (Qa Qe (dv 2) dq))) Sn);exact (by refine Ss (O1:=[]) ?_ ?_;exact (Qt (Qh (Qs hr.units) (dr (Qb (dv 3) dq)) (dr Qf) (Qg _)) (So (Qi 2 nd (Qa Qe (dv 2) (dr (Qb (dv 3) dq))))) Sn);exact (by refine So ?_;exact (by refine Qt ?_ ?_ ?_;exact (Qh (Qs hr.units) (dr (Qb (dv 3) dq)) (dr Qf) (Qg _));exact (by refine So ?_;exact (by refine Qi 2 nd ?_;exact (by refine Qa Qe ?_ ?_;exact (dv 2);exact (by refine dr ?_;exact (by refine Qa Zv ?_ ?_;exact dq;exact (by refine dr ?_;exact (by refine QV Qw rfl T.b_len PySem.boot_len ?_;exact (by refine dr ?_;exact (by refine Zh ?_;exact (by refine Zp rfl rfl (JA (show Za (Qc Qez) ["_law_book","_law_listed","_law_most_here","_law_block_here"] _ 1 ["_law_item"] []=true by decide +kernel)) (by decide) ?_ ?_ ?_ ?_;exact (dih (Jo (Qb (dv 3) dq)));exact fun cl C ex s2 H2 pn=>Ql 0 (show List.Nodup (["_law_item"]:List Str) by decide +kernel);exact fun cl C ex s2 H2 pn=>(VQ (PW.pt (Y3 (Qh (Qs hr.units) (dr (Qb (dv 0) dq)) (dr Qf) (Qg _)) (JG (Qh (Qs hr.units) (dr (Qb (dv 0) dq)) (dr Qf) (Qg _))))));exact fun cl C ex s2 H2 pn=>Qx 0))))))))));exact Sn))))));exact (So (Qm (Qx 2))))))
theorem Qns:FnScope Qji QbH (Qc QbA):=by constructor<;>first | rfl | decide +kernel
theorem QnJ (h:Df K mg "_law_drawn" QbA QbH) (T:Txt K mg) (c_Latom:Qlx P w K mg base) (c_Lcell_at:QdN P w K mg base) (c_Ledge:Qlv P w K mg base) (c_Lgrouped:Qgi P w K mg base) (c_Lmix:QcE P w K mg base) (c_Lmost:Qlu P w K mg base) (c_Lneeds:Qjo P w K mg base) (c_Lpointed:Qgh P w K mg base):Qjq P w K mg base :=
 okD Qji QbH Qfs 2 h Qns (fun nd=>fun hr=>(by refine Ss (O1:=[]) ?_ ?_;exact (Qi 1 nd (Qa Qe (dr (YT (dv 0) Vo (Ys dq))) (dr (Jc (Dk Qj Dz) lz1))));exact (by refine Ss (O1:=[2]) ?_ ?_;exact (by refine Qf5 2 nd rfl rfl (JA (show Za (Qc QbA) ["_law_script","_law_every","_law_cells","_law_book","_law_listed","_law_edge_here","_law_most_here","_law_wide","_law_high","_law_width","_law_height","_law_style"] _ 1 ["_law_k","_law_every"] [1]=true by decide +kernel)) (by decide) ?_ ?_ ?_ ?_;exact (dih (V4 rfl T.b_range (dr (Qa QR (dr (dc c_Lmix hr (Dl (dc c_Lcell_at hr (dn 0 (Dk Qj Dz))) (Dk Qj Dz)))) dq))));exact fun cl C ex s2 H2 pn=>Ql 0 (show List.Nodup (["_law_k","_law_every"]:List Str) by decide +kernel);exact fun cl C ex s2 H2 pn=>Yd;exact fun cl C ex s2 H2 pn=>(Qb (dv 1) (dr (Qa QR (dv 0) (dr (QV Qw rfl T.b_len PySem.boot_len (dv 1)))))));exact (by refine Zc 2 ?_;exact (by refine Ss (O1:=[]) ?_ ?_;exact (by refine Qi 3 nd ?_;exact (by refine dc c_Lgrouped hr ?_;exact (by refine Dl ?_ ?_;exact (by refine dc c_Lpointed hr ?_;exact (by refine QaR ?_ ?_;exact (by refine Zh ?_;exact (by refine Zp rfl rfl (JA (show Za (Qc QbA) ["_law_script","_law_every","_law_cells","_law_book","_law_listed","_law_edge_here","_law_most_here","_law_wide","_law_high","_law_width","_law_height","_law_style"] _ 2 ["_law_k","_law_cell"] []=true by decide +kernel)) (by decide) ?_ ?_ ?_ ?_;exact (dih (QeF rfl T.b_enumerate (Qx 2)));exact fun cl C ex s2 H2 pn=>(ZL rfl (QL (O1:=[]) (Ql 0 (show List.Nodup (["_law_k","_law_cell"]:List Str) by decide +kernel)) (QL (O1:=[]) (Ql 1 (show List.Nodup (["_law_k","_law_cell"]:List Str) by decide +kernel)) Zn)) rfl);exact fun cl C ex s2 H2 pn=>Yd;exact fun cl C ex s2 H2 pn=>(dc c_Latom hr (dn 1 (dn 0 Dz)))));exact (dn 2 Dz)));exact Dz)));exact (by refine Ss (O1:=[]) ?_ ?_;exact (Qi 4 nd (Zi (Qs hr.units) (dr (Qa QR (dr (dc c_Lcell_at hr (dn 0 (Dk Qj Dz)))) dq)) dq (Qg _)));exact (by refine Ss (O1:=[]) ?_ ?_;exact (Qi 5 nd (dc c_Ledge hr (dn 0 (Dt (Qu (Dk Qj (Dk Qj (Dk Qb3 (dn 4 Dz)))) lz4) Dz))));exact (by refine Ss (O1:=[]) ?_ ?_;exact (Qi 6 nd (QV Qw rfl T.b_len PySem.boot_len (dr (QfO QhC rfl T.b_str PyProof.Rows.boot_str (dr (dc c_Lmost hr (Db (Qa Qe (dv 5) (dv 3)) (dn 4 Dz))))))));exact (by refine Ss (O1:=[]) ?_ ?_;exact (Vc (dc c_Lneeds hr (Db (Qa Qe (dv 3) (dv 5)) (dn 6 Dz))) (ZL rfl (QL (O1:=[]) (Ql 7 nd) (QL (O1:=[]) (Ql 8 nd) Zn)) rfl));exact (by refine Ss (O1:=[]) ?_ ?_;exact (Qt (Qh (Yq hr.units) (dv 5) (dr (Jc Dz lz0)) (Qg _)) (So (Qi 7 nd (Qa9 (Z3 rfl) rfl T.b_max PyProof.Rows.boot_max (dv 7) (dr (Qa Qe (dv 6) dq))))) Sn);exact (by refine Ss (O1:=[]) ?_ ?_;exact (Qi 9 nd (Qa9 (Z3 rfl) rfl T.b_max PyProof.Rows.boot_max (dv 7) (dr (Qa Qe dq (dr (Qa QR (dr (dc c_Lmix hr (Dl (dc c_Lcell_at hr (dn 0 (Dk Qj Dz))) (Dk Qj Dz)))) dq))))));exact (by refine Ss (O1:=[]) ?_ ?_;exact (Qi 10 nd (Qa9 (Z3 rfl) rfl T.b_max PyProof.Rows.boot_max (dv 8) (dr (Qa Qe dq (dr (Qa QR (dr (dc c_Lmix hr (Dl (dc c_Lcell_at hr (dn 0 (Dk Qj Dz))) (Dk Qj Dz)))) dq))))));exact (by refine Ss (O1:=[]) ?_ ?_;exact (Qt (Qh (Qs hr.units) (dr (Qa QR (dr (dc c_Lcell_at hr (dn 0 (Dk Qj Dz)))) dq)) dq (Qg _)) (So (Qi 10 nd (Qa9 (Z3 rfl) rfl T.b_max PyProof.Rows.boot_max (dv 8) (dr (Qa Qe dq (dr (Qa QR (dr (dc c_Lmix hr (Dl (dc c_Lcell_at hr (dn 0 (Dk Qj Dz))) (Dk Qj Dz)))) dq))))))) Sn);exact (Ss (O1:=[]) (Qi 11 nd (Qu (dn 9 (dn 10 (Qmr (Zi (Qs hr.units) (dr (Qa QR (dr (dc c_Lcell_at hr (dn 0 (Dk Qj Dz)))) dq)) dq (Qg _)) (dn 4 Dz)))) lz4)) (So (Qm (Qu (Db (Qa Qe (dr (dc c_Ledge hr (dn 0 (dn 11 Dz)))) (dv 3)) (dn 11 (dn 6 Dz))) lz3)))))))))))))))))
theorem Qnp:FnScope Qjf QbE (Qc Qfb):=by constructor<;>first | rfl | decide +kernel
theorem QnG (h:Df K mg "_law_rooms" Qfb QbE) (T:Txt K mg) (c_Lmix:QcE P w K mg base):Qjn P w K mg base :=
 okD Qjf QbE Qfq 1 h Qnp (fun nd=>fun hr=>(by refine Ss (O1:=[4]) ?_ ?_;exact (Zd 4 nd (ZQ Dz lz0));exact (by refine Ss (O1:=[4]) ?_ ?_;exact (Qi 5 nd (Qa Qe (dr (YT (dv 0) Vo (Ys dq))) (dr (Jc (dn 3 Dz) lz1))));exact (by refine Ss (O1:=[4]) ?_ ?_;exact (by refine JB rfl PassesOwn.never ?_ ?_ ?_;exact (Jo (Qx 1));exact Ql 6 nd;exact (by refine So ?_;exact (by refine Qt ?_ ?_ ?_;exact (Qh (Qs hr.units) (dr (Qb (dv 6) dq)) (dr Qf) (Qg _));exact (by refine So ?_;exact (by refine JB rfl PassesOwn.never ?_ ?_ ?_;exact (Jo (Qb (dv 6) dq));exact Ql 7 nd;exact (by refine So ?_;exact (by refine Qt ?_ ?_ ?_;exact (Qh (Qs hr.units) (dr (Qb (dv 7) dq)) (dr Qf) (Qg _));exact (Ss (O1:=[4]) (Qi 8 nd (Qb (dv 5) (dr (Qa QR (dr (QV Qw rfl T.b_len PySem.boot_len (Yr 4))) (dr (QV Qw rfl T.b_len PySem.boot_len (dv 5))))))) (So (JY 4 (by decide) (Qa Qe dq (dr (Qa QR (dr (dc c_Lmix hr (dn 8 (Db (Qa Qe (dv 3) (dr (QV Qw rfl T.b_len PySem.boot_len (Yr 4)))) Dz)))) (dv 2)))))));exact Sn))));exact Sn)));exact (Zc 4 (So (Qm (Qx 4))))))))
theorem QoQ:FnScope Qlr QcL (Qc QgG):=by constructor<;>first | rfl | decide +kernel
theorem Qo9 (h:Df K mg "_law_copy" QgG QcL) (T:Txt K mg):Qlw P w K mg base :=
 okD Qlr QcL QgU 0 h QoQ (fun nd=>fun hr=>(by refine Ss (O1:=[1]) ?_ ?_;exact (Zd 1 nd (ZQ Dz lz0));exact (by refine Ss (O1:=[1]) ?_ ?_;exact (by refine JB rfl PassesOwn.never ?_ ?_ ?_;exact (Jo (Qx 0));exact Ql 2 nd;exact (by refine So ?_;exact (by refine Qt ?_ ?_ ?_;exact (Qh (Qs hr.units) (dr (Qb (dv 2) dq)) (dr Qf) (Qg _));exact (by refine Ss (O1:=[1,3]) ?_ ?_;exact (Zd 3 nd (ZQ Dz lz0));exact (by refine Ss (O1:=[1,3]) ?_ ?_;exact (JB rfl PassesOwn.never (Jo (Qb (dv 2) dq)) (Ql 4 nd) (So (Qt (Qh (Qs hr.units) (dr (Qb (dv 4) dq)) (dr Qf) (Qg _)) (So (JY 3 (by decide) (Qu (Dk Qf (Du (Qb (dv 4) dq) (Dl (Zh (QeG rfl T.b_list PyProof.Rows.boot_list (dr (Qb (dv 4) dq)))) Dz))) lz3))) (So (JY 3 (by decide) (Qx 4))))));exact (Zc 3 (So (JY 1 (by decide) (Qu (Dk Qf (dn 3 Dz)) lz2))))));exact (So (Qt (Qh (Qs hr.units) (dr (Qb (dv 2) dq)) (dr Qf) (Qg _)) (So (JY 1 (by decide) (Qu (Dk Qf (Dl (Zh (QeG rfl T.b_list PyProof.Rows.boot_list (dr (Qb (dv 2) dq)))) (Du (Qb (dv 2) dq) Dz))) lz3))) (So (JY 1 (by decide) (Qx 2))))))));exact (Zc 1 (So (Qm (Qx 1)))))))
theorem QoN:FnScope Qlo QcI (Qc QgF):=by constructor<;>first | rfl | decide +kernel
theorem Qo6 (h:Df K mg "_law_word" QgF QcI) (T:Txt K mg):Qlt P w K mg base :=
 okD Qlo QcI QgR 0 h QoN (fun nd=>fun hr=>(by refine Ss (O1:=[]) ?_ ?_;exact (Vc (Qx 0) (ZL rfl (QL (O1:=[]) (Ql 4 nd) (QL (O1:=[]) (Ql 5 nd) (QL (O1:=[]) (Ql 6 nd) (QL (O1:=[]) (Ql 7 nd) Zn)))) rfl));exact (by refine Ss (O1:=[]) ?_ ?_;exact (Vc (Qx 1) (ZL rfl (QL (O1:=[]) (Ql 8 nd) (QL (O1:=[]) (Ql 9 nd) (QL (O1:=[]) (Ql 10 nd) (QL (O1:=[]) (Ql 11 nd) Zn)))) rfl));exact (by refine Ss (O1:=[]) ?_ ?_;exact (Qt (PW.pt (ZK (Qh (Qs hr.units) (dv 10) dq (Qg _)) (JG (Qh (Va hr.units0) (dr (Qa Qe (dr (Qa Qe (dr (Qa Qe (dv 9) dq)) (dv 11))) (dv 3))) (dv 5) (Qg _))))) (So (Qm (Qu (Dt (Qu (dn 8 (dn 9 (Dk Qj Dz))) lz3) (Dt (Qu (dn 8 (dn 9 (dn 2 (Db (Qa Qe (dv 11) (dv 3)) Dz)))) lz4) Dz)) lz2))) Sn);exact (by refine Ss (O1:=[]) ?_ ?_;exact (by refine Qt ?_ ?_ ?_;exact (by refine PW.pt ?_;exact (ZK (Qh YN (dv 10) dq (Qg _)) (ZK (Qh (Va hr.units0) (dr (Qa Qe (dr (Qa Qe (dv 10) dq)) (dv 2))) (dv 4) (Qg _)) (JG (Qh (Va hr.units0) (dr (Qa Qe (dr (Qa Qe (dr (Qa Qe (dv 9) dq)) (dv 11))) (dv 3))) (dv 5) (Qg _))))));exact (So (Qm (Qu (Dt (Qu (dn 8 (dn 9 (Db (Qa Qe (dv 10) dq) Dz))) lz3) (Dt (Qu (dn 8 (dn 9 (Db (Qa Qe (dr (Qa Qe (dv 10) dq)) (dv 2)) (Db (Qa Qe (dv 11) (dv 3)) Dz)))) lz4) Dz)) lz2)));exact Sn);exact (by refine Ss (O1:=[]) ?_ ?_;exact (Qt (PW.pt (ZK (Qh YN (dv 10) dq (Qg _)) (JG (Qh (Va hr.units0) (dr (Qa Qe (dr (Qa Qe (dr (Qa Qe (dv 9) dq)) (dv 11))) (dv 3))) (dv 5) (Qg _))))) (So (Qm (Qu (Dt (Qu (dn 8 (Db (Qa Qe (dv 9) dq) (Dk Qj Dz))) lz3) (Dt (Qu (dn 8 (Db (Qa Qe (dv 9) dq) (dn 2 (Db (Qa Qe (dv 11) (dv 3)) Dz)))) lz4) Dz)) lz2))) Sn);exact (So (Qm (Qu (Dt (Qu (Db (Qa Qe (dv 8) dq) (Dk Qj (Dk Qj Dz))) lz3) (Dt (Qu (Db (Qa Qe (dv 8) dq) (Dk Qj (dn 2 (dn 3 Dz)))) lz4) Dz)) lz2)))))))))
theorem Qnt:FnScope Qjj QbI (Qc Qfd):=by constructor<;>first | rfl | decide +kernel
theorem QnK (h:Df K mg "_law_block" Qfd QbI) (T:Txt K mg):Qfv P w K mg base :=
 okD Qjj QbI Qft 0 h Qnt (fun nd=>fun hr=>(by refine Ss (O1:=[]) ?_ ?_;exact (Vc (Qx 1) (ZL rfl (QL (O1:=[]) (Ql 4 nd) (QL (O1:=[]) (Ql 5 nd) (QL (O1:=[]) (Ql 6 nd) (QL (O1:=[]) (Ql 7 nd) Zn)))) rfl));exact (by refine Ss (O1:=[]) ?_ ?_;exact (Qt (Qh YN (dv 6) dq (Qg _)) (So (Qi 5 nd (Qa Qe (dv 5) dq))) Sn);exact (by refine Ss (O1:=[]) ?_ ?_;exact (Qt (Qh (Va hr.units0) (dr (Qa Qe (dr (Qa Qe (dr (Qa Qe (dv 5) (dv 2))) (dv 3))) (dv 7))) (dr (Qb (dv 0) dq)) (Qg _)) (So (Qm (Qu (Dt (Qu (dn 4 (dn 5 (Dk Qj Dz))) lz3) (Dt (Qu (dn 4 (Db (Qa Qe (dv 5) (dv 2)) (Dk Qj (dn 7 Dz)))) lz4) Dz)) lz2))) Sn);exact (So (Qm (Qu (Dt (Qu (Db (Qa Qe (dv 4) dq) (Dk Qj (Dk Qj Dz))) lz3) (Dt (Qu (Db (Qa Qe (dv 4) dq) (dn 2 (Dk Qj (Dk Qj Dz)))) lz4) Dz)) lz2)))))))
theorem QoR:FnScope Qaq Qaq (Qc QgH):=by constructor<;>first | rfl | decide +kernel
theorem Qpa (h:Df K mg "_law_bare" QgH Qaq) (T:Txt K mg):QgZ P w K mg base :=
 okD Qaq Qaq QgV 0 h QoR (fun nd=>fun hr=>(Ss (O1:=[]) (Qt (PW.pt (ZK (Qh (Qs hr.units) (dr (Qb (dv 0) dq)) dq (Qg _)) (ZK (Qh (Qs hr.units) (dr (Qb (dv 0) dq)) dq (Qg _)) (JG (Qh (Qs hr.units) (dr (Qb (dv 0) dq)) dq (Qg _)))))) (So (Qm (Qx 0))) Sn) (So (Qm (Qu (Db (Qa Qe (dr (Qb (dv 0) dq)) dq) (Dk Qj (Dk Qj (Dk Qj Dz)))) lz4)))))
theorem Qnu:FnScope Qjk QbJ (Qc Qfe):=by constructor<;>first | rfl | decide +kernel
theorem QnL (h:Df K mg "_law_begun" Qfe QbJ) (T:Txt K mg) (c_Lbare:QgZ P w K mg base):Qfw P w K mg base :=
 okD Qjk QbJ Qfu 1 h Qnu (fun nd=>fun hr=>(by refine Ss (O1:=[]) ?_ ?_;exact (Qi 2 nd (Qb (dr (dc c_Lbare hr (dn 1 Dz))) dq));exact (Ss (O1:=[]) (Qt (PW.pt (ZK (Jk (dr (Qb (dv 0) dq))) (JG (Qh (Qs hr.units) (dr (Qa QR (dv 2) dq)) dq (Qg _))))) (So (Qm (Qu (Db (Qa Qe (dv 2) dq) (Dk Qj (Dk Qj (Dk Qj Dz)))) lz4))) Sn) (So (Qm (Qu (dn 2 (Dk Qj (Dk Qj (Dk Qj Dz)))) lz4))))))
theorem Qjz:FnScope QeR Vy (Qc Qcp):=by constructor<;>first | rfl | decide +kernel
theorem QjK (h:Df K mg "_law_set_para" Qcp Vy) (T:Txt K mg) (c_Lword:Qlt P w K mg base):QeX P w K mg base :=
 okD QeR Vy Qcx 1 h Qjz (fun nd=>fun hr=>(by refine Ss (O1:=[4]) ?_ ?_;exact (Zd 4 nd (ZQ Dz lz0));exact (by refine Ss (O1:=[4,5]) ?_ ?_;exact (Zd 5 nd (QeG rfl T.b_list PyProof.Rows.boot_list (dv 3)));exact (by refine Ss (O1:=[4,5]) ?_ ?_;exact (by refine JB rfl PassesOwn.never ?_ ?_ ?_;exact (Jo (Qx 2));exact Ql 6 nd;exact (by refine Ss (O1:=[4,5]) ?_ ?_;exact (by refine Qt ?_ ?_ ?_;exact (Qh (Qs hr.units) (dr (Qb (dv 6) dq)) (dr Qf) (Qg _));exact (by refine Ss (O1:=[4,5]) ?_ ?_;exact (Vc (dc c_Lword hr (dn 0 (dn 1 (Dl (QV Qw rfl T.b_len PySem.boot_len (dr (Qb (dv 6) dq))) (Dl (QV Qw rfl T.b_len PySem.boot_len (dr (Qb (dv 6) dq))) Dz))))) (ZL rfl (QL (O1:=[4,5]) (Ql 7 nd) (QL (O1:=[4,5]) (Ql 1 nd) Zn)) rfl));exact (So (JY 4 (by decide) (Qx 7))));exact Sn);exact (by refine So ?_;exact (by refine Qt ?_ ?_ ?_;exact (Qh (Qs hr.units) (dr (Qb (dv 6) dq)) (dr Qf) (Qg _));exact (by refine Ss (O1:=[4,5]) ?_ ?_;exact (by refine Qrc 5 ?_ ?_;exact (by refine QpB c_Lword (hr.mono (by decide)) rfl ?_;exact (by refine Qi7 ?_ ?_ (fun e z=>by simp [eOp,eUn,eC,eV]) Zb;exact Qx 0;exact (by refine Qi7 ?_ ?_ (fun e z=>by simp [eOp,eUn,eC,eV]) Zb;exact Qx 1;exact (by refine QpD ?_ ?_ QiM;exact (by refine QsL Qe ?_ ?_;exact (QsK Qe (QV Qw rfl T.b_len PySem.boot_len (dr (Qb (dv 6) dq))) (QsJ 5 (by decide)) (fun e z=>by simp [eOp,eUn,eC,eV]));exact (dr (QV Qw rfl T.b_len PySem.boot_len (dr (Qb (dv 6) dq)))));exact (Dk Qj Dz)))));exact (ZL rfl (QL (O1:=[4,5]) (Ql 7 nd) (QL (O1:=[4,5]) (Ql 1 nd) Zn)) rfl));exact (So (JY 4 (by decide) (Qx 7))));exact Sn))));exact (Ss (O1:=[4,5]) (Qt (Qh YN (dr (Qb (dv 1) dq)) dq (Qg _)) (So (Qi 1 nd (Qu (Du (Qb (dv 1) dq) (Db (Qa Qe (dr (Qb (dv 1) dq)) dq) (Dk Qj (Du (Qb (dv 1) dq) Dz)))) lz4))) Sn) (Zc 4 (So (Qm (Qu (dn 4 (dn 1 Dz)) lz2)))))))))
theorem Qke:FnScope Qf9 V7 (Qc Qdr):=by constructor<;>first | rfl | decide +kernel
theorem Qkr (h:Df K mg "_law_set_one" Qdr V7) (T:Txt K mg) (c_Lbare:QgZ P w K mg base) (c_Lbegun:Qfw P w K mg base) (c_Lblock:Qfv P w K mg base) (c_Lset_para:QeX P w K mg base):Qgg P w K mg base :=
 okD Qf9 V7 QdH 2 h Qke (fun nd=>fun hr=>(by refine Ss (O1:=[]) ?_ ?_;exact (Qt (Qh (Qs hr.units) (dr (Qb (dv 2) dq)) (dr Qf) (Qg _)) (So (Qm (dc c_Lset_para hr (dn 0 (dn 1 (Du (Qb (dv 2) dq) (dn 3 Dz))))))) Sn);exact (by refine Ss (O1:=[]) ?_ ?_;exact (by refine Qt ?_ ?_ ?_;exact (Qh (Qs hr.units) (dr (Qb (dv 2) dq)) (dr Qf) (Qg _));exact (Ss (O1:=[]) (Qi 4 nd (Qb (dr (dc c_Lbare hr (dn 1 Dz))) dq)) (So (Qm (Qu (VR (Jc (Dt (Qu (dn 4 (Dk Qj (Dk Qj Dz))) lz3) Dz) lz1) (Dt (Qu (Db (Qa Qe (dv 4) (dr (Qb (dv 2) dq))) (Dk Qj (Dk Qj (Dk Qj Dz)))) lz4) Dz)) lz2))));exact Sn);exact (by refine Ss (O1:=[]) ?_ ?_;exact (by refine Qt ?_ ?_ ?_;exact (Qh (Qs hr.units) (dr (Qb (dv 2) dq)) (dr Qf) (Qg _));exact (So (Vc (dc c_Lblock hr (dn 0 (Dl (dc c_Lbegun hr (dn 0 (dn 1 Dz))) (Dk Qj (Dk Qj Dz))))) (ZL rfl (QL (O1:=[]) (Ql 5 nd) (QL (O1:=[]) (Ql 1 nd) Zn)) rfl)));exact (by refine So ?_;exact (Qt (Qh (Qs hr.units) (dr (Qb (dv 2) dq)) (dr Qf) (Qg _)) (So (Vc (dc c_Lblock hr (dn 0 (dn 1 (Dk Qj (Du (Qb (dv 2) dq) Dz))))) (ZL rfl (QL (O1:=[]) (Ql 5 nd) (QL (O1:=[]) (Ql 1 nd) Zn)) rfl))) (So (Vc (dc c_Lblock hr (dn 0 (dn 1 (Dl (QV Qw rfl T.b_len PySem.boot_len (dr (Qb (dv 2) dq))) (Dk Qj Dz))))) (ZL rfl (QL (O1:=[]) (Ql 5 nd) (QL (O1:=[]) (Ql 1 nd) Zn)) rfl))))));exact (So (Qm (Qu (VR (Jc (dn 5 Dz) lz1) (dn 1 Dz)) lz2)))))))
theorem QjA:FnScope QeS Vz (Qc QaM):=by constructor<;>first | rfl | decide +kernel
theorem QjL (h:Df K mg "_law_set_book" QaM Vz) (T:Txt K mg) (c_Lbegun:Qfw P w K mg base) (c_Lblock:Qfv P w K mg base) (c_Lset_one:Qgg P w K mg base):QeY P w K mg base :=
 okD QeS Vz Qcy 3 h QjA (fun nd=>fun hr=>(by refine Ss (O1:=[]) ?_ ?_;exact (Qi 3 nd (Qu (Dk Qj (Dk Qj (Dk Qj (Dk Qj Dz)))) lz4));exact (by refine Ss (O1:=[4]) ?_ ?_;exact (Zd 4 nd (ZQ Dz lz0));exact (by refine Ss (O1:=[4]) ?_ ?_;exact (by refine Qt ?_ ?_ ?_;exact (Jk (dr (Qb (dv 1) dq)));exact (by refine So ?_;exact (by refine JB rfl PassesOwn.never ?_ ?_ ?_;exact (Jo (Qx 0));exact Ql 5 nd;exact (by refine So ?_;exact (Qt (PW.pt (Y3 (Qh (Qs hr.units) (dr (Qb (dv 5) dq)) (dr Qf) (Qg _)) (JG (Qh (Qs hr.units) (dr (Qb (dv 5) dq)) (dr Qf) (Qg _))))) (Ss (O1:=[4]) (Vc (dc c_Lblock hr (dn 1 (dn 3 (Dk Qj (Dk Qj Dz))))) (ZL rfl (QL (O1:=[4]) (Ql 6 nd) (QL (O1:=[4]) (Ql 3 nd) Zn)) rfl)) (So (JY 4 (by decide) (Qx 6)))) Sn))));exact Sn);exact (by refine Ss (O1:=[4]) ?_ ?_;exact (Qt (Qh (Yq hr.units) (Yr 4) (dr (Jc Dz lz0)) (Qg _)) (So (Qi 3 nd (dc c_Lbegun hr (dn 1 (dn 3 Dz))))) Sn);exact (by refine Zc 4 ?_;exact (by refine Ss (O1:=[7]) ?_ ?_;exact (Zd 7 nd (ZQ (dn 4 Dz) lz1));exact (by refine Ss (O1:=[7]) ?_ ?_;exact (Qi 8 nd Qj);exact (by refine Ss (O1:=[7]) ?_ ?_;exact (by refine JB rfl PassesOwn.never ?_ ?_ ?_;exact (Jo (Qx 0));exact Ql 5 nd;exact (by refine Ss (O1:=[7]) ?_ ?_;exact (Qi 9 nd Qj);exact (by refine Ss (O1:=[7]) ?_ ?_;exact (by refine Qt ?_ ?_ ?_;exact (Qh (Qs hr.units) (dr (Qb (dv 5) dq)) (dr Qf) (Qg _));exact (by refine So ?_;exact (by refine Qi 9 nd ?_;exact (by refine QV Qw rfl T.b_len PySem.boot_len ?_;exact (by refine dr ?_;exact (by refine Zh ?_;exact (by refine Zp rfl rfl (JA (show Za (Qc QaM) ["_law_book","_law_style","_law_rooms_here","_law_state","_law_places_here","_law_block_here","_law_place","_law_found","_law_first","_law_many"] _ 1 ["_law_item"] []=true by decide +kernel)) (by decide) ?_ ?_ ?_ ?_;exact (dih (Jo (Qb (dv 5) dq)));exact fun cl C ex s2 H2 pn=>Ql 0 (show List.Nodup (["_law_item"]:List Str) by decide +kernel);exact fun cl C ex s2 H2 pn=>(VQ (Qh (Qs hr.units) (dr (Qb (dv 0) dq)) (dr Qf) (Qg _)));exact fun cl C ex s2 H2 pn=>Qx 0))))));exact Sn);exact (Ss (O1:=[7]) (Vc (dc c_Lset_one hr (dn 1 (dn 3 (dn 5 (Du (YT (dv 2) (Ys (dv 8)) (Ys (dr (Qa Qe (dv 8) (dv 9))))) Dz))))) (ZL rfl (QL (O1:=[7]) (Ql 4 nd) (QL (O1:=[7]) (Ql 3 nd) Zn)) rfl)) (Ss (O1:=[7]) (JY 7 (by decide) (Qx 4)) (So (Qi 8 nd (Qa Qe (dv 8) (dv 9)))))))));exact (Zc 7 (So (Qm (Qx 7)))))))))))))
theorem Ql7:FnScope QhK QaV (Qc Qed):=by constructor<;>first | rfl | decide +kernel
theorem Qmg (h:Df K mg "_law_places" Qed QaV) (T:Txt K mg) (c_Lwhole:Qjl P w K mg base):QhO P w K mg base :=
 okD QhK QaV Qek 1 h Ql7 (fun nd=>fun hr=>(by refine Ss (O1:=[]) ?_ ?_;exact (Qt (PW.pt (Y3 (Vv (Jk (dr (QcT (QiY _) rfl T.b_isinstance PyProof.Rows.boot_isinstance rfl T.b_list PyProof.Rows.boot_list (dv 0))))) (JG (Qh (Yq hr.units) (dr (QV Qw rfl T.b_len PySem.boot_len (dv 0))) (dr (QV Qw rfl T.b_len PySem.boot_len (dv 1))) (Qg _))))) (So (Qm Qb3)) Sn);exact (by refine Ss (O1:=[]) ?_ ?_;exact (by refine JB rfl PassesOwn.never ?_ ?_ ?_;exact (V4 rfl T.b_range (dr (QV Qw rfl T.b_len PySem.boot_len (dv 1))));exact Ql 2 nd;exact (by refine Ss (O1:=[]) ?_ ?_;exact (by refine Qt ?_ ?_ ?_;exact (by refine PW.pt ?_;exact (Y3 (Vv (Jk (dr (QcT (QiY _) rfl T.b_isinstance PyProof.Rows.boot_isinstance rfl T.b_list PyProof.Rows.boot_list (dr (Qb (dv 0) (dv 2))))))) (JG (Qh (Yq hr.units) (dr (QV Qw rfl T.b_len PySem.boot_len (dr (Qb (dv 0) (dv 2))))) (dr (QV Qw rfl T.b_len PySem.boot_len (dr (Qb (dv 1) (dv 2))))) (Qg _)))));exact (So (Qm Qb3));exact Sn);exact (by refine So ?_;exact (by refine JB rfl PassesOwn.never ?_ ?_ ?_;exact (V4 rfl T.b_range (dr (QV Qw rfl T.b_len PySem.boot_len (dr (Qb (dv 1) (dv 2))))));exact Ql 3 nd;exact (by refine Ss (O1:=[]) ?_ ?_;exact (Qi 4 nd (Qb (dr (Qb (dv 0) (dv 2))) (dv 3)));exact (by refine Ss (O1:=[]) ?_ ?_;exact (by refine Qt ?_ ?_ ?_;exact (by refine PW.pt ?_;exact (Y3 (Vv (Jk (dr (QcT (QnW _) rfl T.b_isinstance PyProof.Rows.boot_isinstance rfl T.b_tuple PyProof.Rows.boot_tuple (dv 4))))) (Y3 (Qh (Yq hr.units) (dr (QV Qw rfl T.b_len PySem.boot_len (dv 4))) dq (Qg _)) (JG (Qh (Yq hr.units) (dv 4) (dr (Qb (dr (Qb (dv 1) (dv 2))) (dv 3))) (Qg _))))));exact (So (Qm Qb3));exact Sn);exact (by refine So ?_;exact (by refine Qt ?_ ?_ ?_;exact (by refine PW.pt ?_;exact (Y3 (Vv (Jk (dr (dc c_Lwhole hr (Du (Qb (dv 4) dq) Dz))))) (Y3 (Vv (Jk (dr (dc c_Lwhole hr (Du (Qb (dv 4) dq) Dz))))) (JG (Vv (Jk (dr (dc c_Lwhole hr (Du (Qb (dv 4) dq) Dz)))))))));exact (So (Qm Qb3));exact Sn))))))));exact (So (Qm Qb3)))))
theorem sc_law:FnScope Qqb Qp1 (Qc Qh3):=by constructor<;>first | rfl | decide +kernel
theorem Qsf {f:Addr} {fd:FuncData} (h:Fun K "law" "law" Qh3 f fd) (T:Txt K mg) (c_Lcopy:Qlw P w K mg base) (c_Ldrawn:Qjq P w K mg base) (c_Lplaces:QhO P w K mg base) (c_Lrooms:Qjn P w K mg base) (c_Lset_book:QeY P w K mg base) (c_laid:Qng P w K mg base):FnOk P w K mg base CX0 7 f fd ["_law_script"] (spD K Qew) :=
 have nd:=sc_law.nd
 okF (b:=QlW) (k:=6) (N:=Qqb) (ps:=Qp1) (O':=[]) (OL:=[]) h sc_law fun cdv A outer s H E hr=>(by refine Ss (O1:=[]) ?_ ?_;exact (Vc (dc c_Ldrawn hr (dn 0 Dz)) (ZL rfl (QL (O1:=[]) (Ql 1 nd) (QL (O1:=[]) (Ql 2 nd) (QL (O1:=[]) (Ql 3 nd) Zn))) rfl));exact (by refine Ss (O1:=[]) ?_ ?_;exact (Qi 4 nd (dc c_Lrooms hr (dn 0 (dn 1 (dn 3 (Dk Qj Dz))))));exact (by refine Ss (O1:=[]) ?_ ?_;exact (Qi 5 nd (dc c_Lcopy hr (dn 1 Dz)));exact (by refine Ss (O1:=[]) ?_ ?_;exact (Qi 6 nd (Zh (QeG rfl T.b_list PyProof.Rows.boot_list (dv 4))));exact (by refine Ss (O1:=[]) ?_ ?_;exact (Qi 7 nd (dc c_Lset_book hr (dn 1 (dn 2 (dn 4 Dz)))));exact (by refine Qn8 8 9 nd c_laid ?_ ?_ ?_ ?_ ?_ ?_ ?_ ?_ ?_;exact hr.mono (by decide);exact rfl;exact (dn 5 (dn 2 (dn 6 Dz)));exact (PW.pt (Y3 (Vv (Jk (dr (dc c_Lplaces hr (dn 8 (dn 7 Dz)))))) (Y3 (Qh (Yq hr.units) (dv 5) (dv 1) (Qg _)) (JG (Qh (Yq hr.units) (dv 6) (dv 4) (Qg _))))));exact (So (Qm Qb3));exact (So (Qm (dc c_Lplaces hr (Dl (dc c_laid hr (dn 5 (dn 2 (dn 6 Dz)))) (dn 7 Dz)))));exact Qqp;exact rfl;exact PassesOwn.never))))))
end
end
open PySem PySem.Spec PyProof.Rows L2 Wd
theorem walk {l:PySem.W.OpenLaw} {q:Program} {loose:List Str} {XP:(Str->Option Value)->Heap->Prop} {YP:World->Heap->Prop} {d:DefRec} {K:Params->PySem.W.Frag} (hn:l.most=some 63) (hdf:d.params.defaults=[])
  (hY:∀ (w:World) (h:Heap),YP w h->(K w.params).In h)
  (F:∀ (w:World) (mg:Str->Option Value) (fa:Addr) (h:Heap),(K w.params).In h->h.Ns mainGlobals mg->mg d.name=some (.ref fa) ->
   ∃ fd:FuncData,(∀ (s:Shared) (u:Value),BindsTo s fd ⟨[u],[]⟩ [("_law_script",u)])/\∀ base:Heap,(K w.params).In base->base.Ns mainGlobals mg->FnOk l.prog w (K w.params) mg base CX0 7 fa fd ["_law_script"] (spD (K w.params) Qew)) :
  PySem.W.WalkO q loose XP YP l.row.toRowW d [] (fun f vs=>PySem.call f vs) :=
 L2.walk_of (n:=63) (k:=7) (x:="_law_script") (CX:=fun _=>CX0) (sp:=fun w=>spD (K w.params) Qew) hn (by decide) hdf ⟨rfl,by decide,by decide⟩ hY F (fun w H a ns _ _ hS=>Qsm (K w.params) Qew Qpo H a ns hS) fun _ _ _ _ _ z=>z
end My

namespace Hd
open PySem PySem.W PySem.Calls PyProof.Rows My L2
theorem QiL {tb:String->Option Builtin} {p:Program} {w:World} {n₀:Nat} {ann:Option Value}:∀ {n:Nat} {s s':Shared} {t:Thread} {f:Flow} {c:Code} {q:Pos},
  segRun tb p w n₀ ann 0 n s t=some (f,s',c,q)->topRun tb p w n₀ ann n s t=some s'
 | 0,_,_,_,_,_,_,h=>by cases h
 | n + 1,s,s',t,f,c,q,h=>by
  unfold segRun at h
  unfold topRun
  have hz:(endAt 0 t).isSome=through t:=by
   obtain ⟨cur,code,pos,st⟩:=t
   cases st with
   | nil =>
    cases cur with
    | pure x=>cases x <;> rfl
    | _=>rfl
   | cons a b=>rfl
  cases he:endAt 0 t with
  | some g =>
   rw [he] at h hz
   rw [<- hz]
   cases h;rfl
  | none =>
   rw [he] at h hz
   rw [<- hz]
   cases hk:stepOk n₀ ann t with
   | false=>rw [hk] at h;cases h
   | true =>
    rw [hk] at h
    cases hs:step (denote tb) p w s t with
    | halt o s₂=>rw [hs] at h;cases h
    | go s₂ t₂=>rw [hs] at h;exact QiL h
noncomputable def T0 (P:Params):BT:=(boot_heap P).objs.toList.foldl (fun x o=>(x.1.ins x.2 o,x.2 + 1)) (BT.nil,0) |>.1
noncomputable def st0 (w:World) (os:OsState):SharedT:=⟨T0 w.params,11,{},Array.mk [],boot_drawn,boot_toks,os⟩
theorem QkO (w:World) (os:OsState):(st0 w os).abs=⟨boot_heap w.params,Array.mk [],boot_drawn,boot_toks,os⟩:=by kernel_rfl
noncomputable def runs (p:Program) (M:Nat) (w:World) (os:OsState):Option Shared:=(segRunT treeTable p w 11 (some (.ref 6)) 0 M (st0 w os) (topStub p)).map fun r=>r.2.1.abs
noncomputable def chk (p:Program) (w:World) (s:Shared):Bool:=staticsOk (importedModules p.main.body) (boot_heap w.params) s.heap && namesBound p s.heap && gensDone s && laidKept (boot_heap w.params) s.heap
theorem left {p q:Program} {loose:List Str} {Xt:Shared->Bool} {α:Type} {Yf:Shared->α} {Ya:World->α} {N:Nat} {g0:Bool} {M:Nat}
  (e:opening p=plainProg p.main.scope.names) (f:∀ s,fenceModules? p s=some s) (hN:Nat.ble 600 N=true) (le:Nat.ble M N=true)
  (size:∀ w:World,((boot_heap w.params).isNs mainGlobals,(boot_heap w.params).objs.size,(boot_heap w.params).nsMap mainGlobals "__annotations__")=(true,11,some (.ref 6)))
  (ra:∀ (w:World) (os:OsState),(runs p M w os).map (chk p w)=some true)
  (rb:∀ (w:World) (os:OsState),(runs p M w os).map (openSeen q loose (importedModules p.main.body) Xt g0)=some (openGood q loose))
  (rc:∀ (w:World) (os:OsState),(runs p M w os).map Yf=some (Ya w)) :
  LeftO p q loose Xt Yf Ya N g0:=fun w=>by
 obtain ⟨u,e1,e2⟩:=Option.map_eq_some_iff.mp (boot_open e hN f w)
 obtain ⟨v,r1,l1⟩:=Option.map_eq_some_iff.mp (ra w u.os)
 obtain ⟨⟨_,v',_⟩,r2,r3⟩:=Option.map_eq_some_iff.mp r1
 have l2:=rb w u.os
 have l3:=rc w u.os
 rw [r1] at l2 l3
 have hu:u=(st0 w u.os).abs:=by
  rw [QkO]
  cases u
  cases e2
  rfl
 have go:=topRun_mono (N - M) _ _ _ _ (QiL (segRun_of r2))
 rw [Nat.add_sub_of_le (Nat.le_of_ble_eq_true le)] at go
 have t:topFrom treeTable p w N u=some v:=by
  have z:=size w
  simp only [Prod.mk.injEq] at z
  rw [hu]
  unfold topFrom
  rw [QkO] at go ⊢
  simp only [z.1,z.2.1,z.2.2,go]
  simp only [<- r3] at l1 ⊢
  unfold chk at l1
  simp [l1]
 simp only [openEnds,e1,Option.bind_some,t,Option.map_some]
 rw [Option.some.inj l2,Option.some.inj l3]
abbrev p:=PySem.Challenge.pw_leastbook_k14_laid_by_the_rules
noncomputable section
def QoC (s:Stmt):Str:=match s with
 | .FunctionDef n _ _ _ _ _ _ _ _ _=>n
 | _=>""
def Qs5 (s:Stmt):Pos:=match s with
 | .FunctionDef _ _ _ _ _ _ _ _ _ p=>p
 | _=>⟨0,0,0,0⟩
abbrev m0:Value:=.str "leastbook.places" 348
abbrev m1:Value:=.str "leastbook.books" 468
abbrev m2:Value:=.str "leastbook.setting" 632
abbrev m3:Value:=.str "law_leastbook_k14_laid_by_the_rules" 693
def tb:List (Nat×Nat×Nat×Nat×Nat×Value):=
 [(17,141,366,370,1),(18,148,373,377,1),(19,155,380,386,1),(20,162,389,395,1),(21,169,398,406,1),(22,176,409,421,1),(23,183,424,428,1),(24,190,431,440,1),(25,197,443,447,1),(26,204,450,456,1),(27,211,459,465,1)].map (fun x=>(x.1,x.2.1,x.2.2.1,x.2.2.2.1,x.2.2.2.2,m0))
 ++ [(29,218,470,474,1),(30,225,477,481,1),(31,232,484,488,1),(32,239,491,495,1),(33,246,498,502,1),(34,251,505,508,0),(35,256,511,514,0),(36,261,517,520,0),(37,268,523,528,1),(38,273,531,534,0),(39,280,537,544,1),(40,287,547,553,1),(41,294,556,561,1),(42,301,564,569,1),(43,308,572,578,1),(44,315,581,589,1),(45,322,592,600,1),(46,327,603,606,0),(47,334,609,617,1),(48,341,620,629,1)].map (fun x=>(x.1,x.2.1,x.2.2.1,x.2.2.2.1,x.2.2.2.2,m1))
 ++ [(50,348,634,643,1),(51,355,646,658,1),(52,362,661,667,1),(53,369,670,681,1),(54,376,684,690,1)].map (fun x=>(x.1,x.2.1,x.2.2.1,x.2.2.2.1,x.2.2.2.2,m2))
 ++ [(56,383,695,700,1),(57,390,703,707,1),(58,397,710,716,1),(59,404,719,724,1),(60,411,727,734,1),(61,418,737,748,1),(62,423,751,754,0),(63,430,757,767,1),(64,437,770,777,1),(65,442,780,783,0),(66,447,786,789,0),(67,452,792,795,0),(68,457,798,801,0),(69,464,804,816,1),(70,471,819,827,1),(71,478,830,845,1),(72,485,848,859,1),(73,492,862,866,1),(74,499,869,875,1),(75,506,878,889,1),(76,513,892,901,1),(77,518,904,907,0),(78,525,910,918,1),(79,532,921,934,1)].map (fun x=>(x.1,x.2.1,x.2.2.1,x.2.2.2.1,x.2.2.2.2,m3))
def en (P:Params) (x:Str) (t:Nat) (v:Value):DictEntry:=⟨PyData.keyHash P x,.str x t,v⟩
def ns (P:Params):List DictEntry:=
 ([en P "__name__" 165 (.str "law_leastbook_k14_laid_by_the_rules" 693),en P "__doc__" 166 (.none),en P "__package__" 167 (.none),en P "__loader__" 168 (.builtin "__main__.__loader__#opaque"),en P "__spec__" 169 (.none),en P "__annotations__" 170 (.ref 6),en P "__builtins__" 171 (.ref 4),en P "__file__" 173 (.str "/claim/cut.py" 172),en P "__cached__" 174 (.none),en P "BookError" 206 (.ref 24),en P "NoStyle" 222 (.ref 37),en P "TooWide" 247 (.ref 56),en P "TooHigh" 272 (.ref 75),en P "Twice" 297 (.ref 94),en P "Loose" 322 (.ref 113),en P "NoLabel" 347 (.ref 132),en P "WIDTH" 351 (.int 0 350),en P "HEIGHT" 353 (.int 1 352),en P "ODD" 355 (.int 2 354),en P "LISTED" 357 (.int 3 356),en P "PAGE" 359 (.int 0 358),en P "LINE" 361 (.int 1 360),en P "USED" 363 (.int 2 362),en P "FOOT" 365 (.int 3 364)])
 ++ (((tb.drop 0).take 60).map fun r=>en P (QoC (top r.1)) (r.2.2.2.1+2) (.ref r.2.1))
def ob (r:Nat×Nat×Nat×Nat×Nat×Value):List (Nat×Obj):=let (i,f,t,u,b,m):=r
 let s:=top i
 let x:=QoC s
 let l:Value:=.int (Qs5 s).line 0
 let c:Str:="/claim/cut.py"
 let n:Value:=.int 0 0
 [(f-1,⟨.type "code",none,.fields #[.str x t,.str x (t+1),.str c (t+2),l,.int (ZZ s).args.length 0,n,n,.int 3 0,.ref (if b=1 then f-6 else f-4),.bool true,.int 181 0,.ref (if b=1 then f-5 else f-3),.none,if b=1 then .ref (f-4) else .none,if b=1 then .ref (f-3) else .none,.ref (f-2),.int u 0,l,.str c (u+1)],#[]⟩),
  (f,⟨.type "function",none,.func (fnOf x x (ZZ s) (Zo s) (Qc s) .none .none .none m none (.ref (f-1)) .none),#[]⟩)]
def K (P:Params):List (Nat×Obj):=(3,⟨.type "dict",none,.dict (ns P).toArray 84,#[]⟩)::tb.flatMap ob
def as:List Nat:=3::tb.flatMap fun r=>[r.2.1-1,r.2.1]
theorem Qty (P:Params):as=(K P).map (·.1):=by kernel_rfl
abbrev rw_:=PySem.Challenge.rw_leastbook_k14_laid_by_the_rules.row
def vw:Program:=view p [79]
def ls:List Str:=(["BookError","NoStyle","TooWide","TooHigh","Twice","Loose","NoLabel","WIDTH","HEIGHT","ODD","LISTED","PAGE","LINE","USED","FOOT"]:List Str)++tb.dropLast.map fun r=>QoC (top r.1)
def Xt (s:Shared):Bool:=xlAt vw [] s&&recOk (RowW.records rw_.toRowW) s
abbrev rn:=Hd.runs p 7234
def ha (w:World) (os:OsState):=(rn w os).map (Hd.chk p w)
def hb (w:World) (os:OsState):=(rn w os).map (openSeen vw ls (importedModules p.main.body) Xt true)
def hc (w:World) (os:OsState):=(rn w os).map fun s=>as.map s.heap.get?
def wb:=some (openGood vw ls)
def wc (w:World):=some ((K w.params).map fun p=>some p.2)
theorem ha_r:ha=ha:=rfl
theorem hb_r:hb=hb:=rfl
theorem hc_r:hc=hc:=rfl
theorem wb_r:wb=wb:=rfl
theorem wc_r:wc=wc:=rfl
end
section
variable {P:Params} {h:Heap} {mg:Str->Option Value} {x:Str} {st:Stmt} {ps:List Str} {y:Str} {fa:Addr}
abbrev fx (P:Params) (x:Str) (f:Nat):=(nsIn (K P) mainGlobals x,List.lookup f (K P),codeIn (K P) (.ref (f-1)) x,keepIn (K P) (.ref f))
abbrev fw (x:Str) (st:Stmt) (f:Nat) (m:Value):Option (Option Value)×Option Obj×Bool×Bool:=(some (some (.ref f)),some ⟨.type "function",none,.func (fnOf x x (ZZ st) (Zo st) (Qc st) .none .none .none m none (.ref (f-1)) .none),#[]⟩,true,true)
theorem dk (f:Nat) (m:Value) (X:Frag.In (K P) h) (G:h.Ns mainGlobals mg) (hb:∀ (kV doc pm:Value) (an:Option Addr) (cdv ct:Value) (us:List Value),us.length=ps.length->bindArgs (fnOf x x (ZZ st) (Zo st) (Qc st) .none kV doc pm an cdv ct) ⟨us,[]⟩=pure (ps.zip us):=by intro _ _ _ _ _ _ us hl;rcases us with _|⟨_,_|⟨_,_|⟨_,_|⟨_,_|⟨_,_|⟨_,_⟩⟩⟩⟩⟩⟩<;>first | (exfalso;simp at hl;done) | rfl)
  (e:fx P x f=fw x st f m:=by kernel_rfl):Wd.Df (K P) mg x st ps:=by
 obtain ⟨a,l,c,k⟩:_/\_/\_/\_:=by simpa only [Prod.mk.injEq] using e
 exact Wd.df_mk X G hb a l c k
theorem gk {i:Int} (t:Nat) (X:Frag.In (K P) h) (G:h.Ns mainGlobals mg) (a:nsIn (K P) mainGlobals x=some (some (.int i t)):=by kernel_rfl):∃ t,mg x=some (.int i t):=Wd.gint_mk X G a ⟨_,rfl⟩
variable (X:Frag.In (K P) h) (G:h.Ns mainGlobals mg)
include X G
theorem Qob:Wd.Df (K P) mg "figures" Qeb Vg:=dk 141 m0 X G
theorem QsR:Wd.Df (K P) mg "bare" Qim Qbu:=dk 148 m0 X G
theorem QjT:Wd.Df (K P) mg "has_height" QbU ZS:=dk 155 m0 X G
theorem QkI:Wd.Df (K P) mg "has_width" Qcn Yi:=dk 162 m0 X G
theorem Qn9:Wd.Df (K P) mg "word_at" Qea Vf:=dk 169 m0 X G
theorem Qmt:Wd.Df (K P) mg "put_word" Qdl V6:=dk 176 m0 X G
theorem Qmy:Wd.Df (K P) mg "end_line" Qdq YJ:=dk 183 m0 X G
theorem QkF:Wd.Df (K P) mg "put_block" Qcl Vx:=dk 190 m0 X G
theorem Qmu:Wd.Df (K P) mg "new_page" Qdm YF:=dk 197 m0 X G
theorem Qh0:Wd.Df (K P) mg "new_chapter" Qa5 YQ:=dk 204 m0 X G
theorem QjS:Wd.Df (K P) mg "put_plates" QbT Vi:=dk 211 m0 X G
theorem Qmx:Wd.Df (K P) mg "is_style" Qdp YI:=dk 218 m1 X G
theorem QkH:Wd.Df (K P) mg "is_titled" Qcm Yh:=dk 225 m1 X G
theorem QpE:Wd.Df (K P) mg "is_set" Qe8 VL:=dk 232 m1 X G
theorem Qmv:Wd.Df (K P) mg "label_of" Qdn YG:=dk 239 m1 X G
theorem Qmw:Wd.Df (K P) mg "items_of" Qdo YH:=dk 246 m1 X G
theorem QsO:Wd.Df (K P) mg "refs" QfI QdZ:=dk 251 m1 X G
theorem QkG:Wd.Df (K P) mg "pages_for" QaL Yg:=dk 256 m1 X G
theorem Qgv:Wd.Df (K P) mg "pages_at_most" Y4 Zk:=dk 261 m1 X G
theorem Qg6:Wd.Df (K P) mg "room_at_most" Qau Zw:=dk 268 m1 X G
theorem QjU:Wd.Df (K P) mg "any_longer" Qaf ZT:=dk 273 m1 X G
theorem Qgy:Wd.Df (K P) mg "is_wide_block" Qak Z5:=dk 280 m1 X G
theorem Qg9:Wd.Df (K P) mg "is_wide_item" Qax Zy:=dk 287 m1 X G
theorem Qgz:Wd.Df (K P) mg "is_high_block" Qal Zm:=dk 294 m1 X G
theorem Qha:Wd.Df (K P) mg "is_high_item" Qay Zz:=dk 301 m1 X G
theorem QkJ:Wd.Df (K P) mg "add_label" Qco Yj:=dk 308 m1 X G
theorem Qgx:Wd.Df (K P) mg "look_at_block" Qaj Zl:=dk 315 m1 X G
theorem Qg8:Wd.Df (K P) mg "look_at_item" Qaw Zx:=dk 322 m1 X G
theorem Qgw:Wd.Df (K P) mg "look_at_items" Y5 Z4:=dk 327 m1 X G
theorem Qg7:Wd.Df (K P) mg "look_at_refs" Qav Yv:=dk 334 m1 X G
theorem QsP:Wd.Df (K P) mg "look" Qik Qd0:=dk 341 m1 X G
theorem Qg5:Wd.Df (K P) mg "set_contents" Qat Yu:=dk 348 m2 X G
theorem QkD:Wd.Df (K P) mg "set_items" Qcj Vw:=dk 355 m2 X G
theorem QkE:Wd.Df (K P) mg "set_block" Qck Ye:=dk 362 m2 X G
theorem Qms:Wd.Df (K P) mg "set_book" Qdk V5:=dk 369 m2 X G
theorem QsQ:Wd.Df (K P) mg "laid" Qil Qbt:=dk 376 m2 X G
theorem QmC:Wd.Df (K P) mg "_law_cell_at" Qdu YK:=dk 383 m3 X G
theorem QpF:Wd.Df (K P) mg "_law_whole" Qe9 VM:=dk 390 m3 X G
theorem QsS:Wd.Df (K P) mg "_law_mix" Qin Qd1:=dk 397 m3 X G
theorem QpJ:Wd.Df (K P) mg "_law_label" Qfc QbG:=dk 404 m3 X G
theorem Qoc:Wd.Df (K P) mg "_law_plates" Qec QaU:=dk 411 m3 X G
theorem QpG:Wd.Df (K P) mg "_law_signs" Qfa QbD:=dk 418 m3 X G
theorem Qrl:Wd.Df (K P) mg "_law_atom" QcG QcM:=dk 423 m3 X G
theorem QmA:Wd.Df (K P) mg "_law_pointed" Qds V8:=dk 430 m3 X G
theorem QmB:Wd.Df (K P) mg "_law_grouped" Qdt V9:=dk 437 m3 X G
theorem Qri:Wd.Df (K P) mg "_law_edge" QeA QcK:=dk 442 m3 X G
theorem QpI:Wd.Df (K P) mg "_law_needs" Yz QbF:=dk 447 m3 X G
theorem Qrh:Wd.Df (K P) mg "_law_most" Qez QcJ:=dk 452 m3 X G
theorem QpK:Wd.Df (K P) mg "_law_drawn" QbA QbH:=dk 457 m3 X G
theorem QpH:Wd.Df (K P) mg "_law_rooms" Qfb QbE:=dk 464 m3 X G
theorem Qrj:Wd.Df (K P) mg "_law_copy" QgG QcL:=dk 471 m3 X G
theorem Qrg:Wd.Df (K P) mg "_law_word" QgF QcI:=dk 478 m3 X G
theorem QpL:Wd.Df (K P) mg "_law_block" Qfd QbI:=dk 485 m3 X G
theorem Qrk:Wd.Df (K P) mg "_law_bare" QgH Qaq:=dk 492 m3 X G
theorem QpM:Wd.Df (K P) mg "_law_begun" Qfe QbJ:=dk 499 m3 X G
theorem QkK:Wd.Df (K P) mg "_law_set_para" Qcp Vy:=dk 506 m3 X G
theorem Qmz:Wd.Df (K P) mg "_law_set_one" Qdr V7:=dk 513 m3 X G
theorem QkL:Wd.Df (K P) mg "_law_set_book" QaM Vz:=dk 518 m3 X G
theorem Qod:Wd.Df (K P) mg "_law_places" Qed QaV:=dk 525 m3 X G
theorem Qtu (hm:mg "law"=some (.ref fa)):∃ fd,(∀ (s:Shared) (u:Value),BindsTo s fd ⟨[u],[]⟩ [("_law_script",u)])/\L2.Fun (K P) "law" "law" Qh3 fa fd:=by
 have e:fx P "law" 532=fw "law" Qh3 532 m3:=by kernel_rfl
 obtain ⟨a,l,c,k⟩:_/\_/\_/\_:=by simpa only [Prod.mk.injEq] using e
 exact Wd.law_mk X G hm (fun _ _ _ _ _ _ u=>rfl) a l c k
theorem txt:Txt (K P) mg:=⟨gk 364 X G,gk 352 X G,gk 360 X G,gk 356 X G,gk 354 X G,gk 358 X G,gk 362 X G,gk 350 X G,mg_none_of X G (by kernel_rfl),mg_none_of X G (by kernel_rfl),mg_none_of X G (by kernel_rfl),mg_none_of X G (by kernel_rfl),mg_none_of X G (by kernel_rfl),mg_none_of X G (by kernel_rfl),mg_none_of X G (by kernel_rfl),mg_none_of X G (by kernel_rfl),mg_none_of X G (by kernel_rfl),mg_none_of X G (by kernel_rfl),mg_none_of X G (by kernel_rfl),mg_none_of X G (by kernel_rfl),trivial⟩
end
end Hd
open PySem PySem.W PyProof.Rows
name_quick haQ for Hd.ha by Hd.ha_r
name_quick hbQ for Hd.hb by Hd.hb_r
name_quick hcQ for Hd.hc by Hd.hc_r
name_quick wbQ for Hd.wb by Hd.wb_r
name_quick wcQ for Hd.wc by Hd.wc_r
namespace Hd
theorem oa (w:World) (os:OsState):Fast.haQ w os=some true:=by kernel_rfl
theorem oz (w:World) (os:OsState):Fast.hbQ w os=Fast.wbQ:=by kernel_rfl
theorem oc (w:World) (os:OsState):Fast.hcQ w os=Fast.wcQ w:=by kernel_rfl
theorem pa (w:World) (os:OsState):ha w os=some true:=by rw [Fast.haQ_eq];exact oa w os
theorem pb (w:World) (os:OsState):hb w os=wb:=by rw [Fast.hbQ_eq,Fast.wbQ_eq];exact oz w os
theorem pc (w:World) (os:OsState):hc w os=wc w:=by rw [Fast.hcQ_eq,Fast.wcQ_eq];exact oc w os
theorem hl:LeftO p vw ls Xt (fun s=>as.map s.heap.get?) (fun w=>(K w.params).map fun p=>some p.2) 7234:=
 left (M:=7234) (by kernel_rfl) (fun s=>by kernel_rfl) rfl rfl (fun w=>by kernel_rfl) pa pb pc
end Hd
open Hd My
set_option maxRecDepth 100000 in
set_option maxHeartbeats 0 in
theorem PySem.Challenge.cw_leastbook_k14_laid_by_the_rules_holds : PySem.Challenge.rw_leastbook_k14_laid_by_the_rules.Holds := by
 w_on;o_law
 refine holds_open (q:=vw) (loose:=ls) (Xt:=Hd.Xt) (XP:=XL vw []) (YP:=InK K) hl (InK.of Qty) InK.keeps (fun s e=>xl_of s (Bool.and_eq_true_iff.mp e).1) XL.keeps rfl rfl rfl
  (fun s e=>recFacts_of (Bool.and_eq_true_iff.mp e).2) rfl ‹_› (by decide +kernel) ⟨rfl,rfl,rfl,rfl,rfl,by decide +kernel⟩ ?hw ?hc
 case hw=>w_witness2
 refine My.walk (l:=PySem.Challenge.rw_leastbook_k14_laid_by_the_rules) rfl rfl (fun w h Y=>Y) ?F
 intro w mg fa h X G hmg
 have T:=txt X G
 obtain ⟨fd,hb,F⟩:=Qtu X G hmg
 refine ⟨fd,hb,fun b kb nb=>?_⟩
 have c_figures:=Qme (P:=p) (w:=w) (base:=b) (Qob X G) T
 have c_bare:=QqM (P:=p) (w:=w) (base:=b) (QsR X G) T
 have c_has_height:=QhX (P:=p) (w:=w) (base:=b) (QjT X G) T
 have c_has_width:=QjI (P:=p) (w:=w) (base:=b) (QkI X G) T
 have c_word_at:=Qmd (P:=p) (w:=w) (base:=b) (Qn9 X G) T
 have c_put_word:=Qkl (P:=p) (w:=w) (base:=b) (Qmt X G) T c_has_height c_has_width c_word_at
 have c_end_line:=Qkq (P:=p) (w:=w) (base:=b) (Qmy X G) T
 have c_put_block:=QjF (P:=p) (w:=w) (base:=b) (QkF X G) T c_bare c_end_line c_has_height
 have c_new_page:=Qkm (P:=p) (w:=w) (base:=b) (Qmu X G) T c_bare
 have c_new_chapter:=Qg4 (P:=p) (w:=w) (base:=b) (Qh0 X G) T c_bare c_new_page
 have c_put_plates:=QhW (P:=p) (w:=w) (base:=b) (QjS X G) T c_bare c_new_page
 have c_is_style:=Qkp (P:=p) (w:=w) (base:=b) (Qmx X G) T
 have c_is_titled:=QjH (P:=p) (w:=w) (base:=b) (QkH X G) T
 have c_is_set:=QnD (P:=p) (w:=w) (base:=b) (QpE X G) T
 have c_label_of:=Qkn (P:=p) (w:=w) (base:=b) (Qmv X G) T
 have c_items_of:=Qko (P:=p) (w:=w) (base:=b) (Qmw X G) T
 have c_refs:=QqJ (P:=p) (w:=w) (base:=b) (QsO X G) T c_items_of
 have c_pages_for:=QjG (P:=p) (w:=w) (base:=b) (QkG X G) T c_is_set c_is_titled c_items_of
 have c_pages_at_most:=QfB (P:=p) (w:=w) (base:=b) (Qgv X G) T c_pages_for
 have c_room_at_most:=Qgp (P:=p) (w:=w) (base:=b) (Qg6 X G) T c_figures c_pages_at_most
 have c_any_longer:=QhY (P:=p) (w:=w) (base:=b) (QjU X G) T
 have c_is_wide_block:=QfE (P:=p) (w:=w) (base:=b) (Qgy X G) T c_any_longer c_is_titled
 have c_is_wide_item:=Qgs (P:=p) (w:=w) (base:=b) (Qg9 X G) T c_any_longer
 have c_is_high_block:=QfF (P:=p) (w:=w) (base:=b) (Qgz X G) T
 have c_is_high_item:=Qgt (P:=p) (w:=w) (base:=b) (Qha X G) T
 have c_add_label:=QjJ (P:=p) (w:=w) (base:=b) (QkJ X G) T
 have c_look_at_block:=QfD (P:=p) (w:=w) (base:=b) (Qgx X G) T c_add_label c_is_high_block c_is_wide_block c_label_of
 have c_look_at_item:=Qgr (P:=p) (w:=w) (base:=b) (Qg8 X G) T c_add_label c_is_high_item c_is_wide_item
 have c_look_at_items:=QfC (P:=p) (w:=w) (base:=b) (Qgw X G) T c_is_set c_look_at_item
 have c_look_at_refs:=Qgq (P:=p) (w:=w) (base:=b) (Qg7 X G) T c_refs
 have c_look:=QqK (P:=p) (w:=w) (base:=b) (QsP X G) T c_is_style c_items_of c_look_at_block c_look_at_items c_look_at_refs c_room_at_most
 have c_set_contents:=Qgo (P:=p) (w:=w) (base:=b) (Qg5 X G) T c_bare c_is_titled c_new_chapter c_put_block
 have c_set_items:=QjD (P:=p) (w:=w) (base:=b) (QkD X G) T c_end_line c_is_set c_put_word
 have c_set_block:=QjE (P:=p) (w:=w) (base:=b) (QkE X G) T c_new_chapter c_put_block c_put_plates
 have c_set_book:=Qkk (P:=p) (w:=w) (base:=b) (Qms X G) T c_refs c_set_block c_set_contents c_set_items
 have c_laid:=QqL (P:=p) (w:=w) (base:=b) (QsQ X G) T c_look c_set_book
 have c_Lcell_at:=Qku (P:=p) (w:=w) (base:=b) (QmC X G) T
 have c_Lwhole:=QnE (P:=p) (w:=w) (base:=b) (QpF X G) T
 have c_Lmix:=QqN (P:=p) (w:=w) (base:=b) (QsS X G) T
 have c_Llabel:=QnI (P:=p) (w:=w) (base:=b) (QpJ X G) T
 have c_Lplates:=Qmf (P:=p) (w:=w) (base:=b) (Qoc X G) T
 have c_Lsigns:=QnF (P:=p) (w:=w) (base:=b) (QpG X G) T
 have c_Latom:=Qpb (P:=p) (w:=w) (base:=b) (Qrl X G) T c_Llabel c_Lmix c_Lplates c_Lsigns
 have c_Lpointed:=Qks (P:=p) (w:=w) (base:=b) (QmA X G) T c_Lmix
 have c_Lgrouped:=Qkt (P:=p) (w:=w) (base:=b) (QmB X G) T
 have c_Ledge:=Qo8 (P:=p) (w:=w) (base:=b) (Qri X G) T c_Lcell_at c_Lmix
 have c_Lneeds:=QnH (P:=p) (w:=w) (base:=b) (QpI X G) T
 have c_Lmost:=Qo7 (P:=p) (w:=w) (base:=b) (Qrh X G) T
 have c_Ldrawn:=QnJ (P:=p) (w:=w) (base:=b) (QpK X G) T c_Latom c_Lcell_at c_Ledge c_Lgrouped c_Lmix c_Lmost c_Lneeds c_Lpointed
 have c_Lrooms:=QnG (P:=p) (w:=w) (base:=b) (QpH X G) T c_Lmix
 have c_Lcopy:=Qo9 (P:=p) (w:=w) (base:=b) (Qrj X G) T
 have c_Lword:=Qo6 (P:=p) (w:=w) (base:=b) (Qrg X G) T
 have c_Lblock:=QnK (P:=p) (w:=w) (base:=b) (QpL X G) T
 have c_Lbare:=Qpa (P:=p) (w:=w) (base:=b) (Qrk X G) T
 have c_Lbegun:=QnL (P:=p) (w:=w) (base:=b) (QpM X G) T c_Lbare
 have c_Lset_para:=QjK (P:=p) (w:=w) (base:=b) (QkK X G) T c_Lword
 have c_Lset_one:=Qkr (P:=p) (w:=w) (base:=b) (Qmz X G) T c_Lbare c_Lbegun c_Lblock c_Lset_para
 have c_Lset_book:=QjL (P:=p) (w:=w) (base:=b) (QkL X G) T c_Lbegun c_Lblock c_Lset_one
 have c_Lplaces:=Qmg (P:=p) (w:=w) (base:=b) (Qod X G) T c_Lwhole
 exact Qsf F T c_Lcopy c_Ldrawn c_Lplaces c_Lrooms c_Lset_book c_laid
#print axioms PySem.Challenge.cw_leastbook_k14_laid_by_the_rules_holds
